"""Scripts of rules that turn names into others."""
