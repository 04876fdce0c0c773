"""What is known of fields whose words are sought, and whether there are such words.

A field that is sought is a number. A claim on fields is one of these tuples: ("same", field,
field); ("apart", field, field); ("among", field, words); ("outside", field, words). A clause
is a list of claims, of which one at least holds.
"""

LETTERS = "abcdefghijklmnopqrstuvwxyz"
OPPOSITES = {"same": "apart", "apart": "same", "among": "outside", "outside": "among"}


def opposite(claim):
    """The claim that holds just if this one does not."""
    kind, field, other = claim
    return (OPPOSITES[kind], field, other)


def unused_words(used):
    """The words of one and two letters that are no keys of used."""
    words = list(LETTERS) + [one + other for one in LETTERS for other in LETTERS]
    return [word for word in words if word not in used]


class Facts:
    """Facts on fields; of fields that are the same, one leads, and stands for all."""

    def __init__(self):
        self.leads = {}
        self.choices = {}
        self.barred = {}
        self.rivals = {}
        self.clauses = []

    def fork(self):
        """The same facts, to which more can be added."""
        other = Facts()
        other.leads = dict(self.leads)
        other.choices = dict(self.choices)
        other.barred = dict(self.barred)
        other.rivals = dict(self.rivals)
        other.clauses = list(self.clauses)
        return other

    def lead(self, field):
        """The field that stands for this one."""
        while field in self.leads:
            field = self.leads[field]
        return field

    def judge_among(self, field, words):
        """Whether the leading field is one of the words; None where it is not known."""
        known = self.choices.get(field)
        if known is None:
            barred = self.barred.get(field, ())
            return False if all([word in barred for word in words]) else None
        within = [word in words for word in known]
        if all(within):
            return True
        return None if any(within) else False

    def judge_same(self, one, other):
        """Whether the leading fields are the same; None where it is not known."""
        if one == other:
            return True
        if self.are_rivals(one, other):
            return False
        if one in self.choices:
            one, other = other, one
        if other not in self.choices:
            return None
        words = self.choices[other]
        verdict = self.judge_among(one, words)
        # Among several words they may still be unlike ones.
        return None if verdict is True and len(words) > 1 else verdict

    def are_rivals(self, one, other):
        """Whether the leading fields are known to be apart."""
        return other in [self.lead(rival) for rival in self.rivals.get(one, ())]

    def judge(self, claim):
        """Whether the claim holds; None where it is not known."""
        kind, field, other = claim
        if kind == "same":
            return self.judge_same(self.lead(field), self.lead(other))
        if kind == "among":
            return self.judge_among(self.lead(field), other)
        verdict = self.judge(opposite(claim))
        return None if verdict is None else not verdict

    def settle(self, field):
        """Bar the one word that the leading field can be from what is apart from it."""
        words = self.choices.get(field)
        if words is None or len(words) > 1:
            return True
        return all([self.bar(self.lead(rival), words) for rival in self.rivals.get(field, ())])

    def narrow(self, field, words):
        """Learn that the leading field is one of the words; False where it cannot be."""
        barred = self.barred.get(field, ())
        known = self.choices.get(field, words)
        left = tuple([word for word in known if word in words and word not in barred])
        if len(left) == 0:
            return False
        if left == self.choices.get(field):
            return True
        self.choices[field] = left
        return self.settle(field)

    def bar(self, field, words):
        """Learn that the leading field is none of the words; False where it cannot be."""
        barred = self.barred.get(field, ())
        added = tuple([word for word in words if word not in barred])
        if len(added) == 0:
            return True
        self.barred[field] = barred + added
        return field not in self.choices or self.narrow(field, self.choices[field])

    def unite(self, one, other):
        """Learn that the leading fields are the same; False where they cannot be."""
        if self.are_rivals(one, other):
            return False
        words = self.choices.pop(other, None)
        self.leads[other] = one
        self.rivals[one] = self.rivals.get(one, ()) + self.rivals.get(other, ())
        if not self.bar(one, self.barred.get(other, ())):
            return False
        if words is not None and not self.narrow(one, words):
            return False
        # What was apart from the other one only has not been told of the one's word.
        return self.settle(one)

    def part(self, one, other):
        """Learn that the leading fields are apart; False where they cannot be."""
        self.rivals[one] = self.rivals.get(one, ()) + (other,)
        self.rivals[other] = self.rivals.get(other, ()) + (one,)
        return self.settle(one) and self.settle(other)

    def learn(self, claim):
        """Learn that the claim holds; False where it cannot."""
        kind, field, other = claim
        one = self.lead(field)
        if kind == "among":
            return self.narrow(one, other)
        if kind == "outside":
            return self.bar(one, other)
        two = self.lead(other)
        if kind == "same":
            return one == two or self.unite(one, two)
        return one != two and self.part(one, two)

    def undecided(self, clause):
        """The claims of the clause that may hold; None where one does."""
        left = []
        for claim in clause:
            verdict = self.judge(claim)
            if verdict is True:
                return None
            if verdict is None:
                left.append(claim)
        return left

    def sweep(self):
        """Learn what clauses tell of which one claim is left; False where one has none."""
        learned = True
        while learned:
            learned = False
            left = []
            for clause in list(self.clauses):
                claims = self.undecided(clause)
                if claims is None:
                    continue
                if len(claims) > 1:
                    left.append(claims)
                elif len(claims) == 0 or not self.learn(claims[0]):
                    return False
                else:
                    learned = True
            self.clauses = left
        return True

    def plus(self, claims, clauses):
        """New facts with these claims and clauses, too; None where they are seen not to go together."""
        more = self.fork()
        for claim in claims:
            if not more.learn(claim):
                return None
        more.clauses = more.clauses + clauses
        return more if more.sweep() else None

    def is_loose(self, claim):
        """Whether an undecided claim holds if each field of any word has a word of its own."""
        kind, field, other = claim
        if kind == "outside":
            return self.lead(field) not in self.choices
        if kind == "apart":
            return self.lead(field) not in self.choices or self.lead(other) not in self.choices
        return False

    def solved(self):
        """New facts, with one word for each field that cannot be any; None where there are none."""
        hard = [clause for clause in self.clauses if not any([self.is_loose(claim) for claim in clause])]
        if len(hard) == 0:
            return self.chosen()
        left = self
        for claim in min(hard, key=len):
            trial = left.plus([claim], [])
            found = None if trial is None else trial.solved()
            if found is not None:
                return found
            left = left.plus([opposite(claim)], [])
            if left is None:
                return None
        return None

    def chosen(self):
        """The same, where no clause needs fields to be the same or to be certain words."""
        several = [field for field in sorted(self.choices) if len(self.choices[field]) > 1]
        if len(several) == 0:
            return self
        field = several[0]
        for word in list(self.choices[field]):
            trial = self.plus([("among", field, (word,))], [])
            found = None if trial is None else trial.chosen()
            if found is not None:
                return found
        return None

    def tell(self, names, used):
        """Names whose parts are fields and words, told in words by solved facts.

        Any word within the facts is a key of used, so that all other words are free.
        """
        fresh = unused_words(used)
        words = {field: self.choices[field][0] for field in self.choices}
        told = []
        for name in names:
            row = []
            for part in name:
                if isinstance(part, str):
                    row.append(part)
                    continue
                field = self.lead(part)
                if field not in words:
                    words[field] = fresh.pop(0)
                row.append(words[field])
            told.append(tuple(row))
        return told
