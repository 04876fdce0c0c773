import PyProof.Rows.All
import Wide.All
import OpenK.AllK
import Wide.FinOn
import HandS.Base
import HandS.Call
import HandS.List
import HandS.Comp
import HandS.Ends
import HandS.Dict
import HandS.Iter
import HandS.Text
import HandS.Exc
import HandS.TryOnly
import HandS.ExcOwn
import HandS.Words
import HandS.WordsList
import KE.DataEq
import KE.LtData
import HandS.TupAny
import HandS.TupMul
import HandS.Style
import HandS.IsInst
import HandS.Zip
import HandS.Wide
import KE.GoesMore
import HandS.More
import HandS.WordsExc
import HandS.Defaults
import HandS.HeadEnd
import KE.KStateDown
import HandS.ExcCtx
import HandS.Head0
import HandS.Head1
import HandS.Head2
import HandS.HeadHook1
import HandS.HeadHook2
import KE.SortData
import KE.DataFind
import HandS.ExcIs
import HandS.HotCalls
import HandS.HeadHook4
import HandS.StrMore
import HandS.FStr
import HandS.Sort
import PyProof.StrOps2
import PySem.Challenge.RW_namescripts_k18_whole_texts_refused
set_option Elab.async false
set_option linter.all false
set_option maxRecDepth 100000
set_option maxHeartbeats 4000000
/-! Data, slots, and what stands for them. -/
namespace NS
open PySem PySem.Spec PyProof.Rows L2

abbrev Dt := PyData
abbrev Fz := Addr → Prop

/-- a key as data -/
def keyD : Key → Dt
  | .inl i => .int i
  | .inr x => .str x

/-- a list of the written part -/
def WrL (K : PySem.W.Frag) (a : Addr) (xs : List V) : Prop := ∃ (o : Obj) (its : Array Value) (n : Nat), K.lookup a = some o ∧ o.cls = .type "list" ∧ o.dict = none ∧ o.data = .seq its n ∧ its.size ≤ sizeLine ∧ Vals xs its.toList
/-- a list that is never written any more -/
def FL (K : PySem.W.Frag) (F : Fz) (H : Hp) (a : Addr) (xs : List V) : Prop := (F a ∧ Rd H a (.lst xs)) ∨ WrL K a xs
theorem FL.sq {K : PySem.W.Frag} {F : Fz} {H : Hp} {a : Addr} {xs : List V} (h : FL K F H a xs) : SqL K H a xs := h.imp (fun z => z.2) id
mutual
/-- the value stands for the datum; F: what is never written any more -/
inductive Rp (K : PySem.W.Frag) (F : Fz) (H : Hp) : V → Dt → Prop
  | non : Rp K F H .non .none
  | bl (b : Bool) : Rp K F H (.bl b) (.bool b)
  | int (i : Int) : Rp K F H (.int i) (.int i)
  | str (x : Str) : Rp K F H (.str x) (.str x)
  | lst {a : Addr} {xs : List V} {ds : List Dt} : FL K F H a xs → RpAll K F H xs ds → Rp K F H (.ref a) (.list ds)
  | tup {a : Addr} {xs : List V} {ds : List Dt} : SqT K H a xs → RpAll K F H xs ds → Rp K F H (.ref a) (.tuple ds)
  | dct {a : Addr} {kvs : List (List Key × V)} {ds : List (Dt × Dt)} : F a → Rd H a (.dT kvs) → RpKT K F H kvs ds → Rp K F H (.ref a) (.dict ds)
inductive RpAll (K : PySem.W.Frag) (F : Fz) (H : Hp) : List V → List Dt → Prop
  | nil : RpAll K F H [] []
  | cons {v : V} {vs : List V} {d : Dt} {ds : List Dt} : Rp K F H v d → RpAll K F H vs ds → RpAll K F H (v :: vs) (d :: ds)
inductive RpKT (K : PySem.W.Frag) (F : Fz) (H : Hp) : List (List Key × V) → List (Dt × Dt) → Prop
  | nil : RpKT K F H [] []
  | cons {ks : List Key} {v : V} {kvs : List (List Key × V)} {d : Dt} {ds : List (Dt × Dt)} : Rp K F H v d → RpKT K F H kvs ds → RpKT K F H ((ks, v) :: kvs) ((.tuple (ks.map keyD), d) :: ds)
end

/-- what is never written whatever F -/
def Fx : HO → Prop
  | .tup _ => True
  | .frz _ _ => True
  | _ => False
/-- from (F, H) to (F', H'): what stood for data still does -/
structure Ext (F : Fz) (H : Hp) (F' : Fz) (H' : Hp) : Prop where
  fz : ∀ a, F a → F' a
  kp : ∀ a o, H a = some o → F a ∨ Fx o → H' a = some o
theorem Ext.refl (F : Fz) (H : Hp) : Ext F H F H := ⟨fun _ h => h, fun _ _ h _ => h⟩
theorem Ext.trans {F F1 F2 : Fz} {H H1 H2 : Hp} (a : Ext F H F1 H1) (b : Ext F1 H1 F2 H2) : Ext F H F2 H2 :=
  ⟨fun c h => b.fz c (a.fz c h), fun c o h z => b.kp c o (a.kp c o h z) (z.imp (a.fz c) id)⟩

section
variable {K : PySem.W.Frag} {F F' : Fz} {H H' : Hp}
theorem Ext.rdT (e : Ext F H F' H') {a : Addr} {xs : List V} (h : Rd H a (.tup xs)) : Rd H' a (.tup xs) := by
  rcases h with h | ⟨o, h⟩
  · exact .inl (e.kp _ _ h (.inr trivial))
  · exact .inr ⟨o, e.kp _ _ h (.inr trivial)⟩
theorem Ext.sqT (e : Ext F H F' H') {a : Addr} {xs : List V} (h : SqT K H a xs) : SqT K H' a xs := by
  rcases h with h | h
  · exact .inl (e.rdT h)
  · exact .inr h
theorem Ext.rdF (e : Ext F H F' H') {a : Addr} {u : HO} (f : F a) (h : Rd H a u) : Rd H' a u := by
  rcases h with h | ⟨o, h⟩
  · exact .inl (e.kp _ _ h (.inl f))
  · exact .inr ⟨o, e.kp _ _ h (.inl f)⟩
mutual
theorem Rp.mono (e : Ext F H F' H') : ∀ {v : V} {d : Dt}, Rp K F H v d → Rp K F' H' v d
  | _, _, .non => .non
  | _, _, .bl b => .bl b
  | _, _, .int i => .int i
  | _, _, .str x => .str x
  | _, _, .lst h r => .lst (h.imp (fun z => ⟨e.fz _ z.1, e.rdF z.1 z.2⟩) id) (RpAll.mono e r)
  | _, _, .tup h r => .tup (e.sqT h) (RpAll.mono e r)
  | _, _, .dct f h r => .dct (e.fz _ f) (e.rdF f h) (RpKT.mono e r)
theorem RpAll.mono (e : Ext F H F' H') : ∀ {vs : List V} {ds : List Dt}, RpAll K F H vs ds → RpAll K F' H' vs ds
  | _, _, .nil => .nil
  | _, _, .cons a b => .cons (Rp.mono e a) (RpAll.mono e b)
theorem RpKT.mono (e : Ext F H F' H') : ∀ {vs : List (List Key × V)} {ds : List (Dt × Dt)}, RpKT K F H vs ds → RpKT K F' H' vs ds
  | _, _, .nil => .nil
  | _, _, .cons a b => .cons (Rp.mono e a) (RpKT.mono e b)
end

theorem RpAll.length : ∀ {vs : List V} {ds : List Dt}, RpAll K F H vs ds → vs.length = ds.length
  | _, _, .nil => rfl
  | _, _, .cons _ t => congrArg (· + 1) (RpAll.length t)
theorem RpAll.get : ∀ {vs : List V} {ds : List Dt} {i : Nat} {d : Dt}, RpAll K F H vs ds → ds[i]? = some d → ∃ v, vs[i]? = some v ∧ Rp K F H v d
  | _, _, _, _, .nil, e => by simp at e
  | _, _, 0, _, .cons r _, e => by simp at e; subst e; exact ⟨_, rfl, r⟩
  | _, _, i + 1, d, .cons _ t, e => by
    obtain ⟨u, h1, h2⟩ := RpAll.get (i := i) (d := d) t (by simpa using e)
    exact ⟨u, by simpa using h1, h2⟩
theorem RpAll.getV : ∀ {vs : List V} {ds : List Dt} {i : Nat} {v : V}, RpAll K F H vs ds → vs[i]? = some v → ∃ d, ds[i]? = some d ∧ Rp K F H v d
  | _, _, _, _, .nil, e => by simp at e
  | _, _, 0, _, .cons r _, e => by simp at e; subst e; exact ⟨_, rfl, r⟩
  | _, _, i + 1, d, .cons _ t, e => by
    obtain ⟨u, h1, h2⟩ := RpAll.getV (i := i) (v := d) t (by simpa using e)
    exact ⟨u, by simpa using h1, h2⟩
theorem RpAll.append : ∀ {xs ys : List V} {us ws : List Dt}, RpAll K F H xs us → RpAll K F H ys ws → RpAll K F H (xs ++ ys) (us ++ ws)
  | _, _, _, _, .nil, s => s
  | _, _, _, _, .cons r t, s => .cons r (RpAll.append t s)
theorem RpAll.take : ∀ {xs : List V} {us : List Dt} (n : Nat), RpAll K F H xs us → RpAll K F H (xs.take n) (us.take n)
  | _, _, 0, _ => .nil
  | _, _, _ + 1, .nil => .nil
  | _, _, n + 1, .cons r t => .cons r (RpAll.take n t)
theorem RpAll.drop : ∀ {xs : List V} {us : List Dt} (n : Nat), RpAll K F H xs us → RpAll K F H (xs.drop n) (us.drop n)
  | _, _, 0, r => r
  | _, _, _ + 1, .nil => .nil
  | _, _, n + 1, .cons _ t => RpAll.drop n t
theorem RpAll.set {x : V} {u : Dt} (r : Rp K F H x u) : ∀ {xs : List V} {us : List Dt} (i : Nat), RpAll K F H xs us → RpAll K F H (xs.set i x) (us.set i u)
  | _, _, _, .nil => .nil
  | _, _, 0, .cons _ t => .cons r t
  | _, _, i + 1, .cons q t => .cons q (RpAll.set r i t)
theorem RpAll.eraseIdx : ∀ {xs : List V} {us : List Dt} (i : Nat), RpAll K F H xs us → RpAll K F H (xs.eraseIdx i) (us.eraseIdx i)
  | _, _, _, .nil => by simpa using .nil
  | _, _, 0, .cons _ t => by simpa using t
  | _, _, i + 1, .cons q t => by simpa using .cons q (RpAll.eraseIdx i t)
theorem RpAll.insertIdx {x : V} {u : Dt} (r : Rp K F H x u) : ∀ {xs : List V} {us : List Dt} (i : Nat), RpAll K F H xs us → RpAll K F H (xs.take i ++ x :: xs.drop i) (us.take i ++ u :: us.drop i) :=
  fun i h => (h.take i).append (.cons r (h.drop i))
mutual
/-- what the library's deep == wants -/
theorem Rp.dp : ∀ {d : Dt} {v : V}, d.plain = true → Rp K F H v d → Dp K H v d
  | .none, _, _, .non => .non
  | .bool _, _, _, .bl b => .bl b
  | .int _, _, _, .int i => .int i
  | .str _, _, _, .str x => .str x
  | .list xs, _, p, .lst h r => .lst h.sq (RpAll.dp (by simpa [PyData.plain] using p) r)
  | .tuple xs, _, p, .tup h r => .tup h (RpAll.dp (by simpa [PyData.plain] using p) r)
  | .dict _, _, p, _ => nomatch p
theorem RpAll.dp : ∀ {ds : List Dt} {vs : List V}, PyData.plainAll ds = true → RpAll K F H vs ds → DpAll K H vs ds
  | [], _, _, .nil => .nil
  | d :: ds, _, p, .cons a b => by
    have p' : d.plain = true ∧ PyData.plainAll ds = true := by simpa [PyData.plainAll] using p
    exact .cons (Rp.dp p'.1 a) (RpAll.dp p'.2 b)
end
end
end NS

set_option Elab.async false
set_option linter.all false
set_option autoImplicit false
set_option maxRecDepth 100000
set_option maxHeartbeats 4000000
namespace NS
open PySem PySem.Spec PyProof.Rows L2

/-- what a name of a def holds -/
inductive Sl where
  | no
  | val (d : Dt)
  | own (xs : List Dt)
  | io (xs : List Dt)
  | ownD (kvs : List (Dt × Dt))
  | raw (b : Addr)
abbrev Ev := List Sl
def Sl.isMut : Sl → Bool
  | .own _ => true
  | .io _ => true
  | .ownD _ => true
  | _ => false
def Sl.isIo : Sl → Bool
  | .io _ => true
  | _ => false

def SlotOk (K : PySem.W.Frag) (F : Fz) (H : Hp) (a : Addr) (s : Sl) (o : Option V) : Prop :=
  match s with
  | .no => True
  | .val d => ∃ v, o = some v ∧ Rp K F H v d
  | .own xs => o = some (.ref a) ∧ ¬F a ∧ ∃ vs, H a = some (.lst vs) ∧ RpAll K F H vs xs
  | .io xs => o = some (.ref a) ∧ ¬F a ∧ ∃ vs, H a = some (.lst vs) ∧ RpAll K F H vs xs
  | .ownD ds => o = some (.ref a) ∧ ¬F a ∧ ∃ kvs, H a = some (.dT kvs) ∧ RpKT K F H kvs ds
  | .raw b => o = some (.ref b)

section
variable {K : PySem.W.Frag} {F F' : Fz} {H H' : Hp}
theorem SlotOk.mono (e : Ext F H F' H') {a : Addr} {s : Sl} {o : Option V} (h : SlotOk K F H a s o) (k : s.isMut = true → ¬F' a ∧ ∀ u, H a = some u → H' a = some u) : SlotOk K F' H' a s o := by
  cases s with
  | no => trivial
  | val d => obtain ⟨v, rfl, r⟩ := h; exact ⟨v, rfl, r.mono e⟩
  | own xs => obtain ⟨h1, _, vs, h3, h4⟩ := h; obtain ⟨k1, k2⟩ := k rfl; exact ⟨h1, k1, vs, k2 _ h3, h4.mono e⟩
  | io xs => obtain ⟨h1, _, vs, h3, h4⟩ := h; obtain ⟨k1, k2⟩ := k rfl; exact ⟨h1, k1, vs, k2 _ h3, h4.mono e⟩
  | ownD xs => obtain ⟨h1, _, vs, h3, h4⟩ := h; obtain ⟨k1, k2⟩ := k rfl; exact ⟨h1, k1, vs, k2 _ h3, h4.mono e⟩
  | raw v => exact h
theorem SlotOk.nF {a : Addr} {s : Sl} {o : Option V} (h : SlotOk K F H a s o) (m : s.isMut = true) : ¬F a := by
  cases s with
  | no => cases m
  | val d => cases m
  | own xs => exact h.2.1
  | io xs => exact h.2.1
  | ownD xs => exact h.2.1
  | raw v => cases m
theorem SlotOk.there {a : Addr} {s : Sl} {o : Option V} (h : SlotOk K F H a s o) (m : s.isMut = true) : ∃ u, H a = some u ∧ ¬Fx u := by
  cases s with
  | no => cases m
  | val d => cases m
  | own xs => obtain ⟨_, _, vs, h, _⟩ := h; exact ⟨_, h, fun z => z⟩
  | io xs => obtain ⟨_, _, vs, h, _⟩ := h; exact ⟨_, h, fun z => z⟩
  | ownD xs => obtain ⟨_, _, vs, h, _⟩ := h; exact ⟨_, h, fun z => z⟩
  | raw v => cases m
end

/-- what a body must leave alone: keep, as it stands; nf, never frozen; io: the places that the caller lends -/
structure Ctx where
  keep : Hp
  nf : Fz
  io : List (Nat × Addr)

structure Rel (K : PySem.W.Frag) (C : Ctx) (α : Nat → Addr) (F : Fz) (ρ : Ev) (σ : L2.St) (H : Hp) : Prop where
  len : σ.length = ρ.length
  slot : ∀ i s, ρ[i]? = some s → ∃ o, σ[i]? = some o ∧ SlotOk K F H (α i) s o
  inj : ∀ i j s t, ρ[i]? = some s → ρ[j]? = some t → s.isMut = true → t.isMut = true → α i = α j → i = j
  io : ∀ p ∈ C.io, ∃ xs, ρ[p.1]? = some (.io xs) ∧ α p.1 = p.2
  kp : ∀ a o, C.keep a = some o → H a = some o
  kn : ∀ i s, ρ[i]? = some s → s.isMut = true → C.keep (α i) = none
  nf : ∀ a, C.nf a → ¬F a
  nd : ∀ a, C.nf a → H a ≠ none
  fd : ∀ a, F a → H a ≠ none
  on : ∀ i s, ρ[i]? = some s → s.isMut = true → s.isIo = false → ¬C.nf (α i)

def insF (F : Fz) (p : Addr) : Fz := fun a => F a ∨ a = p

section
variable {K : PySem.W.Frag} {C : Ctx} {α : Nat → Addr} {F F' : Fz} {ρ : Ev} {σ : L2.St} {H H' : Hp} {p : Addr} {o : HO}
theorem ext_laid (hp : H p = none) : Ext F H F (upd H p o) := ⟨fun _ h => h, fun a u h _ => by rw [upd_ne (ne_of_none h hp)]; exact h⟩
theorem ext_laidF (hp : H p = none) : Ext F H (insF F p) (upd H p o) := ⟨fun _ h => .inl h, fun a u h _ => by rw [upd_ne (ne_of_none h hp)]; exact h⟩
theorem ext_ins : Ext F H (insF F p) H := ⟨fun _ h => .inl h, fun _ _ h _ => h⟩
theorem some_upd {a : Addr} (h : H a ≠ none) : upd H p o a ≠ none := by
  unfold upd; split
  · intro z; cases z
  · exact h

/-- all that is changed or new is nobody's -/
theorem Rel.step (R : Rel K C α F ρ σ H) (e : Ext F H F' H') (hk : ∀ a u, C.keep a = some u → H a = some u → H' a = some u) (hm : ∀ i s, ρ[i]? = some s → s.isMut = true → ¬F' (α i) ∧ ∀ u, H (α i) = some u → H' (α i) = some u)
    (hn : ∀ a, C.nf a → ¬F' a) (hd : ∀ a, H a ≠ none → H' a ≠ none) (hf : ∀ a, F' a → H' a ≠ none) : Rel K C α F' ρ σ H' where
  len := R.len
  slot := fun i s h => by
    obtain ⟨o, h1, h2⟩ := R.slot i s h
    exact ⟨o, h1, h2.mono e fun m => hm i s h m⟩
  inj := R.inj
  io := R.io
  kp := fun a o h => hk a o h (R.kp a o h)
  kn := R.kn
  nf := hn
  nd := fun a h => hd a (R.nd a h)
  fd := hf
  on := R.on
theorem Rel.laid (R : Rel K C α F ρ σ H) (hp : H p = none) : Rel K C α F ρ σ (upd H p o) :=
  R.step (ext_laid hp) (fun a u _ h => by rw [upd_ne (ne_of_none h hp)]; exact h)
    (fun i s h m => by
      obtain ⟨_, _, h2⟩ := R.slot i s h
      exact ⟨h2.nF m, fun u q => by rw [upd_ne (ne_of_none q hp)]; exact q⟩)
    R.nf (fun a h => some_upd h) (fun a f => some_upd (R.fd a f))
theorem Rel.laidF (R : Rel K C α F ρ σ H) (hp : H p = none) : Rel K C α (insF F p) ρ σ (upd H p o) :=
  R.step (ext_laidF hp) (fun a u _ h => by rw [upd_ne (ne_of_none h hp)]; exact h)
    (fun i s h m => by
      obtain ⟨_, _, h2⟩ := R.slot i s h
      obtain ⟨u, q, _⟩ := h2.there m
      refine ⟨fun z => ?_, fun u q => by rw [upd_ne (ne_of_none q hp)]; exact q⟩
      rcases z with z | z
      · exact h2.nF m z
      · rw [z, hp] at q; cases q)
    (fun a h z => by
      rcases z with z | z
      · exact R.nf a h z
      · exact R.nd a h (z ▸ hp))
    (fun a h => some_upd h) (fun a f => by
      rcases f with f | f
      · exact some_upd (R.fd a f)
      · rw [f, upd_same]; intro z; cases z)
/-- a fresh object nobody owns is frozen -/
theorem Rel.freeze (R : Rel K C α F ρ σ H) (hp : H p ≠ none) (hn : ¬C.nf p) (ho : ∀ i s, ρ[i]? = some s → s.isMut = true → α i ≠ p) : Rel K C α (insF F p) ρ σ H :=
  R.step ext_ins (fun a u _ h => h)
    (fun i s h m => by
      obtain ⟨_, _, h2⟩ := R.slot i s h
      refine ⟨fun z => ?_, fun u q => q⟩
      rcases z with z | z
      · exact h2.nF m z
      · exact ho i s h m z)
    (fun a h z => by
      rcases z with z | z
      · exact R.nf a h z
      · exact hn (z ▸ h))
    (fun a h => h) (fun a f => by
      rcases f with f | f
      · exact R.fd a f
      · rw [f]; exact hp)
theorem get_set_ne {α : Type} {l : List α} {i j : Nat} {x : α} (h : j ≠ i) : (l.set i x)[j]? = l[j]? := by
  rw [List.getElem?_set_ne (Ne.symm h)]
theorem get_set_eq {α : Type} {l : List α} {i : Nat} {x y : α} (h : (l.set i x)[i]? = some y) : x = y ∧ i < l.length := by
  by_cases hi : i < l.length
  · rw [List.getElem?_set_self hi] at h; cases h; exact ⟨rfl, hi⟩
  · rw [List.getElem?_eq_none (by simpa using hi)] at h; cases h
/-- a name is given a datum -/
theorem Rel.setVal (R : Rel K C α F ρ σ H) {i : Nat} {v : V} {d : Dt} (r : Rp K F H v d) (hi : ∀ s, ρ[i]? = some s → s.isIo = false) (s : Sl) (hs : s = .val d ∨ s = .no) : Rel K C α F (ρ.set i s) (σ.set i (some v)) H where
  len := by simp [R.len]
  slot := fun j t h => by
    by_cases hj : j = i
    · subst hj
      obtain ⟨e, hl⟩ := get_set_eq h
      subst e
      refine ⟨some v, ?_, ?_⟩
      · rw [List.getElem?_set_self (by rw [R.len]; exact hl)]
      · rcases hs with rfl | rfl
        · exact ⟨v, rfl, r⟩
        · trivial
    · rw [get_set_ne hj] at h
      obtain ⟨o, h1, h2⟩ := R.slot j t h
      exact ⟨o, by rw [get_set_ne hj]; exact h1, h2⟩
  inj := fun j k a b ha hb ma mb e => by
    have nj : j ≠ i := fun z => by
      subst z
      obtain ⟨q, _⟩ := get_set_eq ha
      subst q
      rcases hs with rfl | rfl <;> cases ma
    have nk : k ≠ i := fun z => by
      subst z
      obtain ⟨q, _⟩ := get_set_eq hb
      subst q
      rcases hs with rfl | rfl <;> cases mb
    rw [get_set_ne nj] at ha
    rw [get_set_ne nk] at hb
    exact R.inj j k a b ha hb ma mb e
  io := fun q hq => by
    obtain ⟨xs, h1, h2⟩ := R.io q hq
    have nq : q.1 ≠ i := fun z => by
      have := hi _ (z ▸ h1)
      cases this
    exact ⟨xs, by rw [get_set_ne nq]; exact h1, h2⟩
  kp := R.kp
  kn := fun j t h m => by
    have nj : j ≠ i := fun z => by
      subst z
      obtain ⟨q, _⟩ := get_set_eq h
      subst q
      rcases hs with rfl | rfl <;> cases m
    rw [get_set_ne nj] at h
    exact R.kn j t h m
  nf := R.nf
  nd := R.nd
  fd := R.fd
  on := fun j t h m o => by
    have nj : j ≠ i := fun z => by
      subst z
      obtain ⟨q, _⟩ := get_set_eq h
      subst q
      rcases hs with rfl | rfl <;> cases m
    rw [get_set_ne nj] at h
    exact R.on j t h m o
/-- a name is forgotten -/
theorem Rel.forget (R : Rel K C α F ρ σ H) {i : Nat} {o : Option V} (hi : ∀ s, ρ[i]? = some s → s.isIo = false) : Rel K C α F (ρ.set i .no) (σ.set i o) H where
  len := by simp [R.len]
  slot := fun j t h => by
    by_cases hj : j = i
    · subst hj
      obtain ⟨e, hl⟩ := get_set_eq h
      subst e
      exact ⟨o, by rw [List.getElem?_set_self (by rw [R.len]; exact hl)], trivial⟩
    · rw [get_set_ne hj] at h
      obtain ⟨o, h1, h2⟩ := R.slot j t h
      exact ⟨o, by rw [get_set_ne hj]; exact h1, h2⟩
  inj := fun j k a b ha hb ma mb e => by
    have nj : j ≠ i := fun z => by
      subst z
      obtain ⟨q, _⟩ := get_set_eq ha
      subst q
      cases ma
    have nk : k ≠ i := fun z => by
      subst z
      obtain ⟨q, _⟩ := get_set_eq hb
      subst q
      cases mb
    rw [get_set_ne nj] at ha
    rw [get_set_ne nk] at hb
    exact R.inj j k a b ha hb ma mb e
  io := fun q hq => by
    obtain ⟨xs, h1, h2⟩ := R.io q hq
    have nq : q.1 ≠ i := fun z => by
      have := hi _ (z ▸ h1)
      cases this
    exact ⟨xs, by rw [get_set_ne nq]; exact h1, h2⟩
  kp := R.kp
  kn := fun j t h m => by
    have nj : j ≠ i := fun z => by
      subst z
      obtain ⟨q, _⟩ := get_set_eq h
      subst q
      cases m
    rw [get_set_ne nj] at h
    exact R.kn j t h m
  nf := R.nf
  nd := R.nd
  fd := R.fd
  on := fun j t h m o => by
    have nj : j ≠ i := fun z => by
      subst z
      obtain ⟨q, _⟩ := get_set_eq h
      subst q
      cases m
    rw [get_set_ne nj] at h
    exact R.on j t h m o
/-- a name is given a fresh object of its own -/
theorem Rel.setOwn (R : Rel K C α F ρ σ H) {i : Nat} {s : Sl} (hs : SlotOk K F H p s (some (.ref p))) (hm : s.isMut = true) (hio : s.isIo = false) (hi : ∀ s, ρ[i]? = some s → s.isIo = false)
    (ho : ∀ j t, ρ[j]? = some t → t.isMut = true → α j ≠ p) (hk : C.keep p = none) (hn : ¬C.nf p) : Rel K C (fun j => if j = i then p else α j) F (ρ.set i s) (σ.set i (some (.ref p))) H where
  len := by simp [R.len]
  slot := fun j t h => by
    by_cases hj : j = i
    · subst hj
      obtain ⟨e, hl⟩ := get_set_eq h
      subst e
      refine ⟨_, by rw [List.getElem?_set_self (by rw [R.len]; exact hl)], ?_⟩
      rw [if_pos rfl]; exact hs
    · rw [get_set_ne hj] at h
      obtain ⟨o, h1, h2⟩ := R.slot j t h
      refine ⟨o, by rw [get_set_ne hj]; exact h1, ?_⟩
      rw [if_neg hj]; exact h2
  inj := fun j k a b ha hb ma mb e => by
    by_cases hj : j = i
    · by_cases hk' : k = i
      · rw [hj, hk']
      · rw [if_pos hj, if_neg hk'] at e
        rw [get_set_ne hk'] at hb
        exact absurd e.symm (ho k b hb mb)
    · by_cases hk' : k = i
      · rw [if_neg hj, if_pos hk'] at e
        rw [get_set_ne hj] at ha
        exact absurd e (ho j a ha ma)
      · rw [if_neg hj, if_neg hk'] at e
        rw [get_set_ne hj] at ha
        rw [get_set_ne hk'] at hb
        exact R.inj j k a b ha hb ma mb e
  io := fun q hq => by
    obtain ⟨xs, h1, h2⟩ := R.io q hq
    have nq : q.1 ≠ i := fun z => by
      have := hi _ (z ▸ h1)
      cases this
    exact ⟨xs, by rw [get_set_ne nq]; exact h1, by rw [if_neg nq]; exact h2⟩
  kp := R.kp
  kn := fun j t h m => by
    by_cases hj : j = i
    · rw [if_pos hj]; exact hk
    · rw [get_set_ne hj] at h
      rw [if_neg hj]; exact R.kn j t h m
  nf := R.nf
  nd := R.nd
  fd := R.fd
  on := fun j t h m o => by
    by_cases hj : j = i
    · rw [if_pos hj]; exact hn
    · rw [get_set_ne hj] at h
      rw [if_neg hj]; exact R.on j t h m o
/-- a name's own object is written -/
theorem Rel.write (R : Rel K C α F ρ σ H) {i : Nat} {s t : Sl} (hi : ρ[i]? = some s) (hm : s.isMut = true) (hm' : t.isMut = true) (hio : t.isIo = s.isIo)
    (ht : SlotOk K F (upd H (α i) o) (α i) t (some (.ref (α i)))) : Rel K C α F (ρ.set i t) σ (upd H (α i) o) ∧ Ext F H F (upd H (α i) o) := by
  obtain ⟨os, hσ, hs⟩ := R.slot i s hi
  have eos : os = some (.ref (α i)) := by
    cases s with
    | no => cases hm
    | val d => cases hm
    | own xs => exact hs.1
    | io xs => exact hs.1
    | ownD xs => exact hs.1
    | raw v => cases hm
  obtain ⟨u, hu, hx⟩ := hs.there hm
  have nF := hs.nF hm
  have e : Ext F H F (upd H (α i) o) := ⟨fun _ h => h, fun a w h z => by
    have na : a ≠ α i := fun q => by
      subst q
      rw [hu] at h; cases h
      exact z.elim nF hx
    rw [upd_ne na]; exact h⟩
  refine ⟨⟨by simp [R.len], fun j r h => ?_, fun j k a b ha hb ma mb e => ?_, fun q hq => ?_, fun a w h => ?_, fun j r h m => ?_, R.nf, fun a h => some_upd (R.nd a h), fun a h => some_upd (R.fd a h), fun j r h m o => ?_⟩, e⟩
  · by_cases hj : j = i
    · subst hj
      obtain ⟨q, _⟩ := get_set_eq h
      subst q
      exact ⟨os, hσ, eos ▸ ht⟩
    · rw [get_set_ne hj] at h
      obtain ⟨o', h1, h2⟩ := R.slot j r h
      refine ⟨o', h1, h2.mono e fun m => ⟨h2.nF m, fun w q => ?_⟩⟩
      rw [upd_ne fun z => hj (R.inj j i r s h hi m hm z)]
      exact q
  · have ga : ∃ a', ρ[j]? = some a' ∧ a'.isMut = true := by
      by_cases hj : j = i
      · exact ⟨s, hj ▸ hi, hm⟩
      · rw [get_set_ne hj] at ha; exact ⟨a, ha, ma⟩
    have gb : ∃ a', ρ[k]? = some a' ∧ a'.isMut = true := by
      by_cases hj : k = i
      · exact ⟨s, hj ▸ hi, hm⟩
      · rw [get_set_ne hj] at hb; exact ⟨b, hb, mb⟩
    obtain ⟨a', ha', ma'⟩ := ga
    obtain ⟨b', hb', mb'⟩ := gb
    exact R.inj j k a' b' ha' hb' ma' mb' e
  · obtain ⟨xs, h1, h2⟩ := R.io q hq
    by_cases hj : q.1 = i
    · rw [hj, hi] at h1
      cases h1
      cases t with
      | io ys => exact ⟨ys, by rw [hj, List.getElem?_set_self (List.getElem?_eq_some_iff.mp hi).1], h2⟩
      | no => cases hio
      | val d => cases hio
      | own ys => cases hio
      | ownD ys => cases hio
      | raw v => cases hio
    · exact ⟨xs, by rw [get_set_ne hj]; exact h1, h2⟩
  · have na : a ≠ α i := fun q => by
      have z := R.kn i s hi hm
      rw [q, z] at h; cases h
    rw [upd_ne na]; exact R.kp a w h
  · by_cases hj : j = i
    · subst hj; exact R.kn j s hi hm
    · rw [get_set_ne hj] at h; exact R.kn j r h m
  · by_cases hj : j = i
    · subst hj
      obtain ⟨q, _⟩ := get_set_eq h
      subst q
      exact R.on j s hi hm (hio ▸ o)
    · rw [get_set_ne hj] at h; exact R.on j r h m o
/-- a name's own list is frozen: from now on a datum -/
theorem Rel.frz (R : Rel K C α F ρ σ H) {i : Nat} {xs : List Dt} (hi : ρ[i]? = some (.own xs)) : Rel K C α (insF F (α i)) (ρ.set i (.val (.list xs))) σ H ∧ Rp K (insF F (α i)) H (.ref (α i)) (.list xs) ∧ σ[i]? = some (some (.ref (α i))) := by
  obtain ⟨os, hσ, hs⟩ := R.slot i _ hi
  obtain ⟨rfl, nF, vs, hH, hr⟩ := id hs
  have e : Ext F H (insF F (α i)) H := ext_ins
  have r : Rp K (insF F (α i)) H (.ref (α i)) (.list xs) := .lst (.inl ⟨.inr rfl, .inl hH⟩) (hr.mono e)
  have nio : ∀ q ∈ C.io, q.1 ≠ i := fun q hq z => by
    obtain ⟨ys, h1, _⟩ := R.io q hq
    rw [z, hi] at h1; cases h1
  refine ⟨⟨by simp [R.len], fun j t h => ?_, fun j k a b ha hb ma mb e => ?_, fun q hq => ?_, R.kp, fun j t h m => ?_, fun a h z => ?_, R.nd, fun a h => ?_, fun j t h m o => ?_⟩, r, hσ⟩
  · by_cases hj : j = i
    · subst hj
      obtain ⟨q, _⟩ := get_set_eq h
      subst q
      exact ⟨_, hσ, _, rfl, r⟩
    · rw [get_set_ne hj] at h
      obtain ⟨o', h1, h2⟩ := R.slot j t h
      refine ⟨o', h1, h2.mono e fun m => ⟨fun z => ?_, fun w q => q⟩⟩
      rcases z with z | z
      · exact h2.nF m z
      · exact hj (R.inj j i t _ h hi m rfl z)
  · have nj : j ≠ i := fun z => by
      subst z
      obtain ⟨q, _⟩ := get_set_eq ha
      subst q
      cases ma
    have nk : k ≠ i := fun z => by
      subst z
      obtain ⟨q, _⟩ := get_set_eq hb
      subst q
      cases mb
    rw [get_set_ne nj] at ha
    rw [get_set_ne nk] at hb
    exact R.inj j k a b ha hb ma mb e
  · obtain ⟨ys, h1, h2⟩ := R.io q hq
    exact ⟨ys, by rw [get_set_ne (nio q hq)]; exact h1, h2⟩
  · have nj : j ≠ i := fun z => by
      subst z
      obtain ⟨q, _⟩ := get_set_eq h
      subst q
      cases m
    rw [get_set_ne nj] at h
    exact R.kn j t h m
  · rcases z with z | z
    · exact R.nf a h z
    · exact R.on i _ hi rfl rfl (z ▸ h)
  · rcases h with h | h
    · exact R.fd a h
    · rw [h, hH]; intro z; cases z
  · have nj : j ≠ i := fun z => by
      subst z
      obtain ⟨q, _⟩ := get_set_eq h
      subst q
      cases m
    rw [get_set_ne nj] at h
    exact R.on j t h m o
end
end NS

set_option Elab.async false
set_option linter.all false
set_option autoImplicit false
set_option maxRecDepth 100000
set_option maxHeartbeats 4000000
namespace NS
open PySem PySem.Spec PyProof.Rows L2

/-- an exception: its class by name, what it tells -/
structure Exn where
  cls : Str
  told : Option Dt
/-- what an expression comes to -/
inductive R where
  | ok (d : Dt) (ρ : Ev)
  | exc (x : Exn) (ρ : Ev)
  | stuck
def R.bind (r : R) (f : Dt → Ev → R) : R :=
  match r with
  | .ok d ρ => f d ρ
  | .exc x ρ => .exc x ρ
  | .stuck => .stuck
/-- what an argument list comes to -/
inductive RA where
  | ok (ds : List Dt) (ρ : Ev)
  | exc (x : Exn) (ρ : Ev)
  | stuck
def RA.bind (r : RA) (f : List Dt → Ev → R) : R :=
  match r with
  | .ok d ρ => f d ρ
  | .exc x ρ => .exc x ρ
  | .stuck => .stuck
def R.ofO (o : Option Dt) (ρ : Ev) : R :=
  match o with
  | some d => .ok d ρ
  | none => .stuck
def R.cons (r : R) (f : Ev → RA) : RA :=
  match r with
  | .ok d ρ => match f ρ with
    | .ok ds ρ' => .ok (d :: ds) ρ'
    | .exc x ρ' => .exc x ρ'
    | .stuck => .stuck
  | .exc x ρ => .exc x ρ
  | .stuck => .stuck

def XRel (K : PySem.W.Frag) (mg : Str → Option Value) (F : Fz) (H : Hp) (cls : Value) (dd : Option Addr) (x : Exn) : Prop :=
  ∃ C : Addr, mg x.cls = some (.ref C) ∧ cls = .ref C ∧ match x.told with
    | none => dd = none
    | some d => ∃ a v, dd = some a ∧ H a = some (.xd [(("told" : Str), v)]) ∧ Rp K F H v d

def PostE (K : PySem.W.Frag) (mg : Str → Option Value) (W : WX) (C : Ctx) (α : Nat → Addr) (F : Fz) (σ : L2.St) (H : Hp) (Q : VK) : R → Prop
  | .ok d ρ' => ∀ v F' H', Ext F H F' H' → Rel K C α F' ρ' σ H' → Rp K F' H' v d → Q v H'
  | .exc x ρ' => ∀ cls dd F' H', Ext F H F' H' → Rel K C α F' ρ' σ H' → XRel K mg F' H' cls dd x → W cls dd σ H'
  | .stuck => False
def PostA (K : PySem.W.Frag) (mg : Str → Option Value) (W : WX) (C : Ctx) (α : Nat → Addr) (n : Nat) (F : Fz) (σ : L2.St) (H : Hp) (Q : List V → Hp → Prop) : RA → Prop
  | .ok ds ρ' => ∀ vs F' H', vs.length = n → Ext F H F' H' → Rel K C α F' ρ' σ H' → RpAll K F' H' vs ds → Q vs H'
  | .exc x ρ' => ∀ cls dd F' H', Ext F H F' H' → Rel K C α F' ρ' σ H' → XRel K mg F' H' cls dd x → W cls dd σ H'
  | .stuck => False
/-- a test: its datum is a truth value -/
def PostT (K : PySem.W.Frag) (mg : Str → Option Value) (W : WX) (C : Ctx) (α : Nat → Addr) (F : Fz) (σ : L2.St) (H : Hp) (Q : Bool → Hp → Prop) : R → Prop
  | .ok (.bool b) ρ' => ∀ F' H', Ext F H F' H' → Rel K C α F' ρ' σ H' → Q b H'
  | .ok _ _ => False
  | .exc x ρ' => ∀ cls dd F' H', Ext F H F' H' → Rel K C α F' ρ' σ H' → XRel K mg F' H' cls dd x → W cls dd σ H'
  | .stuck => False

def TE8 (K : PySem.W.Frag) (mg : Str → Option Value) (W : WX) (m : Ev → R) : TE := fun σ H Q => ∃ C α F ρ, Rel K C α F ρ σ H ∧ PostE K mg W C α F σ H Q (m ρ)
def TA8 (K : PySem.W.Frag) (mg : Str → Option Value) (W : WX) (n : Nat) (m : Ev → RA) : TA := fun σ H Q => ∃ C α F ρ, Rel K C α F ρ σ H ∧ PostA K mg W C α n F σ H Q (m ρ)
def TT8 (K : PySem.W.Frag) (mg : Str → Option Value) (W : WX) (m : Ev → R) : TT := fun σ H Q => ∃ C α F ρ, Rel K C α F ρ σ H ∧ PostT K mg W C α F σ H Q (m ρ)
def JE (X : Cx) (W : WX) (e : Expr) (m : Ev → R) : Prop := PE X e (TE8 X.K X.mg W m)
def JA (X : Cx) (W : WX) (es : List Expr) (m : Ev → RA) : Prop := PA X es (TA8 X.K X.mg W es.length m)
def JT (X : Cx) (W : WX) (e : Expr) (m : Ev → R) : Prop := PT X e (TT8 X.K X.mg W m)
def JW (X : Cx) (W : WX) (e : Expr) (m : Ev → R) : Prop := PW X e (TT8 X.K X.mg W m)

section
variable {X : Cx} {W : WX} {e : Expr} {es : List Expr} {m : Ev → R} {ma : Ev → RA}
theorem JE.of {t : TE} (h : PE X e t) (hr : ∀ C α F ρ σ H Q, Rel X.K C α F ρ σ H → PostE X.K X.mg W C α F σ H Q (m ρ) → t σ H Q) : JE X W e m :=
  ⟨fun pins s σ H Q I ⟨C, α, F, ρ, r, p⟩ => h.run pins s σ H Q I (hr C α F ρ σ H Q r p)⟩
theorem JA.of {t : TA} (h : PA X es t) (hr : ∀ C α F ρ σ H Q, Rel X.K C α F ρ σ H → PostA X.K X.mg W C α es.length F σ H Q (ma ρ) → t σ H Q) : JA X W es ma :=
  ⟨fun pos pins s σ H Q I ⟨C, α, F, ρ, r, p⟩ => h.run pos pins s σ H Q I (hr C α F ρ σ H Q r p)⟩
theorem JT.of {t : TT} (h : PT X e t) (hr : ∀ C α F ρ σ H Q, Rel X.K C α F ρ σ H → PostT X.K X.mg W C α F σ H Q (m ρ) → t σ H Q) : JT X W e m :=
  ⟨fun pins s σ H Q I ⟨C, α, F, ρ, r, p⟩ => h.run pins s σ H Q I (hr C α F ρ σ H Q r p)⟩
theorem JW.of {t : TT} (h : PW X e t) (hr : ∀ C α F ρ σ H Q, Rel X.K C α F ρ σ H → PostT X.K X.mg W C α F σ H Q (m ρ) → t σ H Q) : JW X W e m :=
  ⟨fun wh pins s σ H Q I ⟨C, α, F, ρ, r, p⟩ => h.run wh pins s σ H Q I (hr C α F ρ σ H Q r p)⟩
end

section
variable {K : PySem.W.Frag} {mg : Str → Option Value} {W : WX} {C : Ctx} {α : Nat → Addr} {F F1 : Fz} {ρ : Ev} {σ : L2.St} {H H1 : Hp} {m : Ev → R} {ma : Ev → RA}
theorem PostE.ext {Q : VK} {r : R} (e : Ext F H F1 H1) (p : PostE K mg W C α F σ H Q r) : PostE K mg W C α F1 σ H1 Q r := by
  cases r with
  | ok d ρ' => exact fun v F' H' e' r q => p v F' H' (e.trans e') r q
  | exc x ρ' => exact fun c dd F' H' e' r q => p c dd F' H' (e.trans e') r q
  | stuck => exact p
theorem PostA.ext {n : Nat} {Q : List V → Hp → Prop} {r : RA} (e : Ext F H F1 H1) (p : PostA K mg W C α n F σ H Q r) : PostA K mg W C α n F1 σ H1 Q r := by
  cases r with
  | ok d ρ' => exact fun v F' H' l e' r q => p v F' H' l (e.trans e') r q
  | exc x ρ' => exact fun c dd F' H' e' r q => p c dd F' H' (e.trans e') r q
  | stuck => exact p
theorem PostT.ext {Q : Bool → Hp → Prop} {r : R} (e : Ext F H F1 H1) (p : PostT K mg W C α F σ H Q r) : PostT K mg W C α F1 σ H1 Q r := by
  cases r with
  | ok d ρ' =>
    cases d with
    | bool b => exact fun F' H' e' r => p F' H' (e.trans e') r
    | _ => exact p
  | exc x ρ' => exact fun c dd F' H' e' r q => p c dd F' H' (e.trans e') r q
  | stuck => exact p
/-- an expression, then f -/
theorem TE8.bind {Q Q0 : VK} {f : Dt → Ev → R} (r : Rel K C α F ρ σ H) (p : PostE K mg W C α F σ H Q0 ((m ρ).bind f))
    (k : ∀ d ρ1 v F1 H1, Ext F H F1 H1 → Rel K C α F1 ρ1 σ H1 → Rp K F1 H1 v d → PostE K mg W C α F1 σ H1 Q0 (f d ρ1) → Q v H1) : TE8 K mg W m σ H Q := by
  refine ⟨C, α, F, ρ, r, ?_⟩
  cases h : m ρ with
  | ok d ρ1 => rw [h] at p; exact fun v F' H' e' r' q => k d ρ1 v F' H' e' r' q (PostE.ext e' p)
  | exc x ρ1 => rw [h] at p; exact p
  | stuck => rw [h] at p; exact p
theorem TE8.bindT {Q : VK} {Q0 : Bool → Hp → Prop} {f : Dt → Ev → R} (r : Rel K C α F ρ σ H) (p : PostT K mg W C α F σ H Q0 ((m ρ).bind f))
    (k : ∀ d ρ1 v F1 H1, Ext F H F1 H1 → Rel K C α F1 ρ1 σ H1 → Rp K F1 H1 v d → PostT K mg W C α F1 σ H1 Q0 (f d ρ1) → Q v H1) : TE8 K mg W m σ H Q := by
  refine ⟨C, α, F, ρ, r, ?_⟩
  cases h : m ρ with
  | ok d ρ1 => rw [h] at p; exact fun v F' H' e' r' q => k d ρ1 v F' H' e' r' q (PostT.ext e' p)
  | exc x ρ1 => rw [h] at p; exact p
  | stuck => rw [h] at p; exact p
theorem TA8.bind {n : Nat} {Q0 : VK} {Q : List V → Hp → Prop} {f : List Dt → Ev → R} (r : Rel K C α F ρ σ H) (p : PostE K mg W C α F σ H Q0 ((ma ρ).bind f))
    (k : ∀ d ρ1 v F1 H1, v.length = n → Ext F H F1 H1 → Rel K C α F1 ρ1 σ H1 → RpAll K F1 H1 v d → PostE K mg W C α F1 σ H1 Q0 (f d ρ1) → Q v H1) : TA8 K mg W n ma σ H Q := by
  refine ⟨C, α, F, ρ, r, ?_⟩
  cases h : ma ρ with
  | ok d ρ1 => rw [h] at p; exact fun v F' H' l e' r' q => k d ρ1 v F' H' l e' r' q (PostE.ext e' p)
  | exc x ρ1 => rw [h] at p; exact p
  | stuck => rw [h] at p; exact p
/-- a test, then two ways -/
def R.ite (r : R) (f g : Ev → R) : R := r.bind fun d ρ => match d with
  | .bool true => f ρ
  | .bool false => g ρ
  | _ => .stuck
theorem TT8.bindE {Q0 : VK} {Q : Bool → Hp → Prop} {f g : Ev → R} (r : Rel K C α F ρ σ H) (p : PostE K mg W C α F σ H Q0 ((m ρ).ite f g))
    (k : ∀ b ρ1 F1 H1, Ext F H F1 H1 → Rel K C α F1 ρ1 σ H1 → PostE K mg W C α F1 σ H1 Q0 (if b = true then f ρ1 else g ρ1) → Q b H1) : TT8 K mg W m σ H Q := by
  refine ⟨C, α, F, ρ, r, ?_⟩
  cases h : m ρ with
  | ok d ρ1 =>
    rw [h] at p
    cases d with
    | bool b => cases b <;> exact fun F' H' e' r' => k _ ρ1 F' H' e' r' (PostE.ext e' p)
    | _ => exact p
  | exc x ρ1 => rw [h] at p; exact p
  | stuck => rw [h] at p; exact p
theorem TT8.bindT {Q0 Q : Bool → Hp → Prop} {f g : Ev → R} (r : Rel K C α F ρ σ H) (p : PostT K mg W C α F σ H Q0 ((m ρ).ite f g))
    (k : ∀ b ρ1 F1 H1, Ext F H F1 H1 → Rel K C α F1 ρ1 σ H1 → PostT K mg W C α F1 σ H1 Q0 (if b = true then f ρ1 else g ρ1) → Q b H1) : TT8 K mg W m σ H Q := by
  refine ⟨C, α, F, ρ, r, ?_⟩
  cases h : m ρ with
  | ok d ρ1 =>
    rw [h] at p
    cases d with
    | bool b => cases b <;> exact fun F' H' e' r' => k _ ρ1 F' H' e' r' (PostT.ext e' p)
    | _ => exact p
  | exc x ρ1 => rw [h] at p; exact p
  | stuck => rw [h] at p; exact p

/-- nothing, a new object, a new object that is never written -/
inductive Grow (F : Fz) (H : Hp) : Fz → Hp → Prop
  | refl : Grow F H F H
  | laid {p : Addr} {o : HO} (hp : H p = none) : Grow F H F (upd H p o)
  | laidF {p : Addr} {o : HO} (hp : H p = none) : Grow F H (insF F p) (upd H p o)
theorem Grow.ext {F' : Fz} {H' : Hp} (g : Grow F H F' H') : Ext F H F' H' := by
  cases g with
  | refl => exact .refl _ _
  | laid hp => exact ext_laid hp
  | laidF hp => exact ext_laidF hp
theorem Grow.rel {F' : Fz} {H' : Hp} (g : Grow F H F' H') (r : Rel K C α F ρ σ H) : Rel K C α F' ρ σ H' := by
  cases g with
  | refl => exact r
  | laid hp => exact r.laid hp
  | laidF hp => exact r.laidF hp
end

/-! ### operators by values -/
def OpS (K : PySem.W.Frag) (r : R2) (sem : Dt → Dt → Option Dt) : Prop :=
  ∀ (F : Fz) (H : Hp) (x y : V) (d e z : Dt) (Q : VK), Rp K F H x d → Rp K F H y e → sem d e = some z → (∀ v F' H', Grow F H F' H' → Rp K F' H' v z → Q v H') → r x y H Q
def UnS (K : PySem.W.Frag) (r : V → Hp → VK → Prop) (sem : Dt → Option Dt) : Prop :=
  ∀ (F : Fz) (H : Hp) (x : V) (d z : Dt) (Q : VK), Rp K F H x d → sem d = some z → (∀ v F' H', Grow F H F' H' → Rp K F' H' v z → Q v H') → r x H Q
def CallS (K : PySem.W.Frag) (r : List V → Hp → VK → Prop) (sem : List Dt → Option Dt) : Prop :=
  ∀ (F : Fz) (H : Hp) (xs : List V) (ds : List Dt) (z : Dt) (Q : VK), RpAll K F H xs ds → sem ds = some z → (∀ v F' H', Grow F H F' H' → Rp K F' H' v z → Q v H') → r xs H Q

def mOp (sem : Dt → Dt → Option Dt) (ma mb : Ev → R) : Ev → R := fun ρ => (ma ρ).bind fun d ρ1 => (mb ρ1).bind fun e ρ2 => R.ofO (sem d e) ρ2
def mUn (sem : Dt → Option Dt) (ma : Ev → R) : Ev → R := fun ρ => (ma ρ).bind fun d ρ1 => R.ofO (sem d) ρ1
def mCall (sem : List Dt → Option Dt) (ma : Ev → RA) : Ev → R := fun ρ => (ma ρ).bind fun ds ρ1 => R.ofO (sem ds) ρ1
def mC (d : Dt) : Ev → R := fun ρ => .ok d ρ

section
variable {X : Cx} {W : WX} {a b : Expr} {es : List Expr} {ma mb : Ev → R} {pos : Pos}
theorem tOp8 {r : R2} {sem : Dt → Dt → Option Dt} (hs : OpS X.K r sem) {C α F ρ σ H Q} (R : Rel X.K C α F ρ σ H) (p : PostE X.K X.mg W C α F σ H Q (mOp sem ma mb ρ)) : tOp r (TE8 X.K X.mg W ma) (TE8 X.K X.mg W mb) σ H Q := by
  refine TE8.bind R p fun d ρ1 x F1 H1 e1 R1 rx p1 => ?_
  refine TE8.bind R1 p1 fun d2 ρ2 y F2 H2 e2 R2 ry p2 => ?_
  cases hz : sem d d2 with
  | none => rw [hz] at p2; exact p2.elim
  | some z =>
    rw [hz] at p2
    exact hs F2 H2 x y d d2 z Q (rx.mono e2) ry hz fun v F' H' g q => p2 v F' H' g.ext (g.rel R2) q
theorem JE.op {op : Operator} {r : R2} {sem : Dt → Dt → Option Dt} (ho : OpR X (binaryOp op) r) (hs : OpS X.K r sem) (ha : JE X W a ma) (hb : JE X W b mb) : JE X W (.BinOp a op b pos) (mOp sem ma mb) :=
  .of (pe_op ho ha hb) fun _ _ _ _ _ _ _ R p => tOp8 hs R p
theorem JE.cmp {op : CmpOp} {r : R2} {sem : Dt → Dt → Option Dt} (ho : OpR X (compareOp op) r) (hs : OpS X.K r sem) (ha : JE X W a ma) (hb : JE X W b mb) (hm : behindInMarks op b = false) : JE X W (.Compare a [op] [b] pos) (mOp sem ma mb) :=
  .of (pe_cmpR ho ha hb hm) fun _ _ _ _ _ _ _ R p => tOp8 hs R p
/-- a comparison as a test -/
theorem JT.cmp {op : CmpOp} {r : R2} {sem : Dt → Dt → Option Dt} (ho : OpR X (compareOp op) r) (hs : OpS X.K r sem) (ha : JE X W a ma) (hb : JE X W b mb) (hm : behindInMarks op b = false) : JT X W (.Compare a [op] [b] pos) (mOp sem ma mb) := by
  refine .of (pt_cmpR ho ha hb hm) fun C α F ρ σ H Q R p => ?_
  refine TE8.bindT R p fun d ρ1 x F1 H1 e1 R1 rx p1 => ?_
  refine TE8.bindT R1 p1 fun d2 ρ2 y F2 H2 e2 R2 ry p2 => ?_
  cases hz : sem d d2 with
  | none => rw [hz] at p2; exact p2.elim
  | some z =>
    rw [hz] at p2
    refine hs F2 H2 x y d d2 z _ (rx.mono e2) ry hz fun v F' H' g q => ?_
    cases z with
    | bool k =>
      cases q
      exact ⟨k, rfl, p2 F' H' g.ext (g.rel R2)⟩
    | _ => exact p2.elim
theorem JE.un {op : UnaryOp} {r : V → Hp → VK → Prop} {sem : Dt → Option Dt} (ho : UnR X (unaryOp op) r) (hs : UnS X.K r sem) (ha : JE X W a ma) : JE X W (.UnaryOp op a pos) (mUn sem ma) := by
  refine .of (pe_un ho ha) fun C α F ρ σ H Q R p => ?_
  refine TE8.bind R p fun d ρ1 x F1 H1 e1 R1 rx p1 => ?_
  cases hz : sem d with
  | none => rw [hz] at p1; exact p1.elim
  | some z =>
    rw [hz] at p1
    exact hs F1 H1 x d z Q rx hz fun v F' H' g q => p1 v F' H' g.ext (g.rel R1) q
/-- a value that is a truth value, as a test -/
theorem JT.val (ha : JE X W a ma) (he : ∀ whole, isTrue a X.env whole = (do let v ← whole; standAt a.pos; holding [v] (truthy v)) := by intro _; rfl) : JT X W a ma := by
  refine .of (pt_val ha he) fun C α F ρ σ H Q R p => ?_
  refine ⟨C, α, F, ρ, R, ?_⟩
  cases h : ma ρ with
  | ok d ρ1 =>
    rw [h] at p
    cases d with
    | bool k =>
      intro v F' H' e' r' q
      cases q
      exact ⟨k, rfl, p F' H' e' r'⟩
    | _ => exact p.elim
  | exc x ρ1 => rw [h] at p; exact p
  | stuck => rw [h] at p; exact p
def mNot (ma : Ev → R) : Ev → R := fun ρ => (ma ρ).ite (fun ρ1 => .ok (.bool false) ρ1) (fun ρ1 => .ok (.bool true) ρ1)
def mAnd (ma mb : Ev → R) : Ev → R := fun ρ => (ma ρ).ite (fun ρ1 => mb ρ1) (fun ρ1 => .ok (.bool false) ρ1)
def mOr (ma mb : Ev → R) : Ev → R := fun ρ => (ma ρ).ite (fun ρ1 => .ok (.bool true) ρ1) (fun ρ1 => mb ρ1)
def mIf (mc ma mb : Ev → R) : Ev → R := fun ρ => (mc ρ).ite ma mb
theorem JT.not (ha : JT X W a ma) : JT X W (.UnaryOp .Not a pos) (mNot ma) := by
  refine .of (pt_not ha) fun C α F ρ σ H Q R p => ?_
  refine TT8.bindT R p fun b ρ1 F1 H1 e1 R1 p1 => ?_
  cases b with
  | true => exact p1 F1 H1 (.refl _ _) R1
  | false => exact p1 F1 H1 (.refl _ _) R1
theorem JW.pt (h : JW X W a ma) : JT X W a ma := PW.pt h
theorem JW.and1 (ha : JT X W a ma) : JW X W (.BoolOp .And [a] pos) ma := pw_and1 ha
theorem JW.or1 (ha : JT X W a ma) : JW X W (.BoolOp .Or [a] pos) ma := pw_or1 ha
theorem JW.and {rest : List Expr} (ha : JT X W a ma) (hb : JW X W (.BoolOp .And (b :: rest) pos) mb) : JW X W (.BoolOp .And (a :: b :: rest) pos) (mAnd ma mb) := by
  refine .of (pw_and ha hb) fun C α F ρ σ H Q R p => ?_
  refine TT8.bindT R p fun k ρ1 F1 H1 e1 R1 p1 => ?_
  cases k with
  | true => exact ⟨C, α, F1, ρ1, R1, p1⟩
  | false => exact p1 F1 H1 (.refl _ _) R1
theorem JW.or {rest : List Expr} (ha : JT X W a ma) (hb : JW X W (.BoolOp .Or (b :: rest) pos) mb) : JW X W (.BoolOp .Or (a :: b :: rest) pos) (mOr ma mb) := by
  refine .of (pw_or ha hb) fun C α F ρ σ H Q R p => ?_
  refine TT8.bindT R p fun k ρ1 F1 H1 e1 R1 p1 => ?_
  cases k with
  | true => exact p1 F1 H1 (.refl _ _) R1
  | false => exact ⟨C, α, F1, ρ1, R1, p1⟩
theorem JE.not (ha : JE X W a ma) : JE X W (.UnaryOp .Not a pos) (mNot ma) := by
  refine .of (pe_not ha) fun C α F ρ σ H Q R p => ?_
  refine TE8.bind R p fun d ρ1 x F1 H1 e1 R1 rx p1 => ?_
  cases d with
  | bool k =>
    cases rx
    cases k with
    | true => exact ⟨_, rfl, p1 (.bl false) F1 H1 (.refl _ _) R1 (.bl false)⟩
    | false => exact ⟨_, rfl, p1 (.bl true) F1 H1 (.refl _ _) R1 (.bl true)⟩
  | _ => exact p1.elim
theorem JE.one {op : BoolOp} (h : JE X W a ma) : JE X W (.BoolOp op [a] pos) ma := pe_one h
theorem JE.and {rest : List Expr} (ha : JE X W a ma) (hb : JE X W (.BoolOp .And (b :: rest) pos) mb) : JE X W (.BoolOp .And (a :: b :: rest) pos) (mAnd ma mb) := by
  refine .of (pe_and ha hb) fun C α F ρ σ H Q R p => ?_
  refine TE8.bind R p fun d ρ1 x F1 H1 e1 R1 rx p1 => ?_
  cases d with
  | bool k =>
    cases rx
    cases k with
    | true => exact ⟨_, rfl, C, α, F1, ρ1, R1, p1⟩
    | false => exact ⟨_, rfl, p1 (.bl false) F1 H1 (.refl _ _) R1 (.bl false)⟩
  | _ => exact p1.elim
theorem JE.or {rest : List Expr} (ha : JE X W a ma) (hb : JE X W (.BoolOp .Or (b :: rest) pos) mb) : JE X W (.BoolOp .Or (a :: b :: rest) pos) (mOr ma mb) := by
  refine .of (pe_or ha hb) fun C α F ρ σ H Q R p => ?_
  refine TE8.bind R p fun d ρ1 x F1 H1 e1 R1 rx p1 => ?_
  cases d with
  | bool k =>
    cases rx
    cases k with
    | true => exact ⟨_, rfl, p1 (.bl true) F1 H1 (.refl _ _) R1 (.bl true)⟩
    | false => exact ⟨_, rfl, C, α, F1, ρ1, R1, p1⟩
  | _ => exact p1.elim
theorem JE.ifE {c : Expr} {mc : Ev → R} (hc : JT X W c mc) (ha : JE X W a ma) (hb : JE X W b mb) : JE X W (.IfExp c a b pos) (mIf mc ma mb) := by
  refine .of (pe_ifExp hc ha hb) fun C α F ρ σ H Q R p => ?_
  refine TT8.bindE R p fun k ρ1 F1 H1 e1 R1 p1 => ?_
  cases k with
  | true => exact ⟨C, α, F1, ρ1, R1, p1⟩
  | false => exact ⟨C, α, F1, ρ1, R1, p1⟩

/-! ### constants, names -/
theorem JE.int {i j} : JE X W (.Constant (.int i) j pos) (mC (.int i)) := .of pe_int fun _ _ F _ _ H _ R p => p _ F H (.refl _ _) R (.int i)
theorem JE.bl {i j} : JE X W (.Constant (.bool i) j pos) (mC (.bool i)) := .of pe_bl fun _ _ F _ _ H _ R p => p _ F H (.refl _ _) R (.bl i)
theorem JE.non {j} : JE X W (.Constant .none j pos) (mC .none) := .of pe_non fun _ _ F _ _ H _ R p => p _ F H (.refl _ _) R .non
theorem JE.str {x j} : JE X W (.Constant (.str x) j pos) (mC (.str x)) := .of pe_str fun _ _ F _ _ H _ R p => p _ F H (.refl _ _) R (.str x)
/-- a name: a datum; a list of its own is frozen from then on -/
def mVar (i : Nat) : Ev → R := fun ρ => match ρ[i]? with
  | some (.val d) => .ok d ρ
  | some (.own xs) => .ok (.list xs) (ρ.set i (.val (.list xs)))
  | _ => .stuck
theorem JE.var (i : Nat) {x : Str} (hN : X.N[i]? = some x := by rfl) (hv : Vis X.env.scope x := by first | exact Or.inl rfl | exact Or.inr (Or.inl rfl) | exact Or.inr (Or.inr rfl)) (hd : (x == ("__debug__" : Str)) = false := by decide)
    (hcd : (x == ("__classdict__" : Str)) = false := by decide) : JE X W (.Name x pos) (mVar i) := by
  refine .of (pe_var hN hv hd hcd) fun C α F ρ σ H Q R p => ?_
  unfold mVar at p
  cases h : ρ[i]? with
  | none => rw [h] at p; exact p.elim
  | some s =>
    rw [h] at p
    cases s with
    | val d =>
      obtain ⟨o, h1, v, rfl, h2⟩ := R.slot i _ h
      exact ⟨v, h1, p v F H (.refl _ _) R h2⟩
    | own xs =>
      obtain ⟨R', r, h1⟩ := R.frz h
      exact ⟨_, h1, p _ _ H ext_ins R' r⟩
    | _ => exact p.elim
/-- a module's constant -/
theorem JE.glob {x : Str} {v : V} {u : Value} {d : Dt} (hd : ∀ F H, Rp X.K F H v d) (hm : X.mg x = some u) (r : RelV v u) (hg : Gl X x := by rfl) (hdb : (x == ("__debug__" : Str)) = false := by decide) : JE X W (.Name x pos) (mC d) :=
  .of (pe_glob hg hm r hdb) fun _ _ F _ _ H _ R p => p _ F H (.refl _ _) R (hd F H)

/-! ### argument lists, displays -/
def mNil : Ev → RA := fun ρ => .ok [] ρ
def mCons (ma : Ev → R) (mr : Ev → RA) : Ev → RA := fun ρ => (ma ρ).cons mr
variable {mr : Ev → RA}
theorem JA.nil : JA X W [] mNil := .of pa_nil fun _ _ F _ _ H _ Rr p => p _ F H rfl (.refl _ _) Rr .nil
theorem JA.cons (ha : JE X W a ma) (hr : JA X W es mr) (hs : starEach (a :: es) X.env = (false, eval a X.env) :: starEach es X.env := by rfl) : JA X W (a :: es) (mCons ma mr) := by
  refine .of (pa_cons ha hr hs) fun C α F ρ σ H Q Rr p => ?_
  unfold mCons R.cons at p
  refine ⟨C, α, F, ρ, Rr, ?_⟩
  cases h : ma ρ with
  | ok d ρ1 =>
    rw [h] at p
    intro v F1 H1 e1 R1 rv
    refine ⟨C, α, F1, ρ1, R1, ?_⟩
    dsimp only at p
    cases h2 : mr ρ1 with
    | ok ds ρ2 =>
      rw [h2] at p
      exact fun vs F2 H2 l e2 R2 rs => p (v :: vs) F2 H2 (congrArg (· + 1) l) (e1.trans e2) R2 (.cons (rv.mono e2) rs)
    | exc x ρ2 => rw [h2] at p; exact fun c dd F2 H2 e2 R2 q => p c dd F2 H2 (e1.trans e2) R2 q
    | stuck => rw [h2] at p; exact p
  | exc x ρ1 => rw [h] at p; exact p
  | stuck => rw [h] at p; exact p
def mTup (mr : Ev → RA) : Ev → R := fun ρ => (mr ρ).bind fun ds ρ1 => .ok (.tuple ds) ρ1
def mLst (mr : Ev → RA) : Ev → R := fun ρ => (mr ρ).bind fun ds ρ1 => .ok (.list ds) ρ1
theorem size_of {n : Nat} (h : n ≤ 10000) : n ≤ sizeLine := Nat.le_trans h (by decide)
theorem JE.tup {x1 : Nat} (h : JA X W es mr) (hz : es.length ≤ 10000 := by decide) : JE X W (.Tuple es x1 pos) (mTup mr) := by
  refine .of (pe_tup h) fun C α F ρ σ H Q Rr p => ?_
  refine TA8.bind Rr p fun ds ρ1 vs F1 H1 l e1 R1 rs p1 => ⟨l ▸ size_of hz, fun q hq => ?_⟩
  exact p1 _ F1 _ (ext_laid hq) (R1.laid hq) (.tup (.of upd_same) (rs.mono (ext_laid hq)))

/-! ### a list that is new, and nobody's yet -/
def PostL (K : PySem.W.Frag) (mg : Str → Option Value) (W : WX) (C : Ctx) (α : Nat → Addr) (F : Fz) (σ : L2.St) (H : Hp) (Q : VK) : RA → Prop
  | .ok ds ρ' => ∀ p vs F' H', Ext F H F' H' → Rel K C α F' ρ' σ H' → H' p = some (.lst vs) → RpAll K F' H' vs ds → ¬F' p → ¬C.nf p → C.keep p = none → (∀ i s, ρ'[i]? = some s → s.isMut = true → α i ≠ p) → Q (.ref p) H'
  | .exc x ρ' => ∀ cls dd F' H', Ext F H F' H' → Rel K C α F' ρ' σ H' → XRel K mg F' H' cls dd x → W cls dd σ H'
  | .stuck => False
def TL8 (K : PySem.W.Frag) (mg : Str → Option Value) (W : WX) (m : Ev → RA) : TE := fun σ H Q => ∃ C α F ρ, Rel K C α F ρ σ H ∧ PostL K mg W C α F σ H Q (m ρ)
def JL (X : Cx) (W : WX) (e : Expr) (m : Ev → RA) : Prop := PE X e (TL8 X.K X.mg W m)
theorem JL.of {e : Expr} {t : TE} (h : PE X e t) (hr : ∀ C α F ρ σ H Q, Rel X.K C α F ρ σ H → PostL X.K X.mg W C α F σ H Q (mr ρ) → t σ H Q) : JL X W e mr :=
  ⟨fun pins s σ H Q I ⟨C, α, F, ρ, r, p⟩ => h.run pins s σ H Q I (hr C α F ρ σ H Q r p)⟩
/-- laid just now: nobody's -/
theorem fresh_own {K : PySem.W.Frag} {C : Ctx} {α : Nat → Addr} {F : Fz} {ρ : Ev} {σ : L2.St} {H : Hp} {p : Addr} (Rr : Rel K C α F ρ σ H) (hp : H p = none) : ¬F p ∧ ¬C.nf p ∧ C.keep p = none ∧ (∀ i s, ρ[i]? = some s → s.isMut = true → α i ≠ p) := by
  refine ⟨fun z => Rr.fd p z hp, fun z => Rr.nd p z hp, ?_, fun i s h m z => ?_⟩
  · cases q : C.keep p with
    | none => rfl
    | some o => have := Rr.kp p o q; rw [hp] at this; cases this
  · obtain ⟨o, _, h2⟩ := Rr.slot i s h
    obtain ⟨u, q, _⟩ := h2.there m
    rw [z, hp] at q; cases q
theorem JL.disp (h : JA X W es mr) (hz : es.length ≤ 10000 := by decide) : JL X W (.List es pos) mr := by
  refine .of (pe_lst h) fun C α F ρ σ H Q Rr p => ?_
  refine ⟨C, α, F, ρ, Rr, ?_⟩
  cases h : mr ρ with
  | ok ds ρ1 =>
    rw [h] at p
    intro vs F1 H1 l e1 R1 rs
    refine ⟨l ▸ size_of hz, fun q hq => ?_⟩
    obtain ⟨n1, n2, n3, n4⟩ := fresh_own R1 hq
    exact p q vs F1 _ (e1.trans (ext_laid hq)) (R1.laid hq) upd_same (rs.mono (ext_laid hq)) n1 n2 n3 n4
  | exc x ρ1 => rw [h] at p; exact p
  | stuck => rw [h] at p; exact p
/-- frozen at once -/
theorem JE.ofL {e : Expr} (h : JL X W e mr) : JE X W e (mLst mr) := by
  refine .of h fun C α F ρ σ H Q Rr p => ?_
  refine ⟨C, α, F, ρ, Rr, ?_⟩
  unfold mLst at p
  cases h : mr ρ with
  | ok ds ρ1 =>
    rw [h] at p
    intro q vs F1 H1 e1 R1 hq rs n1 n2 n3 n4
    refine p (.ref q) (insF F1 q) H1 (e1.trans ext_ins) (R1.freeze (by rw [hq]; intro z; cases z) n2 n4) (.lst (.inl ⟨.inr rfl, .inl hq⟩) (rs.mono ext_ins))
  | exc x ρ1 => rw [h] at p; exact p
  | stuck => rw [h] at p; exact p
theorem JE.lst (h : JA X W es mr) (hz : es.length ≤ 10000 := by decide) : JE X W (.List es pos) (mLst mr) := .ofL (.disp h hz)

/-! ### built-in calls by name -/
theorem tCB8 {r : List V → Hp → VK → Prop} {sem : List Dt → Option Dt} (hs : CallS X.K r sem) {n : Nat} {C α F ρ σ H Q} (Rr : Rel X.K C α F ρ σ H) (p : PostE X.K X.mg W C α F σ H Q (mCall sem mr ρ)) : tCB r (TA8 X.K X.mg W n mr) σ H Q := by
  refine TA8.bind Rr p fun ds ρ1 vs F1 H1 l e1 R1 rs p1 => ?_
  cases hz : sem ds with
  | none => rw [hz] at p1; exact p1.elim
  | some z =>
    rw [hz] at p1
    exact hs F1 H1 vs ds z Q rs hz fun v F' H' g q => p1 v F' H' g.ext (g.rel R1) q
theorem JE.callB {x id : _} {r : List V → Hp → VK → Prop} {sem : List Dt → Option Dt} {p : Pos} (hc : CallR X (.builtin id) r) (hs : CallS X.K r sem) (hm : X.mg x = none) (hv : bootBuiltins x = some (.builtin id)) (ha : JA X W (a :: es) mr) (hg : Gl X x := by rfl) (hn : x ≠ "__name__" := by decide) (hdb : (x == ("__debug__" : Str)) = false := by decide)
    (he : starEach (a :: es) X.env = (false, eval a X.env) :: starEach es X.env := by rfl) (hpl : (backTo pos (starEach es X.env)).any (·.1) = false := by rfl) : JE X W (.Call (.Name x p) (a :: es) [] pos) (mCall sem mr) :=
  .of (pe_callB hc hg hm hv ha hn hdb he hpl) fun _ _ _ _ _ _ _ Rr p => tCB8 hs Rr p
theorem JE.callT {x T : _} {r : List V → Hp → VK → Prop} {sem : List Dt → Option Dt} {p : Pos} (hc : CallR X (.type T) r) (hs : CallS X.K r sem) (hm : X.mg x = none) (hv : bootBuiltins x = some (.type T)) (ha : JA X W (a :: es) mr) (hg : Gl X x := by rfl) (hn : x ≠ "__name__" := by decide) (hdb : (x == ("__debug__" : Str)) = false := by decide)
    (he : starEach (a :: es) X.env = (false, eval a X.env) :: starEach es X.env := by rfl) (hpl : (backTo pos (starEach es X.env)).any (·.1) = false := by rfl) : JE X W (.Call (.Name x p) (a :: es) [] pos) (mCall sem mr) :=
  .of (pe_callTy hc hg hm hv ha hn hdb he hpl) fun _ _ _ _ _ _ _ Rr p => tCB8 hs Rr p
end
end NS

set_option Elab.async false
set_option linter.all false
set_option autoImplicit false
set_option maxRecDepth 100000
set_option maxHeartbeats 4000000
namespace NS
open PySem PySem.Spec PyProof.Rows L2

section
variable {K : PySem.W.Frag} {r r' : R2} {sem sem' : Dt → Dt → Option Dt}
/-! ### numbers, rows -/
def addD : Dt → Dt → Option Dt
  | .int i, .int j => some (.int (i + j))
  | .tuple xs, .tuple ys => if xs.length + ys.length ≤ 10000 then some (.tuple (xs ++ ys)) else none
  | .str x, .str y => if x.length + y.length ≤ 10000 then some (.str (x ++ y)) else none
  | _, _ => none
theorem op_addS : OpS K (fun x y H Q => (∃ i j, x = .int i ∧ y = .int j ∧ Q (.int (i + j)) H) ∨ rCatA K x y H Q ∨ ∃ i j, x = .str i ∧ y = .str j ∧ i.length + j.length ≤ sizeLine ∧ Q (.str (i ++ j)) H) addD := by
  intro F H x y d e z Q rx ry hz q
  cases d with
  | int i =>
    cases e with
    | int j => cases rx; cases ry; cases hz; exact .inl ⟨i, j, rfl, rfl, q _ _ _ .refl (.int _)⟩
    | _ => cases hz
  | tuple xs =>
    cases e with
    | tuple ys =>
      have hz : (if xs.length + ys.length ≤ 10000 then some (PyData.tuple (xs ++ ys)) else none) = some z := hz
      split at hz
      · rename_i hl
        cases hz
        cases rx with
        | tup h1 r1 =>
          cases ry with
          | tup h2 r2 =>
            rename_i a us b ws
            have l1 := r1.length
            have l2 := r2.length
            refine .inr (.inl ⟨a, b, us, ws, rfl, rfl, h1, h2, by rw [l1, l2]; exact size_of hl, fun e => ?_, fun _ e => ?_, fun _ _ p hp => ?_⟩)
            · subst e; cases r1
              exact q _ _ _ .refl (.tup h2 r2)
            · subst e; cases r2
              exact q _ _ _ .refl (.tup h1 (by simpa using r1))
            · exact q _ F _ (.laid hp) (.tup (.of upd_same) ((r1.append r2).mono (ext_laid hp)))
      · cases hz
    | _ => cases hz
  | str s =>
    cases e with
    | str t =>
      have hz : (if s.length + t.length ≤ 10000 then some (PyData.str (s ++ t)) else none) = some z := hz
      split at hz
      · rename_i hl
        cases hz; cases rx; cases ry
        exact .inr (.inr ⟨s, t, rfl, rfl, size_of hl, q _ _ _ .refl (.str _)⟩)
      · cases hz
    | _ => cases hz
  | _ => cases hz
def int2 (f : Int → Int → Option Int) : Dt → Dt → Option Dt
  | .int i, .int j => (f i j).map .int
  | _, _ => none
theorem op_int2S {C : Int → Int → Prop} {g : Int → Int → Int} {f : Int → Int → Option Int} (h : ∀ i j k, f i j = some k → C i j ∧ g i j = k) : OpS K (rI C fun i j => .int (g i j)) (int2 f) := by
  intro F H x y d e z Q rx ry hz q
  cases d with
  | int i =>
    cases e with
    | int j =>
      cases rx; cases ry
      have hz : (f i j).map PyData.int = some z := hz
      cases hf : f i j with
      | none => rw [hf] at hz; cases hz
      | some k =>
        rw [hf] at hz; cases hz
        obtain ⟨c, rfl⟩ := h i j k hf
        exact ⟨i, j, rfl, rfl, c, q _ _ _ .refl (.int _)⟩
    | _ => cases hz
  | _ => cases hz
theorem op_int2S0 {g : Int → Int → Int} {f : Int → Int → Option Int} (h : ∀ i j k, f i j = some k → g i j = k) : OpS K (rI0 fun i j => .int (g i j)) (int2 f) := by
  intro F H x y d e z Q rx ry hz q
  cases d with
  | int i =>
    cases e with
    | int j =>
      cases rx; cases ry
      have hz : (f i j).map PyData.int = some z := hz
      cases hf : f i j with
      | none => rw [hf] at hz; cases hz
      | some k =>
        rw [hf] at hz; cases hz
        obtain rfl := h i j k hf
        exact ⟨i, j, rfl, rfl, q _ _ _ .refl (.int _)⟩
    | _ => cases hz
  | _ => cases hz
def subD : Dt → Dt → Option Dt := int2 fun i j => some (i - j)
theorem op_subS : OpS K (rI0 fun i j => .int (i - j)) subD := op_int2S0 fun i j k h => Option.some.inj h
def mulD : Dt → Dt → Option Dt := int2 fun i j => if (-(2 ^ 64) < j ∧ j < 2 ^ 64) then some (i * j) else none
theorem op_mulS : OpS K (rI CMul fun i j => .int (i * j)) mulD := op_int2S fun i j k h => by
  split at h
  · rename_i c; exact ⟨.inr c, Option.some.inj h⟩
  · cases h
def mulLD : Dt → Dt → Option Dt := int2 fun i j => if (-(2 ^ 64) < i ∧ i < 2 ^ 64) then some (i * j) else none
theorem op_mulLS : OpS K (rI CMul fun i j => .int (i * j)) mulLD := op_int2S fun i j k h => by
  split at h
  · rename_i c; exact ⟨.inl c, Option.some.inj h⟩
  · cases h
def modD : Dt → Dt → Option Dt := int2 fun i j => if 0 < j then some (i % j) else none
theorem op_modS : OpS K (rI (fun _ j => 0 < j) fun i j => .int (i % j)) modD := op_int2S fun i j k h => by
  split at h
  · rename_i c; exact ⟨c, Option.some.inj h⟩
  · cases h
def fdivD : Dt → Dt → Option Dt := int2 fun i j => if 0 < j ∧ j < 1073741824 then some (i / j) else none
theorem op_fdivS : OpS K (rI CDiv fun i j => .int (i / j)) fdivD := op_int2S fun i j k h => by
  split at h
  · rename_i c; exact ⟨c, Option.some.inj h⟩
  · cases h
def powD : Dt → Dt → Option Dt := int2 fun i j => if 0 ≤ j ∧ j ≤ 1000000 ∧ i.natAbs < 2 ^ 64 then some (i ^ j.toNat) else none
theorem op_powS : OpS K (rI CPow fun i j => .int (i ^ j.toNat)) powD := op_int2S fun i j k h => by
  split at h
  · rename_i c; exact ⟨c, Option.some.inj h⟩
  · cases h

/-! ### comparisons -/
def intB (g : Int → Int → Bool) : Dt → Dt → Option Dt
  | .int i, .int j => some (.bool (g i j))
  | _, _ => none
theorem op_intBS {g : Int → Int → Bool} : OpS K (rI0 fun i j => .bl (g i j)) (intB g) := by
  intro F H x y d e z Q rx ry hz q
  cases d with
  | int i =>
    cases e with
    | int j => cases rx; cases ry; cases hz; exact ⟨i, j, rfl, rfl, q _ _ _ .refl (.bl _)⟩
    | _ => cases hz
  | _ => cases hz
def ltD : Dt → Dt → Option Dt := intB fun i j => decide (i < j)
def leD : Dt → Dt → Option Dt := intB fun i j => decide (i ≤ j)
def gtD : Dt → Dt → Option Dt := intB fun i j => decide (j < i)
def geD : Dt → Dt → Option Dt := intB fun i j => decide (j ≤ i)
/-- texts -/
def strLeD : Dt → Dt → Option Dt
  | .str x, .str y => some (.bool (!decide (y.cps.toList < x.cps.toList)))
  | _, _ => none
theorem op_strLeS : OpS K (fun x y H Q => ∃ i j, x = .str i ∧ y = .str j ∧ Q (.bl (!decide (j.cps.toList < i.cps.toList))) H) strLeD := by
  intro F H x y d e z Q rx ry hz q
  cases d with
  | str i =>
    cases e with
    | str j => cases rx; cases ry; cases hz; exact ⟨i, j, rfl, rfl, q _ _ _ .refl (.bl _)⟩
    | _ => cases hz
  | _ => cases hz
end
def eqOk (d e : Dt) : Bool := d.plain && (e.plain && decide (min d.depth e.depth ≤ 60))
def eqD (d e : Dt) : Option Dt := if eqOk d e = true then some (.bool (PyData.eqv d e)) else none
def neD (d e : Dt) : Option Dt := if eqOk d e = true then some (.bool (!PyData.eqv d e)) else none
def rEqP (K : PySem.W.Frag) : R2 := fun x y H Q => ∃ d e, Dp K H x d ∧ Dp K H y e ∧ eqOk d e = true ∧ Q (.bl (PyData.eqv d e)) H
def rNeP (K : PySem.W.Frag) : R2 := fun x y H Q => ∃ d e, Dp K H x d ∧ Dp K H y e ∧ eqOk d e = true ∧ Q (.bl (!PyData.eqv d e)) H
theorem eqOk_split {d e : Dt} (h : eqOk d e = true) : d.plain = true ∧ e.plain = true ∧ min d.depth e.depth ≤ 60 := by
  unfold eqOk at h
  simp only [Bool.and_eq_true, decide_eq_true_eq] at h
  exact ⟨h.1, h.2.1, h.2.2⟩
section
variable {X : Cx}
theorem op_eqP (hu : X.A.units + 64 < cLine) : OpR X (compareOp .Eq) (rEqP X.K) := by
  intro pins s σ H x y v u Q I rx ry h
  obtain ⟨d, e, hd, he, sd, q⟩ := h
  obtain ⟨p1, p2, p3⟩ := eqOk_split sd
  obtain ⟨as, r1⟩ := Dp.reads I d x v hd rx
  obtain ⟨bs, r2⟩ := Dp.reads I e y u he ry
  exact SeqAt.eq_plain r1 r2 p1 p2 (by omega) ⟨.bl _, H, I, rfl, q⟩
theorem op_neP (hu : X.A.units + 64 < cLine) : OpR X (compareOp .NotEq) (rNeP X.K) := by
  intro pins s σ H x y v u Q I rx ry h
  obtain ⟨d, e, hd, he, sd, q⟩ := h
  obtain ⟨p1, p2, p3⟩ := eqOk_split sd
  obtain ⟨as, r1⟩ := Dp.reads I d x v hd rx
  obtain ⟨bs, r2⟩ := Dp.reads I e y u he ry
  exact SeqAt.ne_plain r1 r2 p1 p2 (by omega) ⟨.bl _, H, I, rfl, q⟩
theorem op_eqS {K : PySem.W.Frag} : OpS K (rEqP K) eqD := by
  intro F H x y d e z Q rx ry hz q
  unfold eqD at hz
  split at hz
  · rename_i c
    cases hz
    obtain ⟨p1, p2, _⟩ := eqOk_split c
    exact ⟨d, e, rx.dp p1, ry.dp p2, c, q _ _ _ .refl (.bl _)⟩
  · cases hz
theorem op_neS {K : PySem.W.Frag} : OpS K (rNeP K) neD := by
  intro F H x y d e z Q rx ry hz q
  unfold neD at hz
  split at hz
  · rename_i c
    cases hz
    obtain ⟨p1, p2, _⟩ := eqOk_split c
    exact ⟨d, e, rx.dp p1, ry.dp p2, c, q _ _ _ .refl (.bl _)⟩
  · cases hz
/-- less than, of data that are alike -/
def isSeqD : Dt → Bool
  | .str _ => true
  | .tuple _ => true
  | .list _ => true
  | .int _ => true
  | _ => false
def ltOk (d e : Dt) : Bool := PySem.W.alike d e && (d.plain && (e.plain && (decide (min d.depth e.depth ≤ 60) && isSeqD d)))
def ltAD (d e : Dt) : Option Dt := if ltOk d e = true then some (.bool (PySem.W.dataLt d e)) else none
def rLtP (K : PySem.W.Frag) : R2 := fun x y H Q => ∃ d e, Dp K H x d ∧ Dp K H y e ∧ ltOk d e = true ∧ Q (.bl (PySem.W.dataLt d e)) H
theorem op_ltP (hu : X.A.units + 64 < cLine) : OpR X (compareOp .Lt) (rLtP X.K) := by
  intro pins s σ H x y v u Q I rx ry h
  obtain ⟨d, e, hd, he, sd, q⟩ := h
  unfold ltOk at sd
  simp only [Bool.and_eq_true, decide_eq_true_eq] at sd
  obtain ⟨p1, p2, p3, p4, p5⟩ := sd
  obtain ⟨as, r1⟩ := Dp.reads I d x v hd rx
  obtain ⟨bs, r2⟩ := Dp.reads I e y u he ry
  exact PySem.W.rcLt_alike d e X.A s v u as bs r1 r2 p1 (fun z => by subst z; cases p5) (by omega) _ _ _ _ ⟨.bl _, H, I, rfl, q⟩
theorem op_ltPS {K : PySem.W.Frag} : OpS K (rLtP K) ltAD := by
  intro F H x y d e z Q rx ry hz q
  unfold ltAD at hz
  split at hz
  · rename_i c
    cases hz
    have c' := c
    unfold ltOk at c'
    simp only [Bool.and_eq_true, decide_eq_true_eq] at c'
    exact ⟨d, e, rx.dp c'.2.1, ry.dp c'.2.2.1, c, q _ _ _ .refl (.bl _)⟩
  · cases hz
/-! ### in, not in -/
def inOk (d e : Dt) : Bool := d.plain && (e.plain && decide (min d.depth e.depth ≤ 60))
def itemsD : Dt → Option (List Dt)
  | .list xs => some xs
  | .tuple xs => some xs
  | _ => none
def inD (d e : Dt) : Option Dt := if inOk d e = true then (itemsD e).map fun xs => .bool (xs.any fun y => PyData.eqv y d) else none
def notInD (d e : Dt) : Option Dt := if inOk d e = true then (itemsD e).map fun xs => .bool (!xs.any fun y => PyData.eqv y d) else none
def rInP (K : PySem.W.Frag) : R2 := fun x y H Q => ∃ d e xs, Dp K H x d ∧ Dp K H y e ∧ inOk d e = true ∧ itemsD e = some xs ∧ Q (.bl (xs.any fun y => PyData.eqv y d)) H
def rNotInP (K : PySem.W.Frag) : R2 := fun x y H Q => ∃ d e xs, Dp K H x d ∧ Dp K H y e ∧ inOk d e = true ∧ itemsD e = some xs ∧ Q (.bl (!xs.any fun y => PyData.eqv y d)) H
theorem depth_items {e : Dt} {xs : List Dt} (h : itemsD e = some xs) (p : e.plain = true) : PyData.plainAll xs = true ∧ PyData.depthAll xs ≤ e.depth := by
  cases e with
  | list ys => cases h; exact ⟨by simpa [PyData.plain] using p, by simp [PyData.depth]⟩
  | tuple ys => cases h; exact ⟨by simpa [PyData.plain] using p, by simp [PyData.depth]⟩
  | _ => cases h
theorem op_inP (hu : X.A.units + 64 < cLine) : OpR X (compareOp .In) (rInP X.K) := by
  intro pins s σ H x y v u Q I rx ry h
  obtain ⟨d, e, xs, hd, he, sd, hx, q⟩ := h
  obtain ⟨p1, p2, p3⟩ := eqOk_split sd
  obtain ⟨as, r1⟩ := Dp.reads I d x v hd rx
  obtain ⟨bs, r2⟩ := Dp.reads I e y u he ry
  obtain ⟨w1, w2⟩ := depth_items hx p2
  cases e with
  | list ys => cases hx; exact SeqAt.in_list_data r2 r1 w1 p1 (by omega) ⟨.bl _, H, I, rfl, q⟩
  | tuple ys => cases hx; exact SeqAt.in_tuple_data r2 r1 w1 p1 (by omega) ⟨.bl _, H, I, rfl, q⟩
  | _ => cases hx
theorem op_notInP (hu : X.A.units + 64 < cLine) : OpR X (compareOp .NotIn) (rNotInP X.K) := by
  intro pins s σ H x y v u Q I rx ry h
  obtain ⟨d, e, xs, hd, he, sd, hx, q⟩ := h
  obtain ⟨p1, p2, p3⟩ := eqOk_split sd
  obtain ⟨as, r1⟩ := Dp.reads I d x v hd rx
  obtain ⟨bs, r2⟩ := Dp.reads I e y u he ry
  obtain ⟨w1, w2⟩ := depth_items hx p2
  cases e with
  | list ys => cases hx; exact SeqAt.notIn_list_data r2 r1 w1 p1 (by omega) ⟨.bl _, H, I, rfl, q⟩
  | tuple ys => cases hx; exact SeqAt.notIn_tuple_data r2 r1 w1 p1 (by omega) ⟨.bl _, H, I, rfl, q⟩
  | _ => cases hx
theorem op_inS {K : PySem.W.Frag} : OpS K (rInP K) inD := by
  intro F H x y d e z Q rx ry hz q
  unfold inD at hz
  split at hz
  · rename_i c
    obtain ⟨p1, p2, _⟩ := eqOk_split c
    cases hx : itemsD e with
    | none => rw [hx] at hz; cases hz
    | some xs => rw [hx] at hz; cases hz; exact ⟨d, e, xs, rx.dp p1, ry.dp p2, c, hx, q _ _ _ .refl (.bl _)⟩
  · cases hz
theorem op_notInS {K : PySem.W.Frag} : OpS K (rNotInP K) notInD := by
  intro F H x y d e z Q rx ry hz q
  unfold notInD at hz
  split at hz
  · rename_i c
    obtain ⟨p1, p2, _⟩ := eqOk_split c
    cases hx : itemsD e with
    | none => rw [hx] at hz; cases hz
    | some xs => rw [hx] at hz; cases hz; exact ⟨d, e, xs, rx.dp p1, ry.dp p2, c, hx, q _ _ _ .refl (.bl _)⟩
  · cases hz
/-! ### is -/
def isNoneD (d _e : Dt) : Option Dt := some (.bool (match d with | .none => true | _ => false))
def isNotNoneD (d _e : Dt) : Option Dt := some (.bool (match d with | .none => false | _ => true))
def isBD : Dt → Dt → Option Dt
  | .bool a, .bool b => some (.bool (decide (a = b)))
  | _, _ => none
def isNotBD : Dt → Dt → Option Dt
  | .bool a, .bool b => some (.bool (!decide (a = b)))
  | _, _ => none
theorem op_isBS {K : PySem.W.Frag} : OpS K rIsB isBD := by
  intro F H x y d e z Q rx ry hz q
  cases d with
  | bool a =>
    cases e with
    | bool b => cases rx; cases ry; cases hz; exact ⟨a, b, rfl, rfl, q _ _ _ .refl (.bl _)⟩
    | _ => cases hz
  | _ => cases hz
theorem op_isNotBS {K : PySem.W.Frag} : OpS K rNotB isNotBD := by
  intro F H x y d e z Q rx ry hz q
  cases d with
  | bool a =>
    cases e with
    | bool b => cases rx; cases ry; cases hz; exact ⟨a, b, rfl, rfl, q _ _ _ .refl (.bl _)⟩
    | _ => cases hz
  | _ => cases hz
def isN1 (d e : Dt) : Option Dt := match e with | .none => isNoneD d e | _ => none
def isNotN1 (d e : Dt) : Option Dt := match e with | .none => isNotNoneD d e | _ => none
theorem op_isNS {K : PySem.W.Frag} : OpS K (fun x y H Q => y = .non ∧ Q (.bl (decide (x = .non))) H) isN1 := by
  intro F H x y d e z Q rx ry hz q
  cases e with
  | none =>
    cases ry
    cases hz
    refine ⟨rfl, ?_⟩
    cases rx <;> exact q _ _ _ .refl (.bl _)
  | _ => cases hz
theorem op_isNotNS {K : PySem.W.Frag} : OpS K (fun x y H Q => y = .non ∧ Q (.bl (!decide (x = .non))) H) isNotN1 := by
  intro F H x y d e z Q rx ry hz q
  cases e with
  | none =>
    cases ry
    cases hz
    refine ⟨rfl, ?_⟩
    cases rx <;> exact q _ _ _ .refl (.bl _)
  | _ => cases hz
/-! ### calls -/
def lenD : List Dt → Option Dt
  | [.list xs] => some (.int xs.length)
  | [.tuple xs] => some (.int xs.length)
  | _ => none
/-- of a text below the size line -/
def lenTD : List Dt → Option Dt
  | [.str x] => if x.length ≤ 10000 then some (.int x.length) else none
  | ds => lenD ds
theorem one_of {K : PySem.W.Frag} {F : Fz} {H : Hp} {xs : List V} {d : Dt} (h : RpAll K F H xs [d]) : ∃ x, xs = [x] ∧ Rp K F H x d := by
  cases h with
  | cons r t => cases t; exact ⟨_, rfl, r⟩
theorem two_of {K : PySem.W.Frag} {F : Fz} {H : Hp} {xs : List V} {d e : Dt} (h : RpAll K F H xs [d, e]) : ∃ x y, xs = [x, y] ∧ Rp K F H x d ∧ Rp K F H y e := by
  cases h with
  | cons r t =>
    obtain ⟨y, rfl, r2⟩ := one_of t
    exact ⟨_, _, rfl, r, r2⟩
theorem call_lenS {K : PySem.W.Frag} : CallS K (fun xs H Q => ∃ x n, xs = [x] ∧ LenV K x H n ∧ Q (.int n) H) lenTD := by
  intro F H xs ds z Q rs hz q
  have key : ∀ {d : Dt} {n : Nat}, ds = [d] → z = .int n → (∀ x, Rp K F H x d → LenV K x H n) → ∃ x n, xs = [x] ∧ LenV K x H n ∧ Q (.int n) H := fun {d n} e1 e2 k => by
    subst e1 e2
    obtain ⟨x, rfl, r⟩ := one_of rs
    exact ⟨x, n, rfl, k x r, q _ _ _ .refl (.int _)⟩
  cases ds with
  | nil => cases hz
  | cons d t =>
    cases t with
    | cons d2 t2 => cases d <;> cases hz
    | nil =>
      cases d with
      | list xs => cases hz; exact key rfl rfl fun x r => by cases r with | lst h r => exact .inl ⟨_, h.sq, r.length.symm⟩
      | tuple xs => cases hz; exact key rfl rfl fun x r => by cases r with | tup h r => exact .inr ⟨_, h, r.length.symm⟩
      | str x =>
        have hz : (if x.length ≤ 10000 then some (PyData.int x.length) else none) = some z := hz
        split at hz
        · rename_i c; cases hz; exact key rfl rfl fun v r => by cases r; exact ⟨size_of c, rfl⟩
        · cases hz
      | _ => cases hz
def tyD : Dt → Option String
  | .none => some "NoneType"
  | .bool _ => some "bool"
  | .int _ => some "int"
  | .str _ => some "str"
  | .list _ => some "list"
  | .tuple _ => some "tuple"
  | .dict _ => none
theorem tyD_ok {K : PySem.W.Frag} {F : Fz} {H : Hp} {x : V} {d : Dt} {n : String} (r : Rp K F H x d) (h : tyD d = some n) : TyX K H x (.type n) := by
  cases r with
  | non => cases h; exact .base .non
  | bl b => cases h; exact .base (.bl b)
  | int b => cases h; exact .base (.int b)
  | str b => cases h; exact .base (.str b)
  | lst k r =>
    cases h
    rcases k with ⟨_, k | ⟨o, k⟩⟩ | ⟨o, its, n, k, c, _⟩
    · exact .base (.lst k)
    · exact .base (.frz k)
    · exact .kList k c
  | tup k r =>
    cases h
    rcases k with (k | ⟨o, k⟩) | ⟨o, its, n, k, c, _⟩
    · exact .base (.tup k)
    · exact .fTuple k
    · exact .kTuple k c
  | dct f k r => cases h
end
def isaT (n T : String) : Bool := n == T || (n == "bool" && T == "int")
def isiD (T : String) (d : Dt) : Option Dt := (tyD d).map fun n => .bool (isaT n T)
def KitT (T : String) : Prop := ∀ n ∈ ["NoneType", "bool", "int", "str", "list", "tuple"], kitB n T = some (isaT n T)
theorem kitT_str : KitT "str" := by unfold KitT; decide +kernel
theorem kitT_tuple : KitT "tuple" := by unfold KitT; decide +kernel
theorem kitT_int : KitT "int" := by unfold KitT; decide +kernel
theorem kitT_bool : KitT "bool" := by unfold KitT; decide +kernel
theorem kitT_list : KitT "list" := by unfold KitT; decide +kernel
theorem tyD_six {d : Dt} {n : String} (h : tyD d = some n) : n ∈ ["NoneType", "bool", "int", "str", "list", "tuple"] := by
  cases d <;> cases h <;> simp
section
variable {X : Cx} {W : WX} {a b : Expr} {es : List Expr} {ma mb : Ev → R} {mr : Ev → RA} {pos : Pos}
theorem JE.isinst {T : String} {x : Str} {p p2 : Pos} (hk : KitT T) (hm : X.mg "isinstance" = none) (hmT : X.mg x = none) (hvT : bootBuiltins x = some (.type T)) (ha : JE X W a ma) (hg : Gl X "isinstance" := by rfl) (hgT : Gl X x := by rfl) (hnT : x ≠ "__name__" := by decide) (hdT : (x == ("__debug__" : Str)) = false := by decide)
    (hs1 : starEach [a, .Name x p2] X.env = (false, eval a X.env) :: starEach [.Name x p2] X.env := by rfl) (hs2 : starEach [.Name x p2] X.env = (false, eval (.Name x p2) X.env) :: starEach [] X.env := by rfl) (hpl : (backTo pos (starEach [.Name x p2] X.env)).any (·.1) = false := by rfl) :
    JE X W (.Call (.Name "isinstance" p) [a, .Name x p2] [] pos) (mUn (isiD T) ma) := by
  refine .of (pe_callB (id := "isinstance") call_isi hg hm (by decide +kernel) (pa_cons ha (pa_cons (pe_bltn (v := .ty T) hgT hmT hvT rfl hnT hdT) pa_nil hs2) hs1) (by decide) (by decide) hs1 hpl) fun C α F ρ σ H Q Rr p => ?_
  refine TE8.bind Rr p fun d ρ1 v F1 H1 e1 R1 rv p1 => ?_
  unfold isiD at p1
  cases ht : tyD d with
  | none => rw [ht] at p1; exact p1.elim
  | some n =>
    rw [ht] at p1
    exact ⟨v, .ty T, .type n, .type T, isaT n T, rfl, .ty T, tyD_ok rv ht, kit_ty (hk n (tyD_six ht)), p1 _ _ _ (.refl _ _) R1 (.bl _)⟩

/-! ### all, any, tuple, list -/
def boolsD : List Dt → Option (List Bool)
  | [] => some []
  | .bool b :: ds => (boolsD ds).map (b :: ·)
  | _ => none
def allD : List Dt → Option Dt
  | [.list xs] => (boolsD xs).map fun bs => .bool (bs.all id)
  | _ => none
def anyD : List Dt → Option Dt
  | [.list xs] => (boolsD xs).map fun bs => .bool (bs.any id)
  | _ => none
theorem bools_of {K : PySem.W.Frag} {F : Fz} {H : Hp} : ∀ {ds : List Dt} {vs : List V} {bs : List Bool}, RpAll K F H vs ds → boolsD ds = some bs → vs = bs.map V.bl
  | [], _, _, .nil, h => by cases h; rfl
  | d :: ds, _, bs, .cons r t, h => by
    cases d with
    | bool b =>
      have h : (boolsD ds).map (b :: ·) = some bs := h
      cases hb : boolsD ds with
      | none => rw [hb] at h; cases h
      | some cs =>
        rw [hb] at h; cases h
        cases r
        rw [bools_of t hb]
        rfl
    | _ => cases h
theorem allS {K : PySem.W.Frag} : CallS K (rAll K) allD := by
  intro F H xs ds z Q rs hz q
  cases ds with
  | nil => cases hz
  | cons d t =>
    cases t with
    | cons d2 t2 => cases d <;> cases hz
    | nil =>
      cases d with
      | list ys =>
        have hz : (boolsD ys).map (fun bs => PyData.bool (bs.all id)) = some z := hz
        cases hb : boolsD ys with
        | none => rw [hb] at hz; cases hz
        | some bs =>
          rw [hb] at hz; cases hz
          obtain ⟨x, rfl, r⟩ := one_of rs
          cases r with
          | lst h r => exact ⟨_, bs, rfl, by rw [← bools_of r hb]; exact h.sq, q _ _ _ .refl (.bl _)⟩
      | _ => cases hz
theorem anyS {K : PySem.W.Frag} : CallS K (rAny K) anyD := by
  intro F H xs ds z Q rs hz q
  cases ds with
  | nil => cases hz
  | cons d t =>
    cases t with
    | cons d2 t2 => cases d <;> cases hz
    | nil =>
      cases d with
      | list ys =>
        have hz : (boolsD ys).map (fun bs => PyData.bool (bs.any id)) = some z := hz
        cases hb : boolsD ys with
        | none => rw [hb] at hz; cases hz
        | some bs =>
          rw [hb] at hz; cases hz
          obtain ⟨x, rfl, r⟩ := one_of rs
          cases r with
          | lst h r => exact ⟨_, bs, rfl, by rw [← bools_of r hb]; exact h.sq, q _ _ _ .refl (.bl _)⟩
      | _ => cases hz
def tupleD : List Dt → Option Dt
  | [.list xs] => some (.tuple xs)
  | [.tuple xs] => some (.tuple xs)
  | _ => none
theorem tupleS {K : PySem.W.Frag} : CallS K (fun xs H Q => ∃ p ys, xs = [.ref p] ∧ ((SqL K H p ys ∧ ∀ l, H l = none → Q (.ref l) (upd H l (.tup ys))) ∨ (SqT K H p ys ∧ Q (.ref p) H))) tupleD := by
  intro F H xs ds z Q rs hz q
  cases ds with
  | nil => cases hz
  | cons d t =>
    cases t with
    | cons d2 t2 => cases d <;> cases hz
    | nil =>
      cases d with
      | list ys =>
        cases hz
        obtain ⟨x, rfl, r⟩ := one_of rs
        cases r with
        | lst h r => exact ⟨_, _, rfl, .inl ⟨h.sq, fun l hl => q _ F _ (.laid hl) (.tup (.of upd_same) (r.mono (ext_laid hl)))⟩⟩
      | tuple ys =>
        cases hz
        obtain ⟨x, rfl, r⟩ := one_of rs
        cases r with
        | tup h r => exact ⟨_, _, rfl, .inr ⟨h, q _ F _ .refl (.tup h r)⟩⟩
      | _ => cases hz
/-- list(x), new -/
def mListOf (ma : Ev → R) : Ev → RA := fun ρ => match ma ρ with
  | .ok d ρ1 => match itemsD d with
    | some xs => .ok xs ρ1
    | none => .stuck
  | .exc x ρ1 => .exc x ρ1
  | .stuck => .stuck
theorem JL.list {p : Pos} (hm : X.mg "list" = none) (ha : JE X W a ma) (hg : Gl X "list" := by rfl) (hs : starEach [a] X.env = (false, eval a X.env) :: starEach [] X.env := by rfl) : JL X W (.Call (.Name "list" p) [a] [] pos) (mListOf ma) := by
  refine .of (pe_callTy (T := "list") call_list_of hg hm (by decide +kernel) (pa_cons ha pa_nil hs) (by decide) (by decide) hs rfl) fun C α F ρ σ H Q Rr p => ?_
  refine ⟨C, α, F, ρ, Rr, ?_⟩
  unfold mListOf at p
  cases h : ma ρ with
  | ok d ρ1 =>
    rw [h] at p
    intro v F1 H1 e1 R1 rv
    dsimp only at p
    cases hx : itemsD d with
    | none => rw [hx] at p; exact p.elim
    | some xs =>
      rw [hx] at p
      have go : ∀ {l : Addr} {ys : List V}, RpAll X.K F1 H1 ys xs → H1 l = none → Q (.ref l) (upd H1 l (.lst ys)) := fun {l ys} r hl => by
        obtain ⟨n1, n2, n3, n4⟩ := fresh_own R1 hl
        exact p l ys F1 _ (e1.trans (ext_laid hl)) (R1.laid hl) upd_same (r.mono (ext_laid hl)) n1 n2 n3 n4
      cases d with
      | list zs => cases hx; cases rv with | lst h r => exact ⟨_, _, rfl, .inl h.sq, fun l hl => go r hl⟩
      | tuple zs => cases hx; cases rv with | tup h r => exact ⟨_, _, rfl, .inr h, fun l hl => go r hl⟩
      | _ => cases hx
  | exc x ρ1 => rw [h] at p; exact p
  | stuck => rw [h] at p; exact p

/-! ### places, cuts -/
def ixD (d e : Dt) : Option Dt :=
  match d, e with
  | .list xs, .int i => atI xs i
  | .tuple xs, .int i => atI xs i
  | .str x, .int i => if x.length ≤ 10000 then (atI x.cps.toList i).map fun c => .str ⟨#[c]⟩ else none
  | _, _ => none
theorem atI_rp {K : PySem.W.Frag} {F : Fz} {H : Hp} {vs : List V} {ds : List Dt} {i : Int} {d : Dt} (r : RpAll K F H vs ds) (h : atI ds i = some d) : ∃ v, atI vs i = some v ∧ Rp K F H v d := by
  unfold atI at h ⊢
  rw [r.length]
  cases e : ixN ds.length i with
  | none => rw [e] at h; cases h
  | some j =>
    rw [e] at h
    exact r.get h
theorem op_ixS {K : PySem.W.Frag} : OpS K (rIx K) ixD := by
  intro F H x y d e z Q rx ry hz q
  cases e with
  | int i =>
    cases ry
    cases d with
    | list xs =>
      cases rx with
      | lst h r => obtain ⟨v, h1, h2⟩ := atI_rp r hz; exact .inl ⟨_, _, i, v, rfl, rfl, h.sq, h1, q _ _ _ .refl h2⟩
    | tuple xs =>
      cases rx with
      | tup h r => obtain ⟨v, h1, h2⟩ := atI_rp r hz; exact .inr (.inl ⟨_, _, i, v, rfl, rfl, h, h1, q _ _ _ .refl h2⟩)
    | str x =>
      have hz : (if x.length ≤ 10000 then (atI x.cps.toList i).map fun c => PyData.str ⟨#[c]⟩ else none) = some z := hz
      split at hz
      · rename_i c
        cases hc : atI x.cps.toList i with
        | none => rw [hc] at hz; cases hz
        | some k => rw [hc] at hz; cases hz; cases rx; exact .inr (.inr ⟨x, i, k, rfl, rfl, size_of c, hc, q _ _ _ .refl (.str _)⟩)
      · cases hz
    | _ => cases hz
  | _ => cases d <;> cases hz
theorem JE.ix (ha : JE X W a ma) (hb : JE X W b mb) (hs : PlainIx b := by exact fun _ _ => rfl) : JE X W (.Subscript a b pos) (mOp ixD ma mb) :=
  .of (pe_ix ix_seq ha hb hs) fun _ _ _ _ _ _ _ Rr p => tOp8 op_ixS Rr p
/-- a part of a slice -/
def RO8 (K : PySem.W.Frag) (mg : Str → Option Value) (W : WX) (m : Ev → R) : TO := fun σ H Q => ∃ C α F ρ, Rel K C α F ρ σ H ∧ (match m ρ with
  | .ok (.int i) ρ' => ∀ F' H', Ext F H F' H' → Rel K C α F' ρ' σ H' → Q (some i) H'
  | .ok .none ρ' => ∀ F' H', Ext F H F' H' → Rel K C α F' ρ' σ H' → Q none H'
  | .exc x ρ' => ∀ cls dd F' H', Ext F H F' H' → Rel K C α F' ρ' σ H' → XRel K mg F' H' cls dd x → W cls dd σ H'
  | _ => False)
def JO (X : Cx) (W : WX) (e : Option Expr) (m : Ev → R) : Prop := PO X e (RO8 X.K X.mg W m)
theorem PO.weak {X : Cx} {e : Option Expr} {t t' : TO} (h : PO X e t) (k : ∀ σ H Q, t' σ H Q → t σ H Q) : PO X e t' :=
  ⟨fun pins s σ H Q I q => h.run pins s σ H Q I (k _ _ _ q)⟩
theorem JO.no : JO X W none (mC .none) := PO.weak po_none fun σ H Q ⟨C, α, F, ρ, Rr, p⟩ => p F H (.refl _ _) Rr
def mPart (ma : Ev → R) : Ev → R := fun ρ => (ma ρ).bind fun d ρ1 => match d with
  | .int i => .ok (.int i) ρ1
  | _ => .stuck
theorem JO.at (ha : JE X W a ma) : JO X W (some a) (mPart ma) := by
  refine PO.weak (po_some ha) fun σ H Q ⟨C, α, F, ρ, Rr, p⟩ => ?_
  refine ⟨C, α, F, ρ, Rr, ?_⟩
  unfold mPart at p
  cases h : ma ρ with
  | ok d ρ1 =>
    rw [h] at p
    intro v F1 H1 e1 R1 rv
    cases d with
    | int i => cases rv; exact ⟨i, rfl, p F1 H1 e1 R1⟩
    | _ => exact p.elim
  | exc x ρ1 => rw [h] at p; exact p
  | stuck => rw [h] at p; exact p
def partD : Dt → Option (Option Int)
  | .int i => some (some i)
  | .none => some none
  | _ => none
def R.part (r : R) (f : Option Int → Ev → R) : R := r.bind fun d ρ => match partD d with
  | some o => f o ρ
  | none => .stuck
theorem RO8.bind {K : PySem.W.Frag} {mg : Str → Option Value} {C α F ρ σ H} {Q : Option Int → Hp → Prop} {Q0 : VK} {f : Option Int → Ev → R} (Rr : Rel K C α F ρ σ H) (p : PostE K mg W C α F σ H Q0 ((ma ρ).part f))
    (k : ∀ o ρ1 F1 H1, Ext F H F1 H1 → Rel K C α F1 ρ1 σ H1 → PostE K mg W C α F1 σ H1 Q0 (f o ρ1) → Q o H1) : RO8 K mg W ma σ H Q := by
  refine ⟨C, α, F, ρ, Rr, ?_⟩
  cases h : ma ρ with
  | ok d ρ1 =>
    rw [h] at p
    cases d with
    | int i => exact fun F' H' e' r' => k (some i) ρ1 F' H' e' r' (PostE.ext e' p)
    | none => exact fun F' H' e' r' => k none ρ1 F' H' e' r' (PostE.ext e' p)
    | _ => exact p.elim
  | exc x ρ1 => rw [h] at p; exact p
  | stuck => rw [h] at p; exact p
def cutD (xs : List Dt) (lo hi : Option Int) : List Dt := (xs.drop (HT.sIx xs.length 0 lo)).take (HT.sIx xs.length xs.length hi - HT.sIx xs.length 0 lo)
/-- a cut of a tuple -/
def slD (d : Dt) (lo hi : Option Int) : Option Dt :=
  match d with
  | .tuple xs => some (.tuple (cutD xs lo hi))
  | .list xs => some (.list (cutD xs lo hi))
  | .str x => if x.length ≤ 10000 then some (.str (cutS x lo hi)) else none
  | _ => none
def mSl (ma ml mu : Ev → R) : Ev → R := fun ρ => (ma ρ).bind fun d ρ1 => (ml ρ1).part fun lo ρ2 => (mu ρ2).part fun hi ρ3 => R.ofO (slD d lo hi) ρ3
theorem cut_rp {K : PySem.W.Frag} {F : Fz} {H : Hp} {vs : List V} {ds : List Dt} {lo hi : Option Int} (r : RpAll K F H vs ds) : RpAll K F H (cutV vs lo hi) (cutD ds lo hi) := by
  unfold cutV cutD
  rw [r.length]
  exact (r.drop _).take _
theorem JE.slice {lo hi : Option Expr} {ml mu : Ev → R} {p2 : Pos} (ha : JE X W a ma) (hl : JO X W lo ml) (hu : JO X W hi mu) : JE X W (.Subscript a (.Slice lo hi none p2) pos) (mSl ma ml mu) := by
  refine .of (pe_slice (SlR.or sl_tupA (SlR.or sl_list sl_str)) ha hl hu) fun C α F ρ σ H Q Rr p => ?_
  refine TE8.bind Rr p fun d ρ1 v F1 H1 e1 R1 rv p1 => ?_
  refine RO8.bind R1 p1 fun lo ρ2 F2 H2 e2 R2 p2 => ?_
  refine RO8.bind R2 p2 fun hi ρ3 F3 H3 e3 R3 p3 => ?_
  have rv' := rv.mono (e2.trans e3)
  cases d with
  | tuple xs =>
    cases rv' with
    | tup h r =>
      refine .inl ⟨_, _, rfl, h, fun hw => ?_, fun hw q hq => ?_⟩
      · refine p3 _ F3 H3 (.refl _ _) R3 (.tup h ?_)
        have e : cutD xs lo hi = xs := by
          unfold cutD
          rw [← r.length, hw.1, hw.2]
          simp [r.length]
        rw [e]; exact r
      · exact p3 _ F3 _ (ext_laid hq) (R3.laid hq) (.tup (.of upd_same) ((cut_rp r).mono (ext_laid hq)))
  | list xs =>
    cases rv' with
    | lst h r => exact .inr (.inl ⟨_, _, rfl, h.sq, fun q hq => p3 _ _ _ (ext_laidF hq) (R3.laidF hq) (.lst (.inl ⟨.inr rfl, .inl upd_same⟩) ((cut_rp r).mono (ext_laidF hq)))⟩)
  | str x =>
    by_cases hc : x.length ≤ 10000
    · have p3 : PostE X.K X.mg W C α F3 σ H3 Q (R.ofO (if x.length ≤ 10000 then some (PyData.str (cutS x lo hi)) else none) ρ3) := p3
      rw [if_pos hc] at p3
      cases rv'
      exact .inr (.inr ⟨x, rfl, size_of hc, p3 _ F3 H3 (.refl _ _) R3 (.str _)⟩)
    · have p3 : PostE X.K X.mg W C α F3 σ H3 Q (R.ofO (if x.length ≤ 10000 then some (PyData.str (cutS x lo hi)) else none) ρ3) := p3
      rw [if_neg hc] at p3
      exact p3.elim
  | _ => exact p3.elim
end
end NS

set_option Elab.async false
set_option linter.all false
set_option autoImplicit false
set_option maxRecDepth 100000
set_option maxHeartbeats 4000000
namespace PySem
theorem meets_enumerate_newT8 (l : Addr) (items : Array Value) (n : Nat) (dct : Option Addr) (sl : Array (Option Value)) :
    Meets (Builtin.«enumerate.__new__» ⟨[.type "enumerate", .ref l], []⟩) (fun _ R s => s.heap.get? l = some { cls := .type "tuple", dict := dct, data := .seq items n, slots := sl } ∧
      R (.ok (.ret (.ref (s.heap.push { cls := .type "tuple_iterator", data := .fields #[.ref l, .int 0 0] }).objs.size)))
        { s with heap := (s.heap.push { cls := .type "tuple_iterator", data := .fields #[.ref l, .int 0 0] }).push { cls := .type "enumerate", data := .fields #[.none, .bool false, .ref s.heap.objs.size, rawInt 0, .none, .none] } }) :=
  .of_wp fun prog w A R s h => by
    obtain ⟨hp, g, d, tk, os⟩ := s; obtain ⟨hl, h⟩ := h
    have hsub := sub_enumerate
    have hL : Heap.IsTuple (Shared.heap ⟨hp, g, d, tk, os⟩) l items := ⟨_, hl, rfl, n, rfl⟩
    wp_walk using AutoSeq1.wpAny_loadPart' hl
    refine wpAny_stack_any fun st => wpAny_pure ?_
    split
    · rename_i c _ _ _ _ _
      cases (c == Value.type "enumerate")
      · wp_walk using AutoSeq1.wpAny_loadPart' hl, wpAny_pyIter_tuple hL
        exact ⟨_, rfl, h⟩
      · wp_walk using AutoSeq1.wpAny_loadPart' hl, wpAny_pyIter_tuple hL
        exact ⟨_, rfl, h⟩
    · wp_walk using AutoSeq1.wpAny_loadPart' hl, wpAny_pyIter_tuple hL
      exact ⟨_, rfl, h⟩
theorem call_enumerate_tuple8 {prog : Program} {w : World} {A : Around} {E : Value → Shared → Prop} {s : Shared} {l : Addr} {items : Array Value} {Q : Value → Shared → Prop} (hL : s.heap.IsTuple l items)
    (h : ∀ h', IsEnum h' (s.heap.objs.size + 1) s.heap.objs.size 0 .none → h'.IsTupleIter s.heap.objs.size l 0 → h'.objs.size = s.heap.objs.size + 2 →
      (∀ b o, s.heap.get? b = some o → h'.get? b = some o) → Q (.ref (s.heap.objs.size + 1)) { s with heap := h' }) :
    wpAny (model prog w) A (call (.type "enumerate") [.ref l]) Q E s := by
  obtain ⟨⟨c, dct, dt, sl⟩, hl, hc, n, hd⟩ := hL
  replace hc : c = .type "tuple" := hc
  replace hd : dt = .seq items n := hd
  subst hc hd
  refine callType_new F.called_enumerate (by decide) (F.typeCall_enumerate_1 _) (F.newCall_enumerate_1 _) (fun obj => F.args_object_init_2 obj _) F.entry_enumerate_new
    (meets_enumerate_newT8 l items n dct sl) ⟨hl, ?_⟩
  have hz : (s.heap.push { cls := .type "tuple_iterator", data := .fields #[.ref l, .int 0 0] }).objs.size = s.heap.objs.size + 1 := Heap.size_push ..
  show _ ∧ _
  rw [hz]
  have he : IsEnum ((s.heap.push { cls := .type "tuple_iterator", data := .fields #[.ref l, .int 0 0] }).push
      { cls := .type "enumerate", data := .fields #[.none, .bool false, .ref s.heap.objs.size, rawInt 0, .none, .none] }) (s.heap.objs.size + 1) s.heap.objs.size 0 .none := by
    have := Heap.get?_push_size (s.heap.push { cls := .type "tuple_iterator", data := .fields #[.ref l, .int 0 0] })
      (o := { cls := .type "enumerate", data := .fields #[.none, .bool false, .ref s.heap.objs.size, rawInt 0, .none, .none] }) rfl
    rw [hz] at this; exact this
  refine ⟨⟨_, he, rfl⟩, h _ he ⟨_, Heap.get?_push_of_some _ (Heap.get?_push_size _ rfl), rfl, rfl⟩ (by rw [Heap.size_push, hz]) fun b o x => Heap.get?_push_of_some _ (Heap.get?_push_of_some _ x)⟩
end PySem
namespace NS
open PySem PySem.Spec PyProof.Rows L2

/-- the tuple at a, each item in a new pair -/
def IteT (K : PySem.W.Frag) (a : Addr) : It :=
  ⟨fun i H => ∃ (xs : List V) (x : V), SqT K H a xs ∧ xs[i]? = some x, fun i H v H' => ∃ T x, v = .ref T ∧ H T = none ∧ H' = upd H T (.tup [.int (i : Nat), x]) ∧ ∀ xs, SqT K H a xs → xs[i]? = some x, fun i H => ∃ xs : List V, SqT K H a xs ∧ xs.length = i⟩
theorem turn_enumT {P : Program} {w : World} {K : PySem.W.Frag} {elts : List Expr} {kk : Nat} {tpos : Pos} (a e it : Addr) :
    Turn P w K (.Tuple elts kk tpos) (IteT K a) [e, it] e (fun i h => (∃ old, IsEnum h e it ((i : Nat) : Int) old) ∧ h.IsTupleIter it a i ∧ e ≠ it ∧ a ≠ it) where
  mem := by simp
  obj := fun i h st b hb => by
    obtain ⟨⟨old, he⟩, ⟨o, ho, hc, hd⟩, _⟩ := st
    have e' : b = e ∨ b = it := by simpa using hb
    rcases e' with z | z
    · rw [z]; exact ⟨_, he, fun v q => nomatch q⟩
    · rw [z]; exact ⟨o, ho, fun v q => by rw [hd] at q; cases q⟩
  keep := fun i h h' st k => let ⟨⟨old, he⟩, hi, hne⟩ := st; ⟨⟨old, k e (by simp) _ he⟩, hi.at fun o q => k it (by simp) o q, hne⟩
  item := by
    intro X hP hw hK hc i pins s σ H E I hf st hg
    subst hP hw hK
    obtain ⟨⟨old, he⟩, hit, hne, hna⟩ := st
    obtain ⟨xs, x, hq, hx⟩ := hg
    obtain ⟨its, rv, p, hz⟩ := I.tuple hq
    obtain ⟨u, hu, ru⟩ := rv.get hx
    have hel : e < s.heap.objs.size := Heap.lt_size he
    have hil : it < s.heap.objs.size := by obtain ⟨_, q, _⟩ := hit; exact Heap.lt_size q
    have hil' : i < its.toArray.size := by have := (List.getElem?_eq_some_iff.mp hu).1; simpa using this
    have D := Draws.tuple (prog := X.prog) (w := X.w) (A := X.A.in1) (by have := I.ok.hd hc; simpa using this) it a hna its.toArray
    have hae : a ≠ e := fun z => by
      obtain ⟨o, ho, hcl, _⟩ := p
      rw [z, he] at ho; cases ho; exact absurd hcl (by simp)
    refine wpAny_pyNext_enum_itemD D he ⟨hit, p⟩ hil' hne (by simp only [List.mem_cons, List.not_mem_nil, or_false, not_or]; exact ⟨hne, Ne.symm hae⟩) fun x' h' tk px ho hit' hT hsz hk => ?_
    obtain rfl : x' = u := by
      have : its.toArray[i]? = some x' := px
      rw [show its.toArray[i]? = its[i]? by simp, hu] at this
      exact (Option.some.inj this).symm
    refine ⟨_, rfl, wpAny_letOwnedTupleGo_enum (s := { s with heap := h', toks := tk + 1 }) ho fun h'' he' sb => ?_⟩
    have hT2 : h''.get? s.heap.objs.size = some { cls := .type "tuple", data := .seq #[.int i tk, x'] } := (sb.2 _ (Nat.ne_of_gt hel)).trans hT
    have new : ObjOk X.prog X.w (upd H s.heap.objs.size (.tup [.int (i : Nat), x])) h'' s.heap.objs.size (.tup [.int (i : Nat), x]) :=
      ⟨by show 2 ≤ sizeLine; decide, [.int i tk, x'], .cons ⟨_, rfl⟩ (.cons ru .nil), ⟨_, hT2, rfl, _, rfl⟩⟩
    have I1 : Inv X pins σ (upd H s.heap.objs.size (.tup [.int (i : Nat), x])) { s with heap := h'', toks := tk + 1 } :=
      I.turnedNew (ch := [e, it]) (fun b ob hb q => (sb.2 b (fun z => hb (by simp [z]))).trans (hk b ob (fun z => hb (by simp [z])) (fun z => hb (by simp [z])) q)) hf (Nat.le_refl _) new
    refine ⟨.ref s.heap.objs.size, _, I1, rfl, ⟨_, x, rfl, I.hok.fresh (Nat.le_refl _), rfl, fun ys hy => by rw [I.tuple_inj hy hq]; exact hx⟩, ⟨⟨x', ?_⟩, hit'.1.at fun o q => (sb.2 it (Ne.symm hne)).trans q, hne, hna⟩, fun b hb => ?_⟩
    · have e1 : ((i + 1 : Nat) : Int) = (i : Int) + 1 := by omega
      rw [e1]; exact he'
    · have hb' : b < s.heap.objs.size := by
        have e' : b = e ∨ b = it := by simpa using hb
        rcases e' with z | z
        · rw [z]; exact hel
        · rw [z]; exact hil
      rw [upd_ne (Nat.ne_of_lt hb')]
      exact (hf b hb).1
  done := by
    intro X hP hw hK hc i pins s σ H E I hf st hg
    subst hP hw hK
    obtain ⟨⟨old, he⟩, hit, hne, hna⟩ := st
    obtain ⟨xs, hq, hx⟩ := hg
    obtain ⟨its, rv, p, hz⟩ := I.tuple hq
    obtain ⟨f0, f1, f2, f3, f4, f5⟩ := hf it (by simp)
    have hl := rv.length
    have D := Draws.tuple (prog := X.prog) (w := X.w) (A := X.A.in1) (by have := I.ok.hd hc; simpa using this) it a hna its.toArray
    have ei : its.toArray.size = i := by simp; omega
    exact wpAny_pyNext_enum_endD D he (by rw [ei]; exact ⟨hit, p⟩) fun h' eb => ⟨rfl, I.turned (t' := s.toks) (fun b o hb q => eb b o hb q) f0 f1 f3 f4 f5⟩
  self := fun A i s Q E st h => let ⟨⟨_, he⟩, _⟩ := st; wpAny_pyIter_enum he h
end NS

set_option Elab.async false
set_option linter.all false
set_option autoImplicit false
set_option maxRecDepth 100000
set_option maxHeartbeats 4000000
namespace NS
open PySem PySem.Spec PyProof.Rows L2

/-! ### what is walked -/
def iSeq (K : PySem.W.Frag) (tl : TE) : TI := fun σ H R => tl σ H fun x H1 =>
  (∃ a, x = .ref a ∧ (∃ xs, SqL K H1 a xs) ∧ R (Itl K a) H1) ∨ (∃ a, x = .ref a ∧ (∃ xs, SqT K H1 a xs) ∧ R (Itt K a) H1) ∨ ∃ z, x = .str z ∧ R (Its z) H1
theorem pi_seq {X : Cx} {tg l : Expr} {tl : TE} (hl : PE X l tl) : PI X tg l (iSeq X.K tl) := by
  refine ⟨fun pins s σ H R I h => ?_⟩
  refine thn (hl.run pins s σ H _ I h) fun v s1 ⟨x, H1, I1, r1, q1⟩ => ?_
  rcases q1 with ⟨a, e, ⟨xs, hq⟩, q⟩ | ⟨a, e, ⟨xs, hq⟩, q⟩ | ⟨z, e, q⟩
  · subst e
    cases r1
    obtain ⟨its, rv, p, hz⟩ := I1.list hq
    refine wpAny_pyIter_list p.isList ?_
    refine ⟨s1.heap.objs.size, [s1.heap.objs.size], _, _, H1, rfl, I1.kept (t' := s1.toks) fun b o e => Heap.get?_push_of_some _ e, turn_list a _, ⟨_, Heap.get?_push_size _ rfl, rfl, rfl⟩, fun b hb => ?_, q⟩
    have e : b = s1.heap.objs.size := by simpa using hb
    subst e
    exact I1.fpOk (Nat.le_refl _) (I1.hok.fresh (Nat.le_refl _))
  · subst e
    cases r1
    obtain ⟨its, rv, p, hz⟩ := I1.tuple hq
    refine wpAny_pyIter_tuple (show s1.heap.IsTuple a its.toArray from p) ?_
    refine ⟨s1.heap.objs.size, [s1.heap.objs.size], _, _, H1, rfl, I1.kept (t' := s1.toks) fun b o e => Heap.get?_push_of_some _ e, turn_tuple a _, ⟨_, Heap.get?_push_size _ rfl, rfl, rfl⟩, fun b hb => ?_, q⟩
    have e : b = s1.heap.objs.size := by simpa using hb
    subst e
    exact I1.fpOk (Nat.le_refl _) (I1.hok.fresh (Nat.le_refl _))
  · subst e
    obtain ⟨t, rfl⟩ := r1
    cases ha : z.cps.all (· < 128)
    · exact wpAny_pyIter_wide ha (pi_one (tk := s1.toks) I1 _ (turn_str _ z t "str_iterator" (.inr rfl)) ⟨_, Heap.get?_push_size _ rfl, rfl, rfl⟩ q)
    · exact wpAny_pyIter_ascii ha (pi_one (tk := s1.toks) I1 _ (turn_str _ z t "str_ascii_iterator" (.inl rfl)) ⟨_, Heap.get?_push_size _ rfl, rfl, rfl⟩ q)
/-- enumerate of a list or a tuple -/
def iEnumA (K : PySem.W.Frag) (ta : TA) : TI := fun σ H R => ta σ H fun vs H1 => (∃ a xs, vs = [.ref a] ∧ SqL K H1 a xs ∧ R (Ite K a) H1) ∨ ∃ a xs, vs = [.ref a] ∧ SqT K H1 a xs ∧ R (IteT K a) H1
theorem pi_enumA {X : Cx} {e : Expr} {ta : TA} {p pos tpos : Pos} {elts : List Expr} {kk : Nat} (hg : Gl X "enumerate") (hm : X.mg "enumerate" = none) (ha : PA X [e] ta) (hs : starEach [e] X.env = [(false, eval e X.env)] := by rfl) :
    PI X (.Tuple elts kk tpos) (.Call (.Name "enumerate" p) [e] [] pos) (iEnumA X.K ta) := by
  refine ⟨fun pins s σ H R I h => ?_⟩
  refine Call_ (ld_blt I hg hm boot_enumerate (PyProof.Rows.callWith_type1 (thn (ha.run pos pins s σ H _ I h) fun us s1 ⟨vs, H1, I1, r1, q1⟩ => ?_) hs rfl))
  rcases q1 with ⟨a, xs, ex, hq, q⟩ | ⟨a, xs, ex, hq, q⟩
  · subst ex
    cases r1 with
    | cons r rr =>
      cases rr
      cases r
      obtain ⟨its, rv, p', hz⟩ := I1.list hq
      refine call_enumerate_list p'.isList fun h' he hit hsz hk => wpAny_pyIter_enum he ?_
      have I2 : Inv X pins σ H1 { s1 with heap := h' } := I1.kept (t' := s1.toks) hk
      refine ⟨s1.heap.objs.size + 1, [s1.heap.objs.size + 1, s1.heap.objs.size], _, _, H1, rfl, I2, turn_enum a (s1.heap.objs.size + 1) s1.heap.objs.size, ⟨⟨.none, he⟩, hit, Nat.succ_ne_self _⟩, fun b hb => ?_, q⟩
      have e' : b = s1.heap.objs.size + 1 ∨ b = s1.heap.objs.size := by simpa using hb
      have hle : s1.heap.objs.size ≤ b := by
        rcases e' with z | z
        · rw [z]; exact Nat.le_add_right _ _
        · rw [z]; exact Nat.le_refl _
      exact I1.fpOk hle (I1.hok.fresh hle)
  · subst ex
    cases r1 with
    | cons r rr =>
      cases rr
      cases r
      obtain ⟨its, rv, p', hz⟩ := I1.tuple hq
      have hal : a < s1.heap.objs.size := by obtain ⟨_, e, _⟩ := p'; exact Heap.lt_size e
      refine call_enumerate_tuple8 (show s1.heap.IsTuple a its.toArray from p') fun h' he hit hsz hk => wpAny_pyIter_enum he ?_
      have I2 : Inv X pins σ H1 { s1 with heap := h' } := I1.kept (t' := s1.toks) hk
      refine ⟨s1.heap.objs.size + 1, [s1.heap.objs.size + 1, s1.heap.objs.size], _, _, H1, rfl, I2, turn_enumT a (s1.heap.objs.size + 1) s1.heap.objs.size, ⟨⟨.none, he⟩, hit, Nat.succ_ne_self _, Nat.ne_of_lt hal⟩, fun b hb => ?_, q⟩
      have e' : b = s1.heap.objs.size + 1 ∨ b = s1.heap.objs.size := by simpa using hb
      have hle : s1.heap.objs.size ≤ b := by
        rcases e' with z | z
        · rw [z]; exact Nat.le_add_right _ _
        · rw [z]; exact Nat.le_refl _
      exact I1.fpOk hle (I1.hok.fresh hle)

/-- the walk yields the data, one after another, whatever is added meanwhile -/
def ItOk (K : PySem.W.Frag) (J : It) (F : Fz) (H : Hp) (ds : List Dt) : Prop :=
  ∀ F' H', Ext F H F' H' → (∀ i d, ds[i]? = some d → J.go i H' ∧ ∀ x H'', J.yld i H' x H'' → ∃ F'', Grow F' H' F'' H'' ∧ Rp K F'' H'' x d) ∧ J.stop ds.length H'
theorem ItOk.ext {K : PySem.W.Frag} {J : It} {F F1 : Fz} {H H1 : Hp} {ds : List Dt} (h : ItOk K J F H ds) (e : Ext F H F1 H1) : ItOk K J F1 H1 ds := fun F' H' e' => h F' H' (e.trans e')
def TI8 (K : PySem.W.Frag) (mg : Str → Option Value) (W : WX) (m : Ev → RA) : TI := fun σ H R => ∃ C α F ρ, Rel K C α F ρ σ H ∧ (match m ρ with
  | .ok ds ρ' => ∀ J F' H', Ext F H F' H' → Rel K C α F' ρ' σ H' → ItOk K J F' H' ds → R J H'
  | .exc x ρ' => ∀ cls dd F' H', Ext F H F' H' → Rel K C α F' ρ' σ H' → XRel K mg F' H' cls dd x → W cls dd σ H'
  | .stuck => False)
def JI (X : Cx) (W : WX) (tg e : Expr) (m : Ev → RA) : Prop := PI X tg e (TI8 X.K X.mg W m)

section
variable {X : Cx} {W : WX} {tg a b : Expr} {es : List Expr} {ma mb : Ev → R} {mr : Ev → RA} {pos : Pos}
theorem TE8.iter {K : PySem.W.Frag} {mg : Str → Option Value} {C α F ρ σ H} {Q : VK} {f : Dt → Option (List Dt)} {R : It → Hp → Prop} (Rr : Rel K C α F ρ σ H)
    (p : match (match ma ρ with | .ok d ρ1 => (match f d with | some ds => RA.ok ds ρ1 | none => .stuck) | .exc x ρ1 => .exc x ρ1 | .stuck => .stuck) with
      | .ok ds ρ' => ∀ J F' H', Ext F H F' H' → Rel K C α F' ρ' σ H' → ItOk K J F' H' ds → R J H'
      | .exc x ρ' => ∀ cls dd F' H', Ext F H F' H' → Rel K C α F' ρ' σ H' → XRel K mg F' H' cls dd x → W cls dd σ H'
      | .stuck => False)
    (k : ∀ d ds v F1 H1, f d = some ds → Rp K F1 H1 v d → (∀ J, ItOk K J F1 H1 ds → R J H1) → Q v H1) : TE8 K mg W ma σ H Q := by
  refine ⟨C, α, F, ρ, Rr, ?_⟩
  cases h : ma ρ with
  | ok d ρ1 =>
    rw [h] at p
    intro v F1 H1 e1 R1 rv
    dsimp only at p
    cases hf : f d with
    | none => rw [hf] at p; exact p.elim
    | some ds => rw [hf] at p; exact k d ds v F1 H1 hf rv fun J ok => p J F1 H1 e1 R1 ok
  | exc x ρ1 => rw [h] at p; exact p
  | stuck => rw [h] at p; exact p
def mIter (f : Dt → Option (List Dt)) (ma : Ev → R) : Ev → RA := fun ρ => match ma ρ with | .ok d ρ1 => (match f d with | some ds => RA.ok ds ρ1 | none => .stuck) | .exc x ρ1 => .exc x ρ1 | .stuck => .stuck
def mIterA (f : List Dt → Option (List Dt)) (mr : Ev → RA) : Ev → RA := fun ρ => match mr ρ with | .ok d ρ1 => (match f d with | some ds => RA.ok ds ρ1 | none => .stuck) | .exc x ρ1 => .exc x ρ1 | .stuck => .stuck
theorem TA8.iter {K : PySem.W.Frag} {mg : Str → Option Value} {n : Nat} {C α F ρ σ H} {Q : List V → Hp → Prop} {f : List Dt → Option (List Dt)} {R : It → Hp → Prop} (Rr : Rel K C α F ρ σ H)
    (p : match mIterA f mr ρ with
      | .ok ds ρ' => ∀ J F' H', Ext F H F' H' → Rel K C α F' ρ' σ H' → ItOk K J F' H' ds → R J H'
      | .exc x ρ' => ∀ cls dd F' H', Ext F H F' H' → Rel K C α F' ρ' σ H' → XRel K mg F' H' cls dd x → W cls dd σ H'
      | .stuck => False)
    (k : ∀ d ds v F1 H1, f d = some ds → RpAll K F1 H1 v d → (∀ J, ItOk K J F1 H1 ds → R J H1) → Q v H1) : TA8 K mg W n mr σ H Q := by
  refine ⟨C, α, F, ρ, Rr, ?_⟩
  unfold mIterA at p
  cases h : mr ρ with
  | ok d ρ1 =>
    rw [h] at p
    intro v F1 H1 l e1 R1 rv
    dsimp only at p
    cases hf : f d with
    | none => rw [hf] at p; exact p.elim
    | some ds => rw [hf] at p; exact k d ds v F1 H1 hf rv fun J ok => p J F1 H1 e1 R1 ok
  | exc x ρ1 => rw [h] at p; exact p
  | stuck => rw [h] at p; exact p
def signD (c : Nat) : Dt := .str ⟨#[c]⟩
def seqD : Dt → Option (List Dt)
  | .list xs => some xs
  | .tuple xs => some xs
  | .str x => some (x.cps.toList.map signD)
  | _ => none
theorem itok_list {K : PySem.W.Frag} {F : Fz} {H : Hp} {a : Addr} {vs : List V} {ds : List Dt} (h : FL K F H a vs) (r : RpAll K F H vs ds) : ItOk K (Itl K a) F H ds := fun F' H' e => by
  have h' : SqL K H' a vs := h.imp (fun z => e.rdF z.1 z.2) id
  refine ⟨fun i d hd => ?_, vs, h', Nat.le_of_eq r.length⟩
  obtain ⟨v, hv, rv⟩ := r.get hd
  refine ⟨⟨vs, v, h', hv⟩, fun x H'' y => ?_⟩
  obtain ⟨rfl, y⟩ := y
  have e2 := y vs h'
  rw [hv] at e2; cases e2
  exact ⟨F', .refl, rv.mono e⟩
theorem itok_tup {K : PySem.W.Frag} {F : Fz} {H : Hp} {a : Addr} {vs : List V} {ds : List Dt} (h : SqT K H a vs) (r : RpAll K F H vs ds) : ItOk K (Itt K a) F H ds := fun F' H' e => by
  have h' : SqT K H' a vs := e.sqT h
  refine ⟨fun i d hd => ?_, vs, h', Nat.le_of_eq r.length⟩
  obtain ⟨v, hv, rv⟩ := r.get hd
  refine ⟨⟨vs, v, h', hv⟩, fun x H'' y => ?_⟩
  obtain ⟨rfl, y⟩ := y
  have e2 := y vs h'
  rw [hv] at e2; cases e2
  exact ⟨F', .refl, rv.mono e⟩
theorem itok_str {K : PySem.W.Frag} {F : Fz} {H : Hp} {x : Str} : ItOk K (Its x) F H (x.cps.toList.map signD) := fun F' H' e => by
  refine ⟨fun i d hd => ?_, by simp [Its]⟩
  rw [List.getElem?_map] at hd
  cases hc : x.cps.toList[i]? with
  | none => rw [hc] at hd; cases hd
  | some c =>
    rw [hc] at hd; cases hd
    have hc' : x.cps[i]? = some c := by simpa using hc
    refine ⟨(Array.getElem?_eq_some_iff.mp hc').1, fun v H'' y => ?_⟩
    obtain ⟨rfl, c', e1, rfl⟩ := y
    rw [hc'] at e1; cases e1
    exact ⟨F', .refl, .str _⟩
theorem JI.seq (ha : JE X W a ma) : JI X W tg a (mIter seqD ma) := by
  refine ⟨fun pins s σ H R I ⟨C, α, F, ρ, Rr, p⟩ => (pi_seq ha).run pins s σ H R I ?_⟩
  refine TE8.iter Rr p fun d ds v F1 H1 hf rv k => ?_
  cases d with
  | list xs => cases hf; cases rv with | lst h r => exact .inl ⟨_, rfl, ⟨_, h.sq⟩, k _ (itok_list h r)⟩
  | tuple xs => cases hf; cases rv with | tup h r => exact .inr (.inl ⟨_, rfl, ⟨_, h⟩, k _ (itok_tup h r)⟩)
  | str x => cases hf; cases rv; exact .inr (.inr ⟨_, rfl, k _ itok_str⟩)
  | _ => cases hf
def enumL (ds : List Dt) : List Dt := ds.zipIdx.map fun p => .tuple [.int p.2, p.1]
def enumD : List Dt → Option (List Dt)
  | [.list xs] => some (enumL xs)
  | [.tuple xs] => some (enumL xs)
  | _ => none
theorem enumL_get {ds : List Dt} {i : Nat} {d : Dt} (h : (enumL ds)[i]? = some d) : ∃ d0, ds[i]? = some d0 ∧ d = .tuple [.int i, d0] := by
  unfold enumL at h
  rw [List.getElem?_map, List.getElem?_zipIdx] at h
  cases h0 : ds[i]? with
  | none => rw [h0] at h; cases h
  | some d0 =>
    rw [h0] at h
    simp only [Option.map_some, Option.some.injEq] at h
    refine ⟨d0, rfl, ?_⟩
    rw [← h]; simp
theorem enumL_len (ds : List Dt) : (enumL ds).length = ds.length := by unfold enumL; simp
theorem grow_pair {K : PySem.W.Frag} {F : Fz} {H : Hp} {T : Addr} {x y : V} {d e : Dt} (hT : H T = none) (r1 : Rp K F H x d) (r2 : Rp K F H y e) : Rp K F (upd H T (.tup [x, y])) (.ref T) (.tuple [d, e]) :=
  .tup (.of upd_same) (.cons (r1.mono (ext_laid hT)) (.cons (r2.mono (ext_laid hT)) .nil))
theorem JI.enum {p tpos : Pos} {elts : List Expr} {kk : Nat} (hm : X.mg "enumerate" = none) (ha : JA X W [a] mr) (hg : Gl X "enumerate" := by rfl) (hs : starEach [a] X.env = [(false, eval a X.env)] := by rfl) :
    JI X W (.Tuple elts kk tpos) (.Call (.Name "enumerate" p) [a] [] pos) (mIterA enumD mr) := by
  refine ⟨fun pins s σ H R I ⟨C, α, F, ρ, Rr, p⟩ => (pi_enumA hg hm ha hs).run pins s σ H R I ?_⟩
  refine TA8.iter Rr p fun d ds vs F1 H1 hf rv k => ?_
  cases d with
  | nil => cases hf
  | cons d t =>
    cases t with
    | cons d2 t2 => cases d <;> cases hf
    | nil =>
      obtain ⟨v, rfl, rv1⟩ := one_of rv
      cases d with
      | list xs =>
        cases hf
        cases rv1 with
        | lst h r =>
          rename_i a us
          refine .inl ⟨a, us, rfl, h.sq, k _ fun F' H' e => ?_⟩
          have h' : SqL X.K H' a us := h.imp (fun z => e.rdF z.1 z.2) id
          refine ⟨fun i d hd => ?_, us, h', by rw [enumL_len, r.length]; exact Nat.le_refl _⟩
          obtain ⟨d0, h0, rfl⟩ := enumL_get hd
          obtain ⟨v, hv, rv⟩ := r.get h0
          refine ⟨⟨us, v, h', hv⟩, fun x H'' y => ?_⟩
          obtain ⟨T, x0, rfl, hT, rfl, y⟩ := y
          have e2 := y us h'
          rw [hv] at e2; cases e2
          exact ⟨F', .laid hT, grow_pair hT (.int _) (rv.mono e)⟩
      | tuple xs =>
        cases hf
        cases rv1 with
        | tup h r =>
          rename_i a us
          refine .inr ⟨a, us, rfl, h, k _ fun F' H' e => ?_⟩
          have h' : SqT X.K H' a us := e.sqT h
          refine ⟨fun i d hd => ?_, us, h', by rw [enumL_len, r.length]⟩
          obtain ⟨d0, h0, rfl⟩ := enumL_get hd
          obtain ⟨v, hv, rv⟩ := r.get h0
          refine ⟨⟨us, v, h', hv⟩, fun x H'' y => ?_⟩
          obtain ⟨T, x0, rfl, hT, rfl, y⟩ := y
          have e2 := y us h'
          rw [hv] at e2; cases e2
          exact ⟨F', .laid hT, grow_pair hT (.int _) (rv.mono e)⟩
      | _ => cases hf
def zipL (xs ys : List Dt) : List Dt := List.zipWith (fun x y => .tuple [x, y]) xs ys
def zipD : List Dt → Option (List Dt)
  | [.tuple xs, .tuple ys] => some (zipL xs ys)
  | _ => none
theorem JI.zip {p tpos : Pos} {elts : List Expr} {kk : Nat} (hm : X.mg "zip" = none) (ha : JA X W [a, b] mr) (hg : Gl X "zip" := by rfl) (hs : starEach [a, b] X.env = (false, eval a X.env) :: starEach [b] X.env := by rfl) (hpl : (backTo pos (starEach [b] X.env)).any (·.1) = false := by rfl) :
    JI X W (.Tuple elts kk tpos) (.Call (.Name "zip" p) [a, b] [] pos) (mIterA zipD mr) := by
  refine ⟨fun pins s σ H R I ⟨C, α, F, ρ, Rr, p⟩ => (RZ.pi_zipA hg hm ha hs hpl).run pins s σ H R I ?_⟩
  refine TA8.iter Rr p fun d ds vs F1 H1 hf rv k => ?_
  obtain ⟨xs, ys, rfl, rfl⟩ : ∃ xs ys, d = [.tuple xs, .tuple ys] ∧ ds = zipL xs ys := by
    cases d with
    | nil => cases hf
    | cons d t =>
      cases d with
      | tuple xs =>
        cases t with
        | nil => cases hf
        | cons d2 t2 =>
          cases t2 with
          | nil =>
            cases d2 with
            | tuple ys => cases hf; exact ⟨xs, ys, rfl, rfl⟩
            | _ => cases hf
          | cons _ _ => cases d2 <;> cases hf
      | _ => cases hf
  obtain ⟨v1, v2, rfl, r1, r2⟩ := two_of rv
  cases r1 with
  | tup h1 r1 =>
    cases r2 with
    | tup h2 r2 =>
      rename_i a us b ws
      refine ⟨a, b, us, ws, rfl, .inr ⟨h1, h2, k _ fun F' H' e => ?_⟩⟩
      have h1' : SqT X.K H' a us := e.sqT h1
      have h2' : SqT X.K H' b ws := e.sqT h2
      refine ⟨fun i d hd => ?_, us, ws, h1', h2', ?_⟩
      · unfold zipL at hd
        rw [List.getElem?_zipWith] at hd
        cases hx : xs[i]? with
        | none => rw [hx] at hd; cases hd
        | some d1 =>
          cases hy : ys[i]? with
          | none => rw [hx, hy] at hd; cases hd
          | some d2 =>
            rw [hx, hy] at hd; cases hd
            obtain ⟨v1, hv1, rv1⟩ := r1.get hx
            obtain ⟨v2, hv2, rv2⟩ := r2.get hy
            refine ⟨⟨us, ws, v1, v2, h1', h2', hv1, hv2⟩, fun x H'' y => ?_⟩
            obtain ⟨T, x0, y0, rfl, hT, rfl, y1, y2⟩ := y
            have e1 := y1 us h1'
            have e2 := y2 ws h2'
            rw [hv1] at e1; cases e1
            rw [hv2] at e2; cases e2
            exact ⟨F', .laid hT, grow_pair hT (rv1.mono e) (rv2.mono e)⟩
      · unfold zipL
        rw [List.length_zipWith, r1.length, r2.length]
        omega
def rangeL (lo : Int) (n : Nat) : List Dt := (List.range n).map fun (i : Nat) => .int (lo + i)
def rangeD : List Dt → Option (List Dt)
  | [.int j] => if -10000 ≤ j ∧ j < 10000 then some (rangeL 0 j.toNat) else none
  | _ => none
theorem itok_range {K : PySem.W.Frag} {F : Fz} {H : Hp} {lo : Int} {n : Nat} : ItOk K (Itr lo n) F H (rangeL lo n) := fun F' H' e => by
  refine ⟨fun i d hd => ?_, by unfold rangeL; simp [Itr]⟩
  unfold rangeL at hd
  rw [List.getElem?_map] at hd
  by_cases hi : i < n
  · rw [List.getElem?_range hi] at hd
    cases hd
    refine ⟨hi, fun x H'' y => ?_⟩
    obtain ⟨rfl, rfl⟩ := y
    exact ⟨F', .refl, .int _⟩
  · rw [List.getElem?_eq_none (by simpa using hi)] at hd; cases hd
theorem JI.range {p : Pos} (hm : X.mg "range" = none) (ha : JA X W [a] mr) (hg : Gl X "range" := by rfl) (hs : starEach [a] X.env = [(false, eval a X.env)] := by rfl) :
    JI X W tg (.Call (.Name "range" p) [a] [] pos) (mIterA rangeD mr) := by
  refine ⟨fun pins s σ H R I ⟨C, α, F, ρ, Rr, p⟩ => (pi_range1 hg hm ha hs).run pins s σ H R I ?_⟩
  refine TA8.iter Rr p fun d ds vs F1 H1 hf rv k => ?_
  cases d with
  | nil => cases hf
  | cons d t =>
    cases t with
    | cons d2 t2 => cases d <;> cases hf
    | nil =>
      cases d with
      | int j =>
        have hf : (if -10000 ≤ j ∧ j < 10000 then some (rangeL 0 j.toNat) else none) = some ds := hf
        split at hf
        · rename_i c
          cases hf
          obtain ⟨v, rfl, rv1⟩ := one_of rv
          cases rv1
          exact ⟨j, rfl, by omega, by omega, k _ itok_range⟩
        · cases hf
      | _ => cases hf
def range2D : List Dt → Option (List Dt)
  | [.int i, .int j] => if (-10000 ≤ i ∧ i < 10000) ∧ (-10000 ≤ j ∧ j < 10000) then some (rangeL i (j - i).toNat) else none
  | _ => none
theorem JI.range2 {p : Pos} (hm : X.mg "range" = none) (ha : JA X W [a, b] mr) (hg : Gl X "range" := by rfl) (hs : starEach [a, b] X.env = [(false, eval a X.env), (false, eval b X.env)] := by rfl) (hs2 : starEach [b] X.env = [(false, eval b X.env)] := by rfl) :
    JI X W tg (.Call (.Name "range" p) [a, b] [] pos) (mIterA range2D mr) := by
  refine ⟨fun pins s σ H R I ⟨C, α, F, ρ, Rr, p⟩ => (pi_range2 hg hm ha hs hs2).run pins s σ H R I ?_⟩
  refine TA8.iter Rr p fun d ds vs F1 H1 hf rv k => ?_
  obtain ⟨i, j, rfl, c, rfl⟩ : ∃ i j, d = [.int i, .int j] ∧ ((-10000 ≤ i ∧ i < 10000) ∧ (-10000 ≤ j ∧ j < 10000)) ∧ ds = rangeL i (j - i).toNat := by
    cases d with
    | nil => cases hf
    | cons d t =>
      cases d with
      | int i =>
        cases t with
        | nil => cases hf
        | cons d2 t2 =>
          cases t2 with
          | nil =>
            cases d2 with
            | int j =>
              have hf : (if (-10000 ≤ i ∧ i < 10000) ∧ (-10000 ≤ j ∧ j < 10000) then some (rangeL i (j - i).toNat) else none) = some ds := hf
              split at hf
              · rename_i c; cases hf; exact ⟨i, j, rfl, c, rfl⟩
              · cases hf
            | _ => cases hf
          | cons _ _ => cases d2 <;> cases hf
      | _ => cases hf
  obtain ⟨v1, v2, rfl, r1, r2⟩ := two_of rv
  cases r1
  cases r2
  exact ⟨i, j, rfl, ⟨by omega, by omega, by omega, by omega⟩, k _ itok_range⟩

/-! ### a comprehension -/
def Ctx.pin (C : Ctx) (D : Addr) (o : HO) : Ctx := { C with keep := upd C.keep D o, nf := fun a => C.nf a ∨ a = D }
section
variable {K : PySem.W.Frag} {C : Ctx} {α : Nat → Addr} {F : Fz} {ρ : Ev} {σ : L2.St} {H : Hp} {D : Addr}
theorem Rel.pin (Rr : Rel K C α F ρ σ H) (hD : H D = none) (o : HO) : Rel K (C.pin D o) α F ρ σ (upd H D o) := by
  obtain ⟨n1, n2, n3, n4⟩ := fresh_own Rr hD
  have R1 := Rr.laid (o := o) hD
  refine ⟨R1.len, R1.slot, R1.inj, R1.io, fun a u h => ?_, fun i s h m => ?_, fun a h => ?_, fun a h => ?_, R1.fd, fun i s h m q z => ?_⟩
  · by_cases e : a = D
    · subst e
      have : upd C.keep a o a = some u := h
      rw [upd_same] at this ⊢; exact this
    · have : upd C.keep D o a = some u := h
      rw [upd_ne e] at this
      exact R1.kp a u this
  · show upd C.keep D o (α i) = none
    rw [upd_ne (n4 i s h m)]
    exact R1.kn i s h m
  · rcases h with h | h
    · exact R1.nf a h
    · rw [h]; exact n1
  · rcases h with h | h
    · exact R1.nd a h
    · rw [h, upd_same]; intro z; cases z
  · rcases z with z | z
    · exact R1.on i s h m q z
    · exact n4 i s h m z
theorem Rel.pinned {o : HO} (Rr : Rel K (C.pin D o) α F ρ σ H) : H D = some o ∧ ¬F D ∧ (∀ i s, ρ[i]? = some s → s.isMut = true → α i ≠ D) := by
  refine ⟨Rr.kp D o (by show upd C.keep D o D = some o; exact upd_same), Rr.nf D (.inr rfl), fun i s h m z => ?_⟩
  have := Rr.kn i s h m
  have this : upd C.keep D o (α i) = none := this
  rw [z, upd_same] at this; cases this
theorem Rel.repin {o o' : HO} (Rr : Rel K (C.pin D o) α F ρ σ H) (hx : ¬Fx o) : Rel K (C.pin D o') α F ρ σ (upd H D o') ∧ Ext F H F (upd H D o') := by
  obtain ⟨hD, hF, hn⟩ := Rr.pinned
  have e : Ext F H F (upd H D o') := ⟨fun _ h => h, fun a u h z => by
    have na : a ≠ D := fun q => by
      subst q
      rw [hD] at h; cases h
      exact z.elim hF hx
    rw [upd_ne na]; exact h⟩
  refine ⟨⟨Rr.len, fun i s h => ?_, Rr.inj, Rr.io, fun a u h => ?_, fun i s h m => ?_, Rr.nf, fun a h => ?_, fun a h => some_upd (Rr.fd a h), Rr.on⟩, e⟩
  · obtain ⟨u, h1, h2⟩ := Rr.slot i s h
    exact ⟨u, h1, h2.mono e fun m => ⟨h2.nF m, fun w q => by rw [upd_ne (hn i s h m)]; exact q⟩⟩
  · by_cases q : a = D
    · subst q
      have h : upd C.keep a o' a = some u := h
      rw [upd_same] at h ⊢; exact h
    · have h : upd C.keep D o' a = some u := h
      rw [upd_ne q] at h ⊢
      exact Rr.kp a u (by show upd C.keep D o a = some u; rw [upd_ne q]; exact h)
  · show upd C.keep D o' (α i) = none
    rw [upd_ne (hn i s h m)]
    have := Rr.kn i s h m
    have this : upd C.keep D o (α i) = none := this
    rw [upd_ne (hn i s h m)] at this
    exact this
  · exact some_upd (Rr.nd a h)
theorem Rel.unpin {o : HO} (Rr : Rel K (C.pin D o) α F ρ σ H) (hk : C.keep D = none) : Rel K C α F ρ σ H := by
  refine ⟨Rr.len, Rr.slot, Rr.inj, Rr.io, fun a u h => ?_, fun i s h m => ?_, fun a h => Rr.nf a (.inl h), fun a h => Rr.nd a (.inl h), Rr.fd, fun i s h m q z => Rr.on i s h m q (.inl z)⟩
  · have na : a ≠ D := fun q => by rw [q, hk] at h; cases h
    exact Rr.kp a u (by show upd C.keep D o a = some u; rw [upd_ne na]; exact h)
  · have := Rr.kn i s h m
    have this : upd C.keep D o (α i) = none := this
    rw [upd_ne (Rr.pinned.2.2 i s h m)] at this
    exact this
end
end
end NS

set_option Elab.async false
set_option linter.all false
set_option autoImplicit false
set_option maxRecDepth 100000
set_option maxHeartbeats 4000000
namespace NS
open PySem PySem.Spec PyProof.Rows L2

def isIoAt (ρ : Ev) (i : Nat) : Bool := match ρ[i]? with
  | some (.io _) => true
  | _ => false
theorem isIoAt_of {ρ : Ev} {i : Nat} (h : isIoAt ρ i = false) : ∀ s, ρ[i]? = some s → s.isIo = false := fun s hs => by
  unfold isIoAt at h
  rw [hs] at h
  cases s <;> first | rfl | cases h
def wipeE (ρ : Ev) : List Nat → Ev
  | [] => ρ
  | v :: vs => (wipeE ρ vs).set v .no
def noIo (ρ : Ev) (vs : List Nat) : Bool := vs.all fun v => !isIoAt ρ v

theorem wipe_get (σ : L2.St) (j : Nat) : ∀ vs : List Nat, (wipe σ vs)[j]? = if j ∈ vs ∧ j < σ.length then some none else σ[j]?
  | [] => by simp [wipe]
  | v :: vs => by
    unfold wipe
    by_cases hj : j = v
    · subst hj
      by_cases hl : j < σ.length
      · rw [List.getElem?_set_self (by rw [wipe_length]; exact hl), if_pos ⟨List.mem_cons_self, hl⟩]
      · rw [List.getElem?_eq_none (by rw [List.length_set, wipe_length]; omega), if_neg (fun z => hl z.2), List.getElem?_eq_none (by omega)]
    · rw [List.getElem?_set_ne (Ne.symm hj), wipe_get σ j vs]
      have : (j ∈ v :: vs ∧ j < σ.length) ↔ (j ∈ vs ∧ j < σ.length) := by simp [hj]
      simp only [this]
theorem wipe_set {σ : L2.St} {i : Nat} {x : Option V} {vs : List Nat} (h : i ∈ vs) : wipe (σ.set i x) vs = wipe σ vs := by
  apply List.ext_getElem?
  intro j
  rw [wipe_get, wipe_get, List.length_set]
  by_cases hj : j ∈ vs ∧ j < σ.length
  · rw [if_pos hj, if_pos hj]
  · rw [if_neg hj, if_neg hj]
    by_cases e : j = i
    · subst e
      have : ¬ j < σ.length := fun z => hj ⟨h, z⟩
      rw [List.getElem?_eq_none (by simpa using this), List.getElem?_eq_none (by omega)]
    · rw [List.getElem?_set_ne (Ne.symm e)]
theorem wipeE_length (ρ : Ev) : ∀ vs : List Nat, (wipeE ρ vs).length = ρ.length
  | [] => rfl
  | v :: vs => by unfold wipeE; rw [List.length_set, wipeE_length ρ vs]
theorem wipeE_get (ρ : Ev) (j : Nat) : ∀ vs : List Nat, (wipeE ρ vs)[j]? = if j ∈ vs ∧ j < ρ.length then some .no else ρ[j]?
  | [] => by simp [wipeE]
  | v :: vs => by
    unfold wipeE
    by_cases hj : j = v
    · subst hj
      by_cases hl : j < ρ.length
      · rw [List.getElem?_set_self (by rw [wipeE_length]; exact hl), if_pos ⟨List.mem_cons_self, hl⟩]
      · rw [List.getElem?_eq_none (by rw [List.length_set, wipeE_length]; omega), if_neg (fun z => hl z.2), List.getElem?_eq_none (by omega)]
    · rw [List.getElem?_set_ne (Ne.symm hj), wipeE_get ρ j vs]
      have : (j ∈ v :: vs ∧ j < ρ.length) ↔ (j ∈ vs ∧ j < ρ.length) := by simp [hj]
      simp only [this]
section
variable {K : PySem.W.Frag} {C : Ctx} {α : Nat → Addr} {F : Fz} {ρ : Ev} {σ σ' : L2.St} {H : Hp}
theorem Rel.wipe (Rr : Rel K C α F ρ σ H) : ∀ {vs : List Nat}, noIo ρ vs = true → Rel K C α F (wipeE ρ vs) (L2.wipe σ vs) H
  | [], _ => Rr
  | v :: vs, h => by
    have h' : isIoAt ρ v = false ∧ noIo ρ vs = true := by simpa [noIo] using h
    have R1 := Rel.wipe Rr h'.2
    refine R1.forget fun s hs => ?_
    rw [wipeE_get] at hs
    split at hs
    · cases hs; rfl
    · exact isIoAt_of h'.1 s hs
/-- the slots vs hold nothing that is known: any values do there -/
theorem Rel.any {vs : List Nat} (Rr : Rel K C α F (wipeE ρ vs) σ H) (e : L2.wipe σ vs = L2.wipe σ' vs) : Rel K C α F (wipeE ρ vs) σ' H := by
  have hl : σ.length = σ'.length := by
    have := congrArg List.length e
    rwa [wipe_length, wipe_length] at this
  refine ⟨hl ▸ Rr.len, fun i s h => ?_, Rr.inj, Rr.io, Rr.kp, Rr.kn, Rr.nf, Rr.nd, Rr.fd, Rr.on⟩
  obtain ⟨o, h1, h2⟩ := Rr.slot i s h
  have hi : i < σ'.length := by rw [← hl]; exact (List.getElem?_eq_some_iff.mp h1).1
  by_cases hv : i ∈ vs
  · rw [wipeE_get] at h
    have hi2 : i < ρ.length := by
      have := Rr.len
      rw [wipeE_length] at this
      omega
    rw [if_pos ⟨hv, hi2⟩] at h
    cases h
    exact ⟨_, List.getElem?_eq_getElem hi, trivial⟩
  · have q := congrArg (fun l => l[i]?) e
    simp only [wipe_get] at q
    rw [if_neg (fun z => hv z.1), if_neg (fun z => hv z.1)] at q
    exact ⟨o, q ▸ h1, h2⟩
end

/-! ### targets -/
def TG8 (K : PySem.W.Frag) (is : List Nat) (g : Dt → Ev → Option Ev) : TG := fun v σ H Q => ∃ C α F ρ d, Rel K C α F ρ σ H ∧ Rp K F H v d ∧ ∃ ρ', g d ρ = some ρ' ∧ ∀ σ', Rel K C α F ρ' σ' H → (∀ vs : List Nat, (∀ i ∈ is, i ∈ vs) → wipe σ' vs = wipe σ vs) → Q σ' H
def TGs8 (K : PySem.W.Frag) (is : List Nat) (g : List Dt → Ev → Option Ev) : TGs := fun v σ H Q => ∃ C α F ρ d, Rel K C α F ρ σ H ∧ RpAll K F H v d ∧ ∃ ρ', g d ρ = some ρ' ∧ ∀ σ', Rel K C α F ρ' σ' H → (∀ vs : List Nat, (∀ i ∈ is, i ∈ vs) → wipe σ' vs = wipe σ vs) → Q σ' H
def JG (X : Cx) (tg : Expr) (is : List Nat) (g : Dt → Ev → Option Ev) : Prop := PG X tg (TG8 X.K is g)
def JGs (X : Cx) (tgs : List Expr) (is : List Nat) (g : List Dt → Ev → Option Ev) : Prop := PGs X tgs (TGs8 X.K is g)
def gN (i : Nat) : Dt → Ev → Option Ev := fun d ρ => if isIoAt ρ i = true then none else some (ρ.set i (.val d))
def gAll : List Nat → List Dt → Ev → Option Ev
  | [], [], ρ => some ρ
  | i :: is, d :: ds, ρ => (gN i d ρ).bind fun ρ1 => gAll is ds ρ1
  | _, _, _ => none
def gT (is : List Nat) : Dt → Ev → Option Ev := fun d ρ => match d with
  | .tuple ds => gAll is ds ρ
  | _ => none
section
variable {X : Cx} {pos : Pos}
theorem gN_rel {K : PySem.W.Frag} {C α F} {ρ ρ' : Ev} {σ : L2.St} {H : Hp} {i : Nat} {d : Dt} {v : V} (Rr : Rel K C α F ρ σ H) (rv : Rp K F H v d) (h : gN i d ρ = some ρ') : Rel K C α F ρ' (σ.set i (some v)) H := by
  unfold gN at h
  split at h
  · cases h
  · rename_i c
    cases h
    exact Rr.setVal rv (isIoAt_of (by simpa using c)) _ (.inl rfl)
theorem JG.name (i : Nat) {x : Str} (hN : X.N.Nodup) (hi : X.N[i]? = some x := by rfl) (hx : Loc X.env.scope x := by first | exact Or.inl rfl | exact Or.inr rfl) (hf : X.fn x = true ∨ X.env.scope.names.lookup x = some .local := by first | exact .inl rfl | exact .inr rfl | assumption) : JG X (.Name x pos) [i] (gN i) := by
  refine ⟨fun pins s σ H v u Q I r ⟨C, α, F, ρ, d, Rr, rv, ρ', hg, k⟩ => (pg_name hN hi hx hf).run pins s σ H v u Q I r ?_⟩
  exact k _ (gN_rel Rr rv hg) fun vs hv => wipe_set (hv i (by simp))
theorem JGs.nil : JGs X [] [] (gAll []) := by
  refine ⟨fun pins s σ H vs us Q I r ⟨C, α, F, ρ, d, Rr, rv, ρ', hg, k⟩ => pgs_nil.run pins s σ H vs us Q I r ?_⟩
  cases d with
  | nil => cases rv; cases hg; exact ⟨rfl, k σ Rr fun _ _ => rfl⟩
  | cons _ _ => cases hg
theorem JGs.cons {i : Nat} {is : List Nat} {e : Expr} {es : List Expr} (h1 : JG X e [i] (gN i)) (h2 : JGs X es is (gAll is)) (hs : (assignEach (e :: es) X.env).map (·.2) = assign e X.env :: (assignEach es X.env).map (·.2) := by rfl) : JGs X (e :: es) (i :: is) (gAll (i :: is)) := by
  refine ⟨fun pins s σ H vs us Q I r ⟨C, α, F, ρ, d, Rr, rv, ρ', hg, k⟩ => (pgs_cons h1 h2 hs).run pins s σ H vs us Q I r ?_⟩
  cases d with
  | nil => cases hg
  | cons d ds =>
    cases rv with
    | cons r1 r2 =>
      have hg : (gN i d ρ).bind (fun ρ1 => gAll is ds ρ1) = some ρ' := hg
      cases h0 : gN i d ρ with
      | none => rw [h0] at hg; cases hg
      | some ρ1 =>
        rw [h0] at hg
        refine ⟨_, _, rfl, C, α, F, ρ, d, Rr, r1, ρ1, h0, fun σ1 R1 w1 => ?_⟩
        refine ⟨C, α, F, ρ1, ds, R1, r2, ρ', hg, fun σ2 R2 w2 => k σ2 R2 fun vs hv => ?_⟩
        rw [w2 vs fun j hj => hv j (List.mem_cons_of_mem _ hj), w1 vs fun j hj => hv j (by simp at hj; rw [hj]; simp)]
theorem JG.tup {es : List Expr} {k : Nat} {is : List Nat} (hc : X.calm = true) (h : JGs X es is (gAll is)) (hn : (assignEach es X.env).length = is.length := by rfl) (hst : (assignEach es X.env).findIdx? (·.1) = none := by rfl) : JG X (.Tuple es k pos) is (gT is) := by
  refine ⟨fun pins s σ H v u Q I r ⟨C, α, F, ρ, d, Rr, rv, ρ', hg, k⟩ => (pg_tup hc h hn hst).run pins s σ H v u Q I r ?_⟩
  cases d with
  | tuple ds =>
    cases rv with
    | tup h1 r1 =>
      have len : ∀ (is : List Nat) (ds : List Dt) (ρ ρ' : Ev), gAll is ds ρ = some ρ' → ds.length = is.length := by
        intro is
        induction is with
        | nil => intro ds ρ ρ' h; cases ds with | nil => rfl | cons _ _ => cases h
        | cons i is ih =>
          intro ds ρ ρ' h
          cases ds with
          | nil => cases h
          | cons d ds =>
            have h : (gN i d ρ).bind (fun ρ1 => gAll is ds ρ1) = some ρ' := h
            cases h0 : gN i d ρ with
            | none => rw [h0] at h; cases h
            | some ρ1 => rw [h0] at h; exact congrArg (· + 1) (ih ds ρ1 ρ' h)
      exact ⟨_, _, rfl, h1, r1.length.trans (len _ _ _ _ hg), C, α, F, ρ, ds, Rr, r1, ρ', hg, k⟩
  | _ => cases hg
end

/-! ### comprehensions -/
def W0 : WX := fun _ _ _ _ => False
def JTs (X : Cx) (ifs : List Expr) (m : Ev → R) : Prop := PTs X ifs (TT8 X.K X.mg W0 m)
theorem JTs.nil {X : Cx} : JTs X [] (mC (.bool true)) := ⟨fun pins s σ H Q I ⟨C, α, F, ρ, Rr, p⟩ => pts_nil.run pins s σ H Q I (p F H (.refl _ _) Rr)⟩
theorem JTs.one {X : Cx} {c : Expr} {m : Ev → R} (h : JT X W0 c m) : JTs X [c] m := pts_one h
def compL (vs : List Nat) (g : Dt → Ev → Option Ev) (mt me : Ev → R) : List Dt → Ev → List Dt → RA
  | [], ρ, acc => .ok acc ρ
  | d :: ds, ρ, acc => match g d ρ with
    | none => .stuck
    | some ρ1 => match mt ρ1 with
      | .ok (.bool true) ρ2 => match me ρ2 with
        | .ok y ρ3 => if noIo ρ3 vs = true ∧ acc.length < 10000 then compL vs g mt me ds (wipeE ρ3 vs) (acc ++ [y]) else .stuck
        | _ => .stuck
      | .ok (.bool false) ρ2 => if noIo ρ2 vs = true then compL vs g mt me ds (wipeE ρ2 vs) acc else .stuck
      | _ => .stuck
def mComp (vs : List Nat) (mi : Ev → RA) (g : Dt → Ev → Option Ev) (mt me : Ev → R) : Ev → RA := fun ρ => match mi ρ with
  | .ok ds ρ1 => if noIo ρ1 vs = true then compL vs g mt me ds (wipeE ρ1 vs) [] else .stuck
  | .exc x ρ1 => .exc x ρ1
  | .stuck => .stuck
theorem wipe_wipe {σ : L2.St} {vs : List Nat} : wipe (wipe σ vs) vs = wipe σ vs := by
  apply List.ext_getElem?
  intro j
  rw [wipe_get, wipe_get, wipe_length]
  split <;> rfl
theorem wipeE_wipeE {ρ : Ev} {vs : List Nat} : wipeE (wipeE ρ vs) vs = wipeE ρ vs := by
  apply List.ext_getElem?
  intro j
  rw [wipeE_get, wipeE_get, wipeE_length]
  split <;> rfl
theorem lt_size {n : Nat} (h : n < 10000) : n < sizeLine := Nat.lt_of_lt_of_le h (by decide)
/-- the reading of a comprehension -/
theorem tLc8 {K : PySem.W.Frag} {mg : Str → Option Value} {W : WX} {vs is : List Nat} {mi : Ev → RA} {g : Dt → Ev → Option Ev} {mt me : Ev → R} {C α F ρ σ H} {Q : VK} (Rr : Rel K C α F ρ σ H) (hsub : ∀ i ∈ is, i ∈ vs)
    (p : PostL K mg W C α F σ H Q (mComp vs mi g mt me ρ)) : tLc (TI8 K mg W mi) (TG8 K is g) (TT8 K mg W0 mt) (TE8 K mg W0 me) vs σ H Q := by
  refine ⟨C, α, F, ρ, Rr, ?_⟩
  unfold mComp at p
  cases h : mi ρ with
  | exc x ρ1 => rw [h] at p; exact p
  | stuck => rw [h] at p; exact p
  | ok ds ρ1 =>
    rw [h] at p
    dsimp only at p
    intro J F1 H1 e1 R1 ok D hD
    by_cases hio : noIo ρ1 vs = true
    · rw [if_pos hio] at p
      obtain ⟨n1, n2, n3, n4⟩ := fresh_own R1 hD
      -- the invariant by the turn
      refine ⟨fun i m Hx => m = ds.length - i ∧ i ≤ ds.length ∧ ∃ Fx ρx acc accV, Ext F1 H1 Fx Hx ∧ Rel K (C.pin D (.lst accV)) α Fx (wipeE ρx vs) (wipe σ vs) Hx ∧ RpAll K Fx Hx accV acc ∧
        PostL K mg W C α F σ H Q (compL vs g mt me (ds.drop i) (wipeE ρx vs) acc), ⟨ds.length, rfl, Nat.zero_le _, F1, ρ1, [], [], ext_laid hD, ((R1.pin hD (.lst [])).wipe hio), .nil, by simpa using p⟩, ?_⟩
      rintro i m Hx ⟨rfl, hi, Fx, ρx, acc, accV, ex, Rx, ra, px⟩
      obtain ⟨it1, it2⟩ := ok Fx Hx ex
      by_cases hlt : i < ds.length
      · obtain ⟨go, yl⟩ := it1 i ds[i] (List.getElem?_eq_getElem hlt)
        rw [List.drop_eq_getElem_cons hlt] at px
        refine .inr ⟨go, fun H' => ∃ Fy ρy acc' accV', Ext F1 H1 Fy H' ∧ Rel K (C.pin D (.lst accV')) α Fy (wipeE ρy vs) (wipe σ vs) H' ∧ RpAll K Fy H' accV' acc' ∧
          PostL K mg W C α F σ H Q (compL vs g mt me (ds.drop (i + 1)) (wipeE ρy vs) acc'), fun H' hN => ⟨ds.length - (i + 1), by omega, rfl, hlt, hN⟩, fun x H' y => ?_⟩
        obtain ⟨F2, gr, rx⟩ := yl x H' y
        have R2 := gr.rel Rx
        have e2 := gr.ext
        unfold compL at px
        cases hg : g ds[i] (wipeE ρx vs) with
        | none => rw [hg] at px; exact px.elim
        | some ρ2 =>
          rw [hg] at px
          dsimp only at px
          refine ⟨C.pin D (.lst accV), α, F2, wipeE ρx vs, ds[i], R2, rx, ρ2, hg, fun σ3 R3 w3 => ⟨?_, ?_⟩⟩
          · rw [w3 vs hsub, wipe_wipe]
          · have ws3 : wipe σ3 vs = wipe σ vs := by rw [w3 vs hsub, wipe_wipe]
            refine ⟨C.pin D (.lst accV), α, F2, ρ2, R3, ?_⟩
            cases ht : mt ρ2 with
            | ok d ρ3 =>
              rw [ht] at px
              cases d with
              | bool b =>
                cases b with
                | true =>
                  dsimp only at px
                  intro F3 H3 e3 R3'
                  rw [if_pos rfl]
                  refine ⟨C.pin D (.lst accV), α, F3, ρ3, R3', ?_⟩
                  cases hm : me ρ3 with
                  | ok y' ρ4 =>
                    rw [hm] at px
                    intro v F4 H4 e4 R4 rv
                    dsimp only at px
                    by_cases hc : noIo ρ4 vs = true ∧ acc.length < 10000
                    · rw [if_pos hc] at px
                      have ra' := ra.mono ((e2.trans e3).trans e4)
                      obtain ⟨R5, e5⟩ := R4.repin (o' := .lst (accV ++ [v])) (fun z => z)
                      refine ⟨accV, R4.pinned.1, lt_size (by rw [ra.length]; exact hc.2), F4, ρ4, acc ++ [y'], accV ++ [v], (((ex.trans e2).trans e3).trans e4).trans e5, ?_, (ra'.append (.cons rv .nil)).mono e5, px⟩
                      have R6 := R5.wipe hc.1
                      rw [ws3] at R6
                      exact R6
                    · rw [if_neg hc] at px; exact px.elim
                  | exc x ρ4 => rw [hm] at px; exact px.elim
                  | stuck => rw [hm] at px; exact px.elim
                | false =>
                  dsimp only at px
                  intro F3 H3 e3 R3'
                  rw [if_neg Bool.false_ne_true]
                  by_cases hc : noIo ρ3 vs = true
                  · rw [if_pos hc] at px
                    have R6 := R3'.wipe hc
                    rw [ws3] at R6
                    exact ⟨F3, ρ3, acc, accV, (ex.trans e2).trans e3, R6, ra.mono (e2.trans e3), px⟩
                  · rw [if_neg hc] at px; exact px.elim
              | _ => exact px.elim
            | exc x ρ3 => rw [ht] at px; exact px.elim
            | stuck => rw [ht] at px; exact px.elim
      · have ei : i = ds.length := by omega
        subst ei
        refine .inl ⟨it2, ?_⟩
        rw [List.drop_length] at px
        obtain ⟨hDx, nFx, nox⟩ := Rx.pinned
        refine px D accV Fx Hx (e1.trans ex) ?_ hDx ra nFx n2 n3 nox
        exact (Rx.unpin n3).any wipe_wipe
    · rw [if_neg hio] at p; exact p.elim
section
variable {X : Cx} {W : WX} {elt tg iter : Expr} {ifs : List Expr} {scope : Scope} {own : List (Str × Nat)} {pos : Pos} {is : List Nat} {mi : Ev → RA} {g : Dt → Ev → Option Ev} {mt me : Ev → R}
theorem JL.comp (hc : X.calm = true) (hN : X.N.Nodup) (hi : JI X W tg iter mi) (ok : BlkOk X.N X.env.scope scope own)
    (hg : ∀ (s : Shared) (H : Hp) (C : Addr) (cl : List (Str × Addr)) (fp : List Addr), JG (X.blk s H scope (compEnvC scope cl C X.env) fp) tg is g) (ht : ∀ (s : Shared) (H : Hp) (C : Addr) (cl : List (Str × Addr)) (fp : List Addr), JTs (X.blk s H scope (compEnvC scope cl C X.env) fp) ifs mt)
    (he : ∀ (s : Shared) (H : Hp) (C : Addr) (cl : List (Str × Addr)) (fp : List Addr), JE (X.blk s H scope (compEnvC scope cl C X.env) fp) W0 elt me) (hsub : ∀ i ∈ is, i ∈ own.map (·.2) := by decide) (hs : ∀ x, foldedSetIterable iter X.env x = pure x := by intro _; rfl) :
    JL X W (.ListComp elt [⟨tg, iter, ifs, 0⟩] scope pos) (mComp (own.map (·.2)) mi g mt me) :=
  .of (pe_lc (g := TG8 X.K is g) (tt := TT8 X.K X.mg W0 mt) (te := TE8 X.K X.mg W0 me) hc hN hi ok hg ht he hs) fun _ _ _ _ _ _ _ Rr p => tLc8 Rr hsub p
end
end NS

set_option Elab.async false
set_option linter.all false
set_option autoImplicit false
set_option maxRecDepth 100000
set_option maxHeartbeats 4000000
namespace NS
open PySem PySem.Spec PyProof.Rows L2

/-! ### statements -/
inductive Out where
  | nx (ρ : Ev)
  | rt (d : Dt) (ρ : Ev)
  | bk (ρ : Ev)
  | ct (ρ : Ev)
  | ex (x : Exn) (ρ : Ev)
  | stuck
def PostS (K : PySem.W.Frag) (mg : Str → Option Value) (W : WX) (C : Ctx) (F : Fz) (H : Hp) (D : Ends) : Out → Prop
  | .nx ρ' => ∀ α F' σ H', Ext F H F' H' → Rel K C α F' ρ' σ H' → D.nx σ H'
  | .rt d ρ' => ∀ α F' σ H' v, Ext F H F' H' → Rel K C α F' ρ' σ H' → Rp K F' H' v d → D.rt v H'
  | .bk ρ' => ∀ α F' σ H', Ext F H F' H' → Rel K C α F' ρ' σ H' → D.bk σ H'
  | .ct ρ' => ∀ α F' σ H', Ext F H F' H' → Rel K C α F' ρ' σ H' → D.ct σ H'
  | .ex x ρ' => ∀ α F' σ H' cls dd, Ext F H F' H' → Rel K C α F' ρ' σ H' → XRel K mg F' H' cls dd x → W cls dd σ H'
  | .stuck => False
def TS8 (K : PySem.W.Frag) (mg : Str → Option Value) (W : WX) (m : Ev → Out) : TS := fun D σ H => ∃ C α F ρ, Rel K C α F ρ σ H ∧ PostS K mg W C F H D (m ρ)
def JS (X : Cx) (W : WX) (s : Stmt) (m : Ev → Out) : Prop := PS X s (TS8 X.K X.mg W m)
def JB (X : Cx) (W : WX) (s : List Stmt) (m : Ev → Out) : Prop := PSs X s (TS8 X.K X.mg W m)
section
variable {X : Cx} {W : WX} {s : Stmt} {ss rest : List Stmt} {m m1 m2 : Ev → Out}
theorem JS.of {t : TS} (h : PS X s t) (hr : ∀ C α F ρ σ H D, Rel X.K C α F ρ σ H → PostS X.K X.mg W C F H D (m ρ) → t D σ H) : JS X W s m :=
  ⟨fun pins s σ H Q I ⟨C, α, F, ρ, r, p⟩ => h.run pins s σ H Q I (hr C α F ρ σ H Q r p)⟩
theorem JB.of {t : TS} (h : PSs X ss t) (hr : ∀ C α F ρ σ H D, Rel X.K C α F ρ σ H → PostS X.K X.mg W C F H D (m ρ) → t D σ H) : JB X W ss m :=
  ⟨fun pins s σ H Q I ⟨C, α, F, ρ, r, p⟩ => h.run pins s σ H Q I (hr C α F ρ σ H Q r p)⟩
theorem PostS.ext {K : PySem.W.Frag} {mg : Str → Option Value} {C : Ctx} {F F1 : Fz} {H H1 : Hp} {D : Ends} {o : Out} (e : Ext F H F1 H1) (p : PostS K mg W C F H D o) : PostS K mg W C F1 H1 D o := by
  cases o with
  | nx ρ' => exact fun α F' σ H' e' r => p α F' σ H' (e.trans e') r
  | rt d ρ' => exact fun α F' σ H' v e' r q => p α F' σ H' v (e.trans e') r q
  | bk ρ' => exact fun α F' σ H' e' r => p α F' σ H' (e.trans e') r
  | ct ρ' => exact fun α F' σ H' e' r => p α F' σ H' (e.trans e') r
  | ex x ρ' => exact fun α F' σ H' c dd e' r q => p α F' σ H' c dd (e.trans e') r q
  | stuck => exact p
def Out.seq (o : Out) (m : Ev → Out) : Out := match o with
  | .nx ρ => m ρ
  | .rt d ρ => .rt d ρ
  | .bk ρ => .bk ρ
  | .ct ρ => .ct ρ
  | .ex x ρ => .ex x ρ
  | .stuck => .stuck
def mSeq (m1 m2 : Ev → Out) : Ev → Out := fun ρ => (m1 ρ).seq m2
def mNext : Ev → Out := fun ρ => .nx ρ
theorem JB.nil : JB X W [] mNext := .of pss_nil fun C α F ρ σ H D Rr p => p α F σ H (.refl _ _) Rr
theorem JB.cons (h1 : JS X W s m1) (h2 : JB X W rest m2) : JB X W (s :: rest) (mSeq m1 m2) := by
  refine .of (pss_cons h1 h2) fun C α F ρ σ H D Rr p => ?_
  refine ⟨C, α, F, ρ, Rr, ?_⟩
  unfold mSeq at p
  cases h : m1 ρ with
  | nx ρ1 => rw [h] at p; exact fun α F' σ H' e' r => ⟨C, α, F', ρ1, r, PostS.ext e' p⟩
  | rt d ρ' => rw [h] at p; exact p
  | bk ρ' => rw [h] at p; exact p
  | ct ρ' => rw [h] at p; exact p
  | ex x ρ' => rw [h] at p; exact p
  | stuck => rw [h] at p; exact p
theorem JB.one (h : JS X W s m) : JB X W [s] m := pss_one h
theorem JS.pass {pos : Pos} : JS X W (.Pass pos) mNext := .of ps_pass fun C α F ρ σ H D Rr p => p α F σ H (.refl _ _) Rr
theorem JS.brk {pos : Pos} : JS X W (.Break pos) (fun ρ => .bk ρ) := .of ps_break fun C α F ρ σ H D Rr p => p α F σ H (.refl _ _) Rr
theorem JS.cont {pos : Pos} : JS X W (.Continue pos) (fun ρ => .ct ρ) := .of ps_continue fun C α F ρ σ H D Rr p => p α F σ H (.refl _ _) Rr
end

def R.out (r : R) (f : Dt → Ev → Out) : Out := match r with
  | .ok d ρ => f d ρ
  | .exc x ρ => .ex x ρ
  | .stuck => .stuck
def RA.out (r : RA) (f : List Dt → Ev → Out) : Out := match r with
  | .ok d ρ => f d ρ
  | .exc x ρ => .ex x ρ
  | .stuck => .stuck
section
variable {K : PySem.W.Frag} {mg : Str → Option Value} {W : WX} {C : Ctx} {α : Nat → Addr} {F F1 : Fz} {ρ : Ev} {σ : L2.St} {H H1 : Hp} {m : Ev → R} {ma : Ev → RA} {D : Ends}
theorem TE8.out {Q : VK} {f : Dt → Ev → Out} (r : Rel K C α F ρ σ H) (p : PostS K mg W C F H D ((m ρ).out f))
    (k : ∀ d ρ1 v F1 H1, Ext F H F1 H1 → Rel K C α F1 ρ1 σ H1 → Rp K F1 H1 v d → PostS K mg W C F1 H1 D (f d ρ1) → Q v H1) : TE8 K mg W m σ H Q := by
  refine ⟨C, α, F, ρ, r, ?_⟩
  cases h : m ρ with
  | ok d ρ1 => rw [h] at p; exact fun v F' H' e' r' q => k d ρ1 v F' H' e' r' q (PostS.ext e' p)
  | exc x ρ1 => rw [h] at p; exact fun c dd F' H' e' r' q => p α F' σ H' c dd e' r' q
  | stuck => rw [h] at p; exact p
theorem TA8.out {n : Nat} {Q : List V → Hp → Prop} {f : List Dt → Ev → Out} (r : Rel K C α F ρ σ H) (p : PostS K mg W C F H D ((ma ρ).out f))
    (k : ∀ d ρ1 v F1 H1, v.length = n → Ext F H F1 H1 → Rel K C α F1 ρ1 σ H1 → RpAll K F1 H1 v d → PostS K mg W C F1 H1 D (f d ρ1) → Q v H1) : TA8 K mg W n ma σ H Q := by
  refine ⟨C, α, F, ρ, r, ?_⟩
  cases h : ma ρ with
  | ok d ρ1 => rw [h] at p; exact fun v F' H' l e' r' q => k d ρ1 v F' H' l e' r' q (PostS.ext e' p)
  | exc x ρ1 => rw [h] at p; exact fun c dd F' H' e' r' q => p α F' σ H' c dd e' r' q
  | stuck => rw [h] at p; exact p
theorem TL8.out {Q : VK} {f : List Dt → Ev → Out} (r : Rel K C α F ρ σ H) (p : PostS K mg W C F H D ((ma ρ).out f))
    (k : ∀ ds ρ1 q vs F1 H1, Ext F H F1 H1 → Rel K C α F1 ρ1 σ H1 → H1 q = some (.lst vs) → RpAll K F1 H1 vs ds → ¬F1 q → ¬C.nf q → C.keep q = none → (∀ i s, ρ1[i]? = some s → s.isMut = true → α i ≠ q) → PostS K mg W C F1 H1 D (f ds ρ1) → Q (.ref q) H1) : TL8 K mg W ma σ H Q := by
  refine ⟨C, α, F, ρ, r, ?_⟩
  cases h : ma ρ with
  | ok d ρ1 => rw [h] at p; exact fun q vs F' H' e' r' h1 h2 h3 h4 h5 h6 => k d ρ1 q vs F' H' e' r' h1 h2 h3 h4 h5 h6 (PostS.ext e' p)
  | exc x ρ1 => rw [h] at p; exact fun c dd F' H' e' r' q => p α F' σ H' c dd e' r' q
  | stuck => rw [h] at p; exact p
theorem PostL.out {Q : VK} {f : List Dt → Ev → Out} (p : PostS K mg W C F H D ((ma ρ).out f))
    (k : ∀ ds ρ1 q vs F1 H1, Ext F H F1 H1 → Rel K C α F1 ρ1 σ H1 → H1 q = some (.lst vs) → RpAll K F1 H1 vs ds → ¬F1 q → ¬C.nf q → C.keep q = none → (∀ i s, ρ1[i]? = some s → s.isMut = true → α i ≠ q) → PostS K mg W C F1 H1 D (f ds ρ1) → Q (.ref q) H1) : PostL K mg W C α F σ H Q (ma ρ) := by
  cases h : ma ρ with
  | ok d ρ1 => rw [h] at p; exact fun q vs F' H' e' r' h1 h2 h3 h4 h5 h6 => k d ρ1 q vs F' H' e' r' h1 h2 h3 h4 h5 h6 (PostS.ext e' p)
  | exc x ρ1 => rw [h] at p; exact fun c dd F' H' e' r' q => p α F' σ H' c dd e' r' q
  | stuck => rw [h] at p; exact p
def R.iteS (r : R) (f g : Ev → Out) : Out := r.out fun d ρ => match d with
  | .bool true => f ρ
  | .bool false => g ρ
  | _ => .stuck
theorem TT8.out {Q : Bool → Hp → Prop} {f g : Ev → Out} (r : Rel K C α F ρ σ H) (p : PostS K mg W C F H D ((m ρ).iteS f g))
    (k : ∀ b ρ1 F1 H1, Ext F H F1 H1 → Rel K C α F1 ρ1 σ H1 → PostS K mg W C F1 H1 D (if b = true then f ρ1 else g ρ1) → Q b H1) : TT8 K mg W m σ H Q := by
  refine ⟨C, α, F, ρ, r, ?_⟩
  cases h : m ρ with
  | ok d ρ1 =>
    rw [h] at p
    cases d with
    | bool b => cases b <;> exact fun F' H' e' r' => k _ ρ1 F' H' e' r' (PostS.ext e' p)
    | _ => exact p
  | exc x ρ1 => rw [h] at p; exact fun c dd F' H' e' r' q => p α F' σ H' c dd e' r' q
  | stuck => rw [h] at p; exact p
end

section
variable {X : Cx} {W : WX} {e c : Expr} {ss rest : List Stmt} {me mc : Ev → R} {mr : Ev → RA} {m1 m2 : Ev → Out} {pos pos' : Pos}
def mRet (me : Ev → R) : Ev → Out := fun ρ => (me ρ).out fun d ρ1 => .rt d ρ1
def mDrop (me : Ev → R) : Ev → Out := fun ρ => (me ρ).out fun _ ρ1 => .nx ρ1
def mIfS (mc : Ev → R) (m1 m2 : Ev → Out) : Ev → Out := fun ρ => (mc ρ).iteS m1 m2
def mSet (i : Nat) (me : Ev → R) : Ev → Out := fun ρ => (me ρ).out fun d ρ1 => if isIoAt ρ1 i = true then .stuck else .nx (ρ1.set i (.val d))
def mOwn (i : Nat) (mr : Ev → RA) : Ev → Out := fun ρ => (mr ρ).out fun ds ρ1 => if isIoAt ρ1 i = true then .stuck else .nx (ρ1.set i (.own ds))
theorem JS.ret (he : JE X W e me) : JS X W (.Return (some e) pos) (mRet me) := by
  refine .of (ps_ret he) fun C α F ρ σ H D Rr p => ?_
  exact TE8.out Rr p fun d ρ1 v F1 H1 e1 R1 rv p1 => p1 α F1 σ H1 v (.refl _ _) R1 rv
theorem JS.retN : JS X W (.Return none pos) (fun ρ => .rt .none ρ) := .of ps_retN fun C α F ρ σ H D Rr p => p α F σ H .non (.refl _ _) Rr .non
theorem JS.expr (he : JE X W e me) (hs : swapsWith e none pos.line X.env = pure false := by rfl) : JS X W (.Expr e pos) (mDrop me) := by
  refine .of (ps_expr he hs) fun C α F ρ σ H D Rr p => ?_
  exact TE8.out Rr p fun d ρ1 v F1 H1 e1 R1 rv p1 => p1 α F1 σ H1 (.refl _ _) R1
theorem JS.if (hc : JT X W c mc) (h1 : JB X W ss m1) (h2 : JB X W rest m2) : JS X W (.If c ss rest pos) (mIfS mc m1 m2) := by
  refine .of (ps_if hc h1 h2) fun C α F ρ σ H D Rr p => ?_
  refine TT8.out Rr p fun b ρ1 F1 H1 e1 R1 p1 => ?_
  cases b with
  | true => exact ⟨C, α, F1, ρ1, R1, p1⟩
  | false => exact ⟨C, α, F1, ρ1, R1, p1⟩
theorem JS.set (i : Nat) {x : Str} (hN : X.N.Nodup) (he : JE X W e me) (hi : X.N[i]? = some x := by rfl) (hx : Loc X.env.scope x := by first | exact Or.inl rfl | exact Or.inr rfl) (hs : swapsWith e (some (.Name x pos')) pos.line X.env = pure false := by rfl) (hf : X.fn x = true ∨ X.env.scope.names.lookup x = some .local := by first | exact .inl rfl | exact .inr rfl | assumption) :
    JS X W (.Assign [.Name x pos'] e pos) (mSet i me) := by
  refine .of (ps_set hN hi hx he hs hf) fun C α F ρ σ H D Rr p => ?_
  refine TE8.out Rr p fun d ρ1 v F1 H1 e1 R1 rv p1 => ?_
  by_cases hc : isIoAt ρ1 i = true
  · rw [if_pos hc] at p1; exact p1.elim
  · rw [if_neg hc] at p1
    exact p1 α F1 _ H1 (.refl _ _) (R1.setVal rv (isIoAt_of (by simpa using hc)) _ (.inl rfl))
theorem own_post {K : PySem.W.Frag} {mg : Str → Option Value} {C α F σ H} {ρ1 : Ev} {D : Ends} {i : Nat} {q : Addr} {vs : List V} {ds : List Dt} (R1 : Rel K C α F ρ1 σ H) (hq : H q = some (.lst vs)) (rs : RpAll K F H vs ds) (n1 : ¬F q) (n2 : ¬C.nf q) (n3 : C.keep q = none) (n4 : ∀ i s, ρ1[i]? = some s → s.isMut = true → α i ≠ q)
    (p1 : PostS K mg W C F H D (if isIoAt ρ1 i = true then .stuck else .nx (ρ1.set i (.own ds)))) : gName i (.ref q) σ H D.nx := by
  by_cases hc : isIoAt ρ1 i = true
  · rw [if_pos hc] at p1; exact p1.elim
  · rw [if_neg hc] at p1
    exact p1 _ F _ H (.refl _ _) (R1.setOwn (s := .own ds) ⟨rfl, n1, vs, hq, rs⟩ rfl rfl (isIoAt_of (by simpa using hc)) n4 n3 n2)
/-- a name is given a new list, its own -/
theorem JS.own (i : Nat) {x : Str} (hN : X.N.Nodup) (he : JL X W e mr) (hi : X.N[i]? = some x := by rfl) (hx : Loc X.env.scope x := by first | exact Or.inl rfl | exact Or.inr rfl) (hs : swapsWith e (some (.Name x pos')) pos.line X.env = pure false := by rfl) (hf : X.fn x = true ∨ X.env.scope.names.lookup x = some .local := by first | exact .inl rfl | exact .inr rfl | assumption) :
    JS X W (.Assign [.Name x pos'] e pos) (mOwn i mr) := by
  refine .of (ps_set hN hi hx he hs hf) fun C α F ρ σ H D Rr p => ?_
  exact TL8.out Rr p fun ds ρ1 q vs F1 H1 e1 R1 hq rs n1 n2 n3 n4 p1 => own_post R1 hq rs n1 n2 n3 n4 p1
/-- a, b = e -/
def mAsgG (g : Dt → Ev → Option Ev) (me : Ev → R) : Ev → Out := fun ρ => (me ρ).out fun d ρ1 => match g d ρ1 with
  | some ρ2 => .nx ρ2
  | none => .stuck
theorem JS.asg {tg : Expr} {is : List Nat} {g : Dt → Ev → Option Ev} (he : JE X W e me) (hg : JG X tg is g) (hs : swapsWithSole [tg] e pos.line X.env = pure false := by rfl) (hw : swappedStores [tg] e X.env = pure none := by rfl) (h1 : (assignEach [tg] X.env).map (·.2) = [assign tg X.env] := by rfl) : JS X W (.Assign [tg] e pos) (mAsgG g me) := by
  refine .of (ps_asg he hg hs hw h1) fun C α F ρ σ H D Rr p => ?_
  refine TE8.out Rr p fun d ρ1 v F1 H1 e1 R1 rv p1 => ?_
  cases hgd : g d ρ1 with
  | none => rw [hgd] at p1; exact p1.elim
  | some ρ2 =>
    rw [hgd] at p1
    exact ⟨C, α, F1, ρ1, d, R1, rv, ρ2, hgd, fun σ' R2 _ => p1 α F1 σ' H1 (.refl _ _) R2⟩
/-- a, b = e1, e2 -/
def mPar (i j : Nat) (mr : Ev → RA) : Ev → Out := fun ρ => (mr ρ).out fun ds ρ1 => match ds with
  | [d, d2] => match gN i d ρ1 with
    | some ρ2 => match gN j d2 ρ2 with
      | some ρ3 => .nx ρ3
      | none => .stuck
    | none => .stuck
  | _ => .stuck
theorem JS.par (i j : Nat) {x y : Str} {a b : Expr} {px py pt : Pos} {kt k2 pt2} (hc : X.calm = true) (hN : X.N.Nodup) (ha : JA X W [a, b] mr) (hi : X.N[i]? = some x := by rfl) (hj : X.N[j]? = some y := by rfl) (hij : i ≠ j := by decide)
    (hx : X.env.scope.names.lookup x = some .local := by rfl) (hy : X.env.scope.names.lookup y = some .local := by rfl)
    (hw : swappedStores [.Tuple [.Name x px, .Name y py] kt pt] (.Tuple [a, b] k2 pt2) X.env = pure (some [x, y]) := by rfl)
    (hs : swapsWithSole [.Tuple [.Name x px, .Name y py] kt pt] (.Tuple [a, b] k2 pt2) pos.line X.env = pure false := by rfl) :
    JS X W (.Assign [.Tuple [.Name x px, .Name y py] kt pt] (.Tuple [a, b] k2 pt2) pos) (mPar i j mr) := by
  refine .of (ps_par hc hN hi hj hij hx hy ha hw hs) fun C α F ρ σ H D Rr p => ?_
  refine TA8.out Rr p fun ds ρ1 vs F1 H1 l e1 R1 rs p1 => ?_
  cases rs with
  | nil => exact p1.elim
  | cons r1 t =>
    cases t with
    | nil => exact p1.elim
    | cons r2 t2 =>
      cases t2 with
      | cons _ _ => exact p1.elim
      | nil =>
        rename_i v1 d1 v2 d2
        dsimp only at p1
        cases h1 : gN i d1 ρ1 with
        | none => rw [h1] at p1; exact p1.elim
        | some ρ2 =>
          rw [h1] at p1
          dsimp only at p1
          cases h2 : gN j d2 ρ2 with
          | none => rw [h2] at p1; exact p1.elim
          | some ρ3 =>
            rw [h2] at p1
            exact ⟨v1, v2, rfl, p1 α F1 _ H1 (.refl _ _) (gN_rel (gN_rel R1 r1 h1) r2 h2)⟩
/-- name = [.. for ..] on one line -/
theorem JS.setComp (i : Nat) {y : Str} {py spos : Pos} {elt tg iter : Expr} {ifs : List Expr} {scope : Scope} {own : List (Str × Nat)} {is : List Nat} {mi : Ev → RA} {g : Dt → Ev → Option Ev} {mt me : Ev → R} (hc : X.calm = true) (hN : X.N.Nodup) (hi : JI X W tg iter mi) (ok : BlkOk X.N X.env.scope scope own)
    (hg : ∀ (s : Shared) (H : Hp) (C : Addr) (cl : List (Str × Addr)) (fp : List Addr), JG (X.blk s H scope (compEnvC scope cl C X.env) fp) tg is g) (ht : ∀ (s : Shared) (H : Hp) (C : Addr) (cl : List (Str × Addr)) (fp : List Addr), JTs (X.blk s H scope (compEnvC scope cl C X.env) fp) ifs mt)
    (he : ∀ (s : Shared) (H : Hp) (C : Addr) (cl : List (Str × Addr)) (fp : List Addr), JE (X.blk s H scope (compEnvC scope cl C X.env) fp) W0 elt me) (hy : X.N[i]? = some y := by rfl) (hyl : X.env.scope.names.lookup y = some .local := by rfl) (hsub : ∀ i ∈ is, i ∈ own.map (·.2) := by decide) (hs : ∀ x, foldedSetIterable iter X.env x = pure x := by intro _; rfl)
    (hsw : swapsWith (.ListComp elt [⟨tg, iter, ifs, 0⟩] scope pos) (some (.Name y py)) spos.line X.env = pure true := by exact sw_true rfl rfl rfl (by decide +kernel)) :
    JS X W (.Assign [.Name y py] (.ListComp elt [⟨tg, iter, ifs, 0⟩] scope pos) spos) (mOwn i (mComp (own.map (·.2)) mi g mt me)) := by
  refine .of (ps_setLc (g := TG8 X.K is g) (tt := TT8 X.K X.mg W0 mt) (te := TE8 X.K X.mg W0 me) hc hN hy hyl hsw hi ok hg ht he hs) fun C α F ρ σ H D Rr p => ?_
  refine tLc8 Rr hsub ?_
  exact PostL.out p fun ds ρ1 q vs F1 H1 e1 R1 hq rs n1 n2 n3 n4 p1 => own_post R1 hq rs n1 n2 n3 n4 p1
/-- name = [.. for ..] on one line, never changed -/
theorem JS.setCompV (i : Nat) {y : Str} {py spos : Pos} {elt tg iter : Expr} {ifs : List Expr} {scope : Scope} {own : List (Str × Nat)} {is : List Nat} {mi : Ev → RA} {g : Dt → Ev → Option Ev} {mt me : Ev → R} (hc : X.calm = true) (hN : X.N.Nodup) (hi : JI X W tg iter mi) (ok : BlkOk X.N X.env.scope scope own)
    (hg : ∀ (s : Shared) (H : Hp) (C : Addr) (cl : List (Str × Addr)) (fp : List Addr), JG (X.blk s H scope (compEnvC scope cl C X.env) fp) tg is g) (ht : ∀ (s : Shared) (H : Hp) (C : Addr) (cl : List (Str × Addr)) (fp : List Addr), JTs (X.blk s H scope (compEnvC scope cl C X.env) fp) ifs mt)
    (he : ∀ (s : Shared) (H : Hp) (C : Addr) (cl : List (Str × Addr)) (fp : List Addr), JE (X.blk s H scope (compEnvC scope cl C X.env) fp) W0 elt me) (hy : X.N[i]? = some y := by rfl) (hyl : X.env.scope.names.lookup y = some .local := by rfl) (hsub : ∀ i ∈ is, i ∈ own.map (·.2) := by decide) (hs : ∀ x, foldedSetIterable iter X.env x = pure x := by intro _; rfl)
    (hsw : swapsWith (.ListComp elt [⟨tg, iter, ifs, 0⟩] scope pos) (some (.Name y py)) spos.line X.env = pure true := by exact sw_true rfl rfl rfl (by decide +kernel)) :
    JS X W (.Assign [.Name y py] (.ListComp elt [⟨tg, iter, ifs, 0⟩] scope pos) spos) (mSet i (mLst (mComp (own.map (·.2)) mi g mt me))) := by
  refine .of (ps_setLc (g := TG8 X.K is g) (tt := TT8 X.K X.mg W0 mt) (te := TE8 X.K X.mg W0 me) hc hN hy hyl hsw hi ok hg ht he hs) fun C α F ρ σ H D Rr p => ?_
  refine tLc8 Rr hsub ?_
  have p' : PostS X.K X.mg W C F H D ((mComp (own.map (·.2)) mi g mt me ρ).out fun ds ρ1 => if isIoAt ρ1 i = true then .stuck else .nx (ρ1.set i (.val (.list ds)))) := by
    unfold mSet mLst at p
    cases h : mComp (own.map (·.2)) mi g mt me ρ <;> rw [h] at p <;> exact p
  refine PostL.out p' fun ds ρ1 q vs F1 H1 e1 R1 hq rs n1 n2 n3 n4 p1 => ?_
  by_cases hc : isIoAt ρ1 i = true
  · rw [if_pos hc] at p1; exact p1.elim
  · rw [if_neg hc] at p1
    have R2 := R1.freeze (by rw [hq]; intro z; cases z) n2 n4
    exact p1 α _ _ H1 ext_ins (R2.setVal (.lst (.inl ⟨.inr rfl, .inl hq⟩) (rs.mono ext_ins)) (isIoAt_of (by simpa using hc)) _ (.inl rfl))

/-! ### for, while -/
def forL (g : Dt → Ev → Option Ev) (b : Ev → Out) : List Dt → Ev → Out
  | [], ρ => .nx ρ
  | d :: ds, ρ => match g d ρ with
    | none => .stuck
    | some ρ1 => match b ρ1 with
      | .nx ρ2 => forL g b ds ρ2
      | .ct ρ2 => forL g b ds ρ2
      | .bk ρ2 => .nx ρ2
      | .rt d ρ2 => .rt d ρ2
      | .ex x ρ2 => .ex x ρ2
      | .stuck => .stuck
def mFor (mi : Ev → RA) (g : Dt → Ev → Option Ev) (b : Ev → Out) : Ev → Out := fun ρ => (mi ρ).out fun ds ρ1 => forL g b ds ρ1
theorem JS.for {tg iter : Expr} {is : List Nat} {g : Dt → Ev → Option Ev} {mi : Ev → RA} {b : Ev → Out} (po : PassesOwn (model X.prog X.w) X.A X.env X.xe) (hc : X.calm = true) (hi : JI X W tg iter mi) (hg : JG X tg is g) (hb : JB X W ss b)
    (hs : ∀ x, foldedSetIterable iter X.env x = pure x := by intro _; rfl) : JS X W (.For tg iter ss [] pos) (mFor mi g b) := by
  refine .of (ps_for po hc hi hg hb hs) fun C α F ρ σ H D Rr p => ?_
  refine ⟨C, α, F, ρ, Rr, ?_⟩
  unfold mFor at p
  cases h : mi ρ with
  | exc x ρ1 => rw [h] at p; exact fun c dd F' H' e' r' q => p α F' σ H' c dd e' r' q
  | stuck => rw [h] at p; exact p
  | ok ds ρ1 =>
    rw [h] at p
    intro J F1 H1 e1 R1 ok
    have p1 : PostS X.K X.mg W C F1 H1 D (forL g b ds ρ1) := PostS.ext e1 p
    refine ⟨fun i m σx Hx => m = ds.length - i ∧ i ≤ ds.length ∧ ∃ αx Fx ρx, Ext F1 H1 Fx Hx ∧ Rel X.K C αx Fx ρx σx Hx ∧ PostS X.K X.mg W C Fx Hx D (forL g b (ds.drop i) ρx), ⟨ds.length, rfl, Nat.zero_le _, α, F1, ρ1, .refl _ _, R1, by simpa using p1⟩, ?_⟩
    rintro i m σx Hx ⟨rfl, hi, αx, Fx, ρx, ex, Rx, px⟩
    obtain ⟨it1, it2⟩ := ok Fx Hx ex
    by_cases hlt : i < ds.length
    · obtain ⟨go, yl⟩ := it1 i ds[i] (List.getElem?_eq_getElem hlt)
      rw [List.drop_eq_getElem_cons hlt] at px
      refine .inr ⟨go, fun σ' H' => ∃ αx Fx ρx, Ext F1 H1 Fx H' ∧ Rel X.K C αx Fx ρx σ' H' ∧ PostS X.K X.mg W C Fx H' D (forL g b (ds.drop (i + 1)) ρx), fun σ' H' hN => ⟨ds.length - (i + 1), by omega, rfl, hlt, hN⟩, fun x H' y => ?_⟩
      obtain ⟨F2, gr, rx⟩ := yl x H' y
      have R2 := gr.rel Rx
      have e2 := gr.ext
      unfold forL at px
      cases hgd : g ds[i] ρx with
      | none => rw [hgd] at px; exact px.elim
      | some ρ2 =>
        rw [hgd] at px
        dsimp only at px
        refine ⟨C, αx, F2, ρx, ds[i], R2, rx, ρ2, hgd, fun σ3 R3 _ => ⟨C, αx, F2, ρ2, R3, ?_⟩⟩
        cases hbd : b ρ2 with
        | nx ρ3 => rw [hbd] at px; exact fun α4 F4 σ4 H4 e4 R4 => ⟨α4, F4, ρ3, (ex.trans e2).trans e4, R4, PostS.ext (e2.trans e4) px⟩
        | ct ρ3 => rw [hbd] at px; exact fun α4 F4 σ4 H4 e4 R4 => ⟨α4, F4, ρ3, (ex.trans e2).trans e4, R4, PostS.ext (e2.trans e4) px⟩
        | bk ρ3 => rw [hbd] at px; exact fun α4 F4 σ4 H4 e4 R4 => px α4 F4 σ4 H4 (e2.trans e4) R4
        | rt d ρ3 => rw [hbd] at px; exact fun α4 F4 σ4 H4 v e4 R4 q => px α4 F4 σ4 H4 v (e2.trans e4) R4 q
        | ex x ρ3 => rw [hbd] at px; exact fun α4 F4 σ4 H4 c dd e4 R4 q => px α4 F4 σ4 H4 c dd (e2.trans e4) R4 q
        | stuck => rw [hbd] at px; exact px
    · have ei : i = ds.length := by omega
      subst ei
      rw [List.drop_length] at px
      exact .inl ⟨it2, px αx Fx σx Hx (.refl _ _) Rx⟩
/-- at most n turns -/
def whileF (mc : Ev → R) (b : Ev → Out) : Nat → Ev → Out
  | 0, _ => .stuck
  | n + 1, ρ => (mc ρ).iteS (fun ρ1 => match b ρ1 with
      | .nx ρ2 => whileF mc b n ρ2
      | .ct ρ2 => whileF mc b n ρ2
      | .bk ρ2 => .nx ρ2
      | .rt d ρ2 => .rt d ρ2
      | .ex x ρ2 => .ex x ρ2
      | .stuck => .stuck) (fun ρ1 => .nx ρ1)
theorem JS.while (n : Nat) {b : Ev → Out} (po : PassesOwn (model X.prog X.w) X.A X.env X.xe) (hc : JT X W c mc) (hb : JB X W ss b) : JS X W (.While c ss [] pos) (whileF mc b n) := by
  refine .of (ps_while po hc hb) fun C α F ρ σ H D Rr p => ?_
  refine ⟨fun m σx Hx => ∃ αx Fx ρx, Rel X.K C αx Fx ρx σx Hx ∧ PostS X.K X.mg W C Fx Hx D (whileF mc b m ρx), ⟨n, α, F, ρ, Rr, p⟩, ?_⟩
  rintro m σx Hx ⟨αx, Fx, ρx, Rx, px⟩
  cases m with
  | zero => exact px.elim
  | succ m =>
    refine TT8.out Rx px fun k ρ1 F1 H1 e1 R1 p1 => ?_
    cases k with
    | false => exact p1 αx F1 σx H1 (.refl _ _) R1
    | true =>
      rw [if_pos rfl] at p1 ⊢
      refine ⟨fun σ' H' => ∃ αy Fy ρy, Rel X.K C αy Fy ρy σ' H' ∧ PostS X.K X.mg W C Fy H' D (whileF mc b m ρy), fun σ' H' hN => ⟨m, Nat.lt_succ_self m, hN⟩, C, αx, F1, ρ1, R1, ?_⟩
      cases hbd : b ρ1 with
      | nx ρ3 => rw [hbd] at p1; exact fun α4 F4 σ4 H4 e4 R4 => ⟨α4, F4, ρ3, R4, PostS.ext e4 p1⟩
      | ct ρ3 => rw [hbd] at p1; exact fun α4 F4 σ4 H4 e4 R4 => ⟨α4, F4, ρ3, R4, PostS.ext e4 p1⟩
      | bk ρ3 => rw [hbd] at p1; exact p1
      | rt d ρ3 => rw [hbd] at p1; exact p1
      | ex x ρ3 => rw [hbd] at p1; exact p1
      | stuck => rw [hbd] at p1; exact p1
end
end NS

set_option Elab.async false
set_option linter.all false
set_option autoImplicit false
set_option maxRecDepth 100000
set_option maxHeartbeats 4000000
namespace PySem
open AutoSeq1 in
theorem list_extend_tuple8 (l : Addr) (items : Array Value) (n : Nat) (b : Addr) (items2 : Array Value) (n2 : Nat) (dd : Option Addr) (sl : Array (Option Value)) (hs0 : ¬(!items.isEmpty && Builtin.List.listTooLong (items.size + items2.size)) = true) (hs1 : items.size ≤ sizeLine) (hs2 : items.size + items2.size ≤ sizeLine + 1 := by seq_fits) :
    Meets (Builtin.«list.extend» ⟨[.ref l, .ref b], []⟩) (fun _ R s => s.heap.get? l = some { cls := .type "list", dict := none, data := .seq items n, slots := #[] } ∧ s.heap.get? b = some { cls := .type "tuple", dict := dd, data := .seq items2 n2, slots := sl } ∧ R (.ok (.ret Value.none)) { s with heap := s.heap.update l (Obj.mapSeq fun x => x ++ items2), toks := s.toks }) :=
  .of_wp fun prog w A R s h => by
    obtain ⟨hp, g, d, tk, os⟩ := s; obtain ⟨hl, hb, h⟩ := h; have f1 := idx_int; have f2 := sub_tuple_tuple; have f3 := sub_list_list; have f4 := sub_tuple_list; have f5 := sub_list_tuple;
    have hz' : (items ++ items2).size ≤ sizeLine + 1 := by rw [Array.size_append]; exact hs2
    wp_walk using (wpAny_updateSeq hl rfl (hz := hs1) (_hz' := hz')), wpAny_loadPart' hl, wpAny_loadPart' hb; exact ⟨_, rfl, h⟩
open AutoSeq1 in
theorem list_extend_list8 (l : Addr) (items : Array Value) (n : Nat) (b : Addr) (items2 : Array Value) (n2 : Nat) (dd : Option Addr) (sl : Array (Option Value)) (hs0 : ¬(!items.isEmpty && Builtin.List.listTooLong (items.size + items2.size)) = true) (hs1 : items.size ≤ sizeLine) (hs2 : items.size + items2.size ≤ sizeLine + 1 := by seq_fits) :
    Meets (Builtin.«list.extend» ⟨[.ref l, .ref b], []⟩) (fun _ R s => s.heap.get? l = some { cls := .type "list", dict := none, data := .seq items n, slots := #[] } ∧ s.heap.get? b = some { cls := .type "list", dict := dd, data := .seq items2 n2, slots := sl } ∧ R (.ok (.ret Value.none)) { s with heap := s.heap.update l (Obj.mapSeq fun x => x ++ items2), toks := s.toks }) :=
  .of_wp fun prog w A R s h => by
    obtain ⟨hp, g, d, tk, os⟩ := s; obtain ⟨hl, hb, h⟩ := h; have f1 := idx_int; have f2 := sub_tuple_tuple; have f3 := sub_list_list; have f4 := sub_tuple_list; have f5 := sub_list_tuple;
    have hz' : (items ++ items2).size ≤ sizeLine + 1 := by rw [Array.size_append]; exact hs2
    wp_walk using (wpAny_updateSeq hl rfl (hz := hs1) (_hz' := hz')), wpAny_loadPart' hl, wpAny_loadPart' hb; exact ⟨_, rfl, h⟩
end PySem
namespace L2
open PySem PySem.Spec PyProof.Rows
section
variable {X : Cx}
def rExtendT (K : PySem.W.Frag) : V → List V → Hp → VK → Prop := fun x vs H Q => ∃ l b xs zs, x = .ref l ∧ vs = [.ref b] ∧ H l = some (.lst xs) ∧ SqT K H b zs ∧ xs.length + zs.length ≤ sizeLine ∧ Q .non (upd H l (.lst (xs ++ zs)))
theorem mt_extendT : MtM X "list.extend" (rExtendT X.K) := by
  intro pins s σ H x vs v us Q I rx rv h
  obtain ⟨l, b, xs, zs, rfl, rfl, hH, hB, hz, q⟩ := h
  cases rx
  obtain ⟨u, rfl, ru⟩ := rv.one
  cases ru
  obtain ⟨z, its, n, r, hl, e⟩ := I.lstM hH
  obtain ⟨its2, r2, ⟨⟨oc, od, dt, sl⟩, ho, hc, n2, hd⟩, z2⟩ := I.tuple hB
  simp only at hc hd
  subst hc hd
  have hl2 := r2.length
  have hsz : its.toArray.size + its2.toArray.size ≤ sizeLine := by rw [List.size_toArray, List.size_toArray]; omega
  have hlong : ¬ (!its.toArray.isEmpty && Builtin.List.listTooLong (its.toArray.size + its2.toArray.size)) = true := by
    rw [notLongL hsz, Bool.and_false]
    exact Bool.false_ne_true
  refine call_meets F.slot_list_extend ⟨_, e, rfl⟩ F.entry_list_extend (F.args_list_extend_2 _ _)
    (PySem.list_extend_tuple8 l its.toArray n b its2.toArray n2 od sl hlong (by rw [List.size_toArray]; omega) (by omega)) ⟨e, ho, ?_⟩
  refine ⟨.non, _, I.lset (its' := its ++ its2) hH e (by simp) (r.append r2) ?_, rfl, q⟩
  rw [List.length_append]
  omega
def rExtendL (K : PySem.W.Frag) : V → List V → Hp → VK → Prop := fun x vs H Q => ∃ l b xs zs, x = .ref l ∧ vs = [.ref b] ∧ H l = some (.lst xs) ∧ SqL K H b zs ∧ xs.length + zs.length ≤ sizeLine ∧ Q .non (upd H l (.lst (xs ++ zs)))
theorem mt_extendL : MtM X "list.extend" (rExtendL X.K) := by
  intro pins s σ H x vs v us Q I rx rv h
  obtain ⟨l, b, xs, zs, rfl, rfl, hH, hB, hz, q⟩ := h
  cases rx
  obtain ⟨u, rfl, ru⟩ := rv.one
  cases ru
  obtain ⟨z, its, n, r, hl, e⟩ := I.lstM hH
  obtain ⟨its2, r2, ⟨⟨oc, od, dt, sl⟩, n2, ho, hc, hd0, hd⟩, z2⟩ := I.list hB
  simp only at hc hd
  subst hc hd
  have hl2 := r2.length
  have hsz : its.toArray.size + its2.toArray.size ≤ sizeLine := by rw [List.size_toArray, List.size_toArray]; omega
  have hlong : ¬ (!its.toArray.isEmpty && Builtin.List.listTooLong (its.toArray.size + its2.toArray.size)) = true := by
    rw [notLongL hsz, Bool.and_false]
    exact Bool.false_ne_true
  refine call_meets F.slot_list_extend ⟨_, e, rfl⟩ F.entry_list_extend (F.args_list_extend_2 _ _)
    (PySem.list_extend_list8 l its.toArray n b its2.toArray n2 od sl hlong (by rw [List.size_toArray]; omega) (by omega)) ⟨e, ho, ?_⟩
  refine ⟨.non, _, I.lset (its' := its ++ its2) hH e (by simp) (r.append r2) ?_, rfl, q⟩
  rw [List.length_append]
  omega
end
end L2
namespace NS
open PySem PySem.Spec PyProof.Rows L2

/-! ### a name's own list -/
def lstAt (ρ : Ev) (i : Nat) : Option (List Dt) := match ρ[i]? with
  | some (.own xs) => some xs
  | some (.io xs) => some xs
  | _ => none
def setL (ρ : Ev) (i : Nat) (ys : List Dt) : Ev := match ρ[i]? with
  | some (.io _) => ρ.set i (.io ys)
  | _ => ρ.set i (.own ys)
section
variable {K : PySem.W.Frag} {C : Ctx} {α : Nat → Addr} {F : Fz} {ρ : Ev} {σ : L2.St} {H : Hp}
theorem Rel.lstAt (Rr : Rel K C α F ρ σ H) {i : Nat} {xs : List Dt} (h : NS.lstAt ρ i = some xs) : σ[i]? = some (some (.ref (α i))) ∧ ¬F (α i) ∧ ∃ vs, H (α i) = some (.lst vs) ∧ RpAll K F H vs xs := by
  unfold NS.lstAt at h
  split at h
  · rename_i ys hi
    cases h
    obtain ⟨o, h1, rfl, h2, h3⟩ := Rr.slot i _ hi
    exact ⟨h1, h2, h3⟩
  · rename_i ys hi
    cases h
    obtain ⟨o, h1, rfl, h2, h3⟩ := Rr.slot i _ hi
    exact ⟨h1, h2, h3⟩
  · cases h
theorem Rel.setL (Rr : Rel K C α F ρ σ H) {i : Nat} {xs ys : List Dt} {vs : List V} (h : NS.lstAt ρ i = some xs) (r : RpAll K F H vs ys) : Rel K C α F (NS.setL ρ i ys) σ (upd H (α i) (.lst vs)) ∧ Ext F H F (upd H (α i) (.lst vs)) := by
  obtain ⟨h1, h2, us, h3, h4⟩ := Rr.lstAt h
  have e : Ext F H F (upd H (α i) (.lst vs)) := ⟨fun _ h => h, fun a u q z => by
    have na : a ≠ α i := fun w => by
      subst w
      rw [h3] at q; cases q
      rcases z with z | z
      · exact h2 z
      · exact z
    rw [upd_ne na]; exact q⟩
  unfold NS.lstAt at h
  split at h
  · rename_i zs hi
    have := Rr.write (o := .lst vs) (t := .own ys) hi rfl rfl rfl ⟨rfl, h2, vs, upd_same, r.mono e⟩
    unfold NS.setL
    rw [hi]
    exact this
  · rename_i zs hi
    have := Rr.write (o := .lst vs) (t := .io ys) hi rfl rfl rfl ⟨rfl, h2, vs, upd_same, r.mono e⟩
    unfold NS.setL
    rw [hi]
    exact this
  · cases h
end
/-- what a method does to the list -/
def MutS (K : PySem.W.Frag) (r : V → List V → Hp → VK → Prop) (f : List Dt → List Dt → Option (List Dt)) : Prop :=
  ∀ (F : Fz) (H : Hp) (q : Addr) (vs args : List V) (xs ds ys : List Dt) (Q : VK), H q = some (.lst vs) → ¬F q → RpAll K F H vs xs → RpAll K F H args ds → f xs ds = some ys → (∀ vs', RpAll K F H vs' ys → Q .non (upd H q (.lst vs'))) → r (.ref q) args H Q
def mMut (i : Nat) (f : List Dt → List Dt → Option (List Dt)) (mr : Ev → RA) : Ev → Out := fun ρ => match lstAt ρ i with
  | none => .stuck
  | some _ => (mr ρ).out fun ds ρ1 => match lstAt ρ1 i with
    | none => .stuck
    | some xs => match f xs ds with
      | some ys => .nx (setL ρ1 i ys)
      | none => .stuck
section
variable {X : Cx} {W : WX} {a b : Expr} {es : List Expr} {ma mb : Ev → R} {mr : Ev → RA} {pos : Pos}
theorem JS.mut (i : Nat) {x name : Str} {id : String} {r : V → List V → Hp → VK → Prop} {f : List Dt → List Dt → Option (List Dt)} {p p2 pos2 : Pos} (slot : Slot "list" name id) (hty : typeOf (.builtin id) = pure (.type "method_descriptor")) (hm : MtM X id r) (hf : MutS X.K r f) (ha : JA X W (a :: es) mr)
    (hN : X.N[i]? = some x := by rfl) (hv : Vis X.env.scope x := by first | exact Or.inl rfl | exact Or.inr (Or.inl rfl) | exact Or.inr (Or.inr rfl)) (hd : (x == ("__debug__" : Str)) = false := by decide) (hcd : (x == ("__classdict__" : Str)) = false := by decide)
    (hbase : attributeBase (.Name x p) name X.env (eval (.Name x p) X.env) = eval (.Name x p) X.env := by rfl)
    (hfew : ((backTo pos2 (starEach (a :: es) X.env)).all (fun x => !x.1) && (backToKw pos2 (keywordEach [] X.env)).all (fun x => x.1.isSome) && decide ((a :: es).length + ([] : List Keyword).length + (if ([] : List Keyword).isEmpty then 0 else 1) < 30)) = true := by rfl)
    (hline : (p2.endLine == pos2.line) = true := by rfl) (hst : starEach (a :: es) X.env = (false, eval a X.env) :: starEach es X.env := by rfl) (hplain : (backTo pos2 (starEach es X.env)).any (·.1) = false := by rfl)
    (hs : swapsWith (.Call (.Attribute (.Name x p) name p2) (a :: es) [] pos2) none pos.line X.env = pure false := by rfl) : JS X W (.Expr (.Call (.Attribute (.Name x p) name p2) (a :: es) [] pos2) pos) (mMut i f mr) := by
  refine .of (ps_expr (pe_bm PySem.F.plainAttrs_list slot hty hm (pe_var hN hv hd hcd) ha hbase hfew hline hst hplain) hs) fun C α F ρ σ H D Rr p => ?_
  unfold mMut at p
  cases h : lstAt ρ i with
  | none => rw [h] at p; exact p.elim
  | some xs0 =>
    rw [h] at p
    dsimp only at p
    obtain ⟨h1, h2, us, h3, h4⟩ := Rr.lstAt h
    refine ⟨_, h1, .inl ⟨rfl, us, .of h3⟩, ?_⟩
    refine TA8.out Rr p fun ds ρ1 args F1 H1 l e1 R1 rs p1 => ?_
    cases hl : lstAt ρ1 i with
    | none => rw [hl] at p1; exact p1.elim
    | some xs =>
      rw [hl] at p1
      dsimp only at p1
      obtain ⟨h1', h2', us', h3', h4'⟩ := R1.lstAt hl
      cases hfx : f xs ds with
      | none => rw [hfx] at p1; exact p1.elim
      | some ys =>
        rw [hfx] at p1
        refine hf F1 H1 (α i) us' args xs ds ys _ h3' h2' h4' rs hfx fun vs' r' => ?_
        obtain ⟨R2, e2⟩ := R1.setL hl r'
        exact p1 α F1 σ _ e2 R2
def appendF (xs ds : List Dt) : Option (List Dt) := match ds with
  | [d] => if xs.length < 10000 then some (xs ++ [d]) else none
  | _ => none
theorem appendS {K : PySem.W.Frag} : MutS K rAppend appendF := by
  intro F H q vs args xs ds ys Q hq nF r rs hf k
  cases ds with
  | nil => cases hf
  | cons d t =>
    cases t with
    | cons _ _ => cases hf
    | nil =>
      obtain ⟨v, rfl, rv⟩ := one_of rs
      have hf : (if xs.length < 10000 then some (xs ++ [d]) else none) = some ys := hf
      split at hf
      · rename_i c
        cases hf
        exact ⟨q, vs, v, rfl, rfl, hq, by rw [r.length]; exact lt_size c, k _ (r.append (.cons rv .nil))⟩
      · cases hf
def extendF (xs ds : List Dt) : Option (List Dt) := match ds with
  | [.list zs] => if xs.length + zs.length ≤ 10000 then some (xs ++ zs) else none
  | [.tuple zs] => if xs.length + zs.length ≤ 10000 then some (xs ++ zs) else none
  | _ => none
theorem mt_extendA : MtM X "list.extend" (fun x vs H Q => rExtendL X.K x vs H Q ∨ rExtendT X.K x vs H Q) := by
  intro pins s σ H x vs v us Q I rx rv h
  rcases h with h | h
  · exact mt_extendL pins s σ H x vs v us Q I rx rv h
  · exact mt_extendT pins s σ H x vs v us Q I rx rv h
theorem extendS {K : PySem.W.Frag} : MutS K (fun x vs H Q => rExtendL K x vs H Q ∨ rExtendT K x vs H Q) extendF := by
  intro F H q vs args xs ds ys Q hq nF r rs hf k
  cases ds with
  | nil => cases hf
  | cons d t =>
    cases t with
    | cons _ _ => cases d <;> cases hf
    | nil =>
      obtain ⟨v, rfl, rv⟩ := one_of rs
      cases d with
      | list zs =>
        have hf : (if xs.length + zs.length ≤ 10000 then some (xs ++ zs) else none) = some ys := hf
        split at hf
        · rename_i c
          cases hf
          cases rv with
          | lst h r2 =>
            exact .inl ⟨q, _, vs, _, rfl, rfl, hq, h.sq, by rw [r.length, r2.length]; exact size_of c, k _ (r.append r2)⟩
        · cases hf
      | tuple zs =>
        have hf : (if xs.length + zs.length ≤ 10000 then some (xs ++ zs) else none) = some ys := hf
        split at hf
        · rename_i c
          cases hf
          cases rv with
          | tup h r2 => exact .inr ⟨q, _, vs, _, rfl, rfl, hq, h, by rw [r.length, r2.length]; exact size_of c, k _ (r.append r2)⟩
        · cases hf
      | _ => cases hf
def insertF (xs ds : List Dt) : Option (List Dt) := match ds with
  | [.int k, d] => if xs.length < 10000 ∧ 0 ≤ k ∧ k < 10000 then some (xs.take k.toNat ++ d :: xs.drop k.toNat) else none
  | _ => none
def rIns : V → List V → Hp → VK → Prop := fun x vs H Q => ∃ (l : Addr) (xs : List V) (i : Int) (y : V), x = .ref l ∧ vs = [.int i, y] ∧ H l = some (.lst xs) ∧ xs.length < sizeLine ∧ 0 ≤ i ∧ i < 2 ^ 63 ∧ Q .non (upd H l (.lst (xs.take i.toNat ++ [y] ++ xs.drop i.toNat)))
theorem mt_insertA : MtM X "list.insert" rIns := mt_insert
theorem insertS {K : PySem.W.Frag} : MutS K rIns insertF := by
  intro F H q vs args xs ds ys Q hq nF r rs hf k
  cases ds with
  | nil => cases hf
  | cons d t =>
    cases d with
    | int j =>
      cases t with
      | nil => cases hf
      | cons d2 t2 =>
        cases t2 with
        | cons _ _ => cases hf
        | nil =>
          obtain ⟨v1, v2, rfl, r1, r2⟩ := two_of rs
          have hf : (if xs.length < 10000 ∧ 0 ≤ j ∧ j < 10000 then some (xs.take j.toNat ++ d2 :: xs.drop j.toNat) else none) = some ys := hf
          split at hf
          · rename_i c
            cases hf
            cases r1
            refine ⟨q, vs, j, v2, rfl, rfl, hq, by rw [r.length]; exact lt_size c.1, c.2.1, by have := c.2.2; omega, ?_⟩
            have := k _ (r.insertIdx r2 j.toNat)
            rw [List.append_assoc]
            exact this
          · cases hf
    | _ => cases hf

/-! ### a place in a name's own list -/
def mIxO (i : Nat) (mb : Ev → R) : Ev → R := fun ρ => match lstAt ρ i with
  | none => .stuck
  | some _ => (mb ρ).bind fun e ρ1 => match lstAt ρ1 i with
    | none => .stuck
    | some xs => R.ofO (ixD (.list xs) e) ρ1
theorem JE.ixO (i : Nat) {x : Str} {p : Pos} (hb : JE X W b mb) (hN : X.N[i]? = some x := by rfl) (hv : Vis X.env.scope x := by first | exact Or.inl rfl | exact Or.inr (Or.inl rfl) | exact Or.inr (Or.inr rfl)) (hd : (x == ("__debug__" : Str)) = false := by decide) (hcd : (x == ("__classdict__" : Str)) = false := by decide) (hs : PlainIx b := by exact fun _ _ => rfl) :
    JE X W (.Subscript (.Name x p) b pos) (mIxO i mb) := by
  refine .of (pe_ix ix_list (pe_var hN hv hd hcd) hb hs) fun C α F ρ σ H Q Rr p => ?_
  unfold mIxO at p
  cases h : lstAt ρ i with
  | none => rw [h] at p; exact p.elim
  | some xs0 =>
    rw [h] at p
    dsimp only at p
    obtain ⟨h1, h2, us, h3, h4⟩ := Rr.lstAt h
    refine ⟨_, h1, ?_⟩
    refine TE8.bind Rr p fun d ρ1 v F1 H1 e1 R1 rv p1 => ?_
    cases hl : lstAt ρ1 i with
    | none => rw [hl] at p1; exact p1.elim
    | some xs =>
      rw [hl] at p1
      dsimp only at p1
      obtain ⟨h1', h2', us', h3', h4'⟩ := R1.lstAt hl
      cases d with
      | int k =>
        cases rv
        cases hz : ixD (.list xs) (.int k) with
        | none => rw [hz] at p1; exact p1.elim
        | some z =>
          rw [hz] at p1
          obtain ⟨w', w1, w2⟩ := atI_rp h4' hz
          exact ⟨_, us', k, w', rfl, rfl, .of h3', w1, p1 w' F1 H1 (.refl _ _) R1 w2⟩
      | _ => exact p1.elim
/-- x[i] = e -/
def mSetIx (i : Nat) (me mi : Ev → R) : Ev → Out := fun ρ => (me ρ).out fun d ρ1 => match lstAt ρ1 i with
  | none => .stuck
  | some _ => (mi ρ1).out fun k ρ2 => match k with
    | .int k => match lstAt ρ2 i with
      | none => .stuck
      | some xs => match ixN xs.length k with
        | some j => .nx (setL ρ2 i (xs.set j d))
        | none => .stuck
    | _ => .stuck
theorem JS.setIx (i : Nat) {x : Str} {p p2 : Pos} (ha : JE X W a ma) (hb : JE X W b mb) (hN : X.N[i]? = some x := by rfl) (hv : Vis X.env.scope x := by first | exact Or.inl rfl | exact Or.inr (Or.inl rfl) | exact Or.inr (Or.inr rfl)) (hd : (x == ("__debug__" : Str)) = false := by decide) (hcd : (x == ("__classdict__" : Str)) = false := by decide)
    (hsub : ∀ v, assign (.Subscript (.Name x p) b p2) X.env v = (do
      let ov ← holding [v] (eval (.Name x p) X.env)
      let iv ← holding [v, ov] (eval b X.env)
      standAt p2
      holding [v, ov, iv] (setItem ov iv v)
      release [v, ov, iv] []) := by intro _; rfl)
    (hs : swapsWithSole [.Subscript (.Name x p) b p2] a pos.line X.env = pure false := by rfl) (hw : swappedStores [.Subscript (.Name x p) b p2] a X.env = pure none := by rfl) (h1 : (assignEach [.Subscript (.Name x p) b p2] X.env).map (·.2) = [assign (.Subscript (.Name x p) b p2) X.env] := by rfl) :
    JS X W (.Assign [.Subscript (.Name x p) b p2] a pos) (mSetIx i ma mb) := by
  refine .of (ps_asg ha (pg_sub (pe_var hN hv hd hcd) hb set_list hsub) hs hw h1) fun C α F ρ σ H D Rr p => ?_
  refine TE8.out Rr p fun d ρ1 v F1 H1 e1 R1 rv p1 => ?_
  cases h : lstAt ρ1 i with
  | none => rw [h] at p1; exact p1.elim
  | some xs0 =>
    rw [h] at p1
    dsimp only at p1
    obtain ⟨h1, h2, us, h3, h4⟩ := R1.lstAt h
    refine ⟨_, h1, ?_⟩
    refine TE8.out R1 p1 fun k ρ2 v2 F2 H2 e2 R2 rv2 p2 => ?_
    cases k with
    | int k =>
      cases rv2
      dsimp only at p2
      cases hl : lstAt ρ2 i with
      | none => rw [hl] at p2; exact p2.elim
      | some xs =>
        rw [hl] at p2
        dsimp only at p2
        obtain ⟨h1', h2', us', h3', h4'⟩ := R2.lstAt hl
        cases hj : ixN xs.length k with
        | none => rw [hj] at p2; exact p2.elim
        | some j =>
          rw [hj] at p2
          obtain ⟨R3, e3⟩ := R2.setL hl (h4'.set (rv.mono e2) j)
          exact ⟨_, us', k, j, rfl, rfl, h3', by rw [h4'.length]; exact hj, p2 α F2 σ _ e3 R3⟩
    | _ => exact p2.elim
/-- x[i] += e, ints -/
theorem get_listI : PGet X (rIxL X.K) := by
  intro pins s σ H o i ov iv Q I ro ri h
  obtain ⟨p, xs, i, z, rfl, rfl, hq, he, q⟩ := h
  cases ro
  obtain ⟨t, rfl⟩ := ri
  obtain ⟨its, r, pl, hz⟩ := I.list hq
  obtain ⟨j, h1, h2, h3, h4, h5⟩ := atI_get he
  obtain ⟨w, ew, rw'⟩ := r.get h2
  have hl := r.length
  have hn := line63
  have fin : EP X pins σ Q w s := ⟨z, H, I, rw', q⟩
  by_cases h0 : 0 ≤ i
  · have hj : i.toNat = j := by
      rw [seqIndex_of h0 h5] at h1
      exact Option.some.inj h1
    exact wpAny_getItem_list pl.isList h0 (by omega) (by rw [hj]; simpa using ew) fin
  · have hj : (i + (its.toArray.size : Int)).toNat = j := by
      rw [seqIndex_neg (by omega) h4] at h1
      rw [List.size_toArray, ← hl]
      exact Option.some.inj h1
    exact wpAny_getItem_list_neg pl.isList (by omega) (by rw [List.size_toArray] <;> omega) (by omega) (by rw [hj]; simpa using ew) fin
def mAugIx (i : Nat) (mi me : Ev → R) : Ev → Out := fun ρ => match lstAt ρ i with
  | none => .stuck
  | some _ => (mi ρ).out fun k ρ1 => match k with
    | .int k => match lstAt ρ1 i with
      | none => .stuck
      | some xs => match atI xs k with
        | some (.int old) => (me ρ1).out fun d ρ2 => match d with
          | .int n => match lstAt ρ2 i with
            | none => .stuck
            | some ys => match ixN ys.length k with
              | some j => .nx (setL ρ2 i (ys.set j (.int (old + n))))
              | none => .stuck
          | _ => .stuck
        | _ => .stuck
    | _ => .stuck
theorem JS.augIx (i : Nat) {x : Str} {p p2 : Pos} (ha : JE X W a ma) (hb : JE X W b mb) (hN : X.N[i]? = some x := by rfl) (hv : Vis X.env.scope x := by first | exact Or.inl rfl | exact Or.inr (Or.inl rfl) | exact Or.inr (Or.inr rfl)) (hd : (x == ("__debug__" : Str)) = false := by decide) (hcd : (x == ("__classdict__" : Str)) = false := by decide)
    (hsub : ∀ ov iv new, augStore a ov iv new = (do holding [new, ov, iv] (setItem ov iv new); release [new, ov, iv] []; pure .next) := by intros; rfl) :
    JS X W (.AugAssign (.Subscript (.Name x p) a p2) .Add b pos) (mAugIx i ma mb) := by
  refine .of (ps_augS (pe_var hN hv hd hcd) ha get_listI hb ip_add set_list hsub) fun C α F ρ σ H D Rr p => ?_
  unfold mAugIx at p
  cases h : lstAt ρ i with
  | none => rw [h] at p; exact p.elim
  | some xs0 =>
    rw [h] at p
    dsimp only at p
    obtain ⟨h1, h2, us, h3, h4⟩ := Rr.lstAt h
    refine ⟨_, h1, ?_⟩
    refine TE8.out Rr p fun k ρ1 v1 F1 H1 e1 R1 rv1 p1 => ?_
    cases k with
    | int k =>
      cases rv1
      dsimp only at p1
      cases hl : lstAt ρ1 i with
      | none => rw [hl] at p1; exact p1.elim
      | some xs =>
        rw [hl] at p1
        dsimp only at p1
        obtain ⟨h1', h2', us', h3', h4'⟩ := R1.lstAt hl
        cases ho : atI xs k with
        | none => rw [ho] at p1; exact p1.elim
        | some dold =>
          rw [ho] at p1
          cases dold with
          | int old =>
            dsimp only at p1
            obtain ⟨w', w1, w2⟩ := atI_rp h4' ho
            cases w2
            refine ⟨_, us', k, _, rfl, rfl, .of h3', w1, ?_⟩
            refine TE8.out R1 p1 fun d ρ2 v2 F2 H2 e2 R2 rv2 p2 => ?_
            cases d with
            | int n =>
              cases rv2
              dsimp only at p2
              cases hl2 : lstAt ρ2 i with
              | none => rw [hl2] at p2; exact p2.elim
              | some ys =>
                rw [hl2] at p2
                dsimp only at p2
                obtain ⟨h1'', h2'', us'', h3'', h4''⟩ := R2.lstAt hl2
                cases hj : ixN ys.length k with
                | none => rw [hj] at p2; exact p2.elim
                | some j =>
                  rw [hj] at p2
                  obtain ⟨R3, e3⟩ := R2.setL hl2 (h4''.set (Rp.int (old + n)) j)
                  exact ⟨old, n, rfl, rfl, _, us'', k, j, rfl, rfl, h3'', by rw [h4''.length]; exact hj, p2 α F2 σ _ e3 R3⟩
            | _ => exact p2.elim
          | _ => exact p1.elim
    | _ => exact p1.elim

/-! ### a name's own list, looked at -/
def isScal : Dt → Bool
  | .bool _ => true
  | .int _ => true
  | .none => true
  | .str _ => true
  | _ => false
theorem Rp.scal {K : PySem.W.Frag} {F F' : Fz} {H H' : Hp} {v : V} {d : Dt} (r : Rp K F H v d) (h : isScal d = true) : Rp K F' H' v d := by
  cases r with
  | non => exact .non
  | bl b => exact .bl b
  | int b => exact .int b
  | str b => exact .str b
  | _ => cases h
theorem Grow.virt {F F1 F' : Fz} {H H' : Hp} (g : Grow F H F' H') : ∃ F'', Grow F1 H F'' H' := by
  cases g with
  | refl => exact ⟨_, .refl⟩
  | laid hp => exact ⟨_, .laid hp⟩
  | laidF hp => exact ⟨_, .laidF hp⟩
theorem Rel.view {K : PySem.W.Frag} {C : Ctx} {α : Nat → Addr} {F : Fz} {ρ : Ev} {σ : L2.St} {H : Hp} (Rr : Rel K C α F ρ σ H) {i : Nat} {xs : List Dt} (h : NS.lstAt ρ i = some xs) : Rp K (insF F (α i)) H (.ref (α i)) (.list xs) := by
  obtain ⟨h1, h2, us, h3, h4⟩ := Rr.lstAt h
  exact .lst (.inl ⟨.inr rfl, .inl h3⟩) (h4.mono ext_ins)
/-- op (the name's list), e -/
def mOpOL (sem : Dt → Dt → Option Dt) (i : Nat) (mb : Ev → R) : Ev → R := fun ρ => match lstAt ρ i with
  | none => .stuck
  | some _ => (mb ρ).bind fun e ρ1 => match lstAt ρ1 i with
    | none => .stuck
    | some xs => match sem (.list xs) e with
      | some z => if isScal z = true then .ok z ρ1 else .stuck
      | none => .stuck
def mOpOR (sem : Dt → Dt → Option Dt) (ma : Ev → R) (i : Nat) : Ev → R := fun ρ => (ma ρ).bind fun d ρ1 => match lstAt ρ1 i with
    | none => .stuck
    | some xs => match sem d (.list xs) with
      | some z => if isScal z = true then .ok z ρ1 else .stuck
      | none => .stuck
theorem tOpOL {r : R2} {sem : Dt → Dt → Option Dt} (hs : OpS X.K r sem) {i : Nat} {C α F ρ σ H Q} (Rr : Rel X.K C α F ρ σ H) (p : PostE X.K X.mg W C α F σ H Q (mOpOL sem i mb ρ)) : tOp r (tVar i) (TE8 X.K X.mg W mb) σ H Q := by
  unfold mOpOL at p
  cases h : lstAt ρ i with
  | none => rw [h] at p; exact p.elim
  | some xs0 =>
    rw [h] at p
    dsimp only at p
    obtain ⟨h1, _⟩ := Rr.lstAt h
    refine ⟨_, h1, ?_⟩
    refine TE8.bind Rr p fun e ρ1 y F1 H1 e1 R1 ry p1 => ?_
    cases hl : lstAt ρ1 i with
    | none => rw [hl] at p1; exact p1.elim
    | some xs =>
      rw [hl] at p1
      dsimp only at p1
      cases hz : sem (.list xs) e with
      | none => rw [hz] at p1; exact p1.elim
      | some z =>
        rw [hz] at p1
        dsimp only at p1
        by_cases hc : isScal z = true
        · rw [if_pos hc] at p1
          refine hs (insF F1 (α i)) H1 _ y _ e z Q (R1.view hl) (ry.mono ext_ins) hz fun v F' H' g q => ?_
          obtain ⟨F2, g2⟩ := g.virt (F1 := F1)
          exact p1 v F2 H' g2.ext (g2.rel R1) (q.scal hc)
        · rw [if_neg hc] at p1; exact p1.elim
theorem tOpOR {r : R2} {sem : Dt → Dt → Option Dt} (hs : OpS X.K r sem) {i : Nat} {C α F ρ σ H Q} (Rr : Rel X.K C α F ρ σ H) (p : PostE X.K X.mg W C α F σ H Q (mOpOR sem ma i ρ)) : tOp r (TE8 X.K X.mg W ma) (tVar i) σ H Q := by
  unfold mOpOR at p
  refine TE8.bind Rr p fun d ρ1 y F1 H1 e1 R1 ry p1 => ?_
  cases hl : lstAt ρ1 i with
  | none => rw [hl] at p1; exact p1.elim
  | some xs =>
    rw [hl] at p1
    dsimp only at p1
    obtain ⟨h1, _⟩ := R1.lstAt hl
    refine ⟨_, h1, ?_⟩
    cases hz : sem d (.list xs) with
    | none => rw [hz] at p1; exact p1.elim
    | some z =>
      rw [hz] at p1
      dsimp only at p1
      by_cases hc : isScal z = true
      · rw [if_pos hc] at p1
        refine hs (insF F1 (α i)) H1 y _ d _ z Q (ry.mono ext_ins) (R1.view hl) hz fun v F' H' g q => ?_
        obtain ⟨F2, g2⟩ := g.virt (F1 := F1)
        exact p1 v F2 H' g2.ext (g2.rel R1) (q.scal hc)
      · rw [if_neg hc] at p1; exact p1.elim
theorem JE.cmpOL (i : Nat) {op : CmpOp} {r : R2} {sem : Dt → Dt → Option Dt} {x : Str} {p : Pos} (ho : OpR X (compareOp op) r) (hs : OpS X.K r sem) (hb : JE X W b mb) (hm : behindInMarks op b = false) (hN : X.N[i]? = some x := by rfl) (hv : Vis X.env.scope x := by first | exact Or.inl rfl | exact Or.inr (Or.inl rfl) | exact Or.inr (Or.inr rfl)) (hd : (x == ("__debug__" : Str)) = false := by decide) (hcd : (x == ("__classdict__" : Str)) = false := by decide) :
    JE X W (.Compare (.Name x p) [op] [b] pos) (mOpOL sem i mb) :=
  .of (pe_cmpR ho (pe_var hN hv hd hcd) hb hm) fun _ _ _ _ _ _ _ Rr p => tOpOL hs Rr p
theorem JE.cmpOR (i : Nat) {op : CmpOp} {r : R2} {sem : Dt → Dt → Option Dt} {x : Str} {p : Pos} (ho : OpR X (compareOp op) r) (hs : OpS X.K r sem) (ha : JE X W a ma) (hm : behindInMarks op (.Name x p) = false) (hN : X.N[i]? = some x := by rfl) (hv : Vis X.env.scope x := by first | exact Or.inl rfl | exact Or.inr (Or.inl rfl) | exact Or.inr (Or.inr rfl)) (hd : (x == ("__debug__" : Str)) = false := by decide) (hcd : (x == ("__classdict__" : Str)) = false := by decide) :
    JE X W (.Compare a [op] [.Name x p] pos) (mOpOR sem ma i) :=
  .of (pe_cmpR ho ha (pe_var hN hv hd hcd) hm) fun _ _ _ _ _ _ _ Rr p => tOpOR hs Rr p
theorem PostT.toE {K : PySem.W.Frag} {mg : Str → Option Value} {C α F σ H} {Q : Bool → Hp → Prop} {r : R} (p : PostT K mg W C α F σ H Q r) : PostE K mg W C α F σ H (fun x H' => ∃ k, x = V.bl k ∧ Q k H') r := by
  cases r with
  | ok d ρ' =>
    cases d with
    | bool b => intro v F' H' e' r' q; cases q; exact ⟨b, rfl, p F' H' e' r'⟩
    | _ => exact p.elim
  | exc x ρ' => exact p
  | stuck => exact p
theorem JT.cmpOL (i : Nat) {op : CmpOp} {r : R2} {sem : Dt → Dt → Option Dt} {x : Str} {p : Pos} (ho : OpR X (compareOp op) r) (hs : OpS X.K r sem) (hb : JE X W b mb) (hm : behindInMarks op b = false) (hN : X.N[i]? = some x := by rfl) (hv : Vis X.env.scope x := by first | exact Or.inl rfl | exact Or.inr (Or.inl rfl) | exact Or.inr (Or.inr rfl)) (hd : (x == ("__debug__" : Str)) = false := by decide) (hcd : (x == ("__classdict__" : Str)) = false := by decide) :
    JT X W (.Compare (.Name x p) [op] [b] pos) (mOpOL sem i mb) :=
  .of (pt_cmpR ho (pe_var hN hv hd hcd) hb hm) fun _ _ _ _ _ _ _ Rr p => tOpOL hs Rr p.toE
theorem JT.cmpOR (i : Nat) {op : CmpOp} {r : R2} {sem : Dt → Dt → Option Dt} {x : Str} {p : Pos} (ho : OpR X (compareOp op) r) (hs : OpS X.K r sem) (ha : JE X W a ma) (hm : behindInMarks op (.Name x p) = false) (hN : X.N[i]? = some x := by rfl) (hv : Vis X.env.scope x := by first | exact Or.inl rfl | exact Or.inr (Or.inl rfl) | exact Or.inr (Or.inr rfl)) (hd : (x == ("__debug__" : Str)) = false := by decide) (hcd : (x == ("__classdict__" : Str)) = false := by decide) :
    JT X W (.Compare a [op] [.Name x p] pos) (mOpOR sem ma i) :=
  .of (pt_cmpR ho ha (pe_var hN hv hd hcd) hm) fun _ _ _ _ _ _ _ Rr p => tOpOR hs Rr p.toE
/-- f(the name's list), f a built-in with a plain answer -/
def mCallO (sem : List Dt → Option Dt) (i : Nat) : Ev → R := fun ρ => match lstAt ρ i with
  | none => .stuck
  | some xs => match sem [.list xs] with
    | some z => if isScal z = true then .ok z ρ else .stuck
    | none => .stuck
theorem JE.callBO (i : Nat) {x y : Str} {id : String} {r : List V → Hp → VK → Prop} {sem : List Dt → Option Dt} {p p2 : Pos} (hc : CallR X (.builtin id) r) (hs : CallS X.K r sem) (hm : X.mg x = none) (hv : bootBuiltins x = some (.builtin id)) (hg : Gl X x := by rfl) (hn : x ≠ "__name__" := by decide) (hdb : (x == ("__debug__" : Str)) = false := by decide)
    (hN : X.N[i]? = some y := by rfl) (hvy : Vis X.env.scope y := by first | exact Or.inl rfl | exact Or.inr (Or.inl rfl) | exact Or.inr (Or.inr rfl)) (hd : (y == ("__debug__" : Str)) = false := by decide) (hcd : (y == ("__classdict__" : Str)) = false := by decide)
    (he : starEach [.Name y p2] X.env = (false, eval (.Name y p2) X.env) :: starEach [] X.env := by rfl) (hpl : (backTo pos (starEach [] X.env)).any (·.1) = false := by rfl) : JE X W (.Call (.Name x p) [.Name y p2] [] pos) (mCallO sem i) := by
  refine .of (pe_callB hc hg hm hv (pa_cons (pe_var hN hvy hd hcd) pa_nil he) hn hdb he hpl) fun C α F ρ σ H Q Rr p => ?_
  unfold mCallO at p
  cases h : lstAt ρ i with
  | none => rw [h] at p; exact p.elim
  | some xs =>
    rw [h] at p
    dsimp only at p
    obtain ⟨h1, _⟩ := Rr.lstAt h
    refine ⟨_, h1, ?_⟩
    cases hz : sem [.list xs] with
    | none => rw [hz] at p; exact p.elim
    | some z =>
      rw [hz] at p
      dsimp only at p
      by_cases hc : isScal z = true
      · rw [if_pos hc] at p
        refine hs (insF F (α i)) H _ [.list xs] z Q (.cons (Rr.view h) .nil) hz fun v F' H' g q => ?_
        obtain ⟨F2, g2⟩ := g.virt (F1 := F)
        exact p v F2 H' g2.ext (g2.rel Rr) (q.scal hc)
      · rw [if_neg hc] at p; exact p.elim
end
end NS

set_option Elab.async false
set_option linter.all false
set_option autoImplicit false
set_option maxRecDepth 100000
set_option maxHeartbeats 4000000
namespace NS
open PySem PySem.Spec PyProof.Rows L2

/-! ### a < b < c -/
section
variable {X : Cx} {W : WX} {a b c : Expr} {es : List Expr} {ma mb mc : Ev → R} {mr : Ev → RA} {pos : Pos}
def mChain (s1 s2 : Dt → Dt → Option Dt) (ma mb mc : Ev → R) : Ev → R := fun ρ => (ma ρ).bind fun d ρ1 => (mb ρ1).bind fun e ρ2 => match s1 d e with
  | some (.bool true) => (mc ρ2).bind fun f ρ3 => R.ofO (s2 e f) ρ3
  | some (.bool false) => .ok (.bool false) ρ2
  | _ => .stuck
theorem tChain8 {r r' : R2} {s1 s2 : Dt → Dt → Option Dt} (h1 : OpS X.K r s1) (h2 : OpS X.K r' s2) {C α F ρ σ H Q} (Rr : Rel X.K C α F ρ σ H) (p : PostE X.K X.mg W C α F σ H Q (mChain s1 s2 ma mb mc ρ)) : tChain r r' (TE8 X.K X.mg W ma) (TE8 X.K X.mg W mb) (TE8 X.K X.mg W mc) σ H Q := by
  refine TE8.bind Rr p fun d ρ1 x F1 H1 e1 R1 rx p1 => ?_
  refine TE8.bind R1 p1 fun d2 ρ2 y F2 H2 e2 R2 ry p2 => ?_
  cases hz : s1 d d2 with
  | none => rw [hz] at p2; exact p2.elim
  | some z =>
    rw [hz] at p2
    refine h1 F2 H2 x y d d2 z _ (rx.mono e2) ry hz fun v F3 H3 g q => ?_
    cases z with
    | bool k =>
      cases q
      refine ⟨k, rfl, ?_⟩
      have R3 := g.rel R2
      have p3 := PostE.ext g.ext p2
      cases k with
      | true =>
        rw [if_pos rfl]
        refine TE8.bind R3 p3 fun d3 ρ3 w F4 H4 e4 R4 rw p4 => ?_
        cases hz2 : s2 d2 d3 with
        | none => rw [hz2] at p4; exact p4.elim
        | some z2 =>
          rw [hz2] at p4
          exact h2 F4 H4 y w d2 d3 z2 Q ((ry.mono g.ext).mono e4) rw hz2 fun v F' H' g q => p4 v F' H' g.ext (g.rel R4) q
      | false =>
        rw [if_neg Bool.false_ne_true]
        exact p3 _ F3 H3 (.refl _ _) R3 (.bl false)
    | _ => exact p2.elim
theorem JE.chain {op op' : CmpOp} {r r' : R2} {s1 s2 : Dt → Dt → Option Dt} (ho : OpR X (compareOp op) r) (h1 : OpS X.K r s1) (ho' : OpR X (compareOp op') r') (h2 : OpS X.K r' s2) (ha : JE X W a ma) (hb : JE X W b mb) (hc : JE X W c mc)
    (hm : lastMarks [op, op'] [b, c] = false := by with_unfolding_all rfl) : JE X W (.Compare a [op, op'] [b, c] pos) (mChain s1 s2 ma mb mc) :=
  .of (pe_chain ho ho' ha hb hc hm) fun _ _ _ _ _ _ _ Rr p => tChain8 h1 h2 Rr p
theorem JT.chain {op op' : CmpOp} {r r' : R2} {s1 s2 : Dt → Dt → Option Dt} (ho : OpR X (compareOp op) r) (h1 : OpS X.K r s1) (ho' : OpR X (compareOp op') r') (h2 : OpS X.K r' s2) (ha : JE X W a ma) (hb : JE X W b mb) (hc : JE X W c mc)
    (hm : lastMarks [op, op'] [b, c] = false := by with_unfolding_all rfl) : JT X W (.Compare a [op, op'] [b, c] pos) (mChain s1 s2 ma mb mc) :=
  .of (pt_chain ho ho' ha hb hc hm) fun _ _ _ _ _ _ _ Rr p => tChain8 h1 h2 Rr p.toE
end

/-! ### defs -/
inductive FR where
  | ok (d : Dt) (ss : List Sl)
  | exc (x : Exn) (ss : List Sl)
  | stuck
structure ArgsIn (K : PySem.W.Frag) (F : Fz) (H : Hp) (αs : Nat → Addr) (ss : List Sl) (vs : List V) : Prop where
  len : vs.length = ss.length
  slot : ∀ i s, ss[i]? = some s → ∃ v, vs[i]? = some v ∧ SlotOk K F H (αs i) s (some v)
  inj : ∀ i j s t, ss[i]? = some s → ss[j]? = some t → s.isMut = true → t.isMut = true → αs i = αs j → i = j
  fd : ∀ a, F a → H a ≠ none
  kind : ∀ (i : Nat) (s : Sl), ss[i]? = some s → (∃ d, s = Sl.val d) ∨ ∃ xs, s = Sl.io xs
structure After (K : PySem.W.Frag) (F : Fz) (H : Hp) (F' : Fz) (H' : Hp) (αs : Nat → Addr) (ss ss' : List Sl) : Prop where
  fz : ∀ a, F a → F' a
  fn : ∀ a, F' a → F a ∨ H a = none
  fd : ∀ a, F' a → H' a ≠ none
  kp : ∀ a o, H a = some o → (∀ i xs, ss[i]? = some (.io xs) → αs i ≠ a) → H' a = some o
  io : ∀ i xs, ss[i]? = some (.io xs) → ∃ ys vs, ss'[i]? = some (.io ys) ∧ H' (αs i) = some (.lst vs) ∧ RpAll K F' H' vs ys
def spF (K : PySem.W.Frag) (mg : Str → Option Value) (Fn : List Sl → FR) : Sp := fun vs H Q E => ∃ F αs ss, ArgsIn K F H αs ss vs ∧ match Fn ss with
  | .ok d ss' => ∀ v F' H', After K F H F' H' αs ss ss' → Rp K F' H' v d → Q v H'
  | .exc x ss' => ∀ cls dd F' H', After K F H F' H' αs ss ss' → XRel K mg F' H' cls dd x → E cls dd H'
  | .stuck => False
def fnSem (n p : Nat) (m : Ev → Out) : List Sl → FR := fun ss => if ss.length = p then (match m (ss ++ List.replicate (n - p) .no) with
  | .rt d ρ' => .ok d (ρ'.take p)
  | .nx ρ' => .ok .none (ρ'.take p)
  | .ex x ρ' => .exc x (ρ'.take p)
  | _ => .stuck) else .stuck
open Classical in
noncomputable def ctx0 (F : Fz) (H : Hp) (αs : Nat → Addr) (ss : List Sl) : Ctx where
  keep := fun a => if ∃ i xs, ss[i]? = some (.io xs) ∧ αs i = a then none else H a
  nf := fun a => H a ≠ none ∧ ¬F a
  io := (List.range ss.length).filterMap fun (i : Nat) => match ss[i]? with
    | some (Sl.io _) => some (i, αs i)
    | _ => none
theorem ctx0_io {F : Fz} {H : Hp} {αs : Nat → Addr} {ss : List Sl} {i : Nat} {a : Addr} : (i, a) ∈ (ctx0 F H αs ss).io ↔ (∃ xs, ss[i]? = some (.io xs)) ∧ a = αs i := by
  unfold ctx0
  simp only [List.mem_filterMap, List.mem_range]
  constructor
  · rintro ⟨j, hj, h⟩
    cases hs : ss[j]? with
    | none => rw [hs] at h; cases h
    | some s =>
      rw [hs] at h
      cases s with
      | io xs => cases h; exact ⟨⟨xs, hs⟩, rfl⟩
      | _ => cases h
  · rintro ⟨⟨xs, h⟩, rfl⟩
    exact ⟨i, (List.getElem?_eq_some_iff.mp h).1, by rw [h]⟩
open Classical in
theorem ctx0_keep {F : Fz} {H : Hp} {αs : Nat → Addr} {ss : List Sl} {a : Addr} : (ctx0 F H αs ss).keep a = if ∃ i xs, ss[i]? = some (.io xs) ∧ αs i = a then none else H a := by unfold ctx0; rfl
theorem rel0 {K : PySem.W.Frag} {F : Fz} {H : Hp} {αs : Nat → Addr} {ss : List Sl} {vs : List V} {N : List Str} (A : ArgsIn K F H αs ss vs) (hl : vs.length ≤ N.length) : Rel K (ctx0 F H αs ss) αs F (ss ++ List.replicate (N.length - ss.length) .no) (L2.start N vs) H := by
  have hlen := A.len
  have old : ∀ (i : Nat) (s : Sl), (ss ++ List.replicate (N.length - ss.length) Sl.no)[i]? = some s → s.isMut = true → ss[i]? = some s := fun i s h m => by
    by_cases hi : i < ss.length
    · rwa [List.getElem?_append_left hi] at h
    · rw [List.getElem?_append_right (by omega), List.getElem?_replicate] at h
      split at h
      · cases h; cases m
      · cases h
  refine ⟨?_, fun i s h => ?_, fun i j s t hi hj ms mt e => A.inj i j s t (old i s hi ms) (old j t hj mt) ms mt e, fun q hq => ?_, fun a o h => ?_, fun i s h m => ?_, fun a h => h.2, fun a h => h.1, A.fd, fun i s h m hio => ?_⟩
  · unfold L2.start; simp [hlen]
  · unfold L2.start
    by_cases hi : i < ss.length
    · rw [List.getElem?_append_left hi] at h
      obtain ⟨v, h1, h2⟩ := A.slot i s h
      refine ⟨some v, ?_, h2⟩
      rw [List.getElem?_append_left (by simpa [hlen] using hi), List.getElem?_map, h1]
      rfl
    · rw [List.getElem?_append_right (by omega), List.getElem?_replicate] at h
      split at h
      · rename_i hlt
        cases h
        refine ⟨none, ?_, trivial⟩
        rw [List.getElem?_append_right (by simp [hlen]; omega), List.getElem?_replicate]
        rw [if_pos (by simp [hlen]; omega)]
      · cases h
  · obtain ⟨i, a⟩ := q
    obtain ⟨⟨xs, h⟩, rfl⟩ := ctx0_io.mp hq
    exact ⟨xs, by rw [List.getElem?_append_left (List.getElem?_eq_some_iff.mp h).1]; exact h, rfl⟩
  · rw [ctx0_keep] at h
    split at h
    · cases h
    · exact h
  · have h' := old i s h m
    rcases A.kind i s h' with ⟨d, rfl⟩ | ⟨xs, rfl⟩
    · cases m
    · rw [ctx0_keep, if_pos ⟨i, xs, h', rfl⟩]
  · have h' := old i s h m
    rcases A.kind i s h' with ⟨d, rfl⟩ | ⟨xs, rfl⟩
    · cases m
    · cases hio
theorem after0 {K : PySem.W.Frag} {F F' : Fz} {H H' : Hp} {αs α : Nat → Addr} {ss : List Sl} {ρ' : Ev} {σ : L2.St} (e : Ext F H F' H') (Rr : Rel K (ctx0 F H αs ss) α F' ρ' σ H') (fd : ∀ a, F a → H a ≠ none) : After K F H F' H' αs ss (ρ'.take ss.length) := by
  refine ⟨e.fz, fun a h => ?_, Rr.fd, fun a o h hn => ?_, fun i xs h => ?_⟩
  · by_cases h1 : F a
    · exact .inl h1
    · refine .inr ?_
      cases hH : H a with
      | none => rfl
      | some u => exact absurd h (Rr.nf a ⟨fun z => (by rw [hH] at z; cases z), h1⟩)
  · refine Rr.kp a o ?_
    rw [ctx0_keep, if_neg]
    · exact h
    · rintro ⟨i, xs, h1, h2⟩
      exact hn i xs h1 h2
  · obtain ⟨ys, h1, h2⟩ := Rr.io (i, αs i) (ctx0_io.mpr ⟨⟨xs, h⟩, rfl⟩)
    obtain ⟨o, _, hso⟩ := Rr.slot i _ h1
    obtain ⟨_, _, vs, h4, h5⟩ := hso
    have hi : i < ss.length := (List.getElem?_eq_some_iff.mp h).1
    have h2 : α i = αs i := h2
    rw [h2] at h4
    refine ⟨ys, vs, ?_, h4, h5⟩
    rw [List.getElem?_take, if_pos hi]
    exact h1
theorem fn_ok {P : Program} {w : World} {K : PySem.W.Frag} {mg : Str → Option Value} {base : Heap} {x qual : Str} {params : Arguments} {bd : List Stmt} {sc : Scope} {f : Addr} {fd : FuncData} {N ps : List Str} {k : Nat} {m : Ev → Out} (Fu : FunD K x qual params bd sc [] [] f fd) (S : FnScope N ps sc) (hl : ps.length ≤ N.length)
    (body : ∀ (cdv : Value) (A : Around) (outer : List Env) (s : Shared) (H : Hp) (E : XK), Room k (A.deeper (envOfC qual sc s.heap.objs.size f cdv)) → L2N.Takes (cxOf (L2N.CX P w) P w K mg base N qual sc f cdv A outer s H E) (fun cls d _ H => E cls d H) →
      PassesOwn (model P w) (A.deeper (envOfC qual sc s.heap.objs.size f cdv)) (envOfC qual sc s.heap.objs.size f cdv) (cxOf (L2N.CX P w) P w K mg base N qual sc f cdv A outer s H E).xe →
      JB (cxOf (L2N.CX P w) P w K mg base N qual sc f cdv A outer s H E) (fun cls d _ H => E cls d H) bd m) :
    FnOk P w K mg base (L2N.CX P w) (k + 1) f fd ps (spF K mg (fnSem N.length ps.length m)) := by
  have lenOf : ∀ vs H Q E, spF K mg (fnSem N.length ps.length m) vs H Q E → vs.length = ps.length := fun vs H Q E ⟨F, αs, ss, A, h⟩ => by
    rw [A.len]
    unfold fnSem at h
    by_cases hc : ss.length = ps.length
    · exact hc
    · rw [if_neg hc] at h; exact h.elim
  refine Fu.ok S lenOf fun cdv A outer s H vs Q E hr hsp => ?_
  have hlen := lenOf vs H Q E hsp
  obtain ⟨F, αs, ss, Ai, h⟩ := hsp
  refine ⟨_, body cdv A outer s H E hr (L2N.takes_of rfl rfl rfl rfl) (passes_of rfl), ?_⟩
  have hc : ss.length = ps.length := by rw [← Ai.len]; exact hlen
  unfold fnSem at h
  rw [if_pos hc] at h
  refine ⟨ctx0 F H αs ss, αs, F, _, rel0 (N := N) Ai (by omega), ?_⟩
  rw [hc]
  cases hm : m (ss ++ List.replicate (N.length - ps.length) .no) with
  | nx ρ' => rw [hm] at h; exact fun α F' σ H' e R1 => h .non F' H' (hc ▸ after0 e R1 Ai.fd) .non
  | rt d ρ' => rw [hm] at h; exact fun α F' σ H' v e R1 rv => h v F' H' (hc ▸ after0 e R1 Ai.fd) rv
  | ex x ρ' => rw [hm] at h; exact fun α F' σ H' cls dd e R1 q => h cls dd F' H' (hc ▸ after0 e R1 Ai.fd) q
  | bk ρ' => rw [hm] at h; exact h.elim
  | ct ρ' => rw [hm] at h; exact h.elim
  | stuck => rw [hm] at h; exact h.elim
/-- the end of a law -/
theorem walk8 {l : PySem.W.OpenLaw} {n k : Nat} {q : Program} {loose : List Str} {XP : (Str → Option Value) → Heap → Prop} {YP : World → Heap → Prop} {d : DefRec} {x : Str}
    (hn : l.most = some n) (hn2 : n ≤ sizeLine) (hdf : d.params.defaults = []) (hr : Room k callerA)
    (F : ∀ (w : World) (mg : Str → Option Value) (fa : Addr) (h : Heap), YP w h → h.Ns mainGlobals mg → mg d.name = some (.ref fa) →
      ∃ (K : PySem.W.Frag) (fd : FuncData) (Fn : List Sl → FR), K.In h ∧ (∀ (s : Shared) (u : Value), BindsTo s fd ⟨[u], []⟩ [(x, u)]) ∧
        (∀ ns : List Int, ns.length ≤ n → ∃ ss, Fn [.val (.list (ns.map .int))] = .ok (.bool true) ss) ∧
        ∀ base : Heap, K.In base → base.Ns mainGlobals mg → FnOk l.prog w K mg base (L2N.CX l.prog w) k fa fd [x] (spF K mg Fn)) :
    PySem.W.WalkO q loose XP YP l.row.toRowW d [] (fun f vs => PySem.call f vs) := by
  refine Att.attach_call hn hdf fun w s₀ s₁ mg mb fa o pm cd doc a vs ns G Y ho hd hcd hmg hobj hints hlen hg => ?_
  obtain ⟨K, fd, Fn, KX, hb, hsp, hF⟩ := F w mg fa _ Y G.T.g hmg
  refine law_call KX G.T.g G.T.b G.T.builtins G.T.nolimit hg hobj hints (Nat.le_trans hlen hn2) hr hF hb (fun H hO hS => ?_) fun H e s' c => ?_
  · obtain ⟨ss, hf⟩ := hsp ns hlen
    have ra : ∀ (F : Fz) (l : List Int), RpAll K F H (l.map V.int) (l.map .int) := fun F l => by
      induction l with
      | nil => exact .nil
      | cons i l ih => exact .cons (.int i) ih
    refine ⟨fun b => b = a ∧ H b ≠ none, fun _ => 0, [.val (.list (ns.map .int))], ⟨rfl, fun i s h => ?_, fun i j s t hi hj ms mt e => ?_, fun b hb => ?_, fun i s h => ?_⟩, ?_⟩
    · cases i with
      | zero => simp at h; subst h; exact ⟨_, rfl, _, rfl, .lst (hS.imp (fun z => ⟨⟨rfl, by rcases z with h | ⟨o', h⟩ <;> (rw [h]; intro z; cases z)⟩, z⟩) id) (ra _ ns)⟩
      | succ i => simp at h
    · cases i with
      | zero => simp at hi; subst hi; cases ms
      | succ i => simp at hi
    · exact hb.2
    · cases i with
      | zero => simp at h; exact .inl ⟨_, h.symm⟩
      | succ i => simp at h
    · rw [hf]
      intro v F' H' _ rv
      cases rv
      rfl
  · obtain ⟨_, _, _, _, _, _, _, _, _, _, _, _, z⟩ := c
    exact z

/-! ### calls of defs -/
def ArgRel (K : PySem.W.Frag) (F : Fz) (H : Hp) (α : Nat → Addr) : List (Option Nat) → List V → List Dt → Prop
  | [], [], [] => True
  | none :: sh, v :: vs, d :: ds => Rp K F H v d ∧ ArgRel K F H α sh vs ds
  | some i :: sh, v :: vs, _ :: ds => v = .ref (α i) ∧ ArgRel K F H α sh vs ds
  | _, _, _ => False
def PostR (K : PySem.W.Frag) (mg : Str → Option Value) (W : WX) (C : Ctx) (α : Nat → Addr) (sh : List (Option Nat)) (F : Fz) (σ : L2.St) (H : Hp) (Q : List V → Hp → Prop) : RA → Prop
  | .ok ds ρ' => ∀ vs F' H', Ext F H F' H' → Rel K C α F' ρ' σ H' → ArgRel K F' H' α sh vs ds → Q vs H'
  | .exc x ρ' => ∀ cls dd F' H', Ext F H F' H' → Rel K C α F' ρ' σ H' → XRel K mg F' H' cls dd x → W cls dd σ H'
  | .stuck => False
def TR8 (K : PySem.W.Frag) (mg : Str → Option Value) (W : WX) (sh : List (Option Nat)) (m : Ev → RA) : TA := fun σ H Q => ∃ C α F ρ, Rel K C α F ρ σ H ∧ PostR K mg W C α sh F σ H Q (m ρ)
def JR (X : Cx) (W : WX) (es : List Expr) (sh : List (Option Nat)) (m : Ev → RA) : Prop := PA X es (TR8 X.K X.mg W sh m)
section
variable {X : Cx} {W : WX} {a b : Expr} {es : List Expr} {ma mb : Ev → R} {mr : Ev → RA} {pos : Pos} {sh : List (Option Nat)}
theorem JR.of {t : TA} (h : PA X es t) (hr : ∀ C α F ρ σ H Q, Rel X.K C α F ρ σ H → PostR X.K X.mg W C α sh F σ H Q (mr ρ) → t σ H Q) : JR X W es sh mr :=
  ⟨fun pos pins s σ H Q I ⟨C, α, F, ρ, r, p⟩ => h.run pos pins s σ H Q I (hr C α F ρ σ H Q r p)⟩
theorem ArgRel.mono {K : PySem.W.Frag} {F F' : Fz} {H H' : Hp} {α : Nat → Addr} (e : Ext F H F' H') : ∀ {sh : List (Option Nat)} {vs : List V} {ds : List Dt}, ArgRel K F H α sh vs ds → ArgRel K F' H' α sh vs ds
  | [], [], [], _ => trivial
  | none :: sh, v :: vs, d :: ds, h => ⟨h.1.mono e, ArgRel.mono e h.2⟩
  | some i :: sh, v :: vs, _ :: ds, h => ⟨h.1, ArgRel.mono e h.2⟩
  | [], [], _ :: _, h => h.elim
  | [], _ :: _, _, h => h.elim
  | none :: _, [], _, h => h.elim
  | some _ :: _, [], _, h => h.elim
  | none :: _, _ :: _, [], h => h.elim
  | some _ :: _, _ :: _, [], h => h.elim
theorem JR.nil : JR X W [] [] mNil := .of pa_nil fun _ _ F _ _ H _ Rr p => p _ F H (.refl _ _) Rr trivial
theorem JR.cons (ha : JE X W a ma) (hr : JR X W es sh mr) (hs : starEach (a :: es) X.env = (false, eval a X.env) :: starEach es X.env := by rfl) : JR X W (a :: es) (none :: sh) (mCons ma mr) := by
  refine .of (pa_cons ha hr hs) fun C α F ρ σ H Q Rr p => ?_
  unfold mCons R.cons at p
  refine ⟨C, α, F, ρ, Rr, ?_⟩
  cases h : ma ρ with
  | ok d ρ1 =>
    rw [h] at p
    intro v F1 H1 e1 R1 rv
    refine ⟨C, α, F1, ρ1, R1, ?_⟩
    dsimp only at p
    cases h2 : mr ρ1 with
    | ok ds ρ2 =>
      rw [h2] at p
      exact fun vs F2 H2 e2 R2 rs => p (v :: vs) F2 H2 (e1.trans e2) R2 ⟨rv.mono e2, rs⟩
    | exc x ρ2 => rw [h2] at p; exact fun c dd F2 H2 e2 R2 q => p c dd F2 H2 (e1.trans e2) R2 q
    | stuck => rw [h2] at p; exact p
  | exc x ρ1 => rw [h] at p; exact p
  | stuck => rw [h] at p; exact p
/-- a name's own list is lent -/
def mRef (i : Nat) (mr : Ev → RA) : Ev → RA := fun ρ => match lstAt ρ i with
  | none => .stuck
  | some _ => match mr ρ with
    | .ok ds ρ' => .ok (.none :: ds) ρ'
    | .exc x ρ' => .exc x ρ'
    | .stuck => .stuck
theorem JR.ref (i : Nat) {x : Str} {p : Pos} (hr : JR X W es sh mr) (hN : X.N[i]? = some x := by rfl) (hv : Vis X.env.scope x := by first | exact Or.inl rfl | exact Or.inr (Or.inl rfl) | exact Or.inr (Or.inr rfl)) (hd : (x == ("__debug__" : Str)) = false := by decide) (hcd : (x == ("__classdict__" : Str)) = false := by decide)
    (hs : starEach (.Name x p :: es) X.env = (false, eval (.Name x p) X.env) :: starEach es X.env := by rfl) : JR X W (.Name x p :: es) (some i :: sh) (mRef i mr) := by
  refine .of (pa_cons (pe_var hN hv hd hcd) hr hs) fun C α F ρ σ H Q Rr p => ?_
  unfold mRef at p
  cases h : lstAt ρ i with
  | none => rw [h] at p; exact p.elim
  | some xs0 =>
    rw [h] at p
    dsimp only at p
    obtain ⟨h1, _⟩ := Rr.lstAt h
    refine ⟨_, h1, C, α, F, ρ, Rr, ?_⟩
    cases h2 : mr ρ with
    | ok ds ρ2 => rw [h2] at p; exact fun vs F2 H2 e2 R2 rs => p _ F2 H2 e2 R2 ⟨rfl, rs⟩
    | exc x ρ2 => rw [h2] at p; exact p
    | stuck => rw [h2] at p; exact p
def mkArgs : List (Option Nat) → List Dt → Ev → Option (List Sl)
  | [], [], _ => some []
  | none :: sh, d :: ds, ρ => (mkArgs sh ds ρ).map (Sl.val d :: ·)
  | some i :: sh, _ :: ds, ρ => match lstAt ρ i with
    | some xs => (mkArgs sh ds ρ).map (Sl.io xs :: ·)
    | none => none
  | _, _, _ => none
def wBack : List (Option Nat) → List Sl → Ev → Option Ev
  | [], _, ρ => some ρ
  | none :: sh, _ :: ss, ρ => wBack sh ss ρ
  | some i :: sh, .io ys :: ss, ρ => wBack sh ss (setL ρ i ys)
  | _, _, _ => none
def αArg (α : Nat → Addr) (sh : List (Option Nat)) : Nat → Addr := fun j => match sh[j]? with
  | some (some i) => α i
  | _ => 0
theorem mkArgs_get {sh : List (Option Nat)} : ∀ {ds : List Dt} {ρ : Ev} {ss : List Sl}, mkArgs sh ds ρ = some ss → ss.length = sh.length ∧ ds.length = sh.length ∧
    ∀ (j : Nat) (s : Sl), ss[j]? = some s → (sh[j]? = some none ∧ ∃ d, ds[j]? = some d ∧ s = .val d) ∨ ∃ i xs, sh[j]? = some (some i) ∧ lstAt ρ i = some xs ∧ s = .io xs := by
  induction sh with
  | nil =>
    intro ds ρ ss h
    cases ds with
    | nil => cases h; exact ⟨rfl, rfl, fun j s h => by simp at h⟩
    | cons _ _ => cases h
  | cons o sh ih =>
    intro ds ρ ss h
    cases ds with
    | nil => cases o <;> cases h
    | cons d ds =>
      cases o with
      | none =>
        have h : (mkArgs sh ds ρ).map (Sl.val d :: ·) = some ss := h
        cases h2 : mkArgs sh ds ρ with
        | none => rw [h2] at h; cases h
        | some ss2 =>
          rw [h2] at h; cases h
          obtain ⟨l1, l2, k⟩ := ih h2
          refine ⟨congrArg (· + 1) l1, congrArg (· + 1) l2, fun j s hj => ?_⟩
          cases j with
          | zero => simp at hj; exact .inl ⟨rfl, d, rfl, hj.symm⟩
          | succ j => simpa using k j s (by simpa using hj)
      | some i =>
        have h : (match lstAt ρ i with | some xs => (mkArgs sh ds ρ).map (Sl.io xs :: ·) | none => none) = some ss := h
        cases hx : lstAt ρ i with
        | none => rw [hx] at h; cases h
        | some xs =>
          rw [hx] at h
          dsimp only at h
          cases h2 : mkArgs sh ds ρ with
          | none => rw [h2] at h; cases h
          | some ss2 =>
            rw [h2] at h; cases h
            obtain ⟨l1, l2, k⟩ := ih h2
            refine ⟨congrArg (· + 1) l1, congrArg (· + 1) l2, fun j s hj => ?_⟩
            cases j with
            | zero => simp at hj; exact .inr ⟨i, xs, rfl, hx, hj.symm⟩
            | succ j => simpa using k j s (by simpa using hj)
theorem ArgRel.get {K : PySem.W.Frag} {F : Fz} {H : Hp} {α : Nat → Addr} : ∀ {sh : List (Option Nat)} {vs : List V} {ds : List Dt}, ArgRel K F H α sh vs ds → vs.length = sh.length ∧
    (∀ (j : Nat) (d : Dt), sh[j]? = some none → ds[j]? = some d → ∃ v, vs[j]? = some v ∧ Rp K F H v d) ∧ ∀ (j i : Nat), sh[j]? = some (some i) → vs[j]? = some (.ref (α i))
  | [], [], [], _ => ⟨rfl, fun j d h => by simp at h, fun j i h => by simp at h⟩
  | none :: sh, v :: vs, d :: ds, h => by
    obtain ⟨l, k1, k2⟩ := ArgRel.get h.2
    refine ⟨congrArg (· + 1) l, fun j e h1 h2 => ?_, fun j i h1 => ?_⟩
    · cases j with
      | zero => simp at h2; exact ⟨v, rfl, h2 ▸ h.1⟩
      | succ j => simpa using k1 j e (by simpa using h1) (by simpa using h2)
    · cases j with
      | zero => simp at h1
      | succ j => simpa using k2 j i (by simpa using h1)
  | some i0 :: sh, v :: vs, _ :: ds, h => by
    obtain ⟨l, k1, k2⟩ := ArgRel.get h.2
    refine ⟨congrArg (· + 1) l, fun j e h1 h2 => ?_, fun j i h1 => ?_⟩
    · cases j with
      | zero => simp at h1
      | succ j => simpa using k1 j e (by simpa using h1) (by simpa using h2)
    · cases j with
      | zero => simp at h1; simp [← h1, h.1]
      | succ j => simpa using k2 j i (by simpa using h1)
  | [], [], _ :: _, h => h.elim
  | [], _ :: _, _, h => h.elim
  | none :: _, [], _, h => h.elim
  | some _ :: _, [], _, h => h.elim
  | none :: _, _ :: _, [], h => h.elim
  | some _ :: _, _ :: _, [], h => h.elim
def refsNd (sh : List (Option Nat)) : Bool := decide ((sh.filterMap id).Nodup)
theorem refs_inj : ∀ {sh : List (Option Nat)}, (sh.filterMap id).Nodup → ∀ {j k i : Nat}, sh[j]? = some (some i) → sh[k]? = some (some i) → j = k
  | [], _, j, k, i, h, _ => by simp at h
  | none :: sh, hn, j, k, i, h1, h2 => by
    cases j with
    | zero => simp at h1
    | succ j =>
      cases k with
      | zero => simp at h2
      | succ k => exact congrArg (· + 1) (refs_inj (sh := sh) (by simpa using hn) (by simpa using h1) (by simpa using h2))
  | some i0 :: sh, hn, j, k, i, h1, h2 => by
    have hn' : i0 ∉ sh.filterMap id ∧ (sh.filterMap id).Nodup := by simpa using hn
    have mem : ∀ {j : Nat}, sh[j]? = some (some i) → i ∈ sh.filterMap id := fun h => List.mem_filterMap.mpr ⟨some i, List.mem_of_getElem? h, rfl⟩
    cases j with
    | zero =>
      cases k with
      | zero => rfl
      | succ k =>
        simp at h1
        exact absurd (mem (by simpa using h2)) (h1 ▸ hn'.1)
    | succ j =>
      cases k with
      | zero =>
        simp at h2
        exact absurd (mem (by simpa using h1)) (h2 ▸ hn'.1)
      | succ k => exact congrArg (· + 1) (refs_inj hn'.2 (by simpa using h1) (by simpa using h2))
theorem args_in {K : PySem.W.Frag} {C : Ctx} {α : Nat → Addr} {F : Fz} {ρ : Ev} {σ : L2.St} {H : Hp} {vs : List V} {ds : List Dt} {ss : List Sl} (Rr : Rel K C α F ρ σ H) (ar : ArgRel K F H α sh vs ds) (mk : mkArgs sh ds ρ = some ss) (nd : (sh.filterMap id).Nodup) : ArgsIn K F H (αArg α sh) ss vs := by
  obtain ⟨l1, l2, k⟩ := mkArgs_get mk
  obtain ⟨l3, k1, k2⟩ := ar.get
  have slotOf : ∀ {i : Nat} {xs : List Dt}, lstAt ρ i = some xs → ∃ s, ρ[i]? = some s ∧ s.isMut = true := fun {i xs} h => by
    unfold lstAt at h
    split at h
    · rename_i q; exact ⟨_, q, rfl⟩
    · rename_i q; exact ⟨_, q, rfl⟩
    · cases h
  refine ⟨l3.trans l1.symm, fun j s hj => ?_, fun i j s t hi hj ms mt e => ?_, Rr.fd, fun j s hj => ?_⟩
  · rcases k j s hj with ⟨h1, d, h2, rfl⟩ | ⟨i, xs, h1, h2, rfl⟩
    · obtain ⟨v, h3, h4⟩ := k1 j d h1 h2
      exact ⟨v, h3, v, rfl, h4⟩
    · obtain ⟨_, nF, us, h5, h6⟩ := Rr.lstAt h2
      refine ⟨_, k2 j i h1, ?_⟩
      have e : αArg α sh j = α i := by unfold αArg; rw [h1]
      rw [e]
      exact ⟨rfl, nF, us, h5, h6⟩
  · rcases k i s hi with ⟨_, d, _, rfl⟩ | ⟨i', xs, h1, h2, rfl⟩
    · cases ms
    · rcases k j t hj with ⟨_, d, _, rfl⟩ | ⟨j', ys, h3, h4, rfl⟩
      · cases mt
      · have e1 : αArg α sh i = α i' := by unfold αArg; rw [h1]
        have e2 : αArg α sh j = α j' := by unfold αArg; rw [h3]
        rw [e1, e2] at e
        obtain ⟨s1, q1, m1⟩ := slotOf h2
        obtain ⟨s2, q2, m2⟩ := slotOf h4
        have := Rr.inj i' j' s1 s2 q1 q2 m1 m2 e
        subst this
        exact refs_inj nd h1 h3
  · rcases k j s hj with ⟨_, d, _, rfl⟩ | ⟨i, xs, _, _, rfl⟩
    · exact .inl ⟨d, rfl⟩
    · exact .inr ⟨xs, rfl⟩
theorem setL_get {ρ : Ev} {i j : Nat} {ys : List Dt} (h : j ≠ i) : (setL ρ i ys)[j]? = ρ[j]? := by
  unfold setL
  split <;> rw [get_set_ne h]
theorem setL_len {ρ : Ev} {i : Nat} {ys : List Dt} : (setL ρ i ys).length = ρ.length := by
  unfold setL
  split <;> simp
theorem setL_at {ρ : Ev} {i : Nat} {ys : List Dt} : (setL ρ i ys)[i]? = ρ[i]?.map fun s => if s.isIo = true then Sl.io ys else Sl.own ys := by
  unfold setL
  cases h : ρ[i]? with
  | none =>
    have hl : ρ.length ≤ i := List.getElem?_eq_none_iff.mp h
    rw [List.getElem?_eq_none (by simpa using hl)]; rfl
  | some s =>
    have hl : i < ρ.length := (List.getElem?_eq_some_iff.mp h).1
    cases s <;> (dsimp only; rw [List.getElem?_set_self hl]; rfl)
/-- what is written back -/
theorem wBack_get : ∀ {sh : List (Option Nat)} {ss : List Sl} {ρ ρ' : Ev}, (sh.filterMap id).Nodup → wBack sh ss ρ = some ρ' → ρ'.length = ρ.length ∧ (∀ i : Nat, (∀ j : Nat, sh[j]? ≠ some (some i)) → ρ'[i]? = ρ[i]?) ∧
    ∀ (j i : Nat) (ys : List Dt), sh[j]? = some (some i) → ss[j]? = some (Sl.io ys) → ρ'[i]? = (setL ρ i ys)[i]?
  | [], ss, ρ, ρ', _, h => by
    cases h
    exact ⟨rfl, fun _ _ => rfl, fun j i ys h _ => by simp at h⟩
  | none :: sh, [], ρ, ρ', _, h => by cases h
  | none :: sh, _ :: ss, ρ, ρ', hn, h => by
    have h : wBack sh ss ρ = some ρ' := h
    obtain ⟨l, k1, k2⟩ := wBack_get (by simpa using hn) h
    refine ⟨l, fun i hi => k1 i fun j => by simpa using hi (j + 1), fun j i ys h1 h2 => ?_⟩
    cases j with
    | zero => simp at h1
    | succ j => exact k2 j i ys (by simpa using h1) (by simpa using h2)
  | some i0 :: sh, [], ρ, ρ', _, h => by cases h
  | some i0 :: sh, s :: ss, ρ, ρ', hn, h => by
    have hn' : i0 ∉ sh.filterMap id ∧ (sh.filterMap id).Nodup := by simpa using hn
    cases s with
    | io zs =>
      have h : wBack sh ss (setL ρ i0 zs) = some ρ' := h
      obtain ⟨l, k1, k2⟩ := wBack_get hn'.2 h
      have no0 : ∀ j : Nat, sh[j]? ≠ some (some i0) := fun j q => hn'.1 (List.mem_filterMap.mpr ⟨some i0, List.mem_of_getElem? q, rfl⟩)
      refine ⟨l.trans setL_len, fun i hi => ?_, fun j i ys h1 h2 => ?_⟩
      · have ni : i ≠ i0 := fun q => hi 0 (by simp [q])
        rw [k1 i fun j => by simpa using hi (j + 1), setL_get ni]
      · cases j with
        | zero =>
          simp at h1 h2
          subst h1 h2
          exact k1 i0 no0
        | succ j =>
          have h1' : sh[j]? = some (some i) := by simpa using h1
          have ni : i ≠ i0 := fun q => no0 j (q ▸ h1')
          rw [k2 j i ys h1' (by simpa using h2)]
          rw [setL_at, setL_at, setL_get ni]
    | _ => cases h
/-- behind a call -/
theorem called_rel {K : PySem.W.Frag} {C : Ctx} {α : Nat → Addr} {F F' : Fz} {ρ ρ' : Ev} {σ : L2.St} {H H' : Hp} {vs : List V} {ds : List Dt} {ss ss' : List Sl} (Rr : Rel K C α F ρ σ H) (ar : ArgRel K F H α sh vs ds) (mk : mkArgs sh ds ρ = some ss) (nd : (sh.filterMap id).Nodup)
    (af : After K F H F' H' (αArg α sh) ss ss') (wb : wBack sh ss' ρ = some ρ') : Rel K C α F' ρ' σ H' ∧ Ext F H F' H' := by
  obtain ⟨l1, l2, k⟩ := mkArgs_get mk
  obtain ⟨w1, w2, w3⟩ := wBack_get nd wb
  have slotOf : ∀ {i : Nat} {xs : List Dt}, lstAt ρ i = some xs → ∃ s, ρ[i]? = some s ∧ s.isMut = true := fun {i xs} h => by
    unfold NS.lstAt at h
    split at h
    · rename_i q; exact ⟨_, q, rfl⟩
    · rename_i q; exact ⟨_, q, rfl⟩
    · cases h
  have αe : ∀ {j i : Nat}, sh[j]? = some (some i) → αArg α sh j = α i := fun {j i} h => by unfold αArg; rw [h]
  -- which places were lent
  have lent : ∀ {j : Nat} {xs : List Dt}, ss[j]? = some (.io xs) → ∃ i, sh[j]? = some (some i) ∧ lstAt ρ i = some xs := fun {j xs} h => by
    rcases k j _ h with ⟨_, d, _, q⟩ | ⟨i, ys, h1, h2, q⟩
    · cases q
    · cases q; exact ⟨i, h1, h2⟩
  have lentI : ∀ {j i : Nat}, sh[j]? = some (some i) → ∃ xs, ss[j]? = some (.io xs) ∧ lstAt ρ i = some xs := fun {j i} h => by
    have hj : j < ss.length := by rw [l1]; exact (List.getElem?_eq_some_iff.mp h).1
    rcases k j _ (List.getElem?_eq_getElem hj) with ⟨q, _⟩ | ⟨i', ys, h1, h2, q⟩
    · rw [h] at q; cases q
    · rw [h] at h1; cases h1; exact ⟨ys, by rw [List.getElem?_eq_getElem hj, q], h2⟩
  -- an address that isn't lent is kept
  have keepA : ∀ {a : Addr} {o : HO}, H a = some o → (∀ j i : Nat, sh[j]? = some (some i) → α i ≠ a) → H' a = some o := fun {a o} h hn => af.kp a o h fun j xs hj => by
    obtain ⟨i, h1, _⟩ := lent hj
    rw [αe h1]
    exact hn j i h1
  have nFx : ∀ {i : Nat} {xs : List Dt}, lstAt ρ i = some xs → ∃ vs, H (α i) = some (.lst vs) ∧ ¬F (α i) := fun h => by
    obtain ⟨_, nF, us, h5, _⟩ := Rr.lstAt h
    exact ⟨us, h5, nF⟩
  have e : Ext F H F' H' := ⟨af.fz, fun a o h z => keepA h fun j i hj q => by
    obtain ⟨xs, _, h2⟩ := lentI hj
    obtain ⟨us, h3, h4⟩ := nFx h2
    rw [q] at h3 h4
    rw [h] at h3; cases h3
    rcases z with z | z
    · exact h4 z
    · exact z⟩
  have old : ∀ {i : Nat} {s : Sl}, ρ'[i]? = some s → s.isMut = true → ∃ s0, ρ[i]? = some s0 ∧ s0.isMut = true ∧ s0.isIo = s.isIo := fun {i s} h m => by
    by_cases hl : ∃ j : Nat, sh[j]? = some (some i)
    · obtain ⟨j, hj⟩ := hl
      obtain ⟨xs, h1, h2⟩ := lentI hj
      obtain ⟨ys, us, h3, _, _⟩ := af.io j xs h1
      rw [w3 j i ys hj h3, setL_at] at h
      obtain ⟨s0, q1, q2⟩ := slotOf h2
      rw [q1] at h
      refine ⟨s0, q1, q2, ?_⟩
      simp only [Option.map_some, Option.some.injEq] at h
      rw [← h]
      split
      · rename_i c; rw [c]; rfl
      · rename_i c; show s0.isIo = false; simpa using c
    · rw [w2 i fun j q => hl ⟨j, q⟩] at h
      exact ⟨s, h, m, rfl⟩
  have nFnew : ∀ {a : Addr} {o : HO}, H a = some o → ¬F a → ¬F' a := fun {a o} h hf q => by
    rcases af.fn a q with z | z
    · exact hf z
    · rw [h] at z; cases z
  refine ⟨⟨Rr.len.trans w1.symm, fun i s h => ?_, fun i j s t hi hj ms mt q => ?_, fun q hq => ?_, fun a o h => ?_, fun i s h m => ?_, fun a h q => ?_, fun a h => ?_, af.fd, fun i s h m hio => ?_⟩, e⟩
  · by_cases hl : ∃ j : Nat, sh[j]? = some (some i)
    · obtain ⟨j, hj⟩ := hl
      obtain ⟨xs, h1, h2⟩ := lentI hj
      obtain ⟨ys, us, h3, h4, h5⟩ := af.io j xs h1
      rw [w3 j i ys hj h3, setL_at] at h
      rw [αe hj] at h4
      obtain ⟨v1, nF, us0, v2, v3⟩ := Rr.lstAt h2
      obtain ⟨s0, q1, q2⟩ := slotOf h2
      rw [q1] at h
      simp only [Option.map_some, Option.some.injEq] at h
      refine ⟨_, v1, ?_⟩
      have nf := nFnew v2 nF
      rw [← h]
      split <;> exact ⟨rfl, nf, us, h4, h5⟩
    · rw [w2 i fun j q => hl ⟨j, q⟩] at h
      obtain ⟨o, h1, h2⟩ := Rr.slot i s h
      refine ⟨o, h1, h2.mono e fun m => ?_⟩
      obtain ⟨u, hu, _⟩ := h2.there m
      refine ⟨nFnew hu (h2.nF m), fun w' q => keepA q fun j i' hj z => ?_⟩
      obtain ⟨xs, _, h4⟩ := lentI hj
      obtain ⟨s1, q1, m1⟩ := slotOf h4
      exact hl ⟨j, (Rr.inj i' i s1 s q1 h m1 m z) ▸ hj⟩
  · obtain ⟨s0, a1, a2, _⟩ := old hi ms
    obtain ⟨t0, b1, b2, _⟩ := old hj mt
    exact Rr.inj i j s0 t0 a1 b1 a2 b2 q
  · obtain ⟨xs, h1, h2⟩ := Rr.io q hq
    by_cases hl : ∃ j : Nat, sh[j]? = some (some q.1)
    · obtain ⟨j, hj⟩ := hl
      obtain ⟨xs', h3, h4⟩ := lentI hj
      obtain ⟨ys, us, h5, _, _⟩ := af.io j xs' h3
      refine ⟨ys, ?_, h2⟩
      rw [w3 j q.1 ys hj h5, setL_at, h1]
      rfl
    · exact ⟨xs, by rw [w2 q.1 fun j z => hl ⟨j, z⟩]; exact h1, h2⟩
  · have h0 := Rr.kp a o h
    refine keepA h0 fun j i hj z => ?_
    obtain ⟨xs, _, h4⟩ := lentI hj
    obtain ⟨s1, q1, m1⟩ := slotOf h4
    have := Rr.kn i s1 q1 m1
    rw [z, h] at this; cases this
  · obtain ⟨s0, a1, a2, _⟩ := old h m
    exact Rr.kn i s0 a1 a2
  · have h0 := Rr.nd a h
    cases hH : H a with
    | none => exact h0 hH
    | some u => exact nFnew hH (Rr.nf a h) q
  · have h0 := Rr.nd a h
    cases hH : H a with
    | none => exact absurd hH h0
    | some u =>
      by_cases hl : ∃ j i : Nat, sh[j]? = some (some i) ∧ α i = a
      · obtain ⟨j, i, hj, rfl⟩ := hl
        obtain ⟨xs, h1, h2⟩ := lentI hj
        obtain ⟨ys, us, _, h4, _⟩ := af.io j xs h1
        rw [αe hj] at h4
        rw [h4]; intro z; cases z
      · rw [keepA hH fun j i hj z => hl ⟨j, i, hj, z⟩]; intro z; cases z
  · obtain ⟨s0, a1, a2, a3⟩ := old h m
    exact Rr.on i s0 a1 a2 (a3.trans hio)

def mCallF (Fn : List Sl → FR) (sh : List (Option Nat)) (mr : Ev → RA) : Ev → R := fun ρ => match mr ρ with
  | .ok ds ρ1 => match mkArgs sh ds ρ1 with
    | none => .stuck
    | some ss => match Fn ss with
      | .ok d ss' => match wBack sh ss' ρ1 with
        | some ρ2 => .ok d ρ2
        | none => .stuck
      | .exc x ss' => match wBack sh ss' ρ1 with
        | some ρ2 => .exc x ρ2
        | none => .stuck
      | .stuck => .stuck
  | .exc x ρ1 => .exc x ρ1
  | .stuck => .stuck
/-- the same where nothing may be raised -/
def mCallN (Fn : List Sl → FR) (sh : List (Option Nat)) (mr : Ev → RA) : Ev → R := fun ρ => match mr ρ with
  | .ok ds ρ1 => match mkArgs sh ds ρ1 with
    | none => .stuck
    | some ss => match Fn ss with
      | .ok d ss' => match wBack sh ss' ρ1 with
        | some ρ2 => .ok d ρ2
        | none => .stuck
      | _ => .stuck
  | .exc x ρ1 => .exc x ρ1
  | .stuck => .stuck
variable {k : Nat} {f : Addr} {fd : FuncData} {ps : List Str} {Fn : List Sl → FR} {x : Str} {p : Pos}
theorem JE.call (F : FnOk X.prog X.w X.K X.mg X.base (L2N.CX X.prog X.w) k f fd ps (spF X.K X.mg Fn)) (hr : Room k X.A) (hm : X.mg x = some (.ref f)) (hk : PySem.W.keepIn X.K (.ref f) = true) (hb : Binds X.K fd ps []) (tk : L2N.Takes X W) (ha : JR X W (a :: es) sh mr) (hg : Gl X x := by rfl) (nd : refsNd sh = true := by decide) (hdb : (x == ("__debug__" : Str)) = false := by decide)
    (he : starEach (a :: es) X.env = (false, eval a X.env) :: starEach es X.env := by rfl) (hpl : (backTo pos (starEach es X.env)).any (·.1) = false := by rfl) : JE X W (.Call (.Name x p) (a :: es) [] pos) (mCallF Fn sh mr) := by
  refine .of (pe_callS F hr hg hm hk hb (fun σ => L2N.passAt tk σ) ha hdb he hpl) fun C α F ρ σ H Q Rr p => ?_
  refine ⟨C, α, F, ρ, Rr, ?_⟩
  unfold mCallF at p
  cases h : mr ρ with
  | exc x ρ1 => rw [h] at p; exact p
  | stuck => rw [h] at p; exact p
  | ok ds ρ1 =>
    rw [h] at p
    intro vs F1 H1 e1 R1 ar
    dsimp only at p
    have nd' : (sh.filterMap id).Nodup := of_decide_eq_true nd
    cases hmk : mkArgs sh ds ρ1 with
    | none => rw [hmk] at p; exact p.elim
    | some ss =>
      rw [hmk] at p
      dsimp only at p
      refine ⟨F1, αArg α sh, ss, args_in R1 ar hmk nd', ?_⟩
      cases hf : Fn ss with
      | stuck => rw [hf] at p; exact p
      | ok d ss' =>
        rw [hf] at p
        dsimp only at p
        intro v F' H' af rv
        cases hw : wBack sh ss' ρ1 with
        | none => rw [hw] at p; exact p.elim
        | some ρ2 =>
          rw [hw] at p
          obtain ⟨R2, e2⟩ := called_rel R1 ar hmk nd' af hw
          exact p v F' H' (e1.trans e2) R2 rv
      | exc x ss' =>
        rw [hf] at p
        dsimp only at p
        intro c dd F' H' af rv
        cases hw : wBack sh ss' ρ1 with
        | none => rw [hw] at p; exact p.elim
        | some ρ2 =>
          rw [hw] at p
          obtain ⟨R2, e2⟩ := called_rel R1 ar hmk nd' af hw
          exact p c dd F' H' (e1.trans e2) R2 rv
theorem passN {X : Cx} : Passes (L2N.CX X.prog X.w) X E0 := fun _ _ _ _ _ _ _ h => by
  obtain ⟨_, _, _, _, _, _, _, _, _, _, _, _, no⟩ := h
  exact no.elim
theorem JE.callN (F : FnOk X.prog X.w X.K X.mg X.base (L2N.CX X.prog X.w) k f fd ps (spF X.K X.mg Fn)) (hr : Room k X.A) (hm : X.mg x = some (.ref f)) (hk : PySem.W.keepIn X.K (.ref f) = true) (hb : Binds X.K fd ps []) (ha : JR X W (a :: es) sh mr) (hg : Gl X x := by rfl) (nd : refsNd sh = true := by decide) (hdb : (x == ("__debug__" : Str)) = false := by decide)
    (he : starEach (a :: es) X.env = (false, eval a X.env) :: starEach es X.env := by rfl) (hpl : (backTo pos (starEach es X.env)).any (·.1) = false := by rfl) : JE X W (.Call (.Name x p) (a :: es) [] pos) (mCallN Fn sh mr) := by
  refine .of (pe_call F hr hg hm hk hb .nil passN ha hdb he hpl) fun C α F ρ σ H Q Rr p => ?_
  refine ⟨C, α, F, ρ, Rr, ?_⟩
  unfold mCallN at p
  cases h : mr ρ with
  | exc x ρ1 => rw [h] at p; exact p
  | stuck => rw [h] at p; exact p
  | ok ds ρ1 =>
    rw [h] at p
    intro vs F1 H1 e1 R1 ar
    dsimp only at p
    have nd' : (sh.filterMap id).Nodup := of_decide_eq_true nd
    cases hmk : mkArgs sh ds ρ1 with
    | none => rw [hmk] at p; exact p.elim
    | some ss =>
      rw [hmk] at p
      dsimp only at p
      rw [List.append_nil]
      refine ⟨F1, αArg α sh, ss, args_in R1 ar hmk nd', ?_⟩
      cases hf : Fn ss with
      | stuck => rw [hf] at p; exact p
      | exc x ss' => rw [hf] at p; exact p.elim
      | ok d ss' =>
        rw [hf] at p
        dsimp only at p
        intro v F' H' af rv
        cases hw : wBack sh ss' ρ1 with
        | none => rw [hw] at p; exact p.elim
        | some ρ2 =>
          rw [hw] at p
          obtain ⟨R2, e2⟩ := called_rel R1 ar hmk nd' af hw
          exact p v F' H' (e1.trans e2) R2 rv
theorem JE.callN0 (F : FnOk X.prog X.w X.K X.mg X.base (L2N.CX X.prog X.w) k f fd ps (spF X.K X.mg Fn)) (hr : Room k X.A) (hm : X.mg x = some (.ref f)) (hk : PySem.W.keepIn X.K (.ref f) = true) (hb : Binds X.K fd ps []) (hg : Gl X x := by rfl) (hdb : (x == ("__debug__" : Str)) = false := by decide) : JE X W (.Call (.Name x p) [] [] pos) (mCallN Fn [] mNil) := by
  refine .of (pe_call0 F hr hg hm hk hb .nil passN hdb) fun C α F ρ σ H Q Rr p => ?_
  unfold mCallN at p
  have p : PostE X.K X.mg W C α F σ H Q (match Fn [] with | .ok d ss' => .ok d ρ | _ => .stuck) := p
  refine ⟨F, αArg α [], [], args_in (sh := []) (vs := []) (ds := []) Rr trivial rfl List.nodup_nil, ?_⟩
  cases hf : Fn [] with
  | stuck => rw [hf] at p; exact p
  | exc x ss' => rw [hf] at p; exact p.elim
  | ok d ss' =>
    rw [hf] at p
    intro v F' H' af rv
    obtain ⟨R2, e2⟩ := called_rel (sh := []) (vs := []) (ds := []) (ρ' := ρ) Rr trivial rfl List.nodup_nil af rfl
    exact p v F' H' e2 R2 rv

/-! ### raise -/
theorem JS.raise {m : Str} {j : Nat} {C : Addr} {B newId initId : String} {bmB : List Value} {p2 pos' : Pos} (hc : X.calm = true) (tk : L2N.Takes X W) (Fb : ExcBaseFacts B newId initId bmB) (q : PySem.W.excIn X.K C bmB newId = true) (gC : X.mg x = some (.ref C)) (kC : PySem.W.keepIn X.K (.ref C) = true) (r : Raises X (.ref C)) (hg : Gl X x := by rfl)
    (hdb : (x == ("__debug__" : Str)) = false := by decide) : JS X W (.Raise (some (.Call (.Name x p) [.Constant (.str m) j p2] [] pos')) none pos) (fun ρ => .ex ⟨x, none⟩ ρ) := by
  refine .of (L2N.ps_raise hc tk (L2N.pmk_own Fb q gC kC r hg hdb)) fun C' α F ρ σ H D Rr p => ?_
  exact p α F σ H (.ref C) none (.refl _ _) Rr ⟨C, gC, rfl, rfl⟩
/-! ### facts by names -/
/-- a def of the text that keeps its mirror's promise -/
def Cal (P : Program) (w : World) (K : PySem.W.Frag) (mg : Str → Option Value) (base : Heap) (k : Nat) (x : Str) (ps : List Str) (Fn : List Sl → FR) : Prop :=
  ∃ (f : Addr) (fd : FuncData), FnOk P w K mg base (L2N.CX P w) k f fd ps (spF K mg Fn) ∧ mg x = some (.ref f) ∧ PySem.W.keepIn K (.ref f) = true ∧ Binds K fd ps []
theorem JE.callC {j : Nat} (c : Cal X.prog X.w X.K X.mg X.base j x ps Fn) (hr : Room k X.A) (tk : L2N.Takes X W) (ha : JR X W (a :: es) sh mr) (hj : j ≤ k := by decide) (hg : Gl X x := by rfl) (nd : refsNd sh = true := by decide) (hdb : (x == ("__debug__" : Str)) = false := by decide)
    (he : starEach (a :: es) X.env = (false, eval a X.env) :: starEach es X.env := by rfl) (hpl : (backTo pos (starEach es X.env)).any (·.1) = false := by rfl) : JE X W (.Call (.Name x p) (a :: es) [] pos) (mCallF Fn sh mr) := by
  obtain ⟨f, fd, F, hm, hk, hb⟩ := c
  exact JE.call F (hr.mono hj) hm hk hb tk ha hg nd hdb he hpl
theorem JE.callCN {j : Nat} (c : Cal X.prog X.w X.K X.mg X.base j x ps Fn) (hr : Room k X.A) (ha : JR X W (a :: es) sh mr) (hj : j ≤ k := by decide) (hg : Gl X x := by rfl) (nd : refsNd sh = true := by decide) (hdb : (x == ("__debug__" : Str)) = false := by decide)
    (he : starEach (a :: es) X.env = (false, eval a X.env) :: starEach es X.env := by rfl) (hpl : (backTo pos (starEach es X.env)).any (·.1) = false := by rfl) : JE X W (.Call (.Name x p) (a :: es) [] pos) (mCallN Fn sh mr) := by
  obtain ⟨f, fd, F, hm, hk, hb⟩ := c
  exact JE.callN F (hr.mono hj) hm hk hb ha hg nd hdb he hpl
theorem JE.callC0 {j : Nat} (c : Cal X.prog X.w X.K X.mg X.base j x ps Fn) (hr : Room k X.A) (hj : j ≤ k := by decide) (hg : Gl X x := by rfl) (hdb : (x == ("__debug__" : Str)) = false := by decide) : JE X W (.Call (.Name x p) [] [] pos) (mCallN Fn [] mNil) := by
  obtain ⟨f, fd, F, hm, hk, hb⟩ := c
  exact JE.callN0 F (hr.mono hj) hm hk hb hg hdb
/-- a class of the text's own errors, without an __init__ of its own -/
def ExcK (K : PySem.W.Frag) (mg : Str → Option Value) (x : Str) : Prop :=
  ∃ C : Addr, mg x = some (.ref C) ∧ PySem.W.excIn K C [.type "ValueError", .type "Exception", .type "BaseException", .type "object"] "ValueError.__new__" = true ∧ PySem.W.keepIn K (.ref C) = true ∧ PySem.W.subIn K (.ref C) (.type "BaseException") = some true ∧ PySem.W.typeIn K (.ref C) = some (.type "type")
theorem JS.raiseK {m : Str} {j : Nat} {p2 pos' : Pos} (hc : X.calm = true) (tk : L2N.Takes X W) (c : ExcK X.K X.mg x) (hg : Gl X x := by rfl) (hdb : (x == ("__debug__" : Str)) = false := by decide) : JS X W (.Raise (some (.Call (.Name x p) [.Constant (.str m) j p2] [] pos')) none pos) (fun ρ => .ex ⟨x, none⟩ ρ) := by
  obtain ⟨C, g, q, kC, b, t⟩ := c
  exact JS.raise hc tk PySem.F.excBase_ValueError q g kC (raises_own b t) hg hdb
theorem JE.globI {n : Int} (h : ∃ t, X.mg x = some (.int n t)) (hg : Gl X x := by rfl) (hdb : (x == ("__debug__" : Str)) = false := by decide) : JE X W (.Name x pos) (mC (.int n)) := by
  obtain ⟨t, h⟩ := h
  exact JE.glob (v := .int n) (fun _ _ => .int n) h ⟨t, rfl⟩ hg hdb
def negD : Dt → Option Dt
  | .int i => some (.int (-i))
  | _ => none
theorem un_negS {K : PySem.W.Frag} : UnS K (rU fun i => .int (-i)) negD := by
  intro F H x d z Q rx hz q
  cases d with
  | int i => cases rx; cases hz; exact ⟨i, rfl, q _ _ _ .refl (.int _)⟩
  | _ => cases hz
def mulWD : Dt → Dt → Option Dt := int2 fun i j => if i.natAbs < 2 ^ 2000 ∧ j.natAbs < 2 ^ 2000 then some (i * j) else none
theorem op_mulWS {K : PySem.W.Frag} : OpS K (rI CMulW fun i j => .int (i * j)) mulWD := op_int2S fun i j k h => by
  split at h
  · rename_i c; exact ⟨wide_mul c.1 c.2 (by decide) (by decide) (by decide), Option.some.inj h⟩
  · cases h
/-! ### lists put together, repeated: new ones -/
def mBinL (f : List Dt → Dt → Option (List Dt)) (ma : Ev → RA) (mb : Ev → R) : Ev → RA := fun ρ => match ma ρ with
  | .ok xs ρ1 => match mb ρ1 with
    | .ok e ρ2 => match f xs e with
      | some ys => .ok ys ρ2
      | none => .stuck
    | .exc x ρ2 => .exc x ρ2
    | .stuck => .stuck
  | .exc x ρ1 => .exc x ρ1
  | .stuck => .stuck
def repF (xs : List Dt) (e : Dt) : Option (List Dt) := match e with
  | .int k => if 0 ≤ k ∧ k ≤ 10000 ∧ xs.length * k.toNat ≤ 10000 then some (List.replicate k.toNat xs).flatten else none
  | _ => none
theorem RpAll.rep {K : PySem.W.Frag} {F : Fz} {H : Hp} {vs : List V} {ds : List Dt} (r : RpAll K F H vs ds) : ∀ n : Nat, RpAll K F H (List.replicate n vs).flatten (List.replicate n ds).flatten
  | 0 => by simpa using RpAll.nil
  | n + 1 => by
    rw [List.replicate_succ, List.replicate_succ, List.flatten_cons, List.flatten_cons]
    exact r.append (RpAll.rep r n)
theorem JL.rep {ml : Ev → RA} (ha : JL X W a ml) (hb : JE X W b mb) : JL X W (.BinOp a .Mult b pos) (mBinL repF ml mb) := by
  refine .of (pe_op op_rep ha hb) fun C α F ρ σ H Q Rr p => ?_
  refine ⟨C, α, F, ρ, Rr, ?_⟩
  unfold mBinL at p
  cases h : ml ρ with
  | exc x ρ1 => rw [h] at p; exact p
  | stuck => rw [h] at p; exact p
  | ok xs ρ1 =>
    rw [h] at p
    intro q vs F1 H1 e1 R1 hq rs n1 n2 n3 n4
    dsimp only at p
    -- the first list is pinned while the number is reckoned
    refine ⟨C, α, insF F1 q, ρ1, R1.freeze (by rw [hq]; intro z; cases z) n2 n4, ?_⟩
    cases h2 : mb ρ1 with
    | exc x ρ2 => rw [h2] at p; exact fun c dd F' H' e' r' w => p c dd F' H' ((e1.trans ext_ins).trans e') r' w
    | stuck => rw [h2] at p; exact p
    | ok e ρ2 =>
      rw [h2] at p
      intro v F2 H2 e2 R2 rv
      dsimp only at p
      cases e with
      | int k =>
        cases rv
        cases hf : repF xs (.int k) with
        | none => rw [hf] at p; exact p.elim
        | some ys =>
          rw [hf] at p
          have hf : (if 0 ≤ k ∧ k ≤ 10000 ∧ xs.length * k.toNat ≤ 10000 then some (List.replicate k.toNat xs).flatten else none) = some ys := hf
          split at hf
          · rename_i c
            cases hf
            have hq2 : H2 q = some (.lst vs) := e2.kp q _ hq (.inl (.inr rfl))
            refine ⟨q, k, vs, rfl, rfl, hq2, by omega, by omega, by rw [rs.length]; exact size_of c.2.2, fun l hl => ?_⟩
            obtain ⟨m1, m2, m3, m4⟩ := fresh_own R2 hl
            exact p l _ F2 _ (((e1.trans ext_ins).trans e2).trans (ext_laid hl)) (R2.laid hl) upd_same ((((rs.mono ext_ins).mono e2).rep k.toNat).mono (ext_laid hl)) m1 m2 m3 m4
          · cases hf
      | _ => exact p.elim
/-- xs + ys, both new -/
def mCatL (ma mb : Ev → RA) : Ev → RA := fun ρ => match ma ρ with
  | .ok xs ρ1 => match mb ρ1 with
    | .ok ys ρ2 => if xs.length + ys.length ≤ 10000 then .ok (xs ++ ys) ρ2 else .stuck
    | .exc x ρ2 => .exc x ρ2
    | .stuck => .stuck
  | .exc x ρ1 => .exc x ρ1
  | .stuck => .stuck
theorem JL.cat {ml ml2 : Ev → RA} (ha : JL X W a ml) (hb : JL X W b ml2) : JL X W (.BinOp a .Add b pos) (mCatL ml ml2) := by
  refine .of (pe_op op_cat ha hb) fun C α F ρ σ H Q Rr p => ?_
  refine ⟨C, α, F, ρ, Rr, ?_⟩
  unfold mCatL at p
  cases h : ml ρ with
  | exc x ρ1 => rw [h] at p; exact p
  | stuck => rw [h] at p; exact p
  | ok xs ρ1 =>
    rw [h] at p
    intro q vs F1 H1 e1 R1 hq rs n1 n2 n3 n4
    dsimp only at p
    refine ⟨C, α, insF F1 q, ρ1, R1.freeze (by rw [hq]; intro z; cases z) n2 n4, ?_⟩
    cases h2 : ml2 ρ1 with
    | exc x ρ2 => rw [h2] at p; exact fun c dd F' H' e' r' w => p c dd F' H' ((e1.trans ext_ins).trans e') r' w
    | stuck => rw [h2] at p; exact p
    | ok ys ρ2 =>
      rw [h2] at p
      intro q2 vs2 F2 H2 e2 R2 hq2 rs2 o1 o2 o3 o4
      dsimp only at p
      by_cases hc : xs.length + ys.length ≤ 10000
      · rw [if_pos hc] at p
        have hq1 : H2 q = some (.lst vs) := e2.kp q _ hq (.inl (.inr rfl))
        refine ⟨q, q2, vs, vs2, rfl, rfl, hq1, hq2, by rw [rs.length, rs2.length]; exact size_of hc, fun l hl => ?_⟩
        obtain ⟨m1, m2, m3, m4⟩ := fresh_own R2 hl
        exact p l _ F2 _ (((e1.trans ext_ins).trans e2).trans (ext_laid hl)) (R2.laid hl) upd_same ((((rs.mono ext_ins).mono e2).append rs2).mono (ext_laid hl)) m1 m2 m3 m4
      · rw [if_neg hc] at p; exact p.elim
theorem exck_of {K : PySem.W.Frag} {mg : Str → Option Value} {x : Str} (g : mg x = some (.ref (He.ga K x))) (h : PySem.W.excIn K (He.ga K x) He.veBase "ValueError.__new__" = true ∧ PySem.W.keepIn K (.ref (He.ga K x)) = true ∧ PySem.W.subIn K (.ref (He.ga K x)) (.type "BaseException") = some true ∧ PySem.W.typeIn K (.ref (He.ga K x)) = some (.type "type")) : ExcK K mg x := ⟨_, g, h⟩
end
end NS

set_option Elab.async false
set_option linter.all false
set_option autoImplicit false
set_option maxRecDepth 100000
set_option maxHeartbeats 4000000
/-! Reckoning with mirrors. -/
namespace NS
open PySem PySem.Spec PyProof.Rows L2
section
variable {ma mb mc : Ev → R} {mr : Ev → RA} {m1 m2 : Ev → Out} {ρ : Ev} {d e : Dt} {x : Exn} {i j : Nat}
theorem ev_seq : mSeq m1 m2 ρ = (m1 ρ).seq m2 := rfl
theorem ev_seq_nx : (Out.nx ρ).seq m2 = m2 ρ := rfl
theorem ev_seq_rt : (Out.rt d ρ).seq m2 = .rt d ρ := rfl
theorem ev_seq_ex : (Out.ex x ρ).seq m2 = .ex x ρ := rfl
theorem ev_seq_bk : (Out.bk ρ).seq m2 = .bk ρ := rfl
theorem ev_seq_ct : (Out.ct ρ).seq m2 = .ct ρ := rfl
theorem ev_seq_st : Out.stuck.seq m2 = .stuck := rfl
theorem ev_seq_ite {c : Prop} [Decidable c] {a b : Out} : (if c then a else b).seq m2 = if c then a.seq m2 else b.seq m2 := by split <;> rfl
theorem ev_next : mNext ρ = .nx ρ := rfl
theorem ev_ifs : mIfS mc m1 m2 ρ = (mc ρ).iteS m1 m2 := rfl
theorem ev_ites {b : Bool} : (R.ok (.bool b) ρ).iteS m1 m2 = if b = true then m1 ρ else m2 ρ := by cases b <;> rfl
theorem ev_ites_ex : (R.exc x ρ).iteS m1 m2 = .ex x ρ := rfl
theorem ev_ret : mRet ma ρ = (ma ρ).out fun d ρ1 => .rt d ρ1 := rfl
theorem ev_drop : mDrop ma ρ = (ma ρ).out fun _ ρ1 => .nx ρ1 := rfl
theorem ev_out {f : Dt → Ev → Out} : (R.ok d ρ).out f = f d ρ := rfl
theorem ev_out_ex {f : Dt → Ev → Out} : (R.exc x ρ).out f = .ex x ρ := rfl
theorem ev_outA {f : List Dt → Ev → Out} {ds : List Dt} : (RA.ok ds ρ).out f = f ds ρ := rfl
theorem ev_c : mC d ρ = .ok d ρ := rfl
theorem ev_set : mSet i ma ρ = (ma ρ).out fun d ρ1 => if isIoAt ρ1 i = true then .stuck else .nx (ρ1.set i (.val d)) := rfl
theorem ev_own : mOwn i mr ρ = (mr ρ).out fun ds ρ1 => if isIoAt ρ1 i = true then .stuck else .nx (ρ1.set i (.own ds)) := rfl
theorem ev_bind {f : Dt → Ev → R} : (R.ok d ρ).bind f = f d ρ := rfl
theorem ev_bind_ex {f : Dt → Ev → R} : (R.exc x ρ).bind f = .exc x ρ := rfl
theorem ev_bindA {f : List Dt → Ev → R} {ds : List Dt} : (RA.ok ds ρ).bind f = f ds ρ := rfl
theorem ev_op {s : Dt → Dt → Option Dt} : mOp s ma mb ρ = (ma ρ).bind fun d ρ1 => (mb ρ1).bind fun e ρ2 => R.ofO (s d e) ρ2 := rfl
theorem ev_un {s : Dt → Option Dt} : mUn s ma ρ = (ma ρ).bind fun d ρ1 => R.ofO (s d) ρ1 := rfl
theorem ev_call {s : List Dt → Option Dt} : mCall s mr ρ = (mr ρ).bind fun ds ρ1 => R.ofO (s ds) ρ1 := rfl
theorem ev_ofO : R.ofO (some d) ρ = .ok d ρ := rfl
theorem ev_nil : mNil ρ = .ok [] ρ := rfl
theorem ev_cons : mCons ma mr ρ = (ma ρ).cons mr := rfl
def RA.push (d : Dt) (r : RA) : RA := match r with
  | .ok ds ρ' => .ok (d :: ds) ρ'
  | .exc x ρ' => .exc x ρ'
  | .stuck => .stuck
theorem ev_consok : (R.ok d ρ).cons mr = RA.push d (mr ρ) := by unfold R.cons RA.push; rfl
theorem ev_push {ds : List Dt} : RA.push d (.ok ds ρ) = .ok (d :: ds) ρ := rfl
theorem ev_tup : mTup mr ρ = (mr ρ).bind fun ds ρ1 => .ok (.tuple ds) ρ1 := rfl
theorem ev_lst : mLst mr ρ = (mr ρ).bind fun ds ρ1 => .ok (.list ds) ρ1 := rfl
theorem ev_not : mNot ma ρ = (ma ρ).ite (fun ρ1 => .ok (.bool false) ρ1) (fun ρ1 => .ok (.bool true) ρ1) := rfl
theorem ev_notb {b : Bool} : ((R.ok (.bool b) ρ).ite (fun ρ1 => .ok (.bool false) ρ1) (fun ρ1 => .ok (.bool true) ρ1)) = .ok (.bool (!b)) ρ := by cases b <;> rfl
theorem ev_and : mAnd ma mb ρ = (ma ρ).ite (fun ρ1 => mb ρ1) (fun ρ1 => .ok (.bool false) ρ1) := rfl
theorem ev_or : mOr ma mb ρ = (ma ρ).ite (fun ρ1 => .ok (.bool true) ρ1) (fun ρ1 => mb ρ1) := rfl
theorem ev_if : mIf mc ma mb ρ = (mc ρ).ite ma mb := rfl
theorem ev_ite {b : Bool} {f g : Ev → R} : (R.ok (.bool b) ρ).ite f g = if b = true then f ρ else g ρ := by cases b <;> rfl
theorem ev_chain {s1 s2 : Dt → Dt → Option Dt} : mChain s1 s2 ma mb mc ρ = (ma ρ).bind fun d ρ1 => (mb ρ1).bind fun e ρ2 => match s1 d e with
  | some (.bool true) => (mc ρ2).bind fun f ρ3 => R.ofO (s2 e f) ρ3
  | some (.bool false) => .ok (.bool false) ρ2
  | _ => .stuck := rfl
theorem ev_var0 {s : Sl} {r : Ev} : mVar 0 (s :: r) = (match s with | .val d => .ok d (s :: r) | .own xs => .ok (.list xs) (.val (.list xs) :: r) | _ => .stuck) := by cases s <;> rfl
theorem ev_var : mVar i ρ = match ρ[i]? with
  | some (.val d) => .ok d ρ
  | some (.own xs) => .ok (.list xs) (ρ.set i (.val (.list xs)))
  | _ => .stuck := rfl
theorem ev_ixO : mIxO i mb ρ = match lstAt ρ i with
  | none => .stuck
  | some _ => (mb ρ).bind fun e ρ1 => match lstAt ρ1 i with
    | none => .stuck
    | some xs => R.ofO (ixD (.list xs) e) ρ1 := rfl
theorem ev_setIx : mSetIx i ma mb ρ = (ma ρ).out fun d ρ1 => match lstAt ρ1 i with
  | none => .stuck
  | some _ => (mb ρ1).out fun k ρ2 => match k with
    | .int k => match lstAt ρ2 i with
      | none => .stuck
      | some xs => match ixN xs.length k with
        | some j => .nx (setL ρ2 i (xs.set j d))
        | none => .stuck
    | _ => .stuck := rfl
theorem ev_augIx : mAugIx i ma mb ρ = match lstAt ρ i with
  | none => .stuck
  | some _ => (ma ρ).out fun k ρ1 => match k with
    | .int k => match lstAt ρ1 i with
      | none => .stuck
      | some xs => match atI xs k with
        | some (.int old) => (mb ρ1).out fun d ρ2 => match d with
          | .int n => match lstAt ρ2 i with
            | none => .stuck
            | some ys => match ixN ys.length k with
              | some j => .nx (setL ρ2 i (ys.set j (.int (old + n))))
              | none => .stuck
          | _ => .stuck
        | _ => .stuck
    | _ => .stuck := rfl
theorem ev_opOL {s : Dt → Dt → Option Dt} : mOpOL s i mb ρ = match lstAt ρ i with
  | none => .stuck
  | some _ => (mb ρ).bind fun e ρ1 => match lstAt ρ1 i with
    | none => .stuck
    | some xs => match s (.list xs) e with
      | some z => if isScal z = true then .ok z ρ1 else .stuck
      | none => .stuck := rfl
theorem ev_callO {s : List Dt → Option Dt} : mCallO s i ρ = match lstAt ρ i with
  | none => .stuck
  | some xs => match s [.list xs] with
    | some z => if isScal z = true then .ok z ρ else .stuck
    | none => .stuck := rfl
theorem ev_ref : mRef i mr ρ = match lstAt ρ i with
  | none => .stuck
  | some _ => RA.push .none (mr ρ) := rfl
theorem ev_mut {f : List Dt → List Dt → Option (List Dt)} : mMut i f mr ρ = match lstAt ρ i with
  | none => .stuck
  | some _ => (mr ρ).out fun ds ρ1 => match lstAt ρ1 i with
    | none => .stuck
    | some xs => match f xs ds with
      | some ys => .nx (setL ρ1 i ys)
      | none => .stuck := rfl
def FR.back (r : FR) (sh : List (Option Nat)) (ρ : Ev) : R := match r with
  | .ok d ss' => match wBack sh ss' ρ with
    | some ρ2 => .ok d ρ2
    | none => .stuck
  | .exc x ss' => match wBack sh ss' ρ with
    | some ρ2 => .exc x ρ2
    | none => .stuck
  | .stuck => .stuck
def FR.backN (r : FR) (sh : List (Option Nat)) (ρ : Ev) : R := match r with
  | .ok d ss' => match wBack sh ss' ρ with
    | some ρ2 => .ok d ρ2
    | none => .stuck
  | _ => .stuck
theorem ev_callF {Fn : List Sl → FR} {sh : List (Option Nat)} : mCallF Fn sh mr ρ = (mr ρ).bind fun ds ρ1 => match mkArgs sh ds ρ1 with
  | none => .stuck
  | some ss => (Fn ss).back sh ρ1 := by unfold mCallF RA.bind; cases mr ρ <;> rfl
theorem ev_callN {Fn : List Sl → FR} {sh : List (Option Nat)} : mCallN Fn sh mr ρ = (mr ρ).bind fun ds ρ1 => match mkArgs sh ds ρ1 with
  | none => .stuck
  | some ss => (Fn ss).backN sh ρ1 := by unfold mCallN RA.bind; cases mr ρ <;> rfl
theorem ev_back {ss : List Sl} {sh : List (Option Nat)} : (FR.ok d ss).back sh ρ = match wBack sh ss ρ with
    | some ρ2 => .ok d ρ2
    | none => .stuck := rfl
theorem ev_backX {ss : List Sl} {sh : List (Option Nat)} : (FR.exc x ss).back sh ρ = match wBack sh ss ρ with
    | some ρ2 => .exc x ρ2
    | none => .stuck := rfl
theorem ev_backN {ss : List Sl} {sh : List (Option Nat)} : (FR.ok d ss).backN sh ρ = match wBack sh ss ρ with
    | some ρ2 => .ok d ρ2
    | none => .stuck := rfl
theorem ev_mk0 : mkArgs [] [] ρ = some [] := rfl
theorem ev_mkv {sh : List (Option Nat)} {ds : List Dt} : mkArgs (none :: sh) (d :: ds) ρ = (mkArgs sh ds ρ).map (Sl.val d :: ·) := rfl
theorem ev_mkr {sh : List (Option Nat)} {ds : List Dt} : mkArgs (some i :: sh) (d :: ds) ρ = match lstAt ρ i with
    | some xs => (mkArgs sh ds ρ).map (Sl.io xs :: ·)
    | none => none := rfl
theorem ev_wb0 {ss : List Sl} : wBack [] ss ρ = some ρ := rfl
theorem ev_wbv {sh : List (Option Nat)} {s : Sl} {ss : List Sl} : wBack (none :: sh) (s :: ss) ρ = wBack sh ss ρ := rfl
theorem ev_wbr {sh : List (Option Nat)} {ys : List Dt} {ss : List Sl} : wBack (some i :: sh) (.io ys :: ss) ρ = wBack sh ss (setL ρ i ys) := rfl
theorem ev_iter {f : Dt → Option (List Dt)} : mIter f ma ρ = match ma ρ with | .ok d ρ1 => (match f d with | some ds => RA.ok ds ρ1 | none => .stuck) | .exc x ρ1 => .exc x ρ1 | .stuck => .stuck := rfl
theorem ev_iterA {f : List Dt → Option (List Dt)} : mIterA f mr ρ = match mr ρ with | .ok d ρ1 => (match f d with | some ds => RA.ok ds ρ1 | none => .stuck) | .exc x ρ1 => .exc x ρ1 | .stuck => .stuck := rfl
theorem ev_comp {vs : List Nat} {mi : Ev → RA} {g : Dt → Ev → Option Ev} : mComp vs mi g mc mb ρ = match mi ρ with
  | .ok ds ρ1 => if noIo ρ1 vs = true then compL vs g mc mb ds (wipeE ρ1 vs) [] else .stuck
  | .exc x ρ1 => .exc x ρ1
  | .stuck => .stuck := rfl
theorem ev_for {mi : Ev → RA} {g : Dt → Ev → Option Ev} : mFor mi g m1 ρ = (mi ρ).out fun ds ρ1 => forL g m1 ds ρ1 := rfl
theorem ev_sl {ml mu : Ev → R} : mSl ma ml mu ρ = (ma ρ).bind fun d ρ1 => (ml ρ1).part fun lo ρ2 => (mu ρ2).part fun hi ρ3 => R.ofO (slD d lo hi) ρ3 := rfl
theorem ev_part0 {f : Option Int → Ev → R} : (R.ok .none ρ).part f = f none ρ := rfl
theorem ev_part1 {f : Option Int → Ev → R} {k : Int} : (R.ok (.int k) ρ).part f = f (some k) ρ := rfl
theorem ev_mpart : mPart ma ρ = (ma ρ).bind fun d ρ1 => match d with
  | .int i => .ok (.int i) ρ1
  | _ => .stuck := rfl
theorem ev_asg {g : Dt → Ev → Option Ev} : mAsgG g ma ρ = (ma ρ).out fun d ρ1 => match g d ρ1 with
  | some ρ2 => .nx ρ2
  | none => .stuck := rfl
theorem ev_par : mPar i j mr ρ = (mr ρ).out fun ds ρ1 => match ds with
  | [d, d2] => match gN i d ρ1 with
    | some ρ2 => match gN j d2 ρ2 with
      | some ρ3 => .nx ρ3
      | none => .stuck
    | none => .stuck
  | _ => .stuck := rfl
theorem ev_listOf : mListOf ma ρ = match ma ρ with
  | .ok d ρ1 => match itemsD d with
    | some xs => .ok xs ρ1
    | none => .stuck
  | .exc x ρ1 => .exc x ρ1
  | .stuck => .stuck := rfl
theorem ev_binL {f : List Dt → Dt → Option (List Dt)} : mBinL f mr ma ρ = match mr ρ with
  | .ok xs ρ1 => match ma ρ1 with
    | .ok e ρ2 => match f xs e with
      | some ys => .ok ys ρ2
      | none => .stuck
    | .exc x ρ2 => .exc x ρ2
    | .stuck => .stuck
  | .exc x ρ1 => .exc x ρ1
  | .stuck => .stuck := rfl
theorem ev_gN {d : Dt} : gN i d ρ = if isIoAt ρ i = true then none else some (ρ.set i (.val d)) := rfl
theorem ev_gT {is : List Nat} {ds : List Dt} : gT is (.tuple ds) ρ = gAll is ds ρ := rfl
theorem ev_gA0 : gAll [] [] ρ = some ρ := rfl
theorem ev_gA {is : List Nat} {ds : List Dt} : gAll (i :: is) (d :: ds) ρ = (gN i d ρ).bind fun ρ1 => gAll is ds ρ1 := rfl
theorem ev_noIo0 : noIo ρ [] = true := rfl
theorem ev_noIo {vs : List Nat} : noIo ρ (i :: vs) = (!isIoAt ρ i && noIo ρ vs) := rfl
theorem ev_wipe0 : wipeE ρ [] = ρ := rfl
theorem ev_wipe {vs : List Nat} : wipeE ρ (i :: vs) = (wipeE ρ vs).set i .no := rfl
theorem ev_compL0 {vs : List Nat} {g : Dt → Ev → Option Ev} {acc : List Dt} : compL vs g mc mb [] ρ acc = .ok acc ρ := rfl
theorem ev_compL {vs : List Nat} {g : Dt → Ev → Option Ev} {ds acc : List Dt} : compL vs g mc mb (d :: ds) ρ acc = match g d ρ with
    | none => .stuck
    | some ρ1 => match mc ρ1 with
      | .ok (.bool true) ρ2 => match mb ρ2 with
        | .ok y ρ3 => if noIo ρ3 vs = true ∧ acc.length < 10000 then compL vs g mc mb ds (wipeE ρ3 vs) (acc ++ [y]) else .stuck
        | _ => .stuck
      | .ok (.bool false) ρ2 => if noIo ρ2 vs = true then compL vs g mc mb ds (wipeE ρ2 vs) acc else .stuck
      | _ => .stuck := by
  conv => lhs; unfold compL
  all_goals rfl
theorem ev_forL0 {g : Dt → Ev → Option Ev} : forL g m1 [] ρ = .nx ρ := rfl
theorem ev_forL {g : Dt → Ev → Option Ev} {ds : List Dt} : forL g m1 (d :: ds) ρ = match g d ρ with
    | none => .stuck
    | some ρ1 => match m1 ρ1 with
      | .nx ρ2 => forL g m1 ds ρ2
      | .ct ρ2 => forL g m1 ds ρ2
      | .bk ρ2 => .nx ρ2
      | .rt d ρ2 => .rt d ρ2
      | .ex x ρ2 => .ex x ρ2
      | .stuck => .stuck := by
  conv => lhs; unfold forL
  all_goals rfl
theorem at2_0 {α : Type} {a b : α} : atI [a, b] 0 = some a := rfl
theorem at2_1 {α : Type} {a b : α} : atI [a, b] 1 = some b := rfl
theorem ixN2_0 : ixN 2 0 = some 0 := rfl
theorem ixN2_1 : ixN 2 1 = some 1 := rfl
theorem atI_map {α β : Type} (f : α → β) (xs : List α) (i : Int) : atI (xs.map f) i = (atI xs i).map f := by
  unfold atI
  rw [List.length_map]
  cases ixN xs.length i <;> simp
theorem atI_some {α : Type} {xs : List α} {i : Int} (h0 : 0 ≤ i) (h1 : i < xs.length) : ∃ x, atI xs i = some x ∧ x ∈ xs := by
  have hn : i.toNat < xs.length := by omega
  obtain ⟨k, rfl⟩ : ∃ k : Nat, i = k := ⟨i.toNat, by omega⟩
  have hk : k < xs.length := by omega
  exact ⟨xs[k], atI_nat (List.getElem?_eq_getElem hk), List.getElem_mem hk⟩
end
end NS

set_option Elab.async false
set_option linter.all false
set_option autoImplicit false
set_option maxRecDepth 100000
set_option maxHeartbeats 4000000
/-! Loops of mirrors, by what each turn does. -/
namespace NS
open PySem PySem.Spec PyProof.Rows L2
/-- a list display with a test: each turn gives back the state -/
theorem compL_fm {vs : List Nat} {g : Dt → Ev → Option Ev} {mc mb : Ev → R} {ρ : Ev} (p : Dt → Bool) (f : Dt → Dt) : ∀ (ds acc : List Dt), acc.length + ds.length ≤ 10000 →
    (∀ d ∈ ds, ∃ ρ1 ρ2, g d ρ = some ρ1 ∧ mc ρ1 = .ok (.bool (p d)) ρ2 ∧ (p d = false → noIo ρ2 vs = true ∧ wipeE ρ2 vs = ρ) ∧ (p d = true → ∃ ρ3, mb ρ2 = .ok (f d) ρ3 ∧ noIo ρ3 vs = true ∧ wipeE ρ3 vs = ρ)) →
    compL vs g mc mb ds ρ acc = .ok (acc ++ (ds.filter p).map f) ρ
  | [], acc, _, _ => by rw [ev_compL0, List.filter_nil, List.map_nil, List.append_nil]
  | d :: ds, acc, hl, h => by
    rw [List.length_cons] at hl
    obtain ⟨ρ1, ρ2, e1, e2, e3, e4⟩ := h d (List.mem_cons_self ..)
    rw [ev_compL, e1]
    simp only []
    rw [e2]
    cases hp : p d with
    | false =>
      obtain ⟨n1, n2⟩ := e3 hp
      simp only [n1, if_true]
      rw [n2, compL_fm p f ds acc (by omega) fun d' m => h d' (List.mem_cons_of_mem _ m), List.filter_cons_of_neg (by rw [hp]; exact Bool.false_ne_true)]
    | true =>
      obtain ⟨ρ3, n0, n1, n2⟩ := e4 hp
      simp only [n0, n1, true_and]
      rw [if_pos (by omega), n2, compL_fm p f ds (acc ++ [f d]) (by simp; omega) fun d' m => h d' (List.mem_cons_of_mem _ m), List.filter_cons_of_pos hp, List.map_cons, List.append_assoc]
      rfl
/-- a list display without a test -/
theorem compL_map {vs : List Nat} {g : Dt → Ev → Option Ev} {mb : Ev → R} {ρ : Ev} (f : Dt → Dt) (ds : List Dt) (hl : ds.length ≤ 10000)
    (h : ∀ d ∈ ds, ∃ ρ1 ρ3, g d ρ = some ρ1 ∧ mb ρ1 = .ok (f d) ρ3 ∧ noIo ρ3 vs = true ∧ wipeE ρ3 vs = ρ) :
    compL vs g (mC (.bool true)) mb ds ρ [] = .ok (ds.map f) ρ := by
  rw [compL_fm (fun _ => true) f ds [] (by simpa using hl) fun d m => ?_]
  · rw [List.nil_append, List.filter_eq_self.mpr (fun _ _ => rfl)]
  · obtain ⟨ρ1, ρ3, e1, e2, e3, e4⟩ := h d m
    exact ⟨ρ1, ρ1, e1, rfl, by simp, fun _ => ⟨ρ3, e2, e3, e4⟩⟩
inductive F2 {α β : Type} (P : α → β → Prop) : List α → List β → Prop
  | nil : F2 P [] []
  | cons {a : α} {b : β} {as : List α} {bs : List β} : P a b → F2 P as bs → F2 P (a :: as) (b :: bs)
/-- a list display whose turns change the state -/
theorem compL_inv {vs : List Nat} {g : Dt → Ev → Option Ev} {mb : Ev → R} (I : Ev → Prop) (P : Dt → Dt → Prop) : ∀ (ds : List Dt) (ρ : Ev) (acc : List Dt), I ρ → acc.length + ds.length ≤ 10000 →
    (∀ d ∈ ds, ∀ ρ, I ρ → ∃ ρ1 y ρ3, g d ρ = some ρ1 ∧ mb ρ1 = .ok y ρ3 ∧ P d y ∧ noIo ρ3 vs = true ∧ I (wipeE ρ3 vs)) →
    ∃ ys ρ', compL vs g (mC (.bool true)) mb ds ρ acc = .ok (acc ++ ys) ρ' ∧ I ρ' ∧ F2 P ds ys
  | [], ρ, acc, hi, _, _ => ⟨[], ρ, by rw [ev_compL0, List.append_nil], hi, .nil⟩
  | d :: ds, ρ, acc, hi, hl, h => by
    rw [List.length_cons] at hl
    obtain ⟨ρ1, y, ρ3, e1, e2, e3, e4, e5⟩ := h d (List.mem_cons_self ..) ρ hi
    obtain ⟨ys, ρ', e6, e7, e8⟩ := compL_inv I P ds (wipeE ρ3 vs) (acc ++ [y]) e5 (by simp; omega) fun d' m => h d' (List.mem_cons_of_mem _ m)
    refine ⟨y :: ys, ρ', ?_, e7, .cons e3 e8⟩
    rw [ev_compL, e1]
    simp only [ev_c, e2, e4, true_and]
    rw [if_pos (by omega), e6, List.append_assoc]
    rfl
/-- a loop that may return early -/
theorem forL_find {g : Dt → Ev → Option Ev} {b : Ev → Out} (I J : Ev → Prop) (p : Dt → Bool) (r : Dt → Dt) : ∀ (ds : List Dt) (ρ : Ev), I ρ →
    (∀ d ∈ ds, ∀ ρ, I ρ → ∃ ρ1 ρ2, g d ρ = some ρ1 ∧ ((p d = false ∧ b ρ1 = .nx ρ2 ∧ I ρ2) ∨ (p d = true ∧ b ρ1 = .rt (r d) ρ2 ∧ J ρ2))) →
    ∃ ρ', match ds.find? p with
      | none => forL g b ds ρ = .nx ρ' ∧ I ρ'
      | some d => forL g b ds ρ = .rt (r d) ρ' ∧ J ρ'
  | [], ρ, hi, _ => ⟨ρ, rfl, hi⟩
  | d :: ds, ρ, hi, h => by
    obtain ⟨ρ1, ρ2, e1, e2⟩ := h d (List.mem_cons_self ..) ρ hi
    rcases e2 with ⟨e2, e3, e4⟩ | ⟨e2, e3, e4⟩
    · rw [List.find?_cons_of_neg (by rw [e2]; exact Bool.false_ne_true)]
      obtain ⟨ρ', e5⟩ := forL_find I J p r ds ρ2 e4 fun d' m => h d' (List.mem_cons_of_mem _ m)
      refine ⟨ρ', ?_⟩
      rw [ev_forL, e1]
      simp only [e3]
      exact e5
    · rw [List.find?_cons_of_pos e2]
      refine ⟨ρ2, ?_, e4⟩
      rw [ev_forL, e1]
      simp only [e3]
/-- a loop that gathers -/
theorem forL_acc {σ : Type} {g : Dt → Ev → Option Ev} {b : Ev → Out} (I : σ → Ev → Prop) (f : Dt → σ → σ) : ∀ (ds : List Dt) (s : σ) (ρ : Ev), I s ρ →
    (∀ d ∈ ds, ∀ s ρ, I s ρ → ∃ ρ1 ρ2, g d ρ = some ρ1 ∧ b ρ1 = .nx ρ2 ∧ I (f d s) ρ2) →
    ∃ ρ', forL g b ds ρ = .nx ρ' ∧ I (ds.foldl (fun s d => f d s) s) ρ'
  | [], s, ρ, hi, _ => ⟨ρ, rfl, hi⟩
  | d :: ds, s, ρ, hi, h => by
    obtain ⟨ρ1, ρ2, e1, e2, e3⟩ := h d (List.mem_cons_self ..) s ρ hi
    obtain ⟨ρ', e4, e5⟩ := forL_acc I f ds (f d s) ρ2 e3 fun d' m => h d' (List.mem_cons_of_mem _ m)
    refine ⟨ρ', ?_, e5⟩
    rw [ev_forL, e1]
    simp only [e2]
    exact e4
/-- a loop whose turns keep something -/
theorem forL_keep {g : Dt → Ev → Option Ev} {b : Ev → Out} (I : Nat → Ev → Prop) : ∀ (ds : List Dt) (k : Nat) (ρ : Ev), I k ρ →
    (∀ d ∈ ds, ∀ k' ρ, k' < k + ds.length → I k' ρ → ∃ ρ1 ρ2, g d ρ = some ρ1 ∧ b ρ1 = .nx ρ2 ∧ I (k' + 1) ρ2) →
    ∃ ρ', forL g b ds ρ = .nx ρ' ∧ I (k + ds.length) ρ'
  | [], k, ρ, hi, _ => ⟨ρ, rfl, hi⟩
  | d :: ds, k, ρ, hi, h => by
    rw [List.length_cons] at h
    obtain ⟨ρ1, ρ2, e1, e2, e3⟩ := h d (List.mem_cons_self ..) k ρ (by omega) hi
    obtain ⟨ρ', e4, e5⟩ := forL_keep I ds (k + 1) ρ2 e3 fun d' m k' ρ hk => h d' (List.mem_cons_of_mem _ m) k' ρ (by omega)
    refine ⟨ρ', ?_, ?_⟩
    · rw [ev_forL, e1]
      simp only [e2]
      exact e4
    · rw [List.length_cons]
      have : k + 1 + ds.length = k + (ds.length + 1) := by omega
      rwa [this] at e5
theorem boolsD_true : ∀ {α : Type} (xs : List α), boolsD (xs.map fun _ => PyData.bool true) = some (xs.map fun _ => true)
  | _, [] => rfl
  | _, x :: xs => by rw [List.map_cons, boolsD, boolsD_true xs]; rfl
theorem boolsD_map {α : Type} (p : α → Bool) : ∀ (xs : List α), boolsD (xs.map fun x => PyData.bool (p x)) = some (xs.map p)
  | [] => rfl
  | x :: xs => by rw [List.map_cons, boolsD, boolsD_map p xs]; rfl
theorem allD_map {α : Type} (p : α → Bool) (xs : List α) : allD [.list (xs.map fun x => PyData.bool (p x))] = some (.bool (xs.all p)) := by
  show (boolsD _).map _ = _
  rw [boolsD_map, Option.map_some, List.all_map]
  rfl
/-! equality of texts and rows of texts -/
theorem plainA_str {α : Type} (f : α → Str) : ∀ xs : List α, PyData.plainAll (xs.map fun x => PyData.str (f x)) = true
  | [] => rfl
  | x :: xs => by rw [List.map_cons, PyData.plainAll, PyData.plain, plainA_str f xs]; rfl
theorem depthA_str {α : Type} (f : α → Str) : ∀ xs : List α, PyData.depthAll (xs.map fun x => PyData.str (f x)) = 0
  | [] => by rw [List.map_nil, PyData.depthAll]
  | x :: xs => by rw [List.map_cons, PyData.depthAll, PyData.depth, depthA_str f xs]; rfl
theorem eqvA_str : ∀ xs ys : List Str, PyData.eqvAll (xs.map PyData.str) (ys.map PyData.str) = decide (xs = ys)
  | [], [] => by simp [PyData.eqvAll]
  | [], y :: ys => by simp [PyData.eqvAll]
  | x :: xs, [] => by simp [PyData.eqvAll]
  | x :: xs, y :: ys => by
    rw [List.map_cons, List.map_cons, PyData.eqvAll, eqvA_str xs ys, PyData.eqv]
    by_cases h : x = y <;> by_cases h2 : xs = ys <;> simp [h, h2]
def tupS (xs : List Str) : Dt := .tuple (xs.map .str)
theorem plain_tupS (xs : List Str) : (tupS xs).plain = true := by unfold tupS; rw [PyData.plain]; exact plainA_str id xs
theorem depth_tupS (xs : List Str) : (tupS xs).depth = 1 := by
  unfold tupS; rw [PyData.depth]
  have := depthA_str id xs
  simp only [id] at this
  have e : (xs.map fun x => PyData.str x) = xs.map PyData.str := rfl
  rw [e] at this
  rw [this]
theorem eqD_str (x y : Str) : eqD (.str x) (.str y) = some (.bool (decide (x = y))) := by
  unfold eqD eqOk
  simp only [PyData.plain, PyData.depth, PyData.eqv]
  by_cases h : x = y <;> simp [h]
theorem neD_str (x y : Str) : neD (.str x) (.str y) = some (.bool (!decide (x = y))) := by
  unfold neD eqOk
  simp only [PyData.plain, PyData.depth, PyData.eqv]
  by_cases h : x = y <;> simp [h]
theorem eqD_int (x y : Int) : eqD (.int x) (.int y) = some (.bool (decide (x = y))) := by
  unfold eqD eqOk
  simp only [PyData.plain, PyData.depth, PyData.eqv]
  by_cases h : x = y <;> simp [h]
theorem neD_int (x y : Int) : neD (.int x) (.int y) = some (.bool (!decide (x = y))) := by
  unfold neD eqOk
  simp only [PyData.plain, PyData.depth, PyData.eqv]
  by_cases h : x = y <;> simp [h]
theorem eqD_tupS (xs ys : List Str) : eqD (tupS xs) (tupS ys) = some (.bool (decide (xs = ys))) := by
  unfold eqD eqOk
  rw [plain_tupS, plain_tupS, depth_tupS, depth_tupS]
  unfold tupS
  rw [PyData.eqv, eqvA_str]
  simp
theorem neD_tupS (xs ys : List Str) : neD (tupS xs) (tupS ys) = some (.bool (!decide (xs = ys))) := by
  unfold neD eqOk
  rw [plain_tupS, plain_tupS, depth_tupS, depth_tupS]
  unfold tupS
  rw [PyData.eqv, eqvA_str]
  simp
theorem in_tupS (x : Str) (ys : List Str) : inD (.str x) (tupS ys) = some (.bool (decide (x ∈ ys))) := by
  unfold inD inOk
  rw [plain_tupS, depth_tupS]
  simp only [PyData.plain, PyData.depth, Bool.true_and]
  show some (PyData.bool ((ys.map PyData.str).any _)) = _
  rw [List.any_map]
  congr 2
  induction ys with
  | nil => simp
  | cons y ys ih =>
    rw [List.any_cons, ih]
    by_cases h : x = y
    · subst h
      simp [PyData.eqv]
    · have h' : (y == x) = false := by
        rw [beq_eq_false_iff_ne]
        exact fun e => h e.symm
      simp only [Function.comp, PyData.eqv, h', Bool.false_or, List.mem_cons, h, false_or]
end NS

set_option Elab.async false
set_option linter.all false
set_option autoImplicit false
set_option maxRecDepth 100000
set_option maxHeartbeats 4000000
/-! Loops of mirrors over lists that stand for typed ones. -/
namespace NS
open PySem PySem.Spec PyProof.Rows L2
theorem compL_mapA {α : Type} {vs : List Nat} {g : Dt → Ev → Option Ev} {mb : Ev → R} {ρ : Ev} (e f : α → Dt) (xs : List α) (hl : xs.length ≤ 10000)
    (h : ∀ x ∈ xs, ∃ ρ1 ρ3, g (e x) ρ = some ρ1 ∧ mb ρ1 = .ok (f x) ρ3 ∧ noIo ρ3 vs = true ∧ wipeE ρ3 vs = ρ) :
    compL vs g (mC (.bool true)) mb (xs.map e) ρ [] = .ok (xs.map f) ρ := by
  have key : ∀ (xs : List α) (acc : List Dt), acc.length + xs.length ≤ 10000 → (∀ x ∈ xs, ∃ ρ1 ρ3, g (e x) ρ = some ρ1 ∧ mb ρ1 = .ok (f x) ρ3 ∧ noIo ρ3 vs = true ∧ wipeE ρ3 vs = ρ) → compL vs g (mC (.bool true)) mb (xs.map e) ρ acc = .ok (acc ++ xs.map f) ρ := by
    intro xs
    induction xs with
    | nil => intro acc _ _; rw [List.map_nil, List.map_nil, ev_compL0, List.append_nil]
    | cons x xs ih =>
      intro acc hl h
      rw [List.length_cons] at hl
      obtain ⟨ρ1, ρ3, e1, e2, e3, e4⟩ := h x (List.mem_cons_self ..)
      rw [List.map_cons, ev_compL, e1]
      simp only [ev_c, e2, e3, true_and]
      rw [if_pos (by omega), e4, ih (acc ++ [f x]) (by simp; omega) fun y m => h y (List.mem_cons_of_mem _ m), List.append_assoc]
      rfl
  have := key xs [] (by simpa using hl) h
  rwa [List.nil_append] at this
/-- a loop, by what was gone through -/
theorem forL_A {α : Type} {g : Dt → Ev → Option Ev} {b : Ev → Out} (e : α → Dt) (xs : List α) (I : List α → Ev → Prop) {ρ : Ev} (h0 : I [] ρ)
    (h : ∀ (dn : List α) (x : α) (rs : List α) (ρ : Ev), xs = dn ++ x :: rs → I dn ρ → ∃ ρ1 ρ2, g (e x) ρ = some ρ1 ∧ b ρ1 = .nx ρ2 ∧ I (dn ++ [x]) ρ2) :
    ∃ ρ', forL g b (xs.map e) ρ = .nx ρ' ∧ I xs ρ' := by
  have key : ∀ (rs dn : List α) (ρ : Ev), xs = dn ++ rs → I dn ρ → ∃ ρ', forL g b (rs.map e) ρ = .nx ρ' ∧ I xs ρ' := by
    intro rs
    induction rs with
    | nil =>
      intro dn ρ hx hi
      rw [List.append_nil] at hx
      subst hx
      exact ⟨ρ, rfl, hi⟩
    | cons x rs ih =>
      intro dn ρ hx hi
      obtain ⟨ρ1, ρ2, e1, e2, e3⟩ := h dn x rs ρ hx hi
      obtain ⟨ρ', e4, e5⟩ := ih (dn ++ [x]) ρ2 (by rw [hx, List.append_assoc]; rfl) e3
      refine ⟨ρ', ?_, e5⟩
      rw [List.map_cons, ev_forL, e1]
      simp only [e2]
      exact e4
  exact key xs [] ρ rfl h0
/-- a loop that may return early -/
theorem forL_findA {α : Type} {g : Dt → Ev → Option Ev} {b : Ev → Out} (e : α → Dt) (xs : List α) (I J : Ev → Prop) (p : α → Bool) (r : α → Dt) {ρ : Ev} (h0 : I ρ)
    (h : ∀ x ∈ xs, ∀ ρ, I ρ → ∃ ρ1 ρ2, g (e x) ρ = some ρ1 ∧ ((p x = false ∧ b ρ1 = .nx ρ2 ∧ I ρ2) ∨ (p x = true ∧ b ρ1 = .rt (r x) ρ2 ∧ J ρ2))) :
    ∃ ρ', (xs.find? p = none → forL g b (xs.map e) ρ = .nx ρ' ∧ I ρ') ∧ (∀ x, xs.find? p = some x → forL g b (xs.map e) ρ = .rt (r x) ρ' ∧ J ρ') := by
  induction xs generalizing ρ with
  | nil => exact ⟨ρ, fun _ => ⟨rfl, h0⟩, fun x hx => by cases hx⟩
  | cons x xs ih =>
    obtain ⟨ρ1, ρ2, e1, e2⟩ := h x (List.mem_cons_self ..) ρ h0
    rcases e2 with ⟨e2, e3, e4⟩ | ⟨e2, e3, e4⟩
    · rw [List.find?_cons_of_neg (by rw [e2]; exact Bool.false_ne_true)]
      obtain ⟨ρ', e5⟩ := ih e4 fun y m => h y (List.mem_cons_of_mem _ m)
      refine ⟨ρ', ?_⟩
      rw [List.map_cons, ev_forL, e1]
      simp only [e3]
      exact e5
    · rw [List.find?_cons_of_pos e2]
      refine ⟨ρ2, (fun hh => by cases hh), fun y hy => ?_⟩
      cases hy
      refine ⟨?_, e4⟩
      rw [List.map_cons, ev_forL, e1]
      simp only [e3]
theorem zipL_map {α β : Type} (e : α → Dt) (f : β → Dt) (xs : List α) (ys : List β) : zipL (xs.map e) (ys.map f) = (xs.zip ys).map fun p => .tuple [e p.1, f p.2] := by
  unfold zipL
  rw [List.zipWith_map]
  induction xs generalizing ys with
  | nil => simp
  | cons x xs ih => cases ys with
    | nil => simp
    | cons y ys => simp [ih]
theorem enumL_map {α : Type} (e : α → Dt) (xs : List α) : enumL (xs.map e) = xs.zipIdx.map fun p => .tuple [.int p.2, e p.1] := by
  unfold enumL
  rw [List.zipIdx_map, List.map_map]
  rfl
theorem notIn_tupS (x : Str) (ys : List Str) : notInD (.str x) (tupS ys) = some (.bool (!decide (x ∈ ys))) := by
  have h := in_tupS x ys
  unfold inD at h
  unfold notInD
  split at h
  · rename_i c
    rw [if_pos c]
    cases hi : itemsD (tupS ys) with
    | none => rw [hi] at h; cases h
    | some xs =>
      rw [hi] at h
      simp only [Option.map_some, Option.some.injEq, PyData.bool.injEq] at h ⊢
      rw [h]
  · cases h
theorem len_tupS (xs : List Str) : lenTD [tupS xs] = some (.int xs.length) := by
  show some (PyData.int _) = _
  rw [List.length_map]
theorem ix_tupS {xs : List Str} {k : Nat} {w : Str} (h : xs[k]? = some w) : ixD (tupS xs) (.int k) = some (.str w) := by
  show atI (xs.map PyData.str) (k : Int) = _
  exact atI_nat (by rw [List.getElem?_map, h]; rfl)
theorem ix_lstS {xs : List Str} {k : Nat} {w : Str} (h : xs[k]? = some w) : ixD (.list (xs.map PyData.str)) (.int k) = some (.str w) := by
  show atI (xs.map PyData.str) (k : Int) = _
  exact atI_nat (by rw [List.getElem?_map, h]; rfl)
theorem ix_map {α : Type} {e : α → Dt} {xs : List α} {k : Nat} {w : α} (h : xs[k]? = some w) : ixD (.tuple (xs.map e)) (.int k) = some (e w) := by
  show atI (xs.map e) (k : Int) = _
  exact atI_nat (by rw [List.getElem?_map, h]; rfl)
theorem add_tupS {xs ys : List Str} (h : xs.length + ys.length ≤ 10000) : addD (tupS xs) (tupS ys) = some (tupS (xs ++ ys)) := by
  unfold tupS
  show (if _ then _ else _) = _
  rw [if_pos (by rw [List.length_map, List.length_map]; exact h), List.map_append]
end NS

set_option Elab.async false
set_option linter.all false
set_option autoImplicit false
set_option maxRecDepth 100000
set_option maxHeartbeats 4000000
/-! sorted of data. -/
namespace NS
open PySem PySem.Spec PyProof.Rows L2
open PySem.W (EachIs)
def someT : Dt → Bool
  | .tuple (_ :: _) => true
  | _ => false
def noT : Dt → Bool
  | .none => false
  | .tuple _ => false
  | _ => true
/-- what sorted takes: alike data, tuples with an item at least or none of them a tuple -/
def sortOk (ds : List Dt) : Bool := ds.all (fun d => ds.all fun e => PySem.W.alike d e) && ((ds.all someT || ds.all noT) && (decide (ds.length ≤ 10000) && ds.all fun d => d.plain && decide (d.depth ≤ 50)))
theorem sortOk_al {ds : List Dt} (h : sortOk ds = true) : PySem.W.AllAlike ds := fun d hd e he => by
  unfold sortOk at h
  rw [Bool.and_eq_true] at h
  exact List.all_eq_true.mp (List.all_eq_true.mp h.1 d hd) e he
theorem sortOk_so {ds : List Dt} (h : sortOk ds = true) : PySem.W.Sortable ds := by
  unfold sortOk at h
  simp only [Bool.and_eq_true, Bool.or_eq_true] at h
  rcases h.2.1 with h | h
  · refine .inl fun d hd => ?_
    have := List.all_eq_true.mp h d hd
    cases d with
    | tuple xs => cases xs with
      | nil => cases this
      | cons x r => exact ⟨x, r, rfl⟩
    | _ => cases this
  · refine .inr fun d hd => ?_
    have := List.all_eq_true.mp h d hd
    cases d with
    | none => cases this
    | tuple xs => cases this
    | _ => exact ⟨nofun, nofun⟩
theorem sortOk_len {ds : List Dt} (h : sortOk ds = true) : ds.length ≤ 10000 := by
  unfold sortOk at h
  simp only [Bool.and_eq_true, decide_eq_true_eq] at h
  exact h.2.2.1
theorem sortOk_deep {ds : List Dt} (h : sortOk ds = true) {d : Dt} (hd : d ∈ ds) : d.plain = true ∧ d.depth ≤ 50 := by
  unfold sortOk at h
  simp only [Bool.and_eq_true] at h
  have := List.all_eq_true.mp h.2.2.2 d hd
  simpa using this
def sortL (ds : List Dt) : List Dt := ds.mergeSort (PySem.W.dataLe false id)
def rSortedDt (K : PySem.W.Frag) : List V → Hp → VK → Prop := fun vs H Q => ∃ (a : Addr) (xs : List V) (ds : List Dt) (R : V → Dt → Prop), vs = [V.ref a] ∧ SqL K H a xs ∧ DpAll K H xs ds ∧ EachIs R xs ds ∧ sortOk ds = true ∧
  ∀ ys p, EachIs R ys (sortL ds) → H p = none → Q (.ref p) (upd H p (.lst ys))
theorem each_vals {R : V → Dt → Prop} : ∀ {xs : List V} {us : List Value} {ds : List Dt}, Vals xs us → EachIs R xs ds → EachIs (fun u d => ∃ x, RelV x u ∧ R x d) us ds
  | _, _, _, .nil, .nil => .nil
  | _, _, _, .cons r t, .cons q z => .cons ⟨_, r, q⟩ (each_vals t z)
theorem each_back {R : V → Dt → Prop} : ∀ {us : List Value} {ds : List Dt}, EachIs (fun u d => ∃ x, RelV x u ∧ R x d) us ds → ∃ xs, Vals xs us ∧ EachIs R xs ds
  | _, _, .nil => ⟨[], .nil, .nil⟩
  | _, _, .cons ⟨x, h1, h2⟩ t => by
    obtain ⟨xs, h3, h4⟩ := each_back t
    exact ⟨x :: xs, .cons h1 h3, .cons h2 h4⟩
section
variable {X : Cx}
theorem each_reads {pins : List (Addr × Obj)} {σ : L2.St} {H : Hp} {s : Shared} (I : Inv X pins σ H s) : ∀ {xs : List V} {us : List Value} {ds : List Dt}, Vals xs us → DpAll X.K H xs ds → EachIs (fun u d => ∃ as, Reads s.heap u (id d) as) us ds
  | _, _, _, .nil, .nil => .nil
  | _, _, d :: ds, .cons r t, .cons q z => .cons (Dp.reads I d _ _ q r) (each_reads I t z)
theorem cr_sortedDt (hu : X.A.units + 64 < cLine) : CallR X (.builtin "sorted") (rSortedDt X.K) := by
  intro pins s σ H vs us Q I r h
  obtain ⟨a, xs, ds, R, rfl, hs, hd, hR, ok, q⟩ := h
  obtain ⟨its, rv, hl, hz⟩ := I.list hs
  obtain ⟨u, rfl, ru⟩ := vals1 r
  obtain rfl : u = Value.ref a := ru
  have hid : ds.map id = ds := List.map_id ds
  refine PySem.W.sorted_data (bs := ds) (enc := id) hl.isList (each_vals rv hR) (each_reads I rv hd) (by rw [hid]; exact sortOk_al ok) (by rw [hid]; exact sortOk_so ok) (Nat.le_trans (sortOk_len ok) (by decide)) (fun b hb => ?_) fun out ho eo => ?_
  · have := (sortOk_deep ok hb).2
    show X.A.units + 2 + b.depth < cLine
    omega
  · obtain ⟨ys, h1, h2⟩ := each_back eo
    obtain ⟨n, hn⟩ := sortedAll_at s.heap its out.toArray
    have hd1 : s.heap.objs.size ≤ s.heap.objs.size + 1 := Nat.le_succ _
    refine ⟨.ref (s.heap.objs.size + 1), upd H (s.heap.objs.size + 1) (.lst ys), I.laid (t' := s.toks) (fun b o e => sortedAll_old e) hd1 ⟨?_, out, n, h1, hn⟩, rfl, q ys _ h2 (I.hok.fresh hd1)⟩
    rw [h1.length, ho]
    exact Nat.le_trans (sortOk_len ok) (by decide)
end
end NS

set_option Elab.async false
set_option linter.all false
set_option autoImplicit false
set_option maxRecDepth 100000
set_option maxHeartbeats 4000000
namespace NS
open PySem PySem.Spec PyProof.Rows L2
open PySem.W (EachIs)
section
variable {X : Cx} {W : WX} {a : Expr} {ma : Ev → R} {pos : Pos}
theorem each_rp {K : PySem.W.Frag} {F : Fz} {H : Hp} : ∀ {vs : List V} {ds : List Dt}, RpAll K F H vs ds → EachIs (fun v d => Rp K F H v d) vs ds
  | _, _, .nil => .nil
  | _, _, .cons r t => .cons r (each_rp t)
theorem rp_each {K : PySem.W.Frag} {F : Fz} {H : Hp} : ∀ {vs : List V} {ds : List Dt}, EachIs (fun v d => Rp K F H v d) vs ds → RpAll K F H vs ds
  | _, _, .nil => .nil
  | _, _, .cons r t => .cons r (rp_each t)
theorem plainAll_of {ds : List Dt} (h : ∀ d ∈ ds, d.plain = true) : PyData.plainAll ds = true := by
  induction ds with
  | nil => rfl
  | cons d ds ih => rw [PyData.plainAll, h d (List.mem_cons_self ..), ih fun e he => h e (List.mem_cons_of_mem _ he)]; rfl
def listD : Dt → Option (List Dt)
  | .list xs => if sortOk xs = true then some (sortL xs) else none
  | _ => none
/-- sorted(xs), new -/
def mSorted (ma : Ev → R) : Ev → RA := fun ρ => match ma ρ with
  | .ok d ρ1 => match listD d with
    | some xs => .ok xs ρ1
    | none => .stuck
  | .exc x ρ1 => .exc x ρ1
  | .stuck => .stuck
theorem JL.sorted {p : Pos} (hu : X.A.units + 64 < cLine) (hm : X.mg "sorted" = none) (ha : JE X W a ma) (hg : Gl X "sorted" := by rfl) (hs : starEach [a] X.env = (false, eval a X.env) :: starEach [] X.env := by rfl) : JL X W (.Call (.Name "sorted" p) [a] [] pos) (mSorted ma) := by
  refine .of (pe_callB (id := "sorted") (cr_sortedDt hu) hg hm (by decide +kernel) (pa_cons ha pa_nil hs) (by decide) (by decide) hs rfl) fun C α F ρ σ H Q Rr p => ?_
  refine ⟨C, α, F, ρ, Rr, ?_⟩
  unfold mSorted at p
  cases h : ma ρ with
  | ok d ρ1 =>
    rw [h] at p
    intro v F1 H1 e1 R1 rv
    dsimp only at p
    cases hx : listD d with
    | none => rw [hx] at p; exact p.elim
    | some xs =>
      rw [hx] at p
      cases d with
      | list zs =>
        have hx' : (if sortOk zs = true then some (sortL zs) else none) = some xs := hx
        split at hx'
        · rename_i ok
          cases hx'
          cases rv with
          | lst hl r =>
            refine ⟨_, _, zs, fun v d => Rp X.K F1 H1 v d, rfl, hl.sq, RpAll.dp (plainAll_of fun d hd => (sortOk_deep ok hd).1) r, each_rp r, ok, fun ys l hy hn => ?_⟩
            obtain ⟨n1, n2, n3, n4⟩ := fresh_own R1 hn
            exact p l ys F1 _ (e1.trans (ext_laid hn)) (R1.laid hn) upd_same ((rp_each hy).mono (ext_laid hn)) n1 n2 n3 n4
        · cases hx'
      | _ => cases hx
  | exc x ρ1 => rw [h] at p; exact p
  | stuck => rw [h] at p; exact p
end
end NS

set_option Elab.async false
set_option linter.all false
set_option autoImplicit false
set_option maxRecDepth 100000
set_option maxHeartbeats 4000000
/-! count and index of lists of data. -/
namespace NS
open PySem PySem.Spec PyProof.Rows L2
def lookOk (ds : List Dt) (d : Dt) : Bool := PyData.plainAll ds && (d.plain && (decide (min (PyData.depthAll ds) d.depth ≤ 40) && decide (ds.length ≤ 10000)))
def rCntD (K : PySem.W.Frag) : V → List V → Hp → VK → Prop := fun x xs H Q => ∃ (p : Addr) (ys : List V) (y : V) (ds : List Dt) (d : Dt), x = .ref p ∧ xs = [y] ∧ SqL K H p ys ∧ DpAll K H ys ds ∧ Dp K H y d ∧ lookOk ds d = true ∧ Q (.int (ds.countP fun z => PyData.eqv z d : Nat)) H
def rIdxD (K : PySem.W.Frag) : V → List V → Hp → VK → Prop := fun x xs H Q => ∃ (p : Addr) (ys : List V) (y : V) (ds : List Dt) (d : Dt) (j : Nat), x = .ref p ∧ xs = [y] ∧ SqL K H p ys ∧ DpAll K H ys ds ∧ Dp K H y d ∧ lookOk ds d = true ∧ SeqAt.dataPlace ds d = some j ∧ Q (.int (j : Nat)) H
section
variable {X : Cx}
theorem mt_cntD (hu : X.A.units + 64 < cLine) : MtR X "list.count" (rCntD X.K) := by
  intro pins s σ H x xs v us Q I rx rxs h
  obtain ⟨p, ys, y, ds, d, rfl, rfl, hs, hd, hy, ok, q⟩ := h
  cases rx
  obtain ⟨u, rfl, ru⟩ := rxs.one
  unfold lookOk at ok
  simp only [Bool.and_eq_true, decide_eq_true_eq] at ok
  obtain ⟨o1, o2, o3, o4⟩ := ok
  obtain ⟨as, r1⟩ := Dp.reads I (.list ds) (.ref p) (.ref p) (.lst hs hd) rfl
  obtain ⟨bs, r2⟩ := Dp.reads I d y u hy ru
  cases r1 with
  | list h1 h2 h3 h4 =>
    exact SeqAt.count_list_data ⟨_, h1, h2, _, h3⟩ h4 r2 o1 o2 (by omega) ⟨.int _, H, I.tok _, ⟨s.toks, rfl⟩, q⟩
theorem mt_idxD (hu : X.A.units + 64 < cLine) : MtR X "list.index" (rIdxD X.K) := by
  intro pins s σ H x xs v us Q I rx rxs h
  obtain ⟨p, ys, y, ds, d, j, rfl, rfl, hs, hd, hy, ok, hp, q⟩ := h
  cases rx
  obtain ⟨u, rfl, ru⟩ := rxs.one
  unfold lookOk at ok
  simp only [Bool.and_eq_true, decide_eq_true_eq] at ok
  obtain ⟨o1, o2, o3, o4⟩ := ok
  obtain ⟨as, r1⟩ := Dp.reads I (.list ds) (.ref p) (.ref p) (.lst hs hd) rfl
  obtain ⟨bs, r2⟩ := Dp.reads I d y u hy ru
  have hj10 : j < 10000 := by
    obtain ⟨h1, _, _⟩ := List.findIdx?_eq_some_iff_getElem.mp hp
    omega
  cases r1 with
  | @list _ ob _ _ _ _ h1 h2 h3 h4 =>
    obtain ⟨hj, hit, hno⟩ := SeqAt.hit_at h4 o1 hp
    obtain ⟨cls, dd, data, sl⟩ := ob
    simp only at h2 h3
    subst h2 h3
    refine call_meets PySem.F.slot_list_index ⟨_, h1, rfl⟩ PySem.F.entry_list_index (PySem.F.args_list_index_2 _ _) (SeqAt.list_indexAt p _ _ dd sl u _ j hj (by omega) hit hno) ⟨h1, SeqAt.items_plain h4 r2 o1 o2 (by omega), ?_⟩
    exact ⟨.int _, H, I.tok _, ⟨s.toks, rfl⟩, q⟩
end
end NS

set_option Elab.async false
set_option linter.all false
set_option autoImplicit false
set_option maxRecDepth 100000
set_option maxHeartbeats 4000000
/-! methods of lists that give back something plain. -/
namespace NS
open PySem PySem.Spec PyProof.Rows L2
/-- what a method of a list gives back -/
def MethS (K : PySem.W.Frag) (r : V → List V → Hp → VK → Prop) (sem : List Dt → List Dt → Option Dt) : Prop :=
  ∀ (F : Fz) (H : Hp) (x : V) (args : List V) (xs ds : List Dt) (z : Dt) (Q : VK), Rp K F H x (.list xs) → RpAll K F H args ds → sem xs ds = some z → (∀ v F' H', Grow F H F' H' → Rp K F' H' v z → Q v H') → r x args H Q
def cntF (xs ds : List Dt) : Option Dt := match ds with
  | [d] => if lookOk xs d = true then some (.int (xs.countP fun z => PyData.eqv z d : Nat)) else none
  | _ => none
def idxF (xs ds : List Dt) : Option Dt := match ds with
  | [d] => if lookOk xs d = true then (SeqAt.dataPlace xs d).map fun j => .int (j : Nat) else none
  | _ => none
theorem cntS {K : PySem.W.Frag} : MethS K (rCntD K) cntF := by
  intro F H x args xs ds z Q rx ra hz q
  cases ds with
  | nil => cases hz
  | cons d t => cases t with
    | cons _ _ => cases hz
    | nil =>
      obtain ⟨y, rfl, ry⟩ := one_of ra
      have hz' : (if lookOk xs d = true then some (PyData.int (xs.countP fun z => PyData.eqv z d : Nat)) else none) = some z := hz
      split at hz'
      · rename_i ok
        cases hz'
        have ok' := ok
        unfold lookOk at ok'
        simp only [Bool.and_eq_true] at ok'
        cases rx with
        | lst h r => exact ⟨_, _, y, xs, d, rfl, rfl, h.sq, RpAll.dp ok'.1 r, Rp.dp ok'.2.1 ry, ok, q _ _ _ .refl (.int _)⟩
      · cases hz'
theorem idxS {K : PySem.W.Frag} : MethS K (rIdxD K) idxF := by
  intro F H x args xs ds z Q rx ra hz q
  cases ds with
  | nil => cases hz
  | cons d t => cases t with
    | cons _ _ => cases hz
    | nil =>
      obtain ⟨y, rfl, ry⟩ := one_of ra
      have hz' : (if lookOk xs d = true then (SeqAt.dataPlace xs d).map (fun j => PyData.int (j : Nat)) else none) = some z := hz
      split at hz'
      · rename_i ok
        cases hp : SeqAt.dataPlace xs d with
        | none => rw [hp] at hz'; cases hz'
        | some j =>
          rw [hp] at hz'
          cases hz'
          have ok' := ok
          unfold lookOk at ok'
          simp only [Bool.and_eq_true] at ok'
          cases rx with
          | lst h r => exact ⟨_, _, y, xs, d, j, rfl, rfl, h.sq, RpAll.dp ok'.1 r, Rp.dp ok'.2.1 ry, ok, hp, q _ _ _ .refl (.int _)⟩
      · cases hz'
/-- x.m(..), x a name's own list -/
def mMeth (i : Nat) (sem : List Dt → List Dt → Option Dt) (mr : Ev → RA) : Ev → R := fun ρ => match lstAt ρ i with
  | none => .stuck
  | some _ => (mr ρ).bind fun ds ρ1 => match lstAt ρ1 i with
    | none => .stuck
    | some xs => match sem xs ds with
      | some z => if isScal z = true then .ok z ρ1 else .stuck
      | none => .stuck
section
variable {X : Cx} {W : WX} {a : Expr} {es : List Expr} {mr : Ev → RA} {pos : Pos}
theorem JE.meth (i : Nat) {x name : Str} {id : String} {r : V → List V → Hp → VK → Prop} {sem : List Dt → List Dt → Option Dt} {p p2 : Pos} (slot : Slot "list" name id) (hty : typeOf (.builtin id) = pure (.type "method_descriptor")) (hm : MtR X id r) (hf : MethS X.K r sem) (ha : JA X W (a :: es) mr)
    (hN : X.N[i]? = some x := by rfl) (hv : Vis X.env.scope x := by first | exact Or.inl rfl | exact Or.inr (Or.inl rfl) | exact Or.inr (Or.inr rfl)) (hd : (x == ("__debug__" : Str)) = false := by decide) (hcd : (x == ("__classdict__" : Str)) = false := by decide)
    (hbase : attributeBase (.Name x p) name X.env (eval (.Name x p) X.env) = eval (.Name x p) X.env := by rfl)
    (hfew : ((backTo pos (starEach (a :: es) X.env)).all (fun x => !x.1) && (backToKw pos (keywordEach [] X.env)).all (fun x => x.1.isSome) && decide ((a :: es).length + ([] : List Keyword).length + (if ([] : List Keyword).isEmpty then 0 else 1) < 30)) = true := by rfl)
    (hline : (p2.endLine == pos.line) = true := by rfl) (hst : starEach (a :: es) X.env = (false, eval a X.env) :: starEach es X.env := by rfl) (hplain : (backTo pos (starEach es X.env)).any (·.1) = false := by rfl) :
    JE X W (.Call (.Attribute (.Name x p) name p2) (a :: es) [] pos) (mMeth i sem mr) := by
  refine .of (pe_bm PySem.F.plainAttrs_list slot hty hm (pe_var hN hv hd hcd) ha hbase hfew hline hst hplain) fun C α F ρ σ H Q Rr p => ?_
  unfold mMeth at p
  cases h : lstAt ρ i with
  | none => rw [h] at p; exact p.elim
  | some xs0 =>
    rw [h] at p
    dsimp only at p
    obtain ⟨h1, h2, us, h3, h4⟩ := Rr.lstAt h
    refine ⟨_, h1, .inl ⟨rfl, us, .of h3⟩, ?_⟩
    refine TA8.bind Rr p fun ds ρ1 args F1 H1 l e1 R1 rs p1 => ?_
    cases hl : lstAt ρ1 i with
    | none => rw [hl] at p1; exact p1.elim
    | some xs =>
      rw [hl] at p1
      dsimp only at p1
      cases hz : sem xs ds with
      | none => rw [hz] at p1; exact p1.elim
      | some z =>
        rw [hz] at p1
        dsimp only at p1
        by_cases hc : isScal z = true
        · rw [if_pos hc] at p1
          refine hf (insF F1 (α i)) H1 _ args xs ds z Q (R1.view hl) (rs.mono ext_ins) hz fun v F' H' g q => ?_
          obtain ⟨F2, g2⟩ := g.virt (F1 := F1)
          exact p1 v F2 H' g2.ext (g2.rel R1) (q.scal hc)
        · rw [if_neg hc] at p1; exact p1.elim
end
end NS

set_option Elab.async false
set_option linter.all false
set_option autoImplicit false
set_option maxRecDepth 100000
set_option maxHeartbeats 4000000
/-! a caught exception handed to a def that asks its class. -/
namespace NS
open PySem PySem.Spec PyProof.Rows L2
/-- isinstance(e, c), e pinned in the context -/
theorem call_isP {X : Cx} {a D : Addr} {oe : Obj} (hp : (a, oe) ∈ X.pn) (cl : ExcC X.K D) (z0 : Zc (.ref D) none oe) (fl : ∃ vs, oe.data = .fields vs) : CallR X (.builtin "isinstance") (rIsE X.K D a) := by
  intro pins s σ H xs us Q I r hh
  obtain ⟨c, cv, b, rfl, hcv, hb, q⟩ := hh
  cases r with
  | cons r1 r2 => cases r2 with
    | cons r3 r4 =>
      cases r4
      cases r1
      obtain rfl := hcv _ r3
      have got := (I.pin (a, oe) (List.mem_append_left _ hp)).1
      have inst : PySem.W.InstAt s.heap a oe D none := by
        rcases oe with ⟨u1, u2, u3, u4⟩
        rcases fl with ⟨vs, hv⟩
        obtain ⟨k1, k2⟩ := z0
        simp only at k1 k2 hv
        subst k1 k2 hv
        exact ⟨got, rfl, rfl, trivial⟩
      have kit := PySem.W.handS_kitx_exc (x := a) (ox := oe) cl.hg cl.hk cl.hs cl.hd cl.ha cl.hn cl.ht cl.hm
      refine PySem.W.kia_one kit I.kIn inst hb (fun y => nomatch y) fun t => ?_
      exact ⟨.bl b, H, I.kept (t' := t) (fun _ _ y => y), rfl, q⟩
/-- what isinstance says of the exception at a, that name i holds -/
def mIsE (i : Nat) (a : Addr) (b : Bool) : Ev → R := fun ρ => match ρ[i]? with
  | some (.raw c) => if c = a then .ok (.bool b) ρ else .stuck
  | _ => .stuck
section
variable {X : Cx} {W : WX} {pos : Pos}
/-- a class of the program or a built-in one, as a name gives it -/
inductive ClsAt (X : Cx) (T : Str) : V → Value → Prop
  | own {C : Addr} : X.mg T = some (.ref C) → ClsAt X T (.ref C) (.ref C)
  | blt {n : String} : X.mg T = none → bootBuiltins T = some (.type n) → T ≠ "__name__" → ClsAt X T (.ty n) (.type n)
theorem JE.isE (i : Nat) {x T : Str} {p p1 p2 : Pos} {a D : Addr} {oe : Obj} {c : V} {cv : Value} {b : Bool} (hp : (a, oe) ∈ X.pn) (cl : ExcC X.K D) (z0 : Zc (.ref D) none oe) (fl : ∃ vs, oe.data = .fields vs) (hm : X.mg "isinstance" = none) (hT : ClsAt X T c cv) (hb : PySem.W.kitOne X.K (.ref D) cv = some b)
    (hg : Gl X "isinstance" := by rfl) (hgT : Gl X T := by rfl) (hdT : (T == ("__debug__" : Str)) = false := by decide) (hN : X.N[i]? = some x := by rfl) (hv : Vis X.env.scope x := by first | exact Or.inl rfl | exact Or.inr (Or.inl rfl) | exact Or.inr (Or.inr rfl)) (hd : (x == ("__debug__" : Str)) = false := by decide) (hcd : (x == ("__classdict__" : Str)) = false := by decide)
    (hs1 : starEach [.Name x p1, .Name T p2] X.env = (false, eval (.Name x p1) X.env) :: starEach [.Name T p2] X.env := by rfl) (hs2 : starEach [.Name T p2] X.env = (false, eval (.Name T p2) X.env) :: starEach [] X.env := by rfl) (hpl : (backTo pos (starEach [.Name T p2] X.env)).any (·.1) = false := by rfl) :
    JE X W (.Call (.Name "isinstance" p) [.Name x p1, .Name T p2] [] pos) (mIsE i a b) := by
  have rc : RelV c cv := by cases hT <;> rfl
  have back : ∀ u, RelV c u → u = cv := by cases hT <;> exact fun u h => h
  have hTt : PE X (.Name T p2) (tC c) := by
    cases hT with
    | own h => exact pe_glob hgT h rc hdT
    | blt h1 h2 h3 => exact pe_bltn hgT h1 h2 rc h3 hdT
  refine .of (pe_callB (id := "isinstance") (call_isP hp cl z0 fl) hg hm (by decide +kernel) (pa_cons (pe_var hN hv hd hcd) (pa_cons hTt pa_nil hs2) hs1) (by decide) (by decide) hs1 hpl) fun C α F ρ σ H Q Rr pp => ?_
  unfold mIsE at pp
  cases h : ρ[i]? with
  | none => rw [h] at pp; exact pp.elim
  | some s =>
    rw [h] at pp
    cases s with
    | raw c' =>
      dsimp only at pp
      by_cases e : c' = a
      · subst e
        rw [if_pos rfl] at pp
        obtain ⟨o, h1, h2⟩ := Rr.slot i _ h
        have h2 : o = some (.ref c') := h2
        subst h2
        exact ⟨_, h1, c, cv, b, rfl, back, hb, pp _ _ _ (.refl _ _) Rr (.bl b)⟩
      · rw [if_neg e] at pp; exact pp.elim
    | _ => exact pp.elim
end
end NS

set_option Elab.async false
set_option linter.all false
set_option autoImplicit false
set_option maxRecDepth 100000
set_option maxHeartbeats 4000000
/-! defs called while an exception is handled, told of it. -/
namespace NS
open PySem PySem.Spec PyProof.Rows L2
/-- what such a def promises, of each handled exception -/
structure FnP (P : Program) (w : World) (K : PySem.W.Frag) (mg : Str → Option Value) (base : Heap) (CX : CXT) (k : Nat) (f : Addr) (fd : FuncData) (ps : List Str) (sp : Addr × Obj → Sp) : Prop where
  lens : ∀ p vs H Q E, sp p vs H Q E → vs.length = ps.length
  runs : ∀ (A : Around) (outer : List Env) (s : Shared) (H : Hp) (args : Args) (us : List Value) (vs : List V) (Q : VK) (E : XK) (p : Addr × Obj), L2H.RoomH k A → L2H.Hot1 A p → L2H.PinOk outer H s p → Env0 P w K mg base A outer s H →
    BindsTo s fd args (ps.zip us) → Vals vs us → sp p vs H Q E → codeAny (model P w) A (.call (.ref f) args) (CR CX outer P w H s Q E) s
theorem fn_ofP {P : Program} {w : World} {K : PySem.W.Frag} {mg : Str → Option Value} {base : Heap} {CX : CXT} {k : Nat} {x qual : Str} {params : Arguments} {bd : List Stmt} {sc : Scope} {f : Addr} {fd : FuncData} {N ps : List Str} {sp : Addr × Obj → Sp}
    (Fu : FunD K x qual params bd sc [] [] f fd) (S : FnScope N ps sc) (lens : ∀ p vs H Q E, sp p vs H Q E → vs.length = ps.length)
    (hb : ∀ (cdv : Value) (A : Around) (outer : List Env) (s : Shared) (H : Hp) (vs : List V) (Q : VK) (E : XK) (p : Addr × Obj), L2H.Hot1 A p → L2H.RoomH k (A.deeper (envOfC qual sc s.heap.objs.size f cdv)) → sp p vs H Q E →
      ∃ t, PSs (L2H.cxH CX P w K mg base N qual sc f cdv A outer s H E p) bd t ∧ t { nx := fun _ H' => Q .non H', rt := Q } (L2.start N vs) H) : FnP P w K mg base CX (k + 1) f fd ps sp := by
  obtain ⟨oc, od, dV, kV, doc, pm, an, cdv, ct, osl, rfl, lk, hcd, -, -⟩ := Fu.ex
  refine ⟨lens, fun A outer s H args us vs Q E p room hot pin env0 binds rv told => ?_⟩
  have vlen := lens _ _ _ _ _ told
  have kin : K.In s.heap := env0.mod.kin.keeps fun b o h => (env0.bs b o h).1
  have nolim : s.heap.NoLimit := env0.mod.nolimit.keeps fun b o h => (env0.bs b o h).1
  refine codeAny_call_function room.depth (kin _ _ lk) rfl S.co S.gen rfl (PySem.W.codeRec_of kin hcd) (binds _ _ _ _ ?_)
  refine wpAny_newFunctionEnv_cells S.kind (fun y hy => ?_) fun env he s1 inn => ?_
  · rcases S.par y.1 (List.of_mem_zip (show (y.1, y.2) ∈ _ from hy)).1 with q | q
    · exact .inl q
    · exact .inr ⟨q, PySem.W.cellsFrom_some _ _ _ (.inl q)⟩
  · subst he
    refine ⟨nolim.keeps inn.toInCall.keep, codeAny_func ?_⟩
    obtain ⟨t, body, q⟩ := hb cdv A outer s H vs Q E p hot (room.deeper _) told
    have I := L2H.inv_startH (CX := CX) (E := E) S pin env0 vlen rv inn
    refine wpAny_mono (body.run [] s1 (L2.start N vs) H _ I q) (fun fl s' out => ?_) fun _ _ out => out
    cases fl with
    | brk => rcases out with ⟨_, _, _, no⟩; exact no.elim
    | cont => rcases out with ⟨_, _, _, no⟩; exact no.elim
    | next =>
      rcases out with ⟨σ2, H2, J, w2⟩
      exact ⟨.non, H2, J.os, J.bare, J.base, J.hok, rfl, w2⟩
    | ret u =>
      rcases out with ⟨v2, σ2, H2, J, r2, w2⟩
      exact ⟨v2, H2, J.os, J.bare, J.base, J.hok, r2, w2⟩
section
variable {X : Cx} {CX : CXT} {k : Nat} {f : Addr} {fd : FuncData} {ps : List Str} {sp : Addr × Obj → Sp} {E : L2.St → XK} {x : Str} {q pos : Pos} {e : Expr} {es : List Expr} {t : TA}
/-- the call, p the handled exception -/
theorem pe_callP {p : Addr × Obj} (Fp : FnP X.prog X.w X.K X.mg X.base CX k f fd ps sp) (room : L2H.RoomH k X.A) (hot : L2H.Hot1 X.A p) (mem : p ∈ X.pn) (hg : Gl X x) (hm : X.mg x = some (.ref f)) (hk : PySem.W.keepIn X.K (.ref f) = true) (bnd : Binds X.K fd ps [])
    (hx : ∀ σ, PassesAt CX X σ (E σ)) (args : PA X (e :: es) t) (hdb : (x == ("__debug__" : Str)) = false := by decide) (he : starEach (e :: es) X.env = (false, eval e X.env) :: starEach es X.env := by rfl) (hpl : (backTo pos (starEach es X.env)).any (·.1) = false := by rfl) :
    PE X (.Call (.Name x q) (e :: es) [] pos) (fun σ H Q => t σ H fun vs H1 => sp p vs H1 Q (E σ)) := by
  constructor
  intro pins s σ H Q I h
  refine wpAny_Call_Name_kw (ld_glob I hg hm (PySem.W.callWith_K (h₀ := X.base) I.ok.mod.kin hk (thn (args.run pos pins s σ H _ I h) fun us s1 hh => ?_) he hpl) hdb)
  obtain ⟨vs, H1, I1, rv, told⟩ := hh
  refine ⟨I1.kIn, ?_⟩
  have ulen : us.length = ps.length := by rw [← rv.length]; exact Fp.lens _ _ _ _ _ told
  have bs := bnd s1 us I1.kIn (by rw [List.append_nil]; exact ulen)
  rw [List.append_nil] at bs
  have at1 := I1.pin p (List.mem_append_left _ mem)
  have pin : L2H.PinOk X.stack H1 s1 p := by
    refine ⟨at1.1, at1.2.1, fun inn => ?_, at1.2.2.2.2⟩
    rcases List.mem_cons.mp (I1.stkSub p.1 inn) with l | l
    · exact at1.2.2.1 l
    · exact at1.2.2.2.1 l
  refine wpAny_call (codeAny_mono (Fp.runs X.A X.stack s1 H1 ⟨us, []⟩ us vs Q (E σ) p room hot pin I1.env0 bs rv told) fun res s' out => ?_)
  cases res with
  | error err => exact hx σ pins H1 s1 err s' I1 out
  | ok fl => cases fl with
    | ret u => exact I1.after out
    | next => exact out.elim
    | brk => exact out.elim
    | cont => exact out.elim
end
end NS

set_option Elab.async false
set_option linter.all false
set_option autoImplicit false
set_option maxRecDepth 100000
set_option maxHeartbeats 4000000
/-! try: .. except C as e: (a suite that returns). -/
namespace NS
open PySem PySem.Spec PyProof.Rows L2
section
variable {K : PySem.W.Frag} {C : Ctx} {α : Nat → Addr} {F : Fz} {ρ : Ev} {σ : L2.St} {H : Hp}
theorem Rel.raw (R : Rel K C α F ρ σ H) {i : Nat} {a : Addr} (hi : ρ[i]? = some .no) (hs : σ[i]? = some (some (.ref a))) : Rel K C α F (ρ.set i (.raw a)) σ H := by
  have old : ∀ (j : Nat) (s : Sl), (ρ.set i (.raw a))[j]? = some s → s.isMut = true → ρ[j]? = some s := fun j s h m => by
    by_cases e : j = i
    · subst e
      obtain ⟨rfl, _⟩ := get_set_eq h
      cases m
    · rwa [get_set_ne e] at h
  refine ⟨by rw [List.length_set]; exact R.len, fun j s h => ?_, fun j k s t hj hk ms mt e => R.inj j k s t (old j s hj ms) (old k t hk mt) ms mt e, fun p hp => ?_, R.kp, fun j s h m => R.kn j s (old j s h m) m, R.nf, R.nd, R.fd, fun j s h m o => R.on j s (old j s h m) m o⟩
  · by_cases e : j = i
    · subst e
      obtain ⟨rfl, _⟩ := get_set_eq h
      exact ⟨_, hs, rfl⟩
    · rw [get_set_ne e] at h
      exact R.slot j s h
  · obtain ⟨xs, h1, h2⟩ := R.io p hp
    have e : p.1 ≠ i := fun e => by rw [e, hi] at h1; cases h1
    exact ⟨xs, by rw [get_set_ne e]; exact h1, h2⟩
end
def rtO (o : Out) (i : Nat) (a : Addr) : Out := match o with
  | .rt d ρ' => .rt d (ρ'.set i (.raw a))
  | _ => .stuck
def rtN (o : Out) : Out := match o with
  | .rt d ρ' => .rt d ρ'
  | _ => .stuck
def mTry (i : Nat) (subs : Str → Option Bool) (mb : Ev → Out) (mp : Exn → Ev → Out) : Ev → Out := fun ρ => match mb ρ with
  | .ex x ρ1 => match subs x.cls with
    | some true => match x.told with
      | none => match ρ1[i]? with
        | some s => if s.isIo = true then .stuck else rtN (mp x (ρ1.set i .no))
        | none => .stuck
      | some _ => .stuck
    | some false => .ex x ρ1
    | none => .stuck
  | o => o
section
variable {X : Cx} {W : WX} {x n : Str} {c : Value} {body suite : List Stmt} {b₀ : Stmt} {np pos pos' : Pos} {mb : Ev → Out} {mp : Exn → Ev → Out} {ms : Addr → Exn → Ev → Out} {subs : Str → Option Bool}
theorem JS.tryAs (i : Nat) (hs : X.stack = X.env :: X.outer) (hf : X.env.frame = some X.env.locals) (hN : X.N.Nodup) (hc : Names X x c) (tk : L2N.Takes X W)
    (hsub : ∀ s b (D : Addr), subs s = some b → X.mg s = some (.ref D) → PySem.W.exmOne X.K (.ref D) c = some b)
    (hb : ∀ (W1 : WX) (pn : List (Addr × Obj)) (xe : Value → Shared → Prop), L2N.Takes (X.tr pn xe) W1 → PassesOwn (model X.prog X.w) X.A X.env xe → JB (X.tr pn xe) W1 body mb)
    (hsu : ∀ (a : Addr) (oe : Obj) (D : Addr) (pn : List (Addr × Obj)) (e : Exn), subs e.cls = some true → X.mg e.cls = some (.ref D) → L2N.Zn (.ref D) none oe → (∃ vs, oe.data = .fields vs) → JB (X.suite a ((a, oe) :: pn)) W0 (b₀ :: suite) (ms a e))
    (heq : ∀ a e ρ, ρ[i]? = some Sl.no → ms a e (ρ.set i (.raw a)) = rtO (mp e ρ) i a ∧ ∀ d ρ', mp e ρ = .rt d ρ' → ρ'[i]? = some Sl.no)
    (hi : X.N[i]? = some n := by rfl) (hln : X.env.kindOf n = some .local := by rfl) :
    JS X W (.Try body [.ExceptHandler (some (.Name x np)) (some n) (b₀ :: suite) pos'] [] [] pos) (mTry i subs mb mp) := by
  let ts : Addr → Value → Option Addr → TS := fun a cls d D σ H => d = none ∧ ∃ (e : Exn) (Dc : Addr), cls = .ref Dc ∧ subs e.cls = some true ∧ X.mg e.cls = some (.ref Dc) ∧ TS8 X.K X.mg W0 (ms a e) D σ H
  refine .of (L2N.ps_try_as (tb := fun W1 => TS8 X.K X.mg W1 mb) (ts := ts) hs hf hN hi hln hc tk hb (fun a oe cls d pn z fl => ?_)) fun C α F ρ σ H D Rr p => ?_
  · refine ⟨fun pins s σ H D I h => ?_⟩
    obtain ⟨rfl, e, Dc, rfl, hsb, hm, h⟩ := h
    exact (hsu a oe Dc pn e hsb hm z fl).run pins s σ H D I h
  · refine ⟨C, α, F, ρ, Rr, ?_⟩
    unfold mTry at p
    cases ho : mb ρ with
    | nx ρ' => rw [ho] at p; exact p
    | rt d ρ' => rw [ho] at p; exact p
    | bk ρ' => rw [ho] at p; exact p
    | ct ρ' => rw [ho] at p; exact p
    | stuck => rw [ho] at p; exact p
    | ex e ρ1 =>
      rw [ho] at p
      intro α1 F1 σ1 H1 cls dd e1 R1 xr
      dsimp only at p
      obtain ⟨Dc, hm, rfl, told⟩ := xr
      cases hsb : subs e.cls with
      | none => rw [hsb] at p; exact p.elim
      | some b =>
        rw [hsb] at p
        refine ⟨b, hsub _ _ _ hsb hm, fun hbt a na => ?_, fun hbf => ?_⟩
        · subst hbt
          dsimp only at p
          cases ht : e.told with
          | some _ => rw [ht] at p; exact p.elim
          | none =>
            rw [ht] at p told
            dsimp only at p told
            subst told
            cases hri : ρ1[i]? with
            | none => rw [hri] at p; exact p.elim
            | some s =>
              rw [hri] at p
              dsimp only at p
              by_cases hio : s.isIo = true
              · rw [if_pos hio] at p; exact p.elim
              · rw [if_neg hio] at p
                have hil : i < ρ1.length := (List.getElem?_eq_some_iff.mp hri).1
                have hno : (ρ1.set i Sl.no)[i]? = some Sl.no := by rw [List.getElem?_set_self hil]
                have hsl : i < σ1.length := by rw [R1.len]; exact hil
                have R2 := R1.forget (i := i) (o := some (.ref a)) fun s' hs' => by
                  rw [hri] at hs'
                  cases hs'
                  exact Bool.eq_false_iff.mpr hio
                have R3 := R2.raw (i := i) (a := a) hno (by rw [List.getElem?_set_self hsl])
                obtain ⟨q1, q2⟩ := heq a e _ hno
                refine ⟨rfl, e, Dc, rfl, hsb, hm, C, α1, F1, _, R3, ?_⟩
                rw [q1]
                cases hmp : mp e (ρ1.set i Sl.no) with
                | rt d ρ2 =>
                  rw [hmp] at p
                  intro α2 F2 σ2 H2 v e2 R4 rv
                  have hn2 := q2 d ρ2 hmp
                  have R5 := R4.forget (i := i) (o := none) fun s' hs' => by
                    obtain ⟨h1, _⟩ := get_set_eq hs'
                    subst h1
                    rfl
                  have e5 : (ρ2.set i (Sl.raw a)).set i Sl.no = ρ2 := by
                    rw [List.set_set]
                    have hl2 : i < ρ2.length := (List.getElem?_eq_some_iff.mp hn2).1
                    have := (List.getElem?_eq_some_iff.mp hn2).2
                    rw [← this]
                    exact List.set_getElem_self hl2
                  rw [e5] at R5
                  exact p α2 F2 _ H2 v (e1.trans e2) R5 rv
                | nx _ => rw [hmp] at p; exact p.elim
                | bk _ => rw [hmp] at p; exact p.elim
                | ct _ => rw [hmp] at p; exact p.elim
                | ex _ _ => rw [hmp] at p; exact p.elim
                | stuck => rw [hmp] at p; exact p.elim
        · subst hbf
          exact p α1 F1 σ1 H1 _ _ e1 R1 ⟨Dc, hm, rfl, told⟩
end
end NS

set_option Elab.async false
set_option linter.all false
set_option autoImplicit false
set_option maxRecDepth 100000
set_option maxHeartbeats 4000000
/-! a def of one handled exception. -/
namespace NS
open PySem PySem.Spec PyProof.Rows L2
def spX (K : PySem.W.Frag) (mg : Str → Option Value) (G : Str → Option Dt) : Addr × Obj → Sp := fun p vs H Q _ => ∃ (F : Fz) (αs : Nat → Addr) (e : Str) (D : Addr), vs = [.ref p.1] ∧ mg e = some (.ref D) ∧ L2N.Zn (.ref D) none p.2 ∧ (∃ fs, p.2.data = .fields fs) ∧ (∀ a, F a → H a ≠ none) ∧ match G e with
  | some d => ∀ v F' H', After K F H F' H' αs [] [] → Rp K F' H' v d → Q v H'
  | none => False
theorem fn_okX {P : Program} {w : World} {K : PySem.W.Frag} {mg : Str → Option Value} {base : Heap} {x qual y : Str} {params : Arguments} {bd : List Stmt} {sc : Scope} {f : Addr} {fd : FuncData} {N : List Str} {k : Nat} {G : Str → Option Dt} {m : Addr → Str → Ev → Out}
    (Fu : FunD K x qual params bd sc [] [] f fd) (S : FnScope N [y] sc) (hN : 0 < N.length)
    (body : ∀ (cdv : Value) (A : Around) (outer : List Env) (s : Shared) (H : Hp) (E : XK) (p : Addr × Obj) (e : Str) (D : Addr) (d : Dt), G e = some d → L2H.Hot1 A p → mg e = some (.ref D) → L2N.Zn (.ref D) none p.2 → (∃ fs, p.2.data = .fields fs) → L2H.RoomH k (A.deeper (envOfC qual sc s.heap.objs.size f cdv)) →
      JB (L2H.cxH (L2N.CX P w) P w K mg base N qual sc f cdv A outer s H E p) W0 bd (m p.1 e))
    (hG : ∀ a e d, G e = some d → ∃ ρ', m a e (Sl.raw a :: List.replicate (N.length - 1) Sl.no) = .rt d ρ') : FnP P w K mg base (L2N.CX P w) (k + 1) f fd [y] (spX K mg G) := by
  refine fn_ofP Fu S (fun p vs H Q E h => ?_) fun cdv A outer s H vs Q E p hot room h => ?_
  · obtain ⟨_, _, _, _, rfl, _⟩ := h
    rfl
  · obtain ⟨F, αs, e, D, rfl, hm, z, fl, fd', h⟩ := h
    cases hg : G e with
    | none => rw [hg] at h; exact h.elim
    | some d =>
      refine ⟨_, body cdv A outer s H E p e D d hg hot hm z fl room, ?_⟩
      rw [hg] at h
      dsimp only at h
      obtain ⟨ρ', hρ⟩ := hG p.1 e d hg
      have A0 : ArgsIn K F H αs [] [] := ⟨rfl, fun i s h => by simp at h, fun i j s t h => by simp at h, fd', fun i s h => by simp at h⟩
      have R0 := rel0 (N := N) A0 (Nat.zero_le _)
      have R1 := (R0.forget (i := 0) (o := some (.ref p.1)) fun s hs => by
        simp only [List.nil_append, List.length_nil, Nat.sub_zero, List.getElem?_replicate] at hs
        split at hs <;> (cases hs; try rfl))
      obtain ⟨n, hn⟩ : ∃ n, N.length = n + 1 := ⟨N.length - 1, by omega⟩
      have R2 := R1.raw (i := 0) (a := p.1) (by rw [List.length_nil, hn]; rfl) (by unfold L2.start; rw [List.length_nil, hn]; rfl)
      have eρ : ((([] : List Sl) ++ List.replicate (N.length - ([] : List Sl).length) Sl.no).set 0 Sl.no).set 0 (Sl.raw p.1) = Sl.raw p.1 :: List.replicate (N.length - 1) Sl.no := by
        rw [List.length_nil, hn]; rfl
      have eσ : (L2.start N []).set 0 (some (V.ref p.1)) = L2.start N [V.ref p.1] := by
        unfold L2.start
        rw [List.length_nil, hn]
        rfl
      rw [eρ, eσ] at R2
      refine ⟨ctx0 F H αs [], αs, F, _, R2, ?_⟩
      rw [hρ]
      intro α1 F1 σ1 H1 v e1 R3 rv
      exact h v F1 H1 (after0 e1 R3 fd') rv
def mWhich (i : Nat) (a : Addr) (o : Option Dt) : Ev → R := fun ρ => match ρ[i]? with
  | some (.raw c) => if c = a then R.ofO o ρ else .stuck
  | _ => .stuck
section
variable {X : Cx} {W : WX} {pos : Pos} {k : Nat} {f : Addr} {fd : FuncData} {ps : List Str} {G : Str → Option Dt} {g y e : Str} {q p1 : Pos} {a D : Addr} {oe : Obj}
theorem JE.callX (i : Nat) (Fp : FnP X.prog X.w X.K X.mg X.base (L2N.CX X.prog X.w) k f fd ps (spX X.K X.mg G)) (room : L2H.RoomH k X.A) (hot : L2H.Hot1 X.A (a, oe)) (mem : (a, oe) ∈ X.pn) (hm : X.mg g = some (.ref f)) (hk : PySem.W.keepIn X.K (.ref f) = true) (bnd : Binds X.K fd ps [])
    (he : X.mg e = some (.ref D)) (z : L2N.Zn (.ref D) none oe) (fl : ∃ fs, oe.data = .fields fs) (hg : Gl X g := by rfl) (hN : X.N[i]? = some y := by rfl) (hv : Vis X.env.scope y := by first | exact Or.inl rfl | exact Or.inr (Or.inl rfl) | exact Or.inr (Or.inr rfl)) (hd : (y == ("__debug__" : Str)) = false := by decide) (hcd : (y == ("__classdict__" : Str)) = false := by decide)
    (hdb : (g == ("__debug__" : Str)) = false := by decide) (hst : starEach [.Name y p1] X.env = (false, eval (.Name y p1) X.env) :: starEach [] X.env := by rfl) (hpl : (backTo pos (starEach [] X.env)).any (·.1) = false := by rfl) :
    JE X W (.Call (.Name g q) [.Name y p1] [] pos) (mWhich i a (G e)) := by
  refine .of (pe_callP (E := fun _ => fun _ _ _ => False) Fp room hot mem hg hm hk bnd (fun σ => fun _ _ _ _ _ _ h => by
    obtain ⟨_, _, _, _, _, _, _, _, _, _, _, _, no⟩ := h
    exact no.elim) (pa_cons (pe_var hN hv hd hcd) pa_nil hst) hdb hst hpl) fun C α F ρ σ H Q Rr p => ?_
  unfold mWhich at p
  cases h : ρ[i]? with
  | none => rw [h] at p; exact p.elim
  | some s =>
    rw [h] at p
    cases s with
    | raw c' =>
      dsimp only at p
      by_cases ec : c' = a
      · subst ec
        rw [if_pos rfl] at p
        obtain ⟨o, h1, h2⟩ := Rr.slot i _ h
        have h2 : o = some (.ref c') := h2
        subst h2
        refine ⟨_, h1, F, αArg α [], e, D, rfl, he, z, fl, Rr.fd, ?_⟩
        cases hG : G e with
        | none => rw [hG] at p; exact p.elim
        | some d =>
          rw [hG] at p
          intro v F' H' af rv
          obtain ⟨R2, e2⟩ := called_rel (sh := []) (vs := []) (ds := []) (ss := []) (ss' := []) (ρ' := ρ) Rr trivial rfl (by simp) af rfl
          exact p v F' H' e2 R2 rv
      · rw [if_neg ec] at p; exact p.elim
    | _ => exact p.elim
end
end NS

set_option Elab.async false
set_option linter.all false
set_option autoImplicit false
set_option maxRecDepth 100000
set_option maxHeartbeats 4000000
/-! [f, g, ..][i](..): a def out of a list of defs. -/
namespace NS
open PySem PySem.Spec PyProof.Rows L2
/-- names of defs, what they do, where they are -/
inductive FnsOk (X : Cx) (k : Nat) : List Expr → List (List Sl → FR) → List Addr → Prop
  | nil : FnsOk X k [] [] []
  | cons {x : Str} {p : Pos} {ps : List Str} {es : List Expr} {Fn : List Sl → FR} {Fns : List (List Sl → FR)} {f : Addr} {fd : FuncData} {fs : List Addr} {j : Nat} : Gl X x → (x == ("__debug__" : Str)) = false → X.mg x = some (.ref f) → FnOk X.prog X.w X.K X.mg X.base (L2N.CX X.prog X.w) j f fd ps (spF X.K X.mg Fn) →
      PySem.W.keepIn X.K (.ref f) = true → Binds X.K fd ps [] → j ≤ k → starEach (.Name x p :: es) X.env = (false, eval (.Name x p) X.env) :: starEach es X.env → FnsOk X k es Fns fs → FnsOk X k (.Name x p :: es) (Fn :: Fns) (f :: fs)
section
variable {X : Cx} {W : WX} {k : Nat} {sh : List (Option Nat)} {mr : Ev → RA} {a : Expr} {es : List Expr} {pos : Pos}
theorem FnsOk.pa : ∀ {fs : List Expr} {Fns : List (List Sl → FR)} {as : List Addr}, FnsOk X k fs Fns as → PA X fs (fun _ H Q => Q (as.map V.ref) H)
  | _, _, _, .nil => ⟨fun pos pins s σ H Q I h => pa_nil.run pos pins s σ H Q I h⟩
  | _, _, _, .cons hg hd hm _ _ _ _ hs t => ⟨fun pos pins s σ H Q I h => (pa_cons (pe_glob (v := .ref _) hg hm rfl hd) t.pa hs).run pos pins s σ H Q I h⟩
theorem FnsOk.at : ∀ {fs : List Expr} {Fns : List (List Sl → FR)} {as : List Addr} {i : Nat} {Fn : List Sl → FR}, FnsOk X k fs Fns as → Fns[i]? = some Fn →
    ∃ f fd j ps, as[i]? = some f ∧ FnOk X.prog X.w X.K X.mg X.base (L2N.CX X.prog X.w) j f fd ps (spF X.K X.mg Fn) ∧ PySem.W.keepIn X.K (.ref f) = true ∧ Binds X.K fd ps [] ∧ j ≤ k
  | _, _, _, _, _, .nil, h => by simp at h
  | _, _, _, 0, _, .cons _ _ _ F hk hb hj _ _, h => by
    simp at h
    subst h
    exact ⟨_, _, _, _, rfl, F, hk, hb, hj⟩
  | _, _, _, i + 1, _, .cons _ _ _ _ _ _ _ _ t, h => by
    simp only [List.getElem?_cons_succ] at h ⊢
    exact t.at h
theorem FnsOk.len : ∀ {fs : List Expr} {Fns : List (List Sl → FR)} {as : List Addr}, FnsOk X k fs Fns as → as.length = Fns.length
  | _, _, _, .nil => rfl
  | _, _, _, .cons _ _ _ _ _ _ _ _ t => congrArg (· + 1) t.len
/-- the reading of a call -/
theorem callF_read {Fn : List Sl → FR} {C : Ctx} {α : Nat → Addr} {F : Fz} {ρ : Ev} {σ : L2.St} {H : Hp} {Q : VK} (nd : refsNd sh = true) (Rr : Rel X.K C α F ρ σ H) (p : PostE X.K X.mg W C α F σ H Q (mCallF Fn sh mr ρ)) :
    TR8 X.K X.mg W sh mr σ H (fun vs H1 => spF X.K X.mg Fn vs H1 Q (WE W σ)) := by
  refine ⟨C, α, F, ρ, Rr, ?_⟩
  unfold mCallF at p
  cases h : mr ρ with
  | exc x ρ1 => rw [h] at p; exact p
  | stuck => rw [h] at p; exact p
  | ok ds ρ1 =>
    rw [h] at p
    intro vs F1 H1 e1 R1 ar
    dsimp only at p
    have nd' : (sh.filterMap id).Nodup := of_decide_eq_true nd
    cases hmk : mkArgs sh ds ρ1 with
    | none => rw [hmk] at p; exact p.elim
    | some ss =>
      rw [hmk] at p
      dsimp only at p
      refine ⟨F1, αArg α sh, ss, args_in R1 ar hmk nd', ?_⟩
      cases hf : Fn ss with
      | stuck => rw [hf] at p; exact p
      | ok d ss' =>
        rw [hf] at p
        dsimp only at p
        intro v F' H' af rv
        cases hw : wBack sh ss' ρ1 with
        | none => rw [hw] at p; exact p.elim
        | some ρ2 =>
          rw [hw] at p
          obtain ⟨R2, e2⟩ := called_rel R1 ar hmk nd' af hw
          exact p v F' H' (e1.trans e2) R2 rv
      | exc x ss' =>
        rw [hf] at p
        dsimp only at p
        intro c dd F' H' af rv
        cases hw : wBack sh ss' ρ1 with
        | none => rw [hw] at p; exact p.elim
        | some ρ2 =>
          rw [hw] at p
          obtain ⟨R2, e2⟩ := called_rel R1 ar hmk nd' af hw
          exact p c dd F' H' (e1.trans e2) R2 rv
def mCallIx (Fns : List (List Sl → FR)) (sh : List (Option Nat)) (mi : Ev → R) (mr : Ev → RA) : Ev → R := fun ρ => (mi ρ).bind fun d ρ1 => match d with
  | .int j => if 0 ≤ j then (match Fns[j.toNat]? with
    | some Fn => mCallF Fn sh mr ρ1
    | none => .stuck) else .stuck
  | _ => .stuck
theorem JE.callIx {fs : List Expr} {Fns : List (List Sl → FR)} {as : List Addr} {ei : Expr} {mi : Ev → R} {lp sp : Pos} (h : FnsOk X k fs Fns as) (hz : as.length ≤ 10000) (hei : JE X W ei mi) (hr : Room k X.A) (tk : L2N.Takes X W) (ha : JR X W (a :: es) sh mr) (nd : refsNd sh = true := by decide)
    (hs : PlainIx ei := by exact fun _ _ => rfl)
    (ht : eval (.Call (.Subscript (.List fs lp) ei sp) (a :: es) [] pos) X.env = (do callWith pos (← eval (.Subscript (.List fs lp) ei sp) X.env) [] (backTo pos (starEach (a :: es) X.env)) (backToKw pos (keywordEach [] X.env))) := by rfl)
    (he : starEach (a :: es) X.env = (false, eval a X.env) :: starEach es X.env := by rfl) (hpl : (backTo pos (starEach es X.env)).any (·.1) = false := by rfl) : JE X W (.Call (.Subscript (.List fs lp) ei sp) (a :: es) [] pos) (mCallIx Fns sh mi mr) := by
  refine ⟨fun pins s σ H Q I ⟨C, α, F, ρ, Rr, p⟩ => ?_⟩
  have hsub := pe_ix (pos := sp) ix_list (pe_lst (pos := lp) h.pa) hei hs
  refine Call_ (thn (hsub.run pins s σ H (fun y H1 => ∃ f Fn fd j ps, y = .ref f ∧ FnOk X.prog X.w X.K X.mg X.base (L2N.CX X.prog X.w) j f fd ps (spF X.K X.mg Fn) ∧ PySem.W.keepIn X.K (.ref f) = true ∧ Binds X.K fd ps [] ∧ j ≤ k ∧ TR8 X.K X.mg W sh mr σ H1 (fun vs H2 => spF X.K X.mg Fn vs H2 Q (WE W σ))) I ?_) fun u s1 ⟨y, H1, I1, ry, q⟩ => ?_) ht
  · refine ⟨by rw [List.length_map]; exact Nat.le_trans hz (by decide), fun q hq => ?_⟩
    obtain ⟨n1, n2, n3, n4⟩ := fresh_own Rr hq
    have R1 := (Rr.laid (o := .lst (as.map V.ref)) hq).freeze (p := q) (by rw [upd_same]; intro z; cases z) n2 n4
    have e0 : Ext F H (insF F q) (upd H q (.lst (as.map V.ref))) := (ext_laid hq).trans ext_ins
    refine ⟨C, α, insF F q, ρ, R1, ?_⟩
    unfold mCallIx at p
    cases hm : mi ρ with
    | exc x ρ1 =>
      rw [hm] at p
      exact fun cls dd F' H' e R2 xr => p cls dd F' H' (e0.trans e) R2 xr
    | stuck => rw [hm] at p; exact p.elim
    | ok d ρ1 =>
      rw [hm] at p
      intro v F2 H2 e2 R2 rv
      cases d with
      | int j =>
        have p : PostE X.K X.mg W C α F σ H Q (if 0 ≤ j then (match Fns[j.toNat]? with
          | some Fn => mCallF Fn sh mr ρ1
          | none => .stuck) else .stuck) := p
        by_cases hj : 0 ≤ j
        · rw [if_pos hj] at p
          cases hF : Fns[j.toNat]? with
          | none => rw [hF] at p; exact p.elim
          | some Fn =>
            rw [hF] at p
            dsimp only at p
            obtain ⟨f, fd, jl, ps, h1, h2, h3, h4, h5⟩ := h.at hF
            cases rv
            have there := e2.kp q _ upd_same (.inl (.inr rfl))
            refine ⟨q, as.map V.ref, j, .ref f, rfl, rfl, .of there, ?_, f, Fn, fd, jl, ps, rfl, h2, h3, h4, h5, callF_read nd R2 (p.ext (e0.trans e2))⟩
            have : j = (j.toNat : Int) := by omega
            rw [this]
            exact atI_nat (by rw [List.getElem?_map, h1]; rfl)
        · rw [if_neg hj] at p; exact p.elim
      | _ => exact p.elim
  · obtain ⟨f, Fn, fd, j, ps, rfl, F1, hk, hb, hj, q⟩ := q
    obtain rfl : u = Value.ref f := ry
    refine PySem.W.callWith_K (h₀ := X.base) I1.ok.mod.kin hk (thn (ha.run pos pins s1 σ H1 _ I1 q) fun us s2 ⟨vs, H2, I2, r, q2⟩ => ⟨I2.kIn, ?_⟩) he hpl
    exact run_fnS F1 (hr.mono hj) hb (L2N.passAt tk σ) I2 r q2
/-- the same by facts of names -/
def FnsC (X : Cx) (k : Nat) (es : List Expr) (Fns : List (List Sl → FR)) : Prop := ∃ as, FnsOk X k es Fns as
theorem FnsC.nil : FnsC X k [] [] := ⟨[], .nil⟩
theorem FnsC.cons {x : Str} {p : Pos} {ps : List Str} {Fn : List Sl → FR} {Fns : List (List Sl → FR)} {j : Nat} {fs : List Expr} (c : Cal X.prog X.w X.K X.mg X.base j x ps Fn) (t : FnsC X k fs Fns) (hj : j ≤ k := by decide) (hg : Gl X x := by rfl) (hd : (x == ("__debug__" : Str)) = false := by decide)
    (hs : starEach (.Name x p :: fs) X.env = (false, eval (.Name x p) X.env) :: starEach fs X.env := by rfl) : FnsC X k (.Name x p :: fs) (Fn :: Fns) := by
  obtain ⟨f, fd, F, hm, hk, hb⟩ := c
  obtain ⟨as, t⟩ := t
  exact ⟨f :: as, .cons hg hd hm F hk hb hj hs t⟩
theorem JE.callIxC {fs : List Expr} {Fns : List (List Sl → FR)} {ei : Expr} {mi : Ev → R} {lp sp : Pos} (h : FnsC X k fs Fns) (hr : Room k X.A) (tk : L2N.Takes X W) (hei : JE X W ei mi) (ha : JR X W (a :: es) sh mr) (hz : Fns.length ≤ 10000 := by decide) (nd : refsNd sh = true := by decide)
    (hs : PlainIx ei := by exact fun _ _ => rfl)
    (ht : eval (.Call (.Subscript (.List fs lp) ei sp) (a :: es) [] pos) X.env = (do callWith pos (← eval (.Subscript (.List fs lp) ei sp) X.env) [] (backTo pos (starEach (a :: es) X.env)) (backToKw pos (keywordEach [] X.env))) := by rfl)
    (he : starEach (a :: es) X.env = (false, eval a X.env) :: starEach es X.env := by rfl) (hpl : (backTo pos (starEach es X.env)).any (·.1) = false := by rfl) : JE X W (.Call (.Subscript (.List fs lp) ei sp) (a :: es) [] pos) (mCallIx Fns sh mi mr) := by
  obtain ⟨as, h⟩ := h
  exact JE.callIx h (by rw [h.len]; exact hz) hei hr tk ha nd hs ht he hpl
end
end NS

set_option Elab.async false
set_option linter.all false
set_option autoImplicit false
set_option maxRecDepth 100000
set_option maxHeartbeats 4000000
/-! tuples repeated. -/
namespace NS
open PySem PySem.Spec PyProof.Rows L2
open AutoSeq1 in
theorem tuple_mul1 (l : Addr) (items : Array Value) (n : Nat) (dd : Option Addr) (sl : Array (Option Value)) (u : Tok) :
    Meets (Builtin.«tuple.__mul__» ⟨[.ref l, .int 1 u], []⟩) (fun _ R s => s.heap.get? l = some { cls := .type "tuple", dict := dd, data := .seq items n, slots := sl } ∧ R (.ok (.ret (Value.ref l))) s) :=
  .of_wp fun prog w A R s h => by
    obtain ⟨hp, g, d, tk, os⟩ := s
    obtain ⟨hl, h⟩ := h
    have f1 := AutoSeq1.idx_int
    wp_walk using wpAny_loadPart' hl
    exact ⟨_, rfl, h⟩
def rRep1 (K : PySem.W.Frag) : R2 := fun x y H Q => ∃ l xs, x = .ref l ∧ y = .int 1 ∧ SqT K H l xs ∧ Q (.ref l) H
section
variable {X : Cx} {W : WX} {a b : Expr} {ma mb : Ev → R} {pos : Pos}
theorem op_rep1 : OpR X (binaryOp .Mult) (rRep1 X.K) := by
  intro pins s σ H x y v u Q I rx ry h
  rcases h with ⟨l, xs, rfl, rfl, hT, q⟩
  cases rx
  rcases ry with ⟨t, rfl⟩
  obtain ⟨its, r, ⟨⟨cls, dd, data, sl⟩, ho, hc, n, hd⟩, hs⟩ := I.tuple hT
  dsimp only at hc hd
  subst hc hd
  refine wpAny_binaryOp_repeat_ref (T := "tuple") (U := "int") (by decide) ⟨_, ho, rfl⟩ (fun s0 => typeIs_int s0 1 t) noFill_tuple_mul F.fills_int_mul F.slot_int_rmul repeat_tuple F.slot_int_index.lookup ?_
  refine call_meets F.slot_int_rmul (typeIs_int s 1 t) F.entry_int_rmul (F.args_int_rmul_2 _ _) (int_rmul_tuple 1 t l its.toArray n dd sl) ⟨ho, rfl, ⟨_, ho, rfl⟩, ?_⟩
  exact call_meets F.slot_tuple_mul ⟨_, ho, rfl⟩ F.entry_tuple_mul (F.args_tuple_mul_2 _ _) (tuple_mul1 l its.toArray n dd sl t) ⟨ho, .ref l, H, I, rfl, q⟩
theorem OpR.or2 {f : Value → Value → Sem Value} {r r' : R2} (h : OpR X f r) (h' : OpR X f r') : OpR X f (fun x y H Q => r x y H Q ∨ r' x y H Q) := fun pins s σ H x y v u Q I rx ry q => by
  rcases q with q | q
  · exact h pins s σ H x y v u Q I rx ry q
  · exact h' pins s σ H x y v u Q I rx ry q
def repTD (d e : Dt) : Option Dt :=
  match d, e with
  | .tuple xs, .int k => if k = 1 then some (.tuple xs) else if xs ≠ [] ∧ 2 ≤ k ∧ k ≤ 1000 ∧ xs.length ≤ 1000 then some (.tuple (List.replicate k.toNat xs).flatten) else none
  | _, _ => none
theorem op_repTS {K : PySem.W.Frag} : OpS K (fun x y H Q => rRepT K x y H Q ∨ rRep1 K x y H Q) repTD := by
  intro F H x y d e z Q rx ry hz q
  cases d with
  | tuple xs =>
    cases e with
    | int k =>
      have hz : (if k = 1 then some (PyData.tuple xs) else if xs ≠ [] ∧ 2 ≤ k ∧ k ≤ 1000 ∧ xs.length ≤ 1000 then some (.tuple (List.replicate k.toNat xs).flatten) else none) = some z := hz
      cases rx with
      | @tup l vs _ h r =>
        cases ry
        by_cases h1 : k = 1
        · subst h1
          rw [if_pos rfl] at hz
          cases hz
          exact .inr ⟨_, _, rfl, rfl, h, q _ _ _ .refl (.tup h r)⟩
        · rw [if_neg h1] at hz
          split at hz
          · rename_i c
            cases hz
            refine .inl ⟨_, k, vs, rfl, rfl, h, fun e => c.1 (by
              have := r.length
              rw [e] at this
              exact List.eq_nil_of_length_eq_zero this.symm), c.2.1, c.2.2.1, by rw [r.length]; exact c.2.2.2, fun p hp => ?_⟩
            exact q _ F _ (.laid hp) (.tup (.of upd_same) ((r.rep k.toNat).mono (ext_laid hp)))
          · cases hz
    | _ => cases hz
  | _ => cases hz
theorem JE.repT (ha : JE X W a ma) (hb : JE X W b mb) : JE X W (.BinOp a .Mult b pos) (mOp repTD ma mb) := JE.op (OpR.or2 op_repT op_rep1) op_repTS ha hb
end
end NS

set_option Elab.async false
set_option linter.all false
set_option autoImplicit false
set_option maxRecDepth 100000
set_option maxHeartbeats 4000000
/-! x + [..], x a name's own list: a new list. -/
namespace NS
open PySem PySem.Spec PyProof.Rows L2
def mCatO (i : Nat) (mb : Ev → RA) : Ev → RA := fun ρ => match lstAt ρ i with
  | none => .stuck
  | some _ => match mb ρ with
    | .ok ys ρ2 => match lstAt ρ2 i with
      | some xs => if xs.length + ys.length ≤ 10000 then .ok (xs ++ ys) ρ2 else .stuck
      | none => .stuck
    | .exc x ρ2 => .exc x ρ2
    | .stuck => .stuck
section
variable {X : Cx} {W : WX} {b : Expr} {pos : Pos}
theorem JL.catO (i : Nat) {x : Str} {p : Pos} {ml2 : Ev → RA} (hb : JL X W b ml2)
    (hN : X.N[i]? = some x := by rfl) (hv : Vis X.env.scope x := by first | exact Or.inl rfl | exact Or.inr (Or.inl rfl) | exact Or.inr (Or.inr rfl)) (hd : (x == ("__debug__" : Str)) = false := by decide) (hcd : (x == ("__classdict__" : Str)) = false := by decide) :
    JL X W (.BinOp (.Name x p) .Add b pos) (mCatO i ml2) := by
  refine .of (pe_op op_cat (pe_var hN hv hd hcd) hb) fun C α F ρ σ H Q Rr p => ?_
  unfold mCatO at p
  cases h : lstAt ρ i with
  | none => rw [h] at p; exact p.elim
  | some xs0 =>
    rw [h] at p
    dsimp only at p
    obtain ⟨h1, _⟩ := Rr.lstAt h
    refine ⟨_, h1, C, α, F, ρ, Rr, ?_⟩
    cases h2 : ml2 ρ with
    | exc x ρ2 => rw [h2] at p; exact p
    | stuck => rw [h2] at p; exact p
    | ok ys ρ2 =>
      rw [h2] at p
      intro q2 vs2 F2 H2 e2 R2 hq2 rs2 o1 o2 o3 o4
      dsimp only at p
      cases hl : lstAt ρ2 i with
      | none => rw [hl] at p; exact p.elim
      | some xs =>
        rw [hl] at p
        dsimp only at p
        by_cases hc : xs.length + ys.length ≤ 10000
        · rw [if_pos hc] at p
          obtain ⟨g1, g2, us, g3, g4⟩ := R2.lstAt hl
          refine ⟨α i, q2, us, vs2, rfl, rfl, g3, hq2, by rw [g4.length, rs2.length]; exact size_of hc, fun l hn => ?_⟩
          obtain ⟨m1, m2, m3, m4⟩ := fresh_own R2 hn
          exact p l _ F2 _ (e2.trans (ext_laid hn)) (R2.laid hn) upd_same ((g4.append rs2).mono (ext_laid hn)) m1 m2 m3 m4
        · rw [if_neg hc] at p; exact p.elim
end
end NS

set_option Elab.async false
set_option linter.all false
set_option autoImplicit false
set_option maxRecDepth 100000
set_option maxHeartbeats 4000000
/-! try: .. except C as e: return g(e). -/
namespace NS
open PySem PySem.Spec PyProof.Rows L2
def mpW (G : Str → Option Dt) : Exn → Ev → Out := fun e ρ => match G e.cls with
  | some d => .rt d ρ
  | none => .stuck
section
variable {X : Cx} {W : WX} {x n g : Str} {c : Value} {body : List Stmt} {np pos pos' p1 q cp rp : Pos} {mb : Ev → Out} {subs : Str → Option Bool} {G : Str → Option Dt} {k : Nat} {f : Addr} {fd : FuncData} {ps : List Str}
theorem hot_suite {a : Addr} {oe : Obj} {cls : Value} {pn : List (Addr × Obj)} (z : L2N.Zn cls none oe) (fl : ∃ fs, oe.data = .fields fs) : L2H.Hot1 (X.suite a ((a, oe) :: pn)).A (a, oe) := by
  obtain ⟨fs, h⟩ := fl
  exact ⟨rfl, fs, h, z.2.2 fs h⟩
theorem JS.tryWhich (i : Nat) (hs : X.stack = X.env :: X.outer) (hf : X.env.frame = some X.env.locals) (hN : X.N.Nodup) (hc : Names X x c) (tk : L2N.Takes X W)
    (hsub : ∀ s b (D : Addr), subs s = some b → X.mg s = some (.ref D) → PySem.W.exmOne X.K (.ref D) c = some b)
    (hb : ∀ (W1 : WX) (pn : List (Addr × Obj)) (xe : Value → Shared → Prop), L2N.Takes (X.tr pn xe) W1 → PassesOwn (model X.prog X.w) X.A X.env xe → JB (X.tr pn xe) W1 body mb)
    (Fp : FnP X.prog X.w X.K X.mg X.base (L2N.CX X.prog X.w) k f fd ps (spX X.K X.mg G)) (hr : Room k X.A) (hm : X.mg g = some (.ref f)) (hk : PySem.W.keepIn X.K (.ref f) = true) (bnd : Binds X.K fd ps [])
    (hi : X.N[i]? = some n := by rfl) (hln : X.env.kindOf n = some .local := by rfl) (hg : Gl X g := by rfl) (hv : Vis X.env.scope n := by first | exact Or.inl rfl | exact Or.inr (Or.inl rfl) | exact Or.inr (Or.inr rfl)) (hd : (n == ("__debug__" : Str)) = false := by decide) (hcd : (n == ("__classdict__" : Str)) = false := by decide)
    (hdb : (g == ("__debug__" : Str)) = false := by decide) (hst : starEach [.Name n p1] X.env = (false, eval (.Name n p1) X.env) :: starEach [] X.env := by rfl) (hpl : (backTo cp (starEach [] X.env)).any (·.1) = false := by rfl) :
    JS X W (.Try body [.ExceptHandler (some (.Name x np)) (some n) [.Return (some (.Call (.Name g q) [.Name n p1] [] cp)) rp] pos'] [] [] pos) (mTry i subs mb (mpW G)) := by
  refine JS.tryAs (ms := fun a e => mRet (mWhich i a (G e.cls))) i hs hf hN hc tk hsub hb (fun a oe D pn e hsb he z fl => ?_) (fun a e ρ hno => ?_) hi hln
  · refine JB.one (JS.ret ?_)
    exact JE.callX (X := X.suite a ((a, oe) :: pn)) (e := e.cls) i Fp ⟨hr.dp, hr.un⟩ (hot_suite z fl) List.mem_cons_self hm hk bnd he z fl hg hi hv hd hcd hdb hst hpl
  · have hl : i < ρ.length := (List.getElem?_eq_some_iff.mp hno).1
    have h1 : (ρ.set i (Sl.raw a))[i]? = some (Sl.raw a) := by rw [List.getElem?_set_self hl]
    refine ⟨?_, fun d ρ' h => ?_⟩
    · show (mWhich i a (G e.cls) (ρ.set i (Sl.raw a))).out _ = _
      unfold mWhich mpW
      rw [h1]
      show (if a = a then _ else _ : R).out _ = _
      rw [if_pos rfl]
      cases G e.cls with
      | none => rfl
      | some d => rfl
    · unfold mpW at h
      cases hG : G e.cls with
      | none => rw [hG] at h; cases h
      | some d' => rw [hG] at h; cases h; exact hno
end
end NS

set_option Elab.async false
set_option linter.all false
set_option autoImplicit false
set_option maxRecDepth 100000
set_option maxHeartbeats 4000000
/-! facts of the own exceptions' classes, for isinstance in a suite's def. -/
namespace NS
open PySem PySem.Spec PyProof.Rows L2
/-- what the class D, by name e, says to isinstance with the classes Ts -/
structure ExD (K : PySem.W.Frag) (mg : Str → Option Value) (Ts : List Str) (e : Str) (D : Addr) : Prop where
  cls : ExcC K D
  own : ∀ T ∈ Ts, ∃ C : Addr, mg T = some (.ref C) ∧ PySem.W.kitOne K (.ref D) (.ref C) = some (decide (e = T))
  ve : PySem.W.kitOne K (.ref D) (.type "ValueError") = some true
def exB (K : PySem.W.Frag) (e : Str) : Bool :=
  (He.eqO (PySem.W.findIn K (.ref (He.ga K e)) "__getattribute__") (some (some (.builtin "BaseException.__getattribute__"))) && (He.eqO (PySem.W.findIn K (.ref (He.ga K e)) "__getattr__") (some none) &&
  (decide (PySem.W.subIn K (.ref (He.ga K e)) (.type "BaseException") = some true) && (PySem.W.hasDictIn K (He.ga K e) &&
  (He.eqO (PySem.W.findIn K (.ref (He.ga K e)) "__class__") (some (some (.builtin "object.__class__"))) && (He.eqO (PySem.W.specialIn K (.builtin "object.__class__") "__get__") (some (some (.builtin "getset_descriptor.__get__"))) &&
  (decide (PySem.W.takesIn K (.builtin "object.__class__") = some true) && decide (PySem.W.mroIn K (He.ga K e) (.type "object") = some true))))))))
open He (ba) in
theorem exB_ok {K : PySem.W.Frag} {e : Str} (h : exB K e = true) : ExcC K (He.ga K e) := by
  obtain ⟨h1, h⟩ := ba h
  obtain ⟨h2, h⟩ := ba h
  obtain ⟨h3, h⟩ := ba h
  obtain ⟨h4, h⟩ := ba h
  obtain ⟨h5, h⟩ := ba h
  obtain ⟨h6, h⟩ := ba h
  obtain ⟨h7, h8⟩ := ba h
  exact ⟨He.eqO_ok h1, He.eqO_ok h2, of_decide_eq_true h3, h4, He.eqO_ok h5, He.eqO_ok h6, of_decide_eq_true h7, of_decide_eq_true h8⟩
/-- of the classes Es: what they say to isinstance with Ts, that they are caught as c -/
def exAll (Es Ts : List Str) (c : Str) (K : PySem.W.Frag) : Bool := Es.all fun e => exB K e && (Ts.all (fun T => decide (PySem.W.kitOne K (.ref (He.ga K e)) (.ref (He.ga K T)) = some (decide (e = T)))) && (decide (PySem.W.kitOne K (.ref (He.ga K e)) (.type "ValueError") = some true) && decide (PySem.W.exmOne K (.ref (He.ga K e)) (.ref (He.ga K c)) = some true)))
structure ExF (K : PySem.W.Frag) (mg : Str → Option Value) (Es Ts : List Str) (c : Str) : Prop where
  at_ : ∀ e ∈ Es, ∃ D : Addr, mg e = some (.ref D) ∧ ExD K mg Ts e D
  base : ∃ C : Addr, mg c = some (.ref C) ∧ ∀ e ∈ Es, ∀ D : Addr, mg e = some (.ref D) → PySem.W.exmOne K (.ref D) (.ref C) = some true
open He (ba) in
theorem exF_of {K : PySem.W.Frag} {mg : Str → Option Value} {Es Ts : List Str} {c : Str} (h : exAll Es Ts c K = true) (gE : ∀ e ∈ Es, mg e = some (.ref (He.ga K e))) (gT : ∀ T ∈ Ts, mg T = some (.ref (He.ga K T))) (gc : mg c = some (.ref (He.ga K c))) : ExF K mg Es Ts c := by
  refine ⟨fun e he => ⟨_, gE e he, ?_⟩, _, gc, fun e he D hD => ?_⟩
  · obtain ⟨h1, h2⟩ := ba (List.all_eq_true.mp h e he)
    obtain ⟨h2, h3⟩ := ba h2
    obtain ⟨h3, h4⟩ := ba h3
    exact ⟨exB_ok h1, fun T hT => ⟨_, gT T hT, of_decide_eq_true (List.all_eq_true.mp h2 T hT)⟩, of_decide_eq_true h3⟩
  · obtain ⟨h1, h2⟩ := ba (List.all_eq_true.mp h e he)
    obtain ⟨h2, h3⟩ := ba h2
    obtain ⟨h3, h4⟩ := ba h3
    rw [gE e he] at hD
    cases hD
    exact of_decide_eq_true h4
/-- which of the classes Es: its place in Ts, as a refusal -/
def whichG (Es : List Str) (f : Str → Option Dt) : Str → Option Dt := fun e => if e ∈ Es then f e else none
theorem whichG_mem {Es : List Str} {f : Str → Option Dt} {e : Str} {d : Dt} (h : whichG Es f e = some d) : e ∈ Es ∧ f e = some d := by
  unfold whichG at h
  split at h
  · rename_i c; exact ⟨c, h⟩
  · cases h
def subsE (Es : List Str) : Str → Option Bool := fun s => if s ∈ Es then some true else none
theorem subsE_mem {Es : List Str} {s : Str} {b : Bool} (h : subsE Es s = some b) : s ∈ Es ∧ b = true := by
  unfold subsE at h
  split at h
  · rename_i c; cases h; exact ⟨c, rfl⟩
  · cases h
/-- a def of one handled exception, by name -/
def CalP (P : Program) (w : World) (K : PySem.W.Frag) (mg : Str → Option Value) (base : Heap) (k : Nat) (x : Str) (ps : List Str) (G : Str → Option Dt) : Prop :=
  ∃ (f : Addr) (fd : FuncData), FnP P w K mg base (L2N.CX P w) k f fd ps (spX K mg G) ∧ mg x = some (.ref f) ∧ PySem.W.keepIn K (.ref f) = true ∧ Binds K fd ps []
section
variable {X : Cx} {W : WX} {pos : Pos}
theorem JE.isEx (i : Nat) {x T e : Str} {Ts : List Str} {p p1 p2 : Pos} {p0 : Addr × Obj} {D : Addr} (hp : p0 ∈ X.pn) (E : ExD X.K X.mg Ts e D) (z : L2N.Zn (.ref D) none p0.2) (fl : ∃ vs, p0.2.data = .fields vs) (hm : X.mg "isinstance" = none) (hT : T ∈ Ts := by decide)
    (hg : Gl X "isinstance" := by rfl) (hgT : Gl X T := by rfl) (hdT : (T == ("__debug__" : Str)) = false := by decide) (hN : X.N[i]? = some x := by rfl) (hv : Vis X.env.scope x := by first | exact Or.inl rfl | exact Or.inr (Or.inl rfl) | exact Or.inr (Or.inr rfl)) (hd : (x == ("__debug__" : Str)) = false := by decide) (hcd : (x == ("__classdict__" : Str)) = false := by decide)
    (hs1 : starEach [.Name x p1, .Name T p2] X.env = (false, eval (.Name x p1) X.env) :: starEach [.Name T p2] X.env := by rfl) (hs2 : starEach [.Name T p2] X.env = (false, eval (.Name T p2) X.env) :: starEach [] X.env := by rfl) (hpl : (backTo pos (starEach [.Name T p2] X.env)).any (·.1) = false := by rfl) :
    JE X W (.Call (.Name "isinstance" p) [.Name x p1, .Name T p2] [] pos) (mIsE i p0.1 (decide (e = T))) := by
  obtain ⟨C, h1, h2⟩ := E.own T hT
  exact JE.isE i (oe := p0.2) (by exact hp) E.cls z.zc fl hm (.own h1) h2 hg hgT hdT hN hv hd hcd hs1 hs2 hpl
theorem JE.isExV (i : Nat) {x e : Str} {Ts : List Str} {p p1 p2 : Pos} {p0 : Addr × Obj} {D : Addr} (hp : p0 ∈ X.pn) (E : ExD X.K X.mg Ts e D) (z : L2N.Zn (.ref D) none p0.2) (fl : ∃ vs, p0.2.data = .fields vs) (hm : X.mg "isinstance" = none) (hmV : X.mg "ValueError" = none)
    (hg : Gl X "isinstance" := by rfl) (hgT : Gl X "ValueError" := by rfl) (hN : X.N[i]? = some x := by rfl) (hv : Vis X.env.scope x := by first | exact Or.inl rfl | exact Or.inr (Or.inl rfl) | exact Or.inr (Or.inr rfl)) (hd : (x == ("__debug__" : Str)) = false := by decide) (hcd : (x == ("__classdict__" : Str)) = false := by decide)
    (hs1 : starEach [.Name x p1, .Name "ValueError" p2] X.env = (false, eval (.Name x p1) X.env) :: starEach [.Name "ValueError" p2] X.env := by rfl) (hs2 : starEach [.Name "ValueError" p2] X.env = (false, eval (.Name "ValueError" p2) X.env) :: starEach [] X.env := by rfl) (hpl : (backTo pos (starEach [.Name "ValueError" p2] X.env)).any (·.1) = false := by rfl) :
    JE X W (.Call (.Name "isinstance" p) [.Name x p1, .Name "ValueError" p2] [] pos) (mIsE i p0.1 true) :=
  JE.isE i (oe := p0.2) (by exact hp) E.cls z.zc fl hm (.blt hmV (by decide +kernel) (by decide)) E.ve hg hgT (by decide) hN hv hd hcd hs1 hs2 hpl
variable {x n g : Str} {body : List Stmt} {np pos' p1 q cp rp : Pos} {mb : Ev → Out} {Es Ts : List Str} {G : Str → Option Dt} {k j : Nat} {ps : List Str}
theorem JS.tryWhichC (i : Nat) (hs : X.stack = X.env :: X.outer) (hf : X.env.frame = some X.env.locals) (hN : X.N.Nodup) (ef : ExF X.K X.mg Es Ts x) (tk : L2N.Takes X W)
    (hb : ∀ (W1 : WX) (pn : List (Addr × Obj)) (xe : Value → Shared → Prop), L2N.Takes (X.tr pn xe) W1 → PassesOwn (model X.prog X.w) X.A X.env xe → JB (X.tr pn xe) W1 body mb)
    (Fp : CalP X.prog X.w X.K X.mg X.base j g ps G) (hr : Room k X.A) (hj : j ≤ k := by decide)
    (hi : X.N[i]? = some n := by rfl) (hln : X.env.kindOf n = some .local := by rfl) (hgx : Gl X x := by rfl) (hdx : (x == ("__debug__" : Str)) = false := by decide) (hg : Gl X g := by rfl) (hv : Vis X.env.scope n := by first | exact Or.inl rfl | exact Or.inr (Or.inl rfl) | exact Or.inr (Or.inr rfl)) (hd : (n == ("__debug__" : Str)) = false := by decide) (hcd : (n == ("__classdict__" : Str)) = false := by decide)
    (hdb : (g == ("__debug__" : Str)) = false := by decide) (hst : starEach [.Name n p1] X.env = (false, eval (.Name n p1) X.env) :: starEach [] X.env := by rfl) (hpl : (backTo cp (starEach [] X.env)).any (·.1) = false := by rfl) :
    JS X W (.Try body [.ExceptHandler (some (.Name x np)) (some n) [.Return (some (.Call (.Name g q) [.Name n p1] [] cp)) rp] pos'] [] [] pos) (mTry i (subsE Es) mb (mpW G)) := by
  obtain ⟨C, hC, hE⟩ := ef.base
  obtain ⟨f, fd, F, hm, hk, hbd⟩ := Fp
  refine JS.tryWhich i hs hf hN ⟨hgx, hdx, .inl hC⟩ tk (fun s b D hsb hD => ?_) hb F (hr.mono hj) hm hk hbd hi hln hg hv hd hcd hdb hst hpl
  obtain ⟨h1, rfl⟩ := subsE_mem hsb
  exact hE s h1 D hD
end
theorem which_meth (i : Nat) (sem : List Dt → List Dt → Option Dt) (mr : Ev → RA) (ρ : Ev) : mMeth i sem mr ρ = match lstAt ρ i with
  | none => .stuck
  | some _ => (mr ρ).bind fun ds ρ1 => match lstAt ρ1 i with
    | none => .stuck
    | some xs => match sem xs ds with
      | some z => if isScal z = true then .ok z ρ1 else .stuck
      | none => .stuck := rfl
end NS

set_option Elab.async false
set_option linter.all false
set_option autoImplicit false
set_option maxRecDepth 100000
set_option maxHeartbeats 4000000
/-! texts: methods, cuts, f-strings. -/
namespace NS
open PySem PySem.Spec PyProof.Rows L2
theorem lt_u {n : Nat} (h : n + 64 < cLine) : n + 1 < cLine := by omega
def strsD : List Dt → Option (List Str)
  | [] => some []
  | .str x :: ds => (strsD ds).map (x :: ·)
  | _ => none
theorem strs_of {K : PySem.W.Frag} {F : Fz} {H : Hp} : ∀ {ds : List Dt} {vs : List V} {xs : List Str}, RpAll K F H vs ds → strsD ds = some xs → vs = xs.map V.str
  | [], _, _, .nil, h => by cases h; rfl
  | d :: ds, _, xs, .cons r t, h => by
    cases d with
    | str b =>
      have h : (strsD ds).map (b :: ·) = some xs := h
      cases hb : strsD ds with
      | none => rw [hb] at h; cases h
      | some cs =>
        rw [hb] at h; cases h
        cases r
        rw [strs_of t hb]
        rfl
    | _ => cases h
theorem rp_strs {K : PySem.W.Frag} {F : Fz} {H : Hp} : ∀ xs : List Str, RpAll K F H (xs.map V.str) (xs.map PyData.str)
  | [] => .nil
  | x :: xs => .cons (.str x) (rp_strs xs)
theorem strsD_map (xs : List Str) : strsD (xs.map PyData.str) = some xs := by
  induction xs with
  | nil => rfl
  | cons x xs ih => rw [List.map_cons, strsD, ih]; rfl
/-- what a text's method gives of one thing more -/
def StrS (K : PySem.W.Frag) (r : V → List V → Hp → VK → Prop) (sem : Str → Dt → Option Dt) : Prop :=
  ∀ (F : Fz) (H : Hp) (x : Str) (y : V) (d z : Dt) (Q : VK), Rp K F H y d → sem x d = some z → (∀ v F' H', Grow F H F' H' → Rp K F' H' v z → Q v H') → r (.str x) [y] H Q
def mSM (sem : Str → Dt → Option Dt) (ma mb : Ev → R) : Ev → R := fun ρ => (ma ρ).bind fun d ρ1 => match d with
  | .str x => (mb ρ1).bind fun e ρ2 => R.ofO (sem x e) ρ2
  | _ => .stuck
section
variable {X : Cx} {W : WX} {a b : Expr} {ma mb : Ev → R} {pos : Pos}
theorem JE.sm {id : String} {name : Str} {apos : Pos} {r : V → List V → Hp → VK → Prop} {sem : Str → Dt → Option Dt} (slot : Slot "str" name id) (ty : typeOf (.builtin id) = pure (.type "method_descriptor")) (rule : MtR X id r) (hs : StrS X.K r sem) (ha : JE X W a ma) (hb : JE X W b mb)
    (hst : starEach [b] X.env = [(false, eval b X.env)] := by rfl) (hbase : attributeBase a name X.env (eval a X.env) = eval a X.env := by rfl) (hline : (apos.endLine == pos.line) = true := by rfl) :
    JE X W (.Call (.Attribute a name apos) [b] [] pos) (mSM sem ma mb) := by
  refine .of (pe_m1 slot ty rule ha hb hst hbase hline) fun C α F ρ σ H Q Rr p => ?_
  refine TE8.bind Rr p fun d ρ1 x F1 H1 e1 R1 rx p1 => ?_
  cases d with
  | str s =>
    cases rx
    refine ⟨⟨s, rfl⟩, ?_⟩
    refine TE8.bind R1 p1 fun e ρ2 y F2 H2 e2 R2 ry p2 => ?_
    cases hz : sem s e with
    | none => rw [hz] at p2; exact p2.elim
    | some z =>
      rw [hz] at p2
      exact hs F2 H2 s y e z Q ry hz fun v F' H' g q => p2 v F' H' g.ext (g.rel R2) q
  | _ => exact p1.elim
end
def splitF (a : Str) (d : Dt) : Option Dt := match d with
  | .str b => if (b.length == 0) = false ∧ a.length ≤ 10000 then some (.list ((Txt.split a b).map .str)) else none
  | _ => none
def partF (a : Str) (d : Dt) : Option Dt := match d with
  | .str b => if (b.length == 0) = false ∧ a.length ≤ 10000 then some (.tuple [.str (Txt.partition a b).1, .str (Txt.partition a b).2.1, .str (Txt.partition a b).2.2]) else none
  | _ => none
def joinF (a : Str) (d : Dt) : Option Dt := match itemsD d with
  | some ds => match strsD ds with
    | some xs => if (xs.map (·.length)).sum + xs.length * a.length ≤ 10000 then some (.str (Txt.join a xs)) else none
    | none => none
  | none => none
def startsF (a : Str) (d : Dt) : Option Dt := match d with
  | .str b => some (.bool (Txt.startswith a b))
  | _ => none
def findF (a : Str) (d : Dt) : Option Dt := match d with
  | .str b => some (.int (Txt.find a b))
  | _ => none
section
variable {K : PySem.W.Frag}
theorem grow_newStrs {F : Fz} {H : Hp} {Q : VK} {ys : List Str} (q : ∀ v F' H', Grow F H F' H' → Rp K F' H' v (.list (ys.map .str)) → Q v H') : rNewStrs ys H Q := fun p hp =>
  q _ _ _ (.laidF (o := .lst (ys.map V.str)) hp) (.lst (.inl ⟨.inr rfl, .inl upd_same⟩) (rp_strs ys))
theorem splitS : StrS K (fun x xs H Q => ∃ a b, x = .str a ∧ xs = [.str b] ∧ (b.length == 0) = false ∧ a.length + 2 ≤ sizeLine ∧ rNewStrs (Txt.split a b) H Q) splitF := by
  intro F H x y d z Q ry hz q
  cases d with
  | str b =>
    cases ry
    have hz : (if (b.length == 0) = false ∧ x.length ≤ 10000 then some (PyData.list ((Txt.split x b).map .str)) else none) = some z := hz
    split at hz
    · rename_i c
      cases hz
      exact ⟨x, b, rfl, rfl, c.1, Nat.le_trans (Nat.add_le_add_right c.2 2) (by decide), grow_newStrs q⟩
    · cases hz
  | _ => cases hz
theorem partS : StrS K (fun x xs H Q => ∃ a b, x = .str a ∧ xs = [.str b] ∧ (b.length == 0) = false ∧ a.length ≤ sizeLine ∧ ∀ p, H p = none → Q (.ref p) (upd H p (.tup [.str (Txt.partition a b).1, .str (Txt.partition a b).2.1, .str (Txt.partition a b).2.2]))) partF := by
  intro F H x y d z Q ry hz q
  cases d with
  | str b =>
    cases ry
    have hz : (if (b.length == 0) = false ∧ x.length ≤ 10000 then some (PyData.tuple [.str (Txt.partition x b).1, .str (Txt.partition x b).2.1, .str (Txt.partition x b).2.2]) else none) = some z := hz
    split at hz
    · rename_i c
      cases hz
      exact ⟨x, b, rfl, rfl, c.1, size_of c.2, fun p hp => q _ F _ (.laid hp) (.tup (.of upd_same) (.cons (.str _) (.cons (.str _) (.cons (.str _) .nil))))⟩
    · cases hz
  | _ => cases hz
theorem joinS : StrS K (fun x xs H Q => ∃ a p, ∃ ys : List Str, x = .str a ∧ xs = [.ref p] ∧ (SqL K H p (ys.map V.str) ∨ SqT K H p (ys.map V.str)) ∧ (ys.map (·.length)).sum + ys.length * a.length ≤ 16777216 ∧ Q (.str (Txt.join a ys)) H) joinF := by
  intro F H x y d z Q ry hz q
  unfold joinF at hz
  cases hi : itemsD d with
  | none => rw [hi] at hz; cases hz
  | some ds =>
    rw [hi] at hz
    dsimp only at hz
    cases hs : strsD ds with
    | none => rw [hs] at hz; cases hz
    | some xs =>
      rw [hs] at hz
      dsimp only at hz
      split at hz
      · rename_i c
        cases hz
        cases d with
        | list es =>
          cases hi
          cases ry with
          | lst h r => exact ⟨x, _, xs, rfl, rfl, .inl (strs_of r hs ▸ h.sq), by omega, q _ _ _ .refl (.str _)⟩
        | tuple es =>
          cases hi
          cases ry with
          | tup h r => exact ⟨x, _, xs, rfl, rfl, .inr (strs_of r hs ▸ h), by omega, q _ _ _ .refl (.str _)⟩
        | _ => cases hi
      · cases hz
theorem startsS : StrS K (fun x xs H Q => ∃ a b, x = .str a ∧ xs = [.str b] ∧ Q (.bl (Txt.startswith a b)) H) startsF := by
  intro F H x y d z Q ry hz q
  cases d with
  | str b => cases ry; cases hz; exact ⟨x, b, rfl, rfl, q _ _ _ .refl (.bl _)⟩
  | _ => cases hz
theorem findS : StrS K (fun x xs H Q => ∃ a b, x = .str a ∧ xs = [.str b] ∧ Q (.int (Txt.find a b)) H) findF := by
  intro F H x y d z Q ry hz q
  cases d with
  | str b => cases ry; cases hz; exact ⟨x, b, rfl, rfl, q _ _ _ .refl (.int _)⟩
  | _ => cases hz
def strIntD : List Dt → Option Dt
  | [.int i] => if i.natAbs < 1000000 then some (.str (toString i)) else none
  | _ => none
theorem log_small {n : Nat} (h : n < 1000000) : n.log2 < 1920 := by
  by_cases h0 : n = 0
  · subst h0; decide
  · exact Nat.lt_of_lt_of_le ((Nat.log2_lt h0).mpr (show n < 2 ^ 20 by omega)) (by decide)
theorem strIntS : CallS K (fun xs H Q => ∃ i, xs = [.int i] ∧ i.natAbs.log2 < 1920 ∧ Q (.str (toString i)) H) strIntD := by
  intro F H xs ds z Q rs hz q
  cases ds with
  | nil => cases hz
  | cons d t =>
    cases t with
    | cons d2 t2 => cases d <;> cases hz
    | nil =>
      cases d with
      | int i =>
        have hz : (if i.natAbs < 1000000 then some (PyData.str (toString i)) else none) = some z := hz
        split at hz
        · rename_i c
          cases hz
          obtain ⟨x, rfl, r⟩ := one_of rs
          cases r
          exact ⟨i, rfl, log_small c, q _ _ _ .refl (.str _)⟩
        · cases hz
      | _ => cases hz
end
/-- f'..{e}', e an int -/
def fmtD (pre : Str) (d : Dt) : Option Dt := match d with
  | .int i => if i.natAbs < 1000000 ∧ (Str.empty ++ pre ++ (toString i : Str)).length ≤ 10000 then some (.str (Str.empty ++ pre ++ toString i)) else none
  | _ => none
section
variable {X : Cx} {W : WX} {a b : Expr} {ma mb : Ev → R} {pos : Pos}
theorem JE.fstr {pre : Str} {j : Nat} {p1 p2 : Pos} (ha : JE X W a ma) (hpre : (Str.empty ++ pre).length ≤ 10000 := by decide) : JE X W (.JoinedStr [.Constant (.str pre) j p1, .FormattedValue a (-1) none p2] pos) (mUn (fmtD pre) ma) := by
  refine .of (pe_joined (.cons pe_str (.cons (pe_fmt ha) .nil))) fun C α F ρ σ H Q Rr p => ?_
  refine ⟨pre, rfl, size_of hpre, ?_⟩
  refine TE8.bind Rr p fun d ρ1 x F1 H1 e1 R1 rx p1 => ?_
  cases hz : fmtD pre d with
  | none => rw [hz] at p1; exact p1.elim
  | some z =>
    rw [hz] at p1
    cases d with
    | int i =>
      have hz : (if i.natAbs < 1000000 ∧ (Str.empty ++ pre ++ (toString i : Str)).length ≤ 10000 then some (PyData.str (Str.empty ++ pre ++ toString i)) else none) = some z := hz
      split at hz
      · rename_i c
        cases hz
        cases rx
        exact .inr ⟨i, rfl, log_small c.1, toString i, rfl, size_of c.2, p1 _ F1 H1 (.refl _ _) R1 (.str _)⟩
      · cases hz
    | _ => cases hz
/-- x.m(e), x a list that is never written -/
def mDM (sem : List Dt → List Dt → Option Dt) (ma : Ev → R) (mr : Ev → RA) : Ev → R := fun ρ => (ma ρ).bind fun d ρ1 => match d with
  | .list xs => (mr ρ1).bind fun ds ρ2 => R.ofO (sem xs ds) ρ2
  | _ => .stuck
theorem JE.dm {es : List Expr} {mr : Ev → RA} {name : Str} {id : String} {r : V → List V → Hp → VK → Prop} {sem : List Dt → List Dt → Option Dt} {p2 : Pos} (slot : Slot "list" name id) (hty : typeOf (.builtin id) = pure (.type "method_descriptor")) (hm : MtR X id r) (hf : MethS X.K r sem) (ho : JE X W b mb) (ha : JA X W (a :: es) mr)
    (hbase : attributeBase b name X.env (eval b X.env) = eval b X.env := by rfl)
    (hfew : ((backTo pos (starEach (a :: es) X.env)).all (fun x => !x.1) && (backToKw pos (keywordEach [] X.env)).all (fun x => x.1.isSome) && decide ((a :: es).length + ([] : List Keyword).length + (if ([] : List Keyword).isEmpty then 0 else 1) < 30)) = true := by rfl)
    (hline : (p2.endLine == pos.line) = true := by rfl) (hst : starEach (a :: es) X.env = (false, eval a X.env) :: starEach es X.env := by rfl) (hplain : (backTo pos (starEach es X.env)).any (·.1) = false := by rfl) :
    JE X W (.Call (.Attribute b name p2) (a :: es) [] pos) (mDM sem mb mr) := by
  refine .of (pe_bm PySem.F.plainAttrs_list slot hty hm ho ha hbase hfew hline hst hplain) fun C α F ρ σ H Q Rr p => ?_
  refine TE8.bind Rr p fun d ρ1 x F1 H1 e1 R1 rx p1 => ?_
  cases d with
  | list xs =>
    cases rx with
    | @lst l us _ hl hr =>
      refine ⟨.inl ⟨rfl, us, hl.sq⟩, ?_⟩
      refine TA8.bind R1 p1 fun ds ρ2 args F2 H2 l e2 R2 rs p2 => ?_
      cases hz : sem xs ds with
      | none => rw [hz] at p2; exact p2.elim
      | some z =>
        rw [hz] at p2
        exact hf F2 H2 _ args xs ds z Q ((Rp.lst hl hr).mono e2) rs hz fun v F' H' g q => p2 v F' H' g.ext (g.rel R2) q
  | _ => exact p1.elim
theorem JE.globS {x z : Str} (h : ∃ t, X.mg x = some (.str z t)) (hg : Gl X x := by rfl) (hdb : (x == ("__debug__" : Str)) = false := by decide) : JE X W (.Name x pos) (mC (.str z)) := by
  obtain ⟨t, h⟩ := h
  exact JE.glob (v := .str z) (fun _ _ => .str z) h ⟨t, rfl⟩ hg hdb
/-! ### {..}[k] of texts, [..] * bool -/
def litD (kvs : List (Str × Str)) (d : Dt) : Option Dt := match d with
  | .str k => match valV (mergeK [] (kvs.map fun p => ((Sum.inr p.1 : Key), V.str p.2))) (.inr k) with
    | some (.str v) => some (.str v)
    | _ => none
  | _ => none
theorem tPairs_lit {σ : L2.St} {H : Hp} : ∀ {kvs : List (Str × Str)} {Q : List (V × V) → Hp → Prop}, Q (kvs.map fun p => (V.str p.1, V.str p.2)) H → tPairs (kvs.map fun p => (tC (.str p.1), tC (.str p.2))) σ H Q
  | [], _, h => h
  | p :: kvs, Q, h => by
    show tPairs (kvs.map fun p => (tC (.str p.1), tC (.str p.2))) σ H fun ps H3 => Q ((V.str p.1, V.str p.2) :: ps) H3
    exact tPairs_lit h
theorem JE.dlit {keys : List (Option Expr)} {values : List Expr} (kvs : List (Str × Str)) {pos2 : Pos} (hu : X.A.units + 1 < cLine) (hp : PPs X pos keys values (kvs.map fun p => (tC (.str p.1), tC (.str p.2)))) (ha : JE X W a ma) (hall : keys.all (·.isSome) = true := by rfl) (hl : keys.length = values.length := by rfl) (h0 : keys ≠ [] := by simp)
    (h15 : keys.length ≤ 15 := by decide) (hk : kvs.length ≤ 15 := by decide) (hs : NoSl a := by exact fun _ _ => rfl) : JE X W (.Subscript (.Dict keys values pos) a pos2) (mUn (litD kvs) ma) := by
  refine .of (pe_dget hu (pe_disp hp hall hl h0 h15) ha hs) fun C α F ρ σ H Q Rr p => ?_
  intro l hn
  refine tPairs_lit ?_
  refine ⟨upd_same, kvs.map fun p => ((Sum.inr p.1 : Key), V.str p.2), by rw [List.map_map]; rfl, by rw [List.length_map]; exact hk, ?_⟩
  rw [upd_upd]
  have R1 := Rr.laidF (o := .dK (mergeK [] (kvs.map fun p => ((Sum.inr p.1 : Key), V.str p.2)))) hn
  refine ⟨C, α, _, ρ, R1, ?_⟩
  have p := PostE.ext (ext_laidF (o := .dK (mergeK [] (kvs.map fun p => ((Sum.inr p.1 : Key), V.str p.2)))) hn) p
  unfold mUn at p
  cases h : ma ρ with
  | exc x ρ1 => rw [h] at p; exact p
  | stuck => rw [h] at p; exact p.elim
  | ok d ρ1 =>
    rw [h] at p
    intro v F2 H2 e2 R2 rv
    have p : PostE X.K X.mg W C α _ σ _ Q (R.ofO (litD kvs d) ρ1) := p
    have there := e2.kp l _ upd_same (.inl (.inr rfl))
    cases d with
    | str k =>
      cases rv
      unfold litD at p
      dsimp only at p
      cases hv : valV (mergeK [] (kvs.map fun p => ((Sum.inr p.1 : Key), V.str p.2))) (.inr k) with
      | none => rw [hv] at p; exact p.elim
      | some w =>
        rw [hv] at p
        cases w with
        | str z =>
          refine ⟨l, .str z, rfl, ?_, p _ F2 H2 e2 R2 (.str z)⟩
          have := DGet.k (k := Sum.inr k) there
          rwa [hv] at this
        | _ => exact p.elim
    | _ => exact p.elim
def repBF (xs : List Dt) (e : Dt) : Option (List Dt) := match e with
  | .bool k => some (if k = true then xs else [])
  | _ => none
theorem JL.repB {ml : Ev → RA} (ha : JL X W a ml) (hb : JE X W b mb) : JL X W (.BinOp a .Mult b pos) (mBinL repBF ml mb) := by
  refine .of (pe_op op_mul_lb ha hb) fun C α F ρ σ H Q Rr p => ?_
  refine ⟨C, α, F, ρ, Rr, ?_⟩
  unfold mBinL at p
  cases h : ml ρ with
  | exc x ρ1 => rw [h] at p; exact p
  | stuck => rw [h] at p; exact p
  | ok xs ρ1 =>
    rw [h] at p
    intro q vs F1 H1 e1 R1 hq rs n1 n2 n3 n4
    dsimp only at p
    refine ⟨C, α, insF F1 q, ρ1, R1.freeze (by rw [hq]; intro z; cases z) n2 n4, ?_⟩
    cases h2 : mb ρ1 with
    | exc x ρ2 => rw [h2] at p; exact fun c dd F' H' e' r' w => p c dd F' H' ((e1.trans ext_ins).trans e') r' w
    | stuck => rw [h2] at p; exact p
    | ok e ρ2 =>
      rw [h2] at p
      intro v F2 H2 e2 R2 rv
      dsimp only at p
      cases e with
      | bool k =>
        cases rv
        have p : _ := p
        have hq2 : H2 q = some (.lst vs) := e2.kp q _ hq (.inl (.inr rfl))
        refine ⟨q, vs, k, rfl, rfl, .of hq2, fun l hl => ?_⟩
        obtain ⟨m1, m2, m3, m4⟩ := fresh_own R2 hl
        have rr : RpAll X.K F2 (upd H2 l (.lst (if k = true then vs else []))) (if k = true then vs else []) (if k = true then xs else []) := by
          cases k with
          | true => exact ((rs.mono ext_ins).mono e2).mono (ext_laid hl)
          | false => exact .nil
        exact p l _ F2 _ (((e1.trans ext_ins).trans e2).trans (ext_laid hl)) (R2.laid hl) upd_same rr m1 m2 m3 m4
      | _ => exact p.elim
end
end NS

set_option Elab.async false
set_option linter.all false
set_option autoImplicit false
set_option maxRecDepth 100000
set_option maxHeartbeats 4000000
/-! text * int. -/
namespace NS
open PySem PySem.Spec PyProof.Rows L2
def timesS (a : Str) (k : Int) : Str := ⟨(List.replicate k.toNat a.cps).foldl (· ++ ·) #[]⟩
def rMulS : R2 := fun x y H Q => ∃ (a : Str) (k : Int), x = .str a ∧ y = .int k ∧ 2 ≤ k ∧ k ≤ 1000 ∧ 1 ≤ a.length ∧ a.length ≤ 10000 ∧ (timesS a k).length ≤ 10000 ∧ Q (.str (timesS a k)) H
theorem op_mul_s {X : Cx} : OpR X (binaryOp .Mult) rMulS := by
  intro pins s σ H x y v u Q I rx ry h
  obtain ⟨a, k, rfl, rfl, k1, k2, a1, a2, z, q⟩ := h
  obtain ⟨t, rfl⟩ := rx
  obtain ⟨t2, rfl⟩ := ry
  have hn : ¬ k < 1 := by omega
  have hz : (k == 1 || a.length == 0) = false := by
    have e1 : (k == 1) = false := by rw [beq_eq_false_iff_ne]; omega
    have e2 : (a.length == 0) = false := by rw [beq_eq_false_iff_ne]; omega
    rw [e1, e2]; rfl
  refine P.mul_str ?_ (fun _ _ => ?_) (fun _ _ => ?_) ?_
  · have e1 : decide (k < -(2 ^ 63 : Int)) = false := decide_eq_false (by omega)
    have e2 : decide (k ≥ 2 ^ 63) = false := decide_eq_false (by omega)
    rw [e1, e2]; rfl
  · have h1 : (2 ^ 63 - 1) / (1000 : Int) ≤ (2 ^ 63 - 1) / k := by
      refine Int.le_ediv_of_mul_le (by omega) ?_
      have : (2 ^ 63 - 1) / (1000 : Int) * k ≤ (2 ^ 63 - 1) / 1000 * 1000 := Int.mul_le_mul_of_nonneg_left k2 (by decide)
      have h2 : (2 ^ 63 - 1) / (1000 : Int) * 1000 ≤ 2 ^ 63 - 1 := by decide
      omega
    have h3 : (10000 : Int) ≤ (2 ^ 63 - 1) / 1000 := by decide
    omega
  · have : a.length * k.toNat ≤ 10000 * 1000 := Nat.mul_le_mul a2 (by omega)
    have h2 : a.length * k.toNat ≤ sizeLine := Nat.le_trans this (by decide)
    exact decide_eq_false (Nat.not_lt.mpr h2)
  · rw [if_neg hn, hz, if_neg Bool.false_ne_true]
    exact ⟨size_of z, .str _, H, I.tok _, ⟨_, rfl⟩, q⟩
def mulSD (d e : Dt) : Option Dt := match d, e with
  | .str a, .int k => if 2 ≤ k ∧ k ≤ 1000 ∧ 1 ≤ a.length ∧ a.length ≤ 10000 ∧ (timesS a k).length ≤ 10000 then some (.str (timesS a k)) else none
  | _, _ => none
theorem op_mulSS {K : PySem.W.Frag} : OpS K rMulS mulSD := by
  intro F H x y d e z Q rx ry hz q
  cases d with
  | str a =>
    cases e with
    | int k =>
      have hz : (if 2 ≤ k ∧ k ≤ 1000 ∧ 1 ≤ a.length ∧ a.length ≤ 10000 ∧ (timesS a k).length ≤ 10000 then some (PyData.str (timesS a k)) else none) = some z := hz
      split at hz
      · rename_i c
        cases hz; cases rx; cases ry
        exact ⟨a, k, rfl, rfl, c.1, c.2.1, c.2.2.1, c.2.2.2.1, c.2.2.2.2, q _ _ _ .refl (.str _)⟩
      · cases hz
    | _ => cases hz
  | _ => cases hz
end NS

set_option Elab.async false
set_option linter.all false
set_option autoImplicit false
set_option maxRecDepth 100000
set_option maxHeartbeats 4000000
namespace NS
open PySem PySem.Spec PyProof.Rows L2
def m_is_word : Ev → Out := (mSeq (mIfS (mOr (mNot (mUn (isiD "str") (mVar 0))) (mNot (mChain leD leD (mC (.int 1)) (mCall lenTD (mCons (mVar 0) mNil)) (mC (.int 6))))) (mRet (mC (.bool false))) mNext)
  (mRet (mCall allD (mCons (mLst (mComp [1] (mIter seqD (mVar 0)) (gN 1) (mC (.bool true)) (mChain strLeD strLeD (mC (.str "a")) (mVar 1) (mC (.str "z"))))) mNil))))
def F_is_word : List Sl → FR := fnSem 2 1 m_is_word
def m_is_rising : Ev → Out := (mRet (mCall allD (mCons (mLst (mComp [1] (mIterA rangeD (mCons (mOp subD (mCall lenTD (mCons (mVar 0) mNil)) (mC (.int 1))) mNil)) (gN 1) (mC (.bool true)) (mOp ltAD (mOp ixD (mVar 0) (mVar 1)) (mOp ixD (mVar 0) (mOp addD (mVar 1) (mC (.int 1))))))) mNil)))
def F_is_rising : List Sl → FR := fnSem 2 1 m_is_rising
def m_is_name : Ev → Out := (mSeq (mIfS (mOr (mNot (mUn (isiD "tuple") (mVar 0))) (mNot (mChain leD leD (mC (.int 1)) (mCall lenTD (mCons (mVar 0) mNil)) (mC (.int 30))))) (mRet (mC (.bool false))) mNext)
  (mRet (mCall allD (mCons (mLst (mComp [1] (mIter seqD (mVar 0)) (gN 1) (mC (.bool true)) (mCallN F_is_word [none] (mCons (mVar 1) mNil)))) mNil))))
def F_is_name : List Sl → FR := fnSem 2 1 m_is_name
def m_need_name : Ev → Out := (mIfS (mNot (mCallF F_is_name [none] (mCons (mVar 0) mNil))) (fun ρ => .ex ⟨"NoName", none⟩ ρ) mNext)
def F_need_name : List Sl → FR := fnSem 1 1 m_need_name
def m_is_number_below : Ev → Out := (mSeq (mIfS (mOr (mNot (mUn (isiD "int") (mVar 0))) (mUn (isiD "bool") (mVar 0))) (mRet (mC (.bool false))) mNext)
  (mRet (mChain leD ltD (mC (.int 0)) (mVar 0) (mVar 1))))
def F_is_number_below : List Sl → FR := fnSem 2 2 m_is_number_below
def m_has_kind : Ev → Out := (mRet (mAnd (mUn (isiD "tuple") (mVar 0)) (mAnd (mOp gtD (mCall lenTD (mCons (mVar 0) mNil)) (mC (.int 0))) (mUn (isiD "str") (mOp ixD (mVar 0) (mC (.int 0)))))))
def F_has_kind : List Sl → FR := fnSem 1 1 m_has_kind
def m_is_barred : Ev → Out := (mSeq (mIfS (mOr (mNot (mUn (isiD "tuple") (mVar 0))) (mNot (mChain leD leD (mC (.int 1)) (mCall lenTD (mCons (mVar 0) mNil)) (mC (.int 3))))) (mRet (mC (.bool false))) mNext)
  (mRet (mAnd (mCall allD (mCons (mLst (mComp [1] (mIter seqD (mVar 0)) (gN 1) (mC (.bool true)) (mCallN F_is_word [none] (mCons (mVar 1) mNil)))) mNil)) (mCallF F_is_rising [none] (mCons (mVar 0) mNil)))))
def F_is_barred : List Sl → FR := fnSem 2 1 m_is_barred
def m_is_test : Ev → Out := (mSeq (mIfS (mNot (mCallF F_has_kind [none] (mCons (mVar 0) mNil))) (mRet (mC (.bool false))) mNext)
  (mSeq (mSet 2 (mOp ixD (mVar 0) (mC (.int 0))))
  (mSeq (mIfS (mOp eqD (mVar 2) (mC (.str "any"))) (mRet (mOp eqD (mCall lenTD (mCons (mVar 0) mNil)) (mC (.int 1)))) mNext)
  (mSeq (mIfS (mOp neD (mCall lenTD (mCons (mVar 0) mNil)) (mC (.int 2))) (mRet (mC (.bool false))) mNext)
  (mSeq (mIfS (mOp eqD (mVar 2) (mC (.str "is"))) (mRet (mCallF F_is_word [none] (mCons (mOp ixD (mVar 0) (mC (.int 1))) mNil))) mNext)
  (mSeq (mIfS (mOp eqD (mVar 2) (mC (.str "none"))) (mRet (mCallF F_is_barred [none] (mCons (mOp ixD (mVar 0) (mC (.int 1))) mNil))) mNext)
  (mRet (mAnd (mOp eqD (mVar 2) (mC (.str "like"))) (mCallF F_is_number_below [none, none] (mCons (mOp ixD (mVar 0) (mC (.int 1))) (mCons (mVar 1) mNil)))))))))))
def F_is_test : List Sl → FR := fnSem 3 2 m_is_test
def m_is_side : Ev → Out := (mRet (mAnd (mUn (isiD "tuple") (mVar 0)) (mOp leD (mCall lenTD (mCons (mVar 0) mNil)) (mC (.int 2)))))
def F_is_side : List Sl → FR := fnSem 1 1 m_is_side
def m_is_looking : Ev → Out := (mSeq (mIfS (mOr (mNot (mCallF F_is_side [none] (mCons (mVar 0) mNil))) (mOr (mNot (mCallF F_is_side [none] (mCons (mVar 2) mNil))) (mNot (mUn (isiD "bool") (mVar 1))))) (mRet (mC (.bool false))) mNext)
  (mSeq (mIfS (mAnd (mNot (mVar 1)) (mOr (mOp gtD (mCall lenTD (mCons (mVar 2) mNil)) (mC (.int 0))) (mOp eqD (mCall lenTD (mCons (mVar 0) mNil)) (mC (.int 0))))) (mRet (mC (.bool false))) mNext)
  (mRet (mCall allD (mCons (mLst (mComp [3, 4] (mIterA enumD (mCons (mOp addD (mVar 0) (mVar 2)) mNil)) (gT [3, 4]) (mC (.bool true)) (mCallN F_is_test [none, none] (mCons (mVar 4) (mCons (mVar 3) mNil))))) mNil)))))
def F_is_looking : List Sl → FR := fnSem 5 3 m_is_looking
def m_is_item : Ev → Out := (mSeq (mIfS (mNot (mCallF F_has_kind [none] (mCons (mVar 0) mNil))) (mRet (mC (.bool false))) mNext)
  (mSeq (mSet 3 (mOp ixD (mVar 0) (mC (.int 0))))
  (mSeq (mIfS (mOp eqD (mVar 3) (mC (.str "rest"))) (mRet (mAnd (mOp eqD (mCall lenTD (mCons (mVar 0) mNil)) (mC (.int 1))) (mVar 2))) mNext)
  (mSeq (mIfS (mOp neD (mCall lenTD (mCons (mVar 0) mNil)) (mC (.int 2))) (mRet (mC (.bool false))) mNext)
  (mSeq (mIfS (mOp eqD (mVar 3) (mC (.str "word"))) (mRet (mCallF F_is_word [none] (mCons (mOp ixD (mVar 0) (mC (.int 1))) mNil))) mNext)
  (mRet (mAnd (mOp eqD (mVar 3) (mC (.str "field"))) (mCallF F_is_number_below [none, none] (mCons (mOp ixD (mVar 0) (mC (.int 1))) (mCons (mVar 1) mNil))))))))))
def F_is_item : List Sl → FR := fnSem 4 3 m_is_item
def m_is_making : Ev → Out := (mSeq (mIfS (mOr (mNot (mUn (isiD "tuple") (mVar 0))) (mNot (mChain leD leD (mC (.int 1)) (mCall lenTD (mCons (mVar 0) mNil)) (mC (.int 4))))) (mRet (mC (.bool false))) mNext)
  (mSeq (mIfS (mNot (mCall allD (mCons (mLst (mComp [4] (mIter seqD (mVar 0)) (gN 4) (mC (.bool true)) (mCallN F_is_item [none, none, none] (mCons (mVar 4) (mCons (mVar 1) (mCons (mVar 2) mNil)))))) mNil))) (mRet (mC (.bool false))) mNext)
  (mSeq (mSet 3 (mCall lenTD (mCons (mLst (mComp [4] (mIter seqD (mVar 0)) (gN 4) (mOp eqD (mOp ixD (mVar 4) (mC (.int 0))) (mC (.str "rest"))) (mVar 4))) mNil)))
  (mRet (mAnd (mOp leD (mVar 3) (mC (.int 1))) (mOp ltD (mVar 3) (mCall lenTD (mCons (mVar 0) mNil))))))))
def F_is_making : List Sl → FR := fnSem 5 3 m_is_making
def m_is_rule : Ev → Out := (mSeq (mIfS (mOr (mNot (mUn (isiD "tuple") (mVar 0))) (mOp neD (mCall lenTD (mCons (mVar 0) mNil)) (mC (.int 4)))) (mRet (mC (.bool false))) mNext)
  (mSeq (mAsgG (gT [1, 2, 3, 4]) (mVar 0))
  (mSeq (mIfS (mNot (mCallF F_is_looking [none, none, none] (mCons (mVar 1) (mCons (mVar 2) (mCons (mVar 3) mNil))))) (mRet (mC (.bool false))) mNext)
  (mRet (mCallF F_is_making [none, none, none] (mCons (mVar 4) (mCons (mOp addD (mCall lenTD (mCons (mVar 1) mNil)) (mCall lenTD (mCons (mVar 3) mNil))) (mCons (mVar 2) mNil))))))))
def F_is_rule : List Sl → FR := fnSem 5 1 m_is_rule
def m_is_script : Ev → Out := (mSeq (mIfS (mOr (mNot (mUn (isiD "tuple") (mVar 0))) (mOp gtD (mCall lenTD (mCons (mVar 0) mNil)) (mC (.int 4)))) (mRet (mC (.bool false))) mNext)
  (mRet (mCall allD (mCons (mLst (mComp [1] (mIter seqD (mVar 0)) (gN 1) (mC (.bool true)) (mCallN F_is_rule [none] (mCons (mVar 1) mNil)))) mNil))))
def F_is_script : List Sl → FR := fnSem 2 1 m_is_script
def m_need_rule : Ev → Out := (mIfS (mNot (mCallF F_is_rule [none] (mCons (mVar 0) mNil))) (fun ρ => .ex ⟨"NoRule", none⟩ ρ) mNext)
def F_need_rule : List Sl → FR := fnSem 1 1 m_need_rule
def m_need_script : Ev → Out := (mIfS (mNot (mCallF F_is_script [none] (mCons (mVar 0) mNil))) (fun ρ => .ex ⟨"NoScript", none⟩ ρ) mNext)
def F_need_script : List Sl → FR := fnSem 1 1 m_need_script
def m_passes : Ev → Out := (mSeq (mSet 3 (mOp ixD (mVar 0) (mC (.int 0))))
  (mSeq (mIfS (mOp eqD (mVar 3) (mC (.str "is"))) (mRet (mOp eqD (mVar 1) (mOp ixD (mVar 0) (mC (.int 1))))) mNext)
  (mSeq (mIfS (mOp eqD (mVar 3) (mC (.str "none"))) (mRet (mOp notInD (mVar 1) (mOp ixD (mVar 0) (mC (.int 1))))) mNext)
  (mSeq (mIfS (mOp eqD (mVar 3) (mC (.str "like"))) (mRet (mOp eqD (mVar 1) (mOp ixD (mVar 2) (mOp ixD (mVar 0) (mC (.int 1)))))) mNext)
  (mRet (mC (.bool true)))))))
def F_passes : List Sl → FR := fnSem 4 3 m_passes
def m_looked_at : Ev → Out := (mSeq (mAsgG (gT [2, 3, 4, 5]) (mVar 0))
  (mSeq (mSet 6 (mOp addD (mCall lenTD (mCons (mVar 2) mNil)) (mCall lenTD (mCons (mVar 4) mNil))))
  (mSeq (mIfS (mOr (mOp ltD (mCall lenTD (mCons (mVar 1) mNil)) (mVar 6)) (mAnd (mOp gtD (mCall lenTD (mCons (mVar 1) mNil)) (mVar 6)) (mNot (mVar 3)))) (mRet (mC .none)) mNext)
  (mRet (mOp addD (mSl (mVar 1) (mC .none) (mPart (mCall lenTD (mCons (mVar 2) mNil)))) (mSl (mVar 1) (mPart (mOp subD (mCall lenTD (mCons (mVar 1) mNil)) (mCall lenTD (mCons (mVar 4) mNil)))) (mC .none)))))))
def F_looked_at : List Sl → FR := fnSem 7 2 m_looked_at
def m_is_fitting : Ev → Out := (mSeq (mSet 2 (mCallF F_looked_at [none, none] (mCons (mVar 0) (mCons (mVar 1) mNil))))
  (mSeq (mIfS (mOp isN1 (mVar 2) (mC .none)) (mRet (mC (.bool false))) mNext)
  (mSeq (mSet 3 (mOp addD (mOp ixD (mVar 0) (mC (.int 0))) (mOp ixD (mVar 0) (mC (.int 2)))))
  (mRet (mCall allD (mCons (mLst (mComp [4, 5] (mIterA zipD (mCons (mVar 3) (mCons (mVar 2) mNil))) (gT [4, 5]) (mC (.bool true)) (mCallN F_passes [none, none, none] (mCons (mVar 4) (mCons (mVar 5) (mCons (mVar 2) mNil)))))) mNil))))))
def F_is_fitting : List Sl → FR := fnSem 6 2 m_is_fitting
def m_built : Ev → Out := (mSeq (mAsgG (gT [2, 3, 4, 5]) (mVar 0))
  (mSeq (mSet 6 (mCallF F_looked_at [none, none] (mCons (mVar 0) (mCons (mVar 1) mNil))))
  (mSeq (mOwn 7 mNil)
  (mSeq (mFor (mIter seqD (mVar 5)) (gN 8) (mIfS (mOp eqD (mOp ixD (mVar 8) (mC (.int 0))) (mC (.str "word"))) (mMut 7 appendF (mCons (mOp ixD (mVar 8) (mC (.int 1))) mNil)) (mIfS (mOp eqD (mOp ixD (mVar 8) (mC (.int 0))) (mC (.str "field"))) (mMut 7 appendF (mCons (mOp ixD (mVar 6) (mOp ixD (mVar 8) (mC (.int 1)))) mNil)) (mMut 7 extendF (mCons (mSl (mVar 1) (mPart (mCall lenTD (mCons (mVar 2) mNil))) (mPart (mOp subD (mCall lenTD (mCons (mVar 1) mNil)) (mCall lenTD (mCons (mVar 4) mNil))))) mNil)))))
  (mRet (mCall tupleD (mCons (mVar 7) mNil)))))))
def F_built : List Sl → FR := fnSem 9 2 m_built
def m_made : Ev → Out := (mSeq (mIfS (mNot (mCallF F_is_fitting [none, none] (mCons (mVar 0) (mCons (mVar 1) mNil)))) (mRet (mC .none)) mNext)
  (mRet (mCallF F_built [none, none] (mCons (mVar 0) (mCons (mVar 1) mNil)))))
def F_made : List Sl → FR := fnSem 2 2 m_made
def m_first_fitting : Ev → Out := (mSeq (mFor (mIterA enumD (mCons (mVar 0) mNil)) (gT [2, 3]) (mIfS (mCallF F_is_fitting [none, none] (mCons (mVar 3) (mCons (mVar 1) mNil))) (mRet (mVar 2)) mNext))
  (mRet (mC .none)))
def F_first_fitting : List Sl → FR := fnSem 4 2 m_first_fitting
def m_turn : Ev → Out := (mSeq (mSet 2 (mCallF F_first_fitting [none, none] (mCons (mVar 0) (mCons (mVar 1) mNil))))
  (mSeq (mIfS (mOp isN1 (mVar 2) (mC .none)) (mRet (mVar 1)) mNext)
  (mRet (mCallF F_built [none, none] (mCons (mOp ixD (mVar 0) (mVar 2)) (mCons (mVar 1) mNil))))))
def F_turn : List Sl → FR := fnSem 3 2 m_turn
def m_fits : Ev → Out := (mSeq (mDrop (mCallF F_need_rule [none] (mCons (mVar 0) mNil)))
  (mSeq (mDrop (mCallF F_need_name [none] (mCons (mVar 1) mNil)))
  (mRet (mCallF F_is_fitting [none, none] (mCons (mVar 0) (mCons (mVar 1) mNil))))))
def F_fits : List Sl → FR := fnSem 2 2 m_fits
def m_makes : Ev → Out := (mSeq (mDrop (mCallF F_need_rule [none] (mCons (mVar 0) mNil)))
  (mSeq (mDrop (mCallF F_need_name [none] (mCons (mVar 1) mNil)))
  (mRet (mCallF F_made [none, none] (mCons (mVar 0) (mCons (mVar 1) mNil))))))
def F_makes : List Sl → FR := fnSem 2 2 m_makes
def m_first : Ev → Out := (mSeq (mDrop (mCallF F_need_script [none] (mCons (mVar 0) mNil)))
  (mSeq (mDrop (mCallF F_need_name [none] (mCons (mVar 1) mNil)))
  (mRet (mCallF F_first_fitting [none, none] (mCons (mVar 0) (mCons (mVar 1) mNil))))))
def F_first : List Sl → FR := fnSem 2 2 m_first
def m_turned : Ev → Out := (mSeq (mDrop (mCallF F_need_script [none] (mCons (mVar 0) mNil)))
  (mSeq (mDrop (mCallF F_need_name [none] (mCons (mVar 1) mNil)))
  (mRet (mCallF F_turn [none, none] (mCons (mVar 0) (mCons (mVar 1) mNil))))))
def F_turned : List Sl → FR := fnSem 2 2 m_turned
def m_law_draw : Ev → Out := (mSeq (mIfS (mOp gtD (mIxO 1 (mC (.int 1))) (mC (.int 0))) (mSeq (mSet 3 (mOp modD (mIxO 1 (mC (.int 1))) (mVar 2)))
  (mSeq (mSetIx 1 (mOp fdivD (mIxO 1 (mC (.int 1))) (mVar 2)) (mC (.int 1)))
  (mRet (mVar 3)))) mNext)
  (mSeq (mSet 4 (mIxO 1 (mC (.int 0))))
  (mSeq (mAugIx 1 (mC (.int 0)) (mC (.int 1)))
  (mSeq (mIfS (mOp eqD (mVar 0) (mLst mNil)) (mRet (mOp modD (mVar 4) (mVar 2))) mNext)
  (mSeq (mIfS (mAnd (mOp ltD (mVar 4) (mCall lenTD (mCons (mVar 0) mNil))) (mOp geD (mOp ixD (mVar 0) (mVar 4)) (mOp powD (mC (.int 10)) (mC (.int 18))))) (mSeq (mSetIx 1 (mOp modD (mOp fdivD (mOp ixD (mVar 0) (mVar 4)) (mVar 2)) (mOp mulWD (mOp powD (mC (.int 10)) (mC (.int 60))) (mOp powD (mC (.int 10)) (mC (.int 60))))) (mC (.int 1)))
  (mRet (mOp modD (mOp ixD (mVar 0) (mVar 4)) (mVar 2)))) mNext)
  (mSeq (mSet 5 (mOp modD (mOp addD (mOp addD (mOp mulD (mOp ixD (mVar 0) (mOp modD (mVar 4) (mCall lenTD (mCons (mVar 0) mNil)))) (mC (.int 1103515245))) (mOp mulLD (mC (.int 7919)) (mVar 4))) (mC (.int 12345))) (mC (.int 2147483647))))
  (mRet (mOp modD (mOp modD (mOp modD (mOp powD (mVar 5) (mC (.int 5))) (mC (.int 2147483647))) (mC (.int 999983))) (mVar 2)))))))))
def F_law_draw : List Sl → FR := fnSem 6 3 m_law_draw
def m_law_pick : Ev → Out := (mRet (mOp ixD (mVar 2) (mCallF F_law_draw [none, some 1, none] (mCons (mVar 0) (mRef 1 (mCons (mCall lenTD (mCons (mVar 2) mNil)) mNil))))))
def F_law_pick : List Sl → FR := fnSem 3 3 m_law_pick
def m_law_test : Ev → Out := (mSeq (mOwn 3 (mCons (mTup (mCons (mC (.str "is")) (mCons (mC (.str "a")) mNil))) (mCons (mTup (mCons (mC (.str "is")) (mCons (mC (.str "b")) mNil))) (mCons (mTup (mCons (mC (.str "any")) mNil)) (mCons (mTup (mCons (mC (.str "any")) mNil)) (mCons (mTup (mCons (mC (.str "none")) (mCons (mTup (mCons (mC (.str "a")) mNil)) mNil))) (mCons (mTup (mCons (mC (.str "none")) (mCons (mTup (mCons (mC (.str "a")) (mCons (mC (.str "b")) mNil))) mNil))) mNil)))))))
  (mSeq (mIfS (mOp gtD (mVar 2) (mC (.int 0))) (mMut 3 extendF (mCons (mLst (mBinL repF (mCons (mTup (mCons (mC (.str "like")) (mCons (mCallF F_law_draw [none, some 1, none] (mCons (mVar 0) (mRef 1 (mCons (mVar 2) mNil)))) mNil))) mNil) (mC (.int 2)))) mNil)) mNext)
  (mRet (mCallF F_law_pick [none, some 1, none] (mCons (mVar 0) (mRef 1 (mCons (mVar 3) mNil)))))))
def F_law_test : List Sl → FR := fnSem 4 3 m_law_test
def m_law_rule : Ev → Out := (mSeq (mSet 3 (mOp gtD (mCallF F_law_draw [none, some 1, none] (mCons (mVar 0) (mRef 1 (mCons (mC (.int 4)) mNil)))) (mC (.int 0))))
  (mSeq (mSet 4 (mIf (mVar 3) (mCallF F_law_draw [none, some 1, none] (mCons (mVar 0) (mRef 1 (mCons (mOp addD (mVar 2) (mC (.int 1))) mNil)))) (mOp addD (mC (.int 1)) (mCallF F_law_draw [none, some 1, none] (mCons (mVar 0) (mRef 1 (mCons (mC (.int 2)) mNil)))))))
  (mSeq (mSet 5 (mIf (mVar 3) (mCallF F_law_draw [none, some 1, none] (mCons (mVar 0) (mRef 1 (mCons (mOp addD (mVar 2) (mC (.int 1))) mNil)))) (mC (.int 0))))
  (mSeq (mSet 6 (mCall tupleD (mCons (mLst (mComp [8] (mIterA rangeD (mCons (mOp addD (mVar 4) (mVar 5)) mNil)) (gN 8) (mC (.bool true)) (mCallN F_law_test [none, some 1, none] (mCons (mVar 0) (mRef 1 (mCons (mVar 8) mNil)))))) mNil)))
  (mSeq (mOwn 7 mNil)
  (mSeq (mFor (mIterA rangeD (mCons (mOp addD (mC (.int 1)) (mCallF F_law_draw [none, some 1, none] (mCons (mVar 0) (mRef 1 (mCons (mC (.int 3)) mNil))))) mNil)) (gN 8) (mSeq (mSet 9 (mIf (mOp neD (mVar 6) (mTup mNil)) (mTup (mCons (mC (.str "field")) (mCons (mCallF F_law_draw [none, some 1, none] (mCons (mVar 0) (mRef 1 (mCons (mOp addD (mVar 4) (mVar 5)) mNil)))) mNil))) (mTup (mCons (mC (.str "word")) (mCons (mC (.str "b")) mNil)))))
  (mMut 7 appendF (mCons (mCallF F_law_pick [none, some 1, none] (mCons (mVar 0) (mRef 1 (mCons (mLst (mCons (mTup (mCons (mC (.str "word")) (mCons (mC (.str "a")) mNil))) (mCons (mTup (mCons (mC (.str "word")) (mCons (mC (.str "c")) mNil))) (mCons (mVar 9) (mCons (mVar 9) (mCons (mVar 9) (mCons (mVar 9) mNil))))))) mNil)))) mNil))))
  (mSeq (mIfS (mAnd (mVar 3) (mOp gtD (mCallF F_law_draw [none, some 1, none] (mCons (mVar 0) (mRef 1 (mCons (mC (.int 5)) mNil)))) (mC (.int 0)))) (mMut 7 insertF (mCons (mCallF F_law_draw [none, some 1, none] (mCons (mVar 0) (mRef 1 (mCons (mOp addD (mCallO lenTD 7) (mC (.int 1))) mNil)))) (mCons (mTup (mCons (mC (.str "rest")) mNil)) mNil))) mNext)
  (mRet (mTup (mCons (mSl (mVar 6) (mC .none) (mPart (mVar 4))) (mCons (mVar 3) (mCons (mSl (mVar 6) (mPart (mVar 4)) (mC .none)) (mCons (mCall tupleD (mCons (mVar 7) mNil)) mNil)))))))))))))
def F_law_rule : List Sl → FR := fnSem 10 3 m_law_rule
def m_law_script : Ev → Out := (mRet (mCall tupleD (mCons (mLst (mComp [4] (mIterA rangeD (mCons (mOp addD (mC (.int 1)) (mCallF F_law_draw [none, some 1, none] (mCons (mVar 0) (mRef 1 (mCons (mVar 2) mNil))))) mNil)) (gN 4) (mC (.bool true)) (mCallN F_law_rule [none, some 1, none] (mCons (mVar 0) (mRef 1 (mCons (mVar 3) mNil)))))) mNil)))
def F_law_script : List Sl → FR := fnSem 5 4 m_law_script
def m_law_name : Ev → Out := (mRet (mCall tupleD (mCons (mLst (mComp [3] (mIterA rangeD (mCons (mOp addD (mC (.int 1)) (mCallF F_law_draw [none, some 1, none] (mCons (mVar 0) (mRef 1 (mCons (mVar 2) mNil))))) mNil)) (gN 3) (mC (.bool true)) (mCallN F_law_pick [none, some 1, none] (mCons (mVar 0) (mRef 1 (mCons (mLst (mCons (mC (.str "a")) (mCons (mC (.str "b")) (mCons (mC (.str "c")) (mCons (mC (.str "d")) mNil))))) mNil)))))) mNil)))
def F_law_name : List Sl → FR := fnSem 4 3 m_law_name
def m_law_made : Ev → Out := (mSeq (mAsgG (gT [2, 3, 4, 5]) (mVar 0))
  (mSeq (mPar 6 7 (mCons (mCall lenTD (mCons (mVar 2) mNil)) (mCons (mCall lenTD (mCons (mVar 4) mNil)) mNil)))
  (mSeq (mIfS (mOr (mOp ltD (mCall lenTD (mCons (mVar 1) mNil)) (mOp addD (mVar 6) (mVar 7))) (mAnd (mNot (mVar 3)) (mOp neD (mCall lenTD (mCons (mVar 1) mNil)) (mVar 6)))) (mRet (mC .none)) mNext)
  (mSeq (mSet 8 (mLst (mCatL (mListOf (mSl (mVar 1) (mC .none) (mPart (mVar 6)))) (mListOf (mSl (mVar 1) (mPart (mOp subD (mCall lenTD (mCons (mVar 1) mNil)) (mVar 7))) (mC .none))))))
  (mSeq (mFor (mIterA enumD (mCons (mOp addD (mVar 2) (mVar 4)) mNil)) (gT [9, 10]) (mSeq (mIfS (mOr (mAnd (mOp eqD (mOp ixD (mVar 10) (mC (.int 0))) (mC (.str "is"))) (mOp neD (mOp ixD (mVar 8) (mVar 9)) (mOp ixD (mVar 10) (mC (.int 1))))) (mAnd (mOp eqD (mOp ixD (mVar 10) (mC (.int 0))) (mC (.str "none"))) (mOp inD (mOp ixD (mVar 8) (mVar 9)) (mOp ixD (mVar 10) (mC (.int 1)))))) (mRet (mC .none)) mNext)
  (mIfS (mAnd (mOp eqD (mOp ixD (mVar 10) (mC (.int 0))) (mC (.str "like"))) (mOp neD (mOp ixD (mVar 8) (mVar 9)) (mOp ixD (mVar 8) (mOp ixD (mVar 10) (mC (.int 1)))))) (mRet (mC .none)) mNext)))
  (mSeq (mOwn 11 mNil)
  (mSeq (mFor (mIter seqD (mVar 5)) (gN 12) (mIfS (mOp eqD (mOp ixD (mVar 12) (mC (.int 0))) (mC (.str "rest"))) (mMut 11 extendF (mCons (mLst (mListOf (mSl (mVar 1) (mPart (mVar 6)) (mPart (mOp subD (mCall lenTD (mCons (mVar 1) mNil)) (mVar 7)))))) mNil)) (mMut 11 appendF (mCons (mIf (mOp eqD (mOp ixD (mVar 12) (mC (.int 0))) (mC (.str "word"))) (mOp ixD (mVar 12) (mC (.int 1))) (mOp ixD (mVar 8) (mOp ixD (mVar 12) (mC (.int 1))))) mNil))))
  (mRet (mCall tupleD (mCons (mVar 11) mNil))))))))))
def F_law_made : List Sl → FR := fnSem 13 2 m_law_made
def m_law_first : Ev → Out := (mSeq (mFor (mIterA enumD (mCons (mVar 0) mNil)) (gT [2, 3]) (mIfS (mOp isNotN1 (mCallF F_law_made [none, none] (mCons (mVar 3) (mCons (mVar 1) mNil))) (mC .none)) (mRet (mVar 2)) mNext))
  (mRet (mC .none)))
def F_law_first : List Sl → FR := fnSem 4 2 m_law_first
def m_law_turned : Ev → Out := (mSeq (mSet 2 (mCallF F_law_first [none, none] (mCons (mVar 0) (mCons (mVar 1) mNil))))
  (mRet (mIf (mOp isN1 (mVar 2) (mC .none)) (mVar 1) (mCallF F_law_made [none, none] (mCons (mOp ixD (mVar 0) (mVar 2)) (mCons (mVar 1) mNil))))))
def F_law_turned : List Sl → FR := fnSem 3 2 m_law_turned
end NS

set_option Elab.async false
set_option linter.all false
set_option autoImplicit false
set_option maxRecDepth 100000
set_option maxHeartbeats 4000000
namespace NS
open PySem PySem.Spec PyProof.Rows L2
def m_is_folder : Ev → Out := (mSeq (mIfS (mOr (mNot (mUn (isiD "tuple") (mVar 0))) (mOp gtD (mCall lenTD (mCons (mVar 0) mNil)) (mC (.int 30)))) (mRet (mC (.bool false))) mNext)
  (mRet (mAnd (mCall allD (mCons (mLst (mComp [1] (mIter seqD (mVar 0)) (gN 1) (mC (.bool true)) (mCallN F_is_name [none] (mCons (mVar 1) mNil)))) mNil)) (mCallF F_is_rising [none] (mCons (mVar 0) mNil)))))
def F_is_folder : List Sl → FR := fnSem 2 1 m_is_folder
def m_law_which (a : Addr) (e : Str) : Ev → Out := (mSeq (mOwn 1 (mCons (mIsE 0 a (decide (e = "NoName"))) (mCons (mIsE 0 a (decide (e = "NoRule"))) (mCons (mIsE 0 a (decide (e = "NoScript"))) (mCons (mIsE 0 a (decide (e = "NoFolder"))) mNil)))))
  (mSeq (mMut 1 extendF (mCons (mLst (mCons (mIsE 0 a (decide (e = "Clash"))) (mCons (mIsE 0 a (decide (e = "NoOrder"))) (mCons (mIsE 0 a (decide (e = "Lost"))) (mCons (mIsE 0 a (decide (e = "Ringed"))) mNil))))) mNil))
  (mSeq (mMut 1 extendF (mCons (mLst (mCons (mIsE 0 a (decide (e = "NoNumber"))) (mCons (mIsE 0 a (decide (e = "NoRow"))) (mCons (mIsE 0 a (decide (e = "NoWord"))) mNil)))) mNil))
  (mSeq (mMut 1 extendF (mCons (mLst (mCons (mIsE 0 a (decide (e = "Taken"))) mNil)) mNil))
  (mSeq (mMut 1 extendF (mCons (mLst (mCons (mIsE 0 a (decide (e = "NotThere"))) (mCons (mIsE 0 a (decide (e = "Full"))) (mCons (mIsE 0 a (decide (e = "TooLong"))) mNil)))) mNil))
  (mSeq (mMut 1 extendF (mCons (mLst (mCons (mIsE 0 a (decide (e = "NoDeed"))) mNil)) mNil))
  (mSeq (mMut 1 appendF (mCons (mIsE 0 a (decide (e = "NoText"))) mNil))
  (mSeq (mIfS (mOr (mOp neD (mMeth 1 cntF (mCons (mC (.bool true)) mNil)) (mC (.int 1))) (mNot (mIsE 0 a true))) (mRet (mTup (mCons (mC (.str "refused")) (mCons (mUn negD (mC (.int 1))) mNil)))) mNext)
  (mRet (mTup (mCons (mC (.str "refused")) (mCons (mMeth 1 idxF (mCons (mC (.bool true)) mNil)) mNil))))))))))))
def m_law_no_tests : Ev → Out := (mSeq (mOwn 0 (mCons (mC .none) (mCons (mTup mNil) (mCons (mC (.str "any")) (mCons (mLst (mCons (mC (.str "any")) mNil)) (mCons (mTup (mCons (mC (.str "any")) (mCons (mC (.int 0)) mNil))) (mCons (mTup (mCons (mC (.str "is")) mNil)) (mCons (mTup (mCons (mC (.str "is")) (mCons (mC (.str "A")) mNil))) (mCons (mTup (mCons (mC (.str "is")) (mCons (mC (.str "")) mNil))) mNil)))))))))
  (mSeq (mMut 0 extendF (mCons (mLst (mCons (mTup (mCons (mC (.str "is")) (mCons (mC (.str "abcdefg")) mNil))) (mCons (mTup (mCons (mC (.str "is")) (mCons (mC (.int 5)) mNil))) (mCons (mTup (mCons (mC (.str "is")) (mCons (mC (.str "a")) (mCons (mC (.str "b")) mNil)))) (mCons (mTup (mCons (mC (.str "some")) (mCons (mC (.str "a")) mNil))) mNil))))) mNil))
  (mSeq (mMut 0 extendF (mCons (mLst (mCons (mTup (mCons (mC (.str "none")) (mCons (mC (.str "a")) mNil))) (mCons (mTup (mCons (mC (.str "none")) (mCons (mTup mNil) mNil))) (mCons (mTup (mCons (mC (.str "none")) (mCons (mTup (mCons (mC (.str "a")) (mCons (mC (.str "b")) (mCons (mC (.str "c")) (mCons (mC (.str "d")) mNil))))) mNil))) (mCons (mTup (mCons (mC (.str "none")) (mCons (mTup (mCons (mC (.str "b")) (mCons (mC (.str "a")) mNil))) mNil))) mNil))))) mNil))
  (mSeq (mMut 0 extendF (mCons (mLst (mCons (mTup (mCons (mC (.str "none")) (mCons (mTup (mCons (mC (.str "a")) (mCons (mC (.str "a")) mNil))) mNil))) (mCons (mTup (mCons (mC (.str "none")) (mCons (mLst (mCons (mC (.str "a")) mNil)) mNil))) (mCons (mTup (mCons (mC (.str "none")) (mCons (mTup (mCons (mC (.str "A")) mNil)) mNil))) mNil)))) mNil))
  (mSeq (mMut 0 extendF (mCons (mLst (mCons (mTup (mCons (mC (.str "like")) (mCons (mC (.int 1)) mNil))) (mCons (mTup (mCons (mC (.str "like")) (mCons (mUn negD (mC (.int 1))) mNil))) (mCons (mTup (mCons (mC (.str "like")) (mCons (mC .none) mNil))) (mCons (mTup (mCons (mC (.str "like")) (mCons (mC (.bool true)) mNil))) (mCons (mTup (mCons (mC (.str "like")) (mCons (mC (.str "0")) mNil))) (mCons (mTup (mCons (mC (.str "like")) mNil)) mNil))))))) mNil))
  (mSeq (mMut 0 extendF (mCons (mLst (mCons (mTup (mCons (mC .none) (mCons (mC (.str "a")) mNil))) mNil)) mNil))
  (mRet (mLst (mCatO 0 (mCons (mTup (mCons (mC (.int 5)) mNil)) mNil))))))))))
def F_law_no_tests : List Sl → FR := fnSem 1 0 m_law_no_tests
def m_law_no_rules : Ev → Out := (mSeq (mAsgG (gT [0, 1]) (mTup (mCons (mTup (mCons (mC (.str "any")) mNil)) (mCons (mTup (mCons (mC (.str "word")) (mCons (mC (.str "w")) mNil))) mNil))))
  (mSeq (mSet 2 (mTup (mCons (mTup (mCons (mVar 0) mNil)) (mCons (mC (.bool true)) (mCons (mTup mNil) (mCons (mTup (mCons (mVar 1) mNil)) mNil))))))
  (mSeq (mOwn 3 (mCons (mC .none) (mCons (mTup mNil) (mCons (mSl (mVar 2) (mC .none) (mPart (mC (.int 3)))) (mCons (mOp addD (mVar 2) (mTup (mCons (mC (.int 0)) mNil))) (mCons (mLst (mListOf (mVar 2))) (mCons (mOp addD (mTup (mCons (mLst (mCons (mVar 0) mNil)) mNil)) (mSl (mVar 2) (mPart (mC (.int 1))) (mC .none))) mNil)))))))
  (mSeq (mMut 3 extendF (mCons (mLst (mCons (mOp addD (mTup (mCons (mOp ixD (mVar 2) (mC (.int 0))) (mCons (mC (.int 1)) mNil))) (mSl (mVar 2) (mPart (mC (.int 2))) (mC .none))) (mCons (mOp addD (mTup (mCons (mOp ixD (mVar 2) (mC (.int 0))) (mCons (mC .none) mNil))) (mSl (mVar 2) (mPart (mC (.int 2))) (mC .none))) mNil))) mNil))
  (mSeq (mMut 3 extendF (mCons (mLst (mCons (mOp addD (mTup (mCons (mOp repTD (mTup (mCons (mVar 0) mNil)) (mC (.int 3))) mNil)) (mSl (mVar 2) (mPart (mC (.int 1))) (mC .none))) (mCons (mOp addD (mSl (mVar 2) (mC .none) (mPart (mC (.int 2)))) (mTup (mCons (mOp repTD (mTup (mCons (mVar 0) mNil)) (mC (.int 3))) (mCons (mOp ixD (mVar 2) (mC (.int 3))) mNil)))) mNil))) mNil))
  (mSeq (mMut 3 extendF (mCons (mLst (mCons (mTup (mCons (mTup (mCons (mVar 0) mNil)) (mCons (mC (.bool false)) (mCons (mTup (mCons (mVar 0) mNil)) (mCons (mTup (mCons (mVar 1) mNil)) mNil))))) (mCons (mTup (mCons (mTup mNil) (mCons (mC (.bool false)) (mCons (mTup mNil) (mCons (mTup (mCons (mVar 1) mNil)) mNil))))) mNil))) mNil))
  (mSeq (mOwn 4 (mCons (mTup mNil) (mCons (mOp repTD (mTup (mCons (mVar 1) mNil)) (mC (.int 5))) (mCons (mLst (mCons (mVar 1) mNil)) (mCons (mTup (mCons (mC .none) mNil)) (mCons (mTup (mCons (mTup (mCons (mC (.str "rest")) mNil)) mNil)) (mCons (mTup (mCons (mTup (mCons (mC (.str "rest")) mNil)) (mCons (mTup (mCons (mC (.str "rest")) mNil)) (mCons (mVar 1) mNil)))) mNil)))))))
  (mSeq (mMut 4 extendF (mCons (mLst (mCons (mTup (mCons (mTup (mCons (mC (.str "rest")) (mCons (mC (.int 0)) mNil))) (mCons (mVar 1) mNil))) mNil)) mNil))
  (mSeq (mFor (mIter seqD (mVar 4)) (gN 5) (mMut 3 appendF (mCons (mOp addD (mSl (mVar 2) (mC .none) (mPart (mC (.int 3)))) (mTup (mCons (mVar 5) mNil))) mNil)))
  (mSeq (mOwn 6 (mCons (mTup (mCons (mC (.str "word")) mNil)) (mCons (mTup (mCons (mC (.str "word")) (mCons (mC (.str "W")) mNil))) (mCons (mTup (mCons (mC (.str "word")) (mCons (mC (.str "")) mNil))) (mCons (mTup (mCons (mC (.str "word")) (mCons (mC (.int 5)) mNil))) (mCons (mTup (mCons (mC (.str "field")) (mCons (mC (.int 1)) mNil))) (mCons (mTup (mCons (mC (.str "field")) (mCons (mUn negD (mC (.int 1))) mNil))) mNil)))))))
  (mSeq (mMut 6 extendF (mCons (mLst (mCons (mTup (mCons (mC (.str "field")) (mCons (mC (.bool true)) mNil))) (mCons (mTup (mCons (mC (.str "field")) mNil)) mNil))) mNil))
  (mSeq (mFor (mIter seqD (mLst (mCatO 6 (mCons (mTup (mCons (mC (.str "item")) (mCons (mC (.str "w")) mNil))) (mCons (mTup mNil) (mCons (mC (.str "word")) (mCons (mLst (mCons (mC (.str "word")) (mCons (mC (.str "w")) mNil))) (mCons (mTup (mCons (mC (.str "field")) (mCons (mC (.int 0)) (mCons (mC (.int 0)) mNil)))) (mCons (mTup (mCons (mC .none) (mCons (mC (.str "w")) mNil))) (mCons (mTup (mCons (mC (.str "field")) (mCons (mC (.str "0")) mNil))) mNil)))))))))) (gN 5) (mMut 3 appendF (mCons (mOp addD (mSl (mVar 2) (mC .none) (mPart (mC (.int 3)))) (mTup (mCons (mTup (mCons (mVar 5) mNil)) mNil))) mNil)))
  (mSeq (mMut 3 appendF (mCons (mTup (mCons (mTup (mCons (mVar 0) mNil)) (mCons (mC (.bool false)) (mCons (mTup mNil) (mCons (mTup (mCons (mVar 1) (mCons (mTup (mCons (mC (.str "rest")) mNil)) mNil))) mNil))))) mNil))
  (mSeq (mFor (mIter seqD (mCallN F_law_no_tests [] mNil)) (gN 5) (mMut 3 extendF (mCons (mLst (mCons (mTup (mCons (mTup (mCons (mVar 0) (mCons (mVar 5) mNil))) (mCons (mC (.bool true)) (mCons (mTup mNil) (mCons (mTup (mCons (mVar 1) mNil)) mNil))))) (mCons (mTup (mCons (mTup (mCons (mVar 0) mNil)) (mCons (mC (.bool true)) (mCons (mTup (mCons (mVar 5) mNil)) (mCons (mTup (mCons (mVar 1) mNil)) mNil))))) mNil))) mNil)))
  (mRet (mLst (mCatO 3 (mCons (mTup (mCons (mTup (mCons (mTup (mCons (mC (.str "like")) (mCons (mC (.int 0)) mNil))) mNil)) (mCons (mC (.bool true)) (mCons (mTup mNil) (mCons (mTup (mCons (mVar 1) mNil)) mNil))))) mNil))))))))))))))))))
def F_law_no_rules : List Sl → FR := fnSem 7 0 m_law_no_rules
end NS

set_option Elab.async false
set_option linter.all false
set_option autoImplicit false
set_option maxRecDepth 100000
set_option maxHeartbeats 4000000
namespace NS
open PySem PySem.Spec PyProof.Rows L2
def m_text_of_test : Ev → Out := (mSeq (mSet 1 (mOp ixD (mVar 0) (mC (.int 0))))
  (mSeq (mIfS (mOp eqD (mVar 1) (mC (.str "is"))) (mRet (mOp ixD (mVar 0) (mC (.int 1)))) mNext)
  (mSeq (mIfS (mOp eqD (mVar 1) (mC (.str "any"))) (mRet (mC (.str "*"))) mNext)
  (mSeq (mIfS (mOp eqD (mVar 1) (mC (.str "none"))) (mRet (mOp addD (mC (.str "!")) (mSM joinF (mC (.str ",")) (mOp ixD (mVar 0) (mC (.int 1)))))) mNext)
  (mRet (mUn (fmtD "=") (mOp ixD (mVar 0) (mC (.int 1)))))))))
def F_text_of_test : List Sl → FR := fnSem 2 1 m_text_of_test
def m_text_of_item : Ev → Out := (mSeq (mIfS (mOp eqD (mOp ixD (mVar 0) (mC (.int 0))) (mC (.str "word"))) (mRet (mOp ixD (mVar 0) (mC (.int 1)))) mNext)
  (mSeq (mIfS (mOp eqD (mOp ixD (mVar 0) (mC (.int 0))) (mC (.str "field"))) (mRet (mUn (fmtD "$") (mOp ixD (mVar 0) (mC (.int 1))))) mNext)
  (mRet (mC (.str "..")))))
def F_text_of_item : List Sl → FR := fnSem 1 1 m_text_of_item
def m_written_rule : Ev → Out := (mSeq (mAsgG (gT [1, 2, 3, 4]) (mVar 0))
  (mSeq (mOwn 5 (mComp [6] (mIter seqD (mVar 1)) (gN 6) (mC (.bool true)) (mCallN F_text_of_test [none] (mCons (mVar 6) mNil))))
  (mSeq (mIfS (mVar 2) (mMut 5 appendF (mCons (mC (.str "..")) mNil)) mNext)
  (mSeq (mMut 5 extendF (mCons (mLst (mComp [6] (mIter seqD (mVar 3)) (gN 6) (mC (.bool true)) (mCallN F_text_of_test [none] (mCons (mVar 6) mNil)))) mNil))
  (mSeq (mMut 5 appendF (mCons (mC (.str ">")) mNil))
  (mSeq (mMut 5 extendF (mCons (mLst (mComp [7] (mIter seqD (mVar 4)) (gN 7) (mC (.bool true)) (mCallN F_text_of_item [none] (mCons (mVar 7) mNil)))) mNil))
  (mRet (mSM joinF (mC (.str " ")) (mVar 5)))))))))
def F_written_rule : List Sl → FR := fnSem 8 1 m_written_rule
def m_written_script : Ev → Out := (mRet (mSM joinF (mC (.str "")) (mLst (mComp [1] (mIter seqD (mVar 0)) (gN 1) (mC (.bool true)) (mOp addD (mCallN F_written_rule [none] (mCons (mVar 1) mNil)) (mC (.str "\n")))))))
def F_written_script : List Sl → FR := fnSem 2 1 m_written_script
def m_test_of : Ev → Out := (mSeq (mIfS (mOp eqD (mVar 0) (mC (.str "*"))) (mRet (mTup (mCons (mC (.str "any")) mNil))) mNext)
  (mSeq (mIfS (mSM startsF (mVar 0) (mC (.str "!"))) (mRet (mTup (mCons (mC (.str "none")) (mCons (mCall tupleD (mCons (mSM splitF (mSl (mVar 0) (mPart (mC (.int 1))) (mC .none)) (mC (.str ","))) mNil)) mNil)))) mNext)
  (mSeq (mIfS (mSM startsF (mVar 0) (mC (.str "="))) (mRet (mTup (mCons (mC (.str "like")) (mCons (mSM findF (mC (.str "0123456789")) (mSl (mVar 0) (mPart (mC (.int 1))) (mC .none))) mNil)))) mNext)
  (mRet (mTup (mCons (mC (.str "is")) (mCons (mVar 0) mNil)))))))
def F_test_of : List Sl → FR := fnSem 1 1 m_test_of
def m_item_of : Ev → Out := (mSeq (mIfS (mOp eqD (mVar 0) (mC (.str ".."))) (mRet (mTup (mCons (mC (.str "rest")) mNil))) mNext)
  (mSeq (mIfS (mSM startsF (mVar 0) (mC (.str "$"))) (mRet (mTup (mCons (mC (.str "field")) (mCons (mSM findF (mC (.str "0123456789")) (mSl (mVar 0) (mPart (mC (.int 1))) (mC .none))) mNil)))) mNext)
  (mRet (mTup (mCons (mC (.str "word")) (mCons (mVar 0) mNil))))))
def F_item_of : List Sl → FR := fnSem 1 1 m_item_of
def m_rule_of : Ev → Out := (mSeq (mAsgG (gT [1, 2, 3]) (mSM partF (mVar 0) (mC (.str " > "))))
  (mSeq (mSet 4 (mSM splitF (mVar 1) (mC (.str " "))))
  (mSeq (mSet 5 (mOp inD (mC (.str "..")) (mVar 4)))
  (mSeq (mSet 6 (mIf (mVar 5) (mDM idxF (mVar 4) (mCons (mC (.str "..")) mNil)) (mCall lenTD (mCons (mVar 4) mNil))))
  (mSeq (mSet 7 (mCall tupleD (mCons (mLst (mComp [9] (mIter seqD (mSl (mVar 4) (mC .none) (mPart (mVar 6)))) (gN 9) (mC (.bool true)) (mCallN F_test_of [none] (mCons (mVar 9) mNil)))) mNil)))
  (mSeq (mSet 8 (mCall tupleD (mCons (mLst (mComp [9] (mIter seqD (mSl (mVar 4) (mPart (mOp addD (mVar 6) (mC (.int 1)))) (mC .none))) (gN 9) (mC (.bool true)) (mCallN F_test_of [none] (mCons (mVar 9) mNil)))) mNil)))
  (mRet (mTup (mCons (mVar 7) (mCons (mVar 5) (mCons (mVar 8) (mCons (mCall tupleD (mCons (mLst (mComp [9] (mIter seqD (mSM splitF (mVar 3) (mC (.str " ")))) (gN 9) (mC (.bool true)) (mCallN F_item_of [none] (mCons (mVar 9) mNil)))) mNil)) mNil))))))))))))
def F_rule_of : List Sl → FR := fnSem 10 1 m_rule_of
def m_rule_text : Ev → Out := (mSeq (mDrop (mCallF F_need_rule [none] (mCons (mVar 0) mNil)))
  (mRet (mCallF F_written_rule [none] (mCons (mVar 0) mNil))))
def F_rule_text : List Sl → FR := fnSem 1 1 m_rule_text
def m_script_text : Ev → Out := (mSeq (mDrop (mCallF F_need_script [none] (mCons (mVar 0) mNil)))
  (mRet (mCallF F_written_script [none] (mCons (mVar 0) mNil))))
def F_script_text : List Sl → FR := fnSem 1 1 m_script_text
def m_read_rule : Ev → Out := (mSeq (mIfS (mNot (mUn (isiD "str") (mVar 0))) (fun ρ => .ex ⟨"NoText", none⟩ ρ) mNext)
  (mSeq (mSet 1 (mCallF F_rule_of [none] (mCons (mVar 0) mNil)))
  (mSeq (mIfS (mOr (mNot (mCallF F_is_rule [none] (mCons (mVar 1) mNil))) (mOp neD (mCallF F_written_rule [none] (mCons (mVar 1) mNil)) (mVar 0))) (fun ρ => .ex ⟨"NoText", none⟩ ρ) mNext)
  (mRet (mVar 1)))))
def F_read_rule : List Sl → FR := fnSem 2 1 m_read_rule
def m_read_script : Ev → Out := (mSeq (mIfS (mNot (mUn (isiD "str") (mVar 0))) (fun ρ => .ex ⟨"NoText", none⟩ ρ) mNext)
  (mSeq (mSet 1 (mCall tupleD (mCons (mLst (mComp [2] (mIter seqD (mSl (mSM splitF (mVar 0) (mC (.str "\n"))) (mC .none) (mPart (mUn negD (mC (.int 1)))))) (gN 2) (mC (.bool true)) (mCallN F_rule_of [none] (mCons (mVar 2) mNil)))) mNil)))
  (mSeq (mIfS (mOr (mNot (mCallF F_is_script [none] (mCons (mVar 1) mNil))) (mOp neD (mCallF F_written_script [none] (mCons (mVar 1) mNil)) (mVar 0))) (fun ρ => .ex ⟨"NoText", none⟩ ρ) mNext)
  (mRet (mVar 1)))))
def F_read_script : List Sl → FR := fnSem 3 1 m_read_script
def m_law_part : Ev → Out := (mSeq (mIfS (mOp inD (mOp ixD (mVar 0) (mC (.int 0))) (mTup (mCons (mC (.str "is")) (mCons (mC (.str "word")) mNil)))) (mRet (mOp ixD (mVar 0) (mC (.int 1)))) mNext)
  (mSeq (mIfS (mOp eqD (mOp ixD (mVar 0) (mC (.int 0))) (mC (.str "none"))) (mRet (mOp addD (mC (.str "!")) (mSM joinF (mC (.str ",")) (mOp ixD (mVar 0) (mC (.int 1)))))) mNext)
  (mRet (mOp addD (mUn (litD [("any", "*"), ("rest", ".."), ("like", "="), ("field", "$")]) (mOp ixD (mVar 0) (mC (.int 0)))) (mSM joinF (mC (.str "")) (mLst (mComp [1] (mIter seqD (mSl (mVar 0) (mPart (mC (.int 1))) (mC .none))) (gN 1) (mC (.bool true)) (mCall strIntD (mCons (mVar 1) mNil)))))))))
def F_law_part : List Sl → FR := fnSem 2 1 m_law_part
def m_law_written : Ev → Out := (mSeq (mAsgG (gT [1, 2, 3, 4]) (mVar 0))
  (mSeq (mOwn 5 (mCatL (mCatL (mComp [6] (mIter seqD (mVar 1)) (gN 6) (mC (.bool true)) (mCallN F_law_part [none] (mCons (mVar 6) mNil))) (mBinL repBF (mCons (mC (.str "..")) mNil) (mVar 2))) (mComp [6] (mIter seqD (mVar 3)) (gN 6) (mC (.bool true)) (mCallN F_law_part [none] (mCons (mVar 6) mNil)))))
  (mRet (mSM joinF (mC (.str " ")) (mLst (mCatL (mCatO 5 (mCons (mC (.str ">")) mNil)) (mComp [7] (mIter seqD (mVar 4)) (gN 7) (mC (.bool true)) (mCallN F_law_part [none] (mCons (mVar 7) mNil)))))))))
def F_law_written : List Sl → FR := fnSem 8 1 m_law_written
def m_law_lines : Ev → Out := (mRet (mSM joinF (mC (.str "")) (mLst (mComp [1] (mIter seqD (mVar 0)) (gN 1) (mC (.bool true)) (mOp addD (mCallN F_law_written [none] (mCons (mVar 1) mNil)) (mC (.str "\n")))))))
def F_law_lines : List Sl → FR := fnSem 2 1 m_law_lines
end NS

set_option Elab.async false
set_option linter.all false
set_option autoImplicit false
set_option maxRecDepth 100000
set_option maxHeartbeats 4000000
namespace NS
open PySem PySem.Spec PyProof.Rows L2
def intsD (ns : List Int) : Dt := .list (ns.map .int)
theorem plain_ints : ∀ ns : List Int, PyData.plainAll (ns.map PyData.int) = true
  | [] => rfl
  | n :: ns => by simp only [List.map_cons, PyData.plainAll, PyData.plain, plain_ints ns, Bool.and_self]
theorem eqv_ints_nil (ns : List Int) : PyData.eqv (intsD ns) (.list []) = ns.isEmpty := by
  cases ns <;> rfl
theorem depth_nil : (PyData.list []).depth = 1 := by simp [PyData.depth, PyData.depthAll]
theorem eqOk_ints (ns : List Int) : eqOk (intsD ns) (.list []) = true := by
  unfold eqOk intsD
  simp only [PyData.plain, plain_ints, PyData.plainAll, Bool.true_and, decide_eq_true_eq, depth_nil]
  omega
theorem eqD_ints (ns : List Int) : eqD (intsD ns) (.list []) = some (.bool ns.isEmpty) := by
  unfold eqD; rw [if_pos (eqOk_ints ns), eqv_ints_nil]
theorem len_ints (ns : List Int) : lenTD [intsD ns] = some (.int ns.length) := by
  show some (PyData.int _) = _
  rw [List.length_map]
theorem ix_ints (ns : List Int) (i : Int) : ixD (intsD ns) (.int i) = (atI ns i).map .int := by
  show atI (ns.map PyData.int) i = _
  rw [atI_map]
theorem modD_pos {i j : Int} (h : 0 < j) : modD (.int i) (.int j) = some (.int (i % j)) := by unfold modD int2; simp [h]
theorem fdivD_pos {i j : Int} (h : 0 < j) (h2 : j < 1073741824) : fdivD (.int i) (.int j) = some (.int (i / j)) := by unfold fdivD int2; simp [h, h2]
theorem mulD_c {i : Int} : mulD (.int i) (.int 1103515245) = some (.int (i * 1103515245)) := by unfold mulD int2; simp
theorem mulLD_c {i : Int} : mulLD (.int 7919) (.int i) = some (.int (7919 * i)) := by unfold mulLD int2; simp
theorem pow18 : powD (.int 10) (.int 18) = some (.int (10 ^ 18)) := by unfold powD int2; simp
theorem pow60 : powD (.int 10) (.int 60) = some (.int (10 ^ 60)) := by unfold powD int2; simp
theorem mulW60 : mulWD (.int (10 ^ 60)) (.int (10 ^ 60)) = some (.int (10 ^ 120)) := by
  unfold mulWD int2
  have : (10 ^ 60 : Int).natAbs < 2 ^ 2000 := by decide +kernel
  simp only [this, and_self, if_true]
  rfl
theorem pow5 {i : Int} (h : 0 ≤ i) (h2 : i < 2147483647) : powD (.int i) (.int 5) = some (.int (i ^ 5)) := by
  unfold powD int2
  have : i.natAbs < 2 ^ 64 := by omega
  simp [this]
theorem gtD_i {i j : Int} : gtD (.int i) (.int j) = some (.bool (decide (j < i))) := rfl
theorem geD_i {i j : Int} : geD (.int i) (.int j) = some (.bool (decide (j ≤ i))) := rfl
theorem ltD_i {i j : Int} : ltD (.int i) (.int j) = some (.bool (decide (i < j))) := rfl
theorem leD_i {i j : Int} : leD (.int i) (.int j) = some (.bool (decide (i ≤ j))) := rfl
theorem addD_i {i j : Int} : addD (.int i) (.int j) = some (.int (i + j)) := rfl
theorem subD_i {i j : Int} : subD (.int i) (.int j) = some (.int (i - j)) := rfl
theorem ixD_2 {a b : Dt} {i : Int} : ixD (.list [a, b]) (.int i) = atI [a, b] i := rfl
theorem ixD_t {xs : List Dt} {i : Int} : ixD (.tuple xs) (.int i) = atI xs i := rfl
theorem ixD_l {xs : List Dt} {i : Int} : ixD (.list xs) (.int i) = atI xs i := rfl

def twn (p q : Int) : List Dt := [.int p, .int q]
/-- a draw: below so many -/
theorem draw_ok (ns : List Int) {p q n : Int} (hp : 0 ≤ p) (hq : 0 ≤ q) (hn : 0 < n) (hn2 : n < 1073741824) : ∃ r p' q', F_law_draw [.val (intsD ns), .io (twn p q), .val (.int n)] = .ok (.int r) [.val (intsD ns), .io (twn p' q'), .val (.int n)] ∧ 0 ≤ r ∧ r < n ∧ 0 ≤ p' ∧ 0 ≤ q' := by
  unfold twn
  by_cases h1 : 0 < q
  · refine ⟨q % n, p, q / n, ?_, Int.emod_nonneg _ (by omega), Int.emod_lt_of_pos _ hn, hp, Int.ediv_nonneg hq (by omega)⟩
    unfold F_law_draw m_law_draw
    simp only [ev_seq, ev_seq_nx, ev_seq_rt, ev_seq_ex, ev_seq_bk, ev_seq_ct, ev_seq_st, ev_seq_ite, ev_next, ev_ifs, ev_ites, ev_ites_ex, ev_ret, ev_drop, ev_out, ev_out_ex, ev_outA, ev_c, ev_set, ev_own, ev_bind, ev_bind_ex, ev_bindA, ev_op, ev_un, ev_call, ev_ofO, ev_nil, ev_cons, ev_consok, ev_push, ev_tup, ev_lst, ev_not, ev_notb, ev_and, ev_or, ev_if, ev_ite, ev_chain, ev_var, ev_ixO, ev_setIx, ev_augIx, ev_opOL, ev_callO, ev_ref, ev_mut, ev_callF, ev_callN, ev_back, ev_backX, ev_backN, ev_mk0, ev_mkv, ev_mkr, ev_wb0, ev_wbv, ev_wbr, ev_iter, ev_iterA, ev_comp, ev_for, ev_sl, ev_part0, ev_part1, ev_mpart, ev_asg, ev_par, ev_listOf, ev_binL, ev_gN, ev_gT, ev_gA0, ev_gA, ev_noIo0, ev_noIo, ev_wipe0, ev_wipe, ev_compL0, ev_compL, ev_forL0, ev_forL, at2_0, at2_1, ixN2_0, ixN2_1, fnSem, List.length_cons, List.length_nil, List.replicate, List.append_eq, List.cons_append, List.nil_append, List.getElem?_cons_zero, List.getElem?_cons_succ, List.set_cons_zero, List.set_cons_succ, List.take_succ_cons, List.take_zero, isIoAt, lstAt, setL, Nat.reduceAdd, Nat.reduceSub, Option.map_some, Option.bind_some, if_true, if_false, Bool.false_eq_true, ite_true, ite_false, reduceIte, Int.natCast_add, decide_eq_true_eq, decide_true, decide_false, Bool.not_true, Bool.not_false, Bool.not_eq_true, and_self, and_true, true_and, Nat.reduceLeDiff, Nat.reduceLT, Bool.and_true, Bool.true_and, Bool.and_false, Bool.false_and, gtD_i, ixD_2, modD_pos hn, fdivD_pos hn hn2, h1]
  · cases hns : ns with
    | nil =>
      refine ⟨p % n, p + 1, q, ?_, Int.emod_nonneg _ (by omega), Int.emod_lt_of_pos _ hn, by omega, hq⟩
      unfold F_law_draw m_law_draw
      simp only [ev_seq, ev_seq_nx, ev_seq_rt, ev_seq_ex, ev_seq_bk, ev_seq_ct, ev_seq_st, ev_seq_ite, ev_next, ev_ifs, ev_ites, ev_ites_ex, ev_ret, ev_drop, ev_out, ev_out_ex, ev_outA, ev_c, ev_set, ev_own, ev_bind, ev_bind_ex, ev_bindA, ev_op, ev_un, ev_call, ev_ofO, ev_nil, ev_cons, ev_consok, ev_push, ev_tup, ev_lst, ev_not, ev_notb, ev_and, ev_or, ev_if, ev_ite, ev_chain, ev_var, ev_ixO, ev_setIx, ev_augIx, ev_opOL, ev_callO, ev_ref, ev_mut, ev_callF, ev_callN, ev_back, ev_backX, ev_backN, ev_mk0, ev_mkv, ev_mkr, ev_wb0, ev_wbv, ev_wbr, ev_iter, ev_iterA, ev_comp, ev_for, ev_sl, ev_part0, ev_part1, ev_mpart, ev_asg, ev_par, ev_listOf, ev_binL, ev_gN, ev_gT, ev_gA0, ev_gA, ev_noIo0, ev_noIo, ev_wipe0, ev_wipe, ev_compL0, ev_compL, ev_forL0, ev_forL, at2_0, at2_1, ixN2_0, ixN2_1, fnSem, List.length_cons, List.length_nil, List.replicate, List.append_eq, List.cons_append, List.nil_append, List.getElem?_cons_zero, List.getElem?_cons_succ, List.set_cons_zero, List.set_cons_succ, List.take_succ_cons, List.take_zero, isIoAt, lstAt, setL, Nat.reduceAdd, Nat.reduceSub, Option.map_some, Option.bind_some, if_true, if_false, Bool.false_eq_true, ite_true, ite_false, reduceIte, Int.natCast_add, decide_eq_true_eq, decide_true, decide_false, Bool.not_true, Bool.not_false, Bool.not_eq_true, and_self, and_true, true_and, Nat.reduceLeDiff, Nat.reduceLT, Bool.and_true, Bool.true_and, Bool.and_false, Bool.false_and, gtD_i, ixD_2, modD_pos hn, fdivD_pos hn hn2, eqD_ints, h1, List.isEmpty_nil]
    | cons a t =>
      have hne : ns.isEmpty = false := by rw [hns]; rfl
      have hlen : 0 < (ns.length : Int) := by rw [hns, List.length_cons]; omega
      rw [← hns]
      by_cases h2 : p < ns.length ∧ ∃ x, atI ns p = some x ∧ 10 ^ 18 ≤ x
      · obtain ⟨h2, x, hx, h3⟩ := h2
        refine ⟨x % n, p + 1, x / n % 10 ^ 120, ?_, Int.emod_nonneg _ (by omega), Int.emod_lt_of_pos _ hn, by omega, Int.emod_nonneg _ (by decide)⟩
        unfold F_law_draw m_law_draw
        simp only [ev_seq, ev_seq_nx, ev_seq_rt, ev_seq_ex, ev_seq_bk, ev_seq_ct, ev_seq_st, ev_seq_ite, ev_next, ev_ifs, ev_ites, ev_ites_ex, ev_ret, ev_drop, ev_out, ev_out_ex, ev_outA, ev_c, ev_set, ev_own, ev_bind, ev_bind_ex, ev_bindA, ev_op, ev_un, ev_call, ev_ofO, ev_nil, ev_cons, ev_consok, ev_push, ev_tup, ev_lst, ev_not, ev_notb, ev_and, ev_or, ev_if, ev_ite, ev_chain, ev_var, ev_ixO, ev_setIx, ev_augIx, ev_opOL, ev_callO, ev_ref, ev_mut, ev_callF, ev_callN, ev_back, ev_backX, ev_backN, ev_mk0, ev_mkv, ev_mkr, ev_wb0, ev_wbv, ev_wbr, ev_iter, ev_iterA, ev_comp, ev_for, ev_sl, ev_part0, ev_part1, ev_mpart, ev_asg, ev_par, ev_listOf, ev_binL, ev_gN, ev_gT, ev_gA0, ev_gA, ev_noIo0, ev_noIo, ev_wipe0, ev_wipe, ev_compL0, ev_compL, ev_forL0, ev_forL, at2_0, at2_1, ixN2_0, ixN2_1, fnSem, List.length_cons, List.length_nil, List.replicate, List.append_eq, List.cons_append, List.nil_append, List.getElem?_cons_zero, List.getElem?_cons_succ, List.set_cons_zero, List.set_cons_succ, List.take_succ_cons, List.take_zero, isIoAt, lstAt, setL, Nat.reduceAdd, Nat.reduceSub, Option.map_some, Option.bind_some, if_true, if_false, Bool.false_eq_true, ite_true, ite_false, reduceIte, Int.natCast_add, decide_eq_true_eq, decide_true, decide_false, Bool.not_true, Bool.not_false, Bool.not_eq_true, and_self, and_true, true_and, Nat.reduceLeDiff, Nat.reduceLT, Bool.and_true, Bool.true_and, Bool.and_false, Bool.false_and, gtD_i, ltD_i, geD_i, ixD_2, modD_pos hn, modD_pos (i := x / n) (show (0:Int) < 10 ^ 120 by decide), fdivD_pos hn hn2, eqD_ints, h1, hne, len_ints, h2, ix_ints, hx, pow18, pow60, mulW60, h3, Option.map_some]
      · have hm : ∀ y : Int, 0 ≤ y % 2147483647 ∧ y % 2147483647 < 2147483647 := fun y => ⟨Int.emod_nonneg _ (by decide), Int.emod_lt_of_pos _ (by decide)⟩
        obtain ⟨z, hz, _⟩ := atI_some (xs := ns) (i := p % ns.length) (Int.emod_nonneg _ (by omega)) (Int.emod_lt_of_pos _ hlen)
        generalize hmix : (z * 1103515245 + 7919 * p + 12345) % 2147483647 = mix
        have hmx := hm (z * 1103515245 + 7919 * p + 12345)
        rw [hmix] at hmx
        refine ⟨mix ^ 5 % 2147483647 % 999983 % n, p + 1, q, ?_, Int.emod_nonneg _ (by omega), Int.emod_lt_of_pos _ hn, by omega, hq⟩
        unfold F_law_draw m_law_draw
        by_cases h3 : p < ns.length
        · obtain ⟨x, hx, _⟩ := atI_some (xs := ns) hp h3
          have h4 : ¬ 10 ^ 18 ≤ x := fun h => h2 ⟨h3, x, hx, h⟩
          simp only [ev_seq, ev_seq_nx, ev_seq_rt, ev_seq_ex, ev_seq_bk, ev_seq_ct, ev_seq_st, ev_seq_ite, ev_next, ev_ifs, ev_ites, ev_ites_ex, ev_ret, ev_drop, ev_out, ev_out_ex, ev_outA, ev_c, ev_set, ev_own, ev_bind, ev_bind_ex, ev_bindA, ev_op, ev_un, ev_call, ev_ofO, ev_nil, ev_cons, ev_consok, ev_push, ev_tup, ev_lst, ev_not, ev_notb, ev_and, ev_or, ev_if, ev_ite, ev_chain, ev_var, ev_ixO, ev_setIx, ev_augIx, ev_opOL, ev_callO, ev_ref, ev_mut, ev_callF, ev_callN, ev_back, ev_backX, ev_backN, ev_mk0, ev_mkv, ev_mkr, ev_wb0, ev_wbv, ev_wbr, ev_iter, ev_iterA, ev_comp, ev_for, ev_sl, ev_part0, ev_part1, ev_mpart, ev_asg, ev_par, ev_listOf, ev_binL, ev_gN, ev_gT, ev_gA0, ev_gA, ev_noIo0, ev_noIo, ev_wipe0, ev_wipe, ev_compL0, ev_compL, ev_forL0, ev_forL, at2_0, at2_1, ixN2_0, ixN2_1, fnSem, List.length_cons, List.length_nil, List.replicate, List.append_eq, List.cons_append, List.nil_append, List.getElem?_cons_zero, List.getElem?_cons_succ, List.set_cons_zero, List.set_cons_succ, List.take_succ_cons, List.take_zero, isIoAt, lstAt, setL, Nat.reduceAdd, Nat.reduceSub, Option.map_some, Option.bind_some, if_true, if_false, Bool.false_eq_true, ite_true, ite_false, reduceIte, Int.natCast_add, decide_eq_true_eq, decide_true, decide_false, Bool.not_true, Bool.not_false, Bool.not_eq_true, and_self, and_true, true_and, Nat.reduceLeDiff, Nat.reduceLT, Bool.and_true, Bool.true_and, Bool.and_false, Bool.false_and, gtD_i, ltD_i, geD_i, ixD_2, addD_i, modD_pos hn, modD_pos hlen, modD_pos (show (0:Int) < 2147483647 by decide), modD_pos (show (0:Int) < 999983 by decide), eqD_ints, h1, hne, len_ints, h3, ix_ints, hx, hz, h4, pow18, mulD_c, mulLD_c, hmix, pow5 hmx.1 hmx.2, Option.map_some]
        · simp only [ev_seq, ev_seq_nx, ev_seq_rt, ev_seq_ex, ev_seq_bk, ev_seq_ct, ev_seq_st, ev_seq_ite, ev_next, ev_ifs, ev_ites, ev_ites_ex, ev_ret, ev_drop, ev_out, ev_out_ex, ev_outA, ev_c, ev_set, ev_own, ev_bind, ev_bind_ex, ev_bindA, ev_op, ev_un, ev_call, ev_ofO, ev_nil, ev_cons, ev_consok, ev_push, ev_tup, ev_lst, ev_not, ev_notb, ev_and, ev_or, ev_if, ev_ite, ev_chain, ev_var, ev_ixO, ev_setIx, ev_augIx, ev_opOL, ev_callO, ev_ref, ev_mut, ev_callF, ev_callN, ev_back, ev_backX, ev_backN, ev_mk0, ev_mkv, ev_mkr, ev_wb0, ev_wbv, ev_wbr, ev_iter, ev_iterA, ev_comp, ev_for, ev_sl, ev_part0, ev_part1, ev_mpart, ev_asg, ev_par, ev_listOf, ev_binL, ev_gN, ev_gT, ev_gA0, ev_gA, ev_noIo0, ev_noIo, ev_wipe0, ev_wipe, ev_compL0, ev_compL, ev_forL0, ev_forL, at2_0, at2_1, ixN2_0, ixN2_1, fnSem, List.length_cons, List.length_nil, List.replicate, List.append_eq, List.cons_append, List.nil_append, List.getElem?_cons_zero, List.getElem?_cons_succ, List.set_cons_zero, List.set_cons_succ, List.take_succ_cons, List.take_zero, isIoAt, lstAt, setL, Nat.reduceAdd, Nat.reduceSub, Option.map_some, Option.bind_some, if_true, if_false, Bool.false_eq_true, ite_true, ite_false, reduceIte, Int.natCast_add, decide_eq_true_eq, decide_true, decide_false, Bool.not_true, Bool.not_false, Bool.not_eq_true, and_self, and_true, true_and, Nat.reduceLeDiff, Nat.reduceLT, Bool.and_true, Bool.true_and, Bool.and_false, Bool.false_and, gtD_i, ltD_i, geD_i, ixD_2, addD_i, modD_pos hn, modD_pos hlen, modD_pos (show (0:Int) < 2147483647 by decide), modD_pos (show (0:Int) < 999983 by decide), eqD_ints, h1, hne, len_ints, h3, ix_ints, hz, pow18, mulD_c, mulLD_c, hmix, pow5 hmx.1 hmx.2, Option.map_some]
end NS

set_option Elab.async false
set_option linter.all false
set_option autoImplicit false
set_option maxRecDepth 100000
set_option maxHeartbeats 4000000
namespace NS
open PySem PySem.Spec PyProof.Rows L2
theorem len_l {xs : List Dt} : lenTD [.list xs] = some (.int xs.length) := rfl
theorem len_t {xs : List Dt} : lenTD [.tuple xs] = some (.int xs.length) := rfl
theorem twn_eq (p q : Int) : twn p q = [.int p, .int q] := rfl
/-- the town after: what a drawing def leaves -/
def Tw (tw : List Dt) : Prop := ∃ p q, tw = twn p q ∧ 0 ≤ p ∧ 0 ≤ q
theorem draw_tw (ns : List Int) {tw : List Dt} (ht : Tw tw) {n : Int} (hn : 0 < n) (hn2 : n < 1073741824) : ∃ r tw', F_law_draw [.val (intsD ns), .io tw, .val (.int n)] = .ok (.int r) [.val (intsD ns), .io tw', .val (.int n)] ∧ 0 ≤ r ∧ r < n ∧ Tw tw' := by
  obtain ⟨p, q, rfl, hp, hq⟩ := ht
  obtain ⟨r, p', q', e, h1, h2, h3, h4⟩ := draw_ok ns hp hq hn hn2
  exact ⟨r, _, e, h1, h2, p', q', rfl, h3, h4⟩
theorem pick_ok (ns : List Int) {tw : List Dt} (ht : Tw tw) (xs : List Dt) (h0 : 0 < xs.length) (h1 : xs.length < 10000) : ∃ x tw', F_law_pick [.val (intsD ns), .io tw, .val (.list xs)] = .ok x [.val (intsD ns), .io tw', .val (.list xs)] ∧ x ∈ xs ∧ Tw tw' := by
  obtain ⟨r, tw', e, h2, h3, h4⟩ := draw_tw ns ht (n := xs.length) (by omega) (by omega)
  obtain ⟨x, hx, hm⟩ := atI_some h2 h3
  refine ⟨x, tw', ?_, hm, h4⟩
  unfold F_law_pick m_law_pick
  simp only [ev_seq, ev_seq_nx, ev_seq_rt, ev_seq_ex, ev_seq_bk, ev_seq_ct, ev_seq_st, ev_seq_ite, ev_next, ev_ifs, ev_ites, ev_ites_ex, ev_ret, ev_drop, ev_out, ev_out_ex, ev_outA, ev_c, ev_set, ev_own, ev_bind, ev_bind_ex, ev_bindA, ev_op, ev_un, ev_call, ev_ofO, ev_nil, ev_cons, ev_consok, ev_push, ev_tup, ev_lst, ev_not, ev_notb, ev_and, ev_or, ev_if, ev_ite, ev_chain, ev_var, ev_ixO, ev_setIx, ev_augIx, ev_opOL, ev_callO, ev_ref, ev_mut, ev_callF, ev_callN, ev_back, ev_backX, ev_backN, ev_mk0, ev_mkv, ev_mkr, ev_wb0, ev_wbv, ev_wbr, ev_iter, ev_iterA, ev_comp, ev_for, ev_sl, ev_part0, ev_part1, ev_mpart, ev_asg, ev_par, ev_listOf, ev_binL, ev_gN, ev_gT, ev_gA0, ev_gA, ev_noIo0, ev_noIo, ev_wipe0, ev_wipe, ev_compL0, ev_compL, ev_forL0, ev_forL, at2_0, at2_1, ixN2_0, ixN2_1, fnSem, List.length_cons, List.length_nil, List.replicate, List.append_eq, List.cons_append, List.nil_append, List.getElem?_cons_zero, List.getElem?_cons_succ, List.set_cons_zero, List.set_cons_succ, List.take_succ_cons, List.take_zero, isIoAt, lstAt, setL, Nat.reduceAdd, Nat.reduceSub, Option.map_some, Option.bind_some, if_true, if_false, Bool.false_eq_true, ite_true, ite_false, reduceIte, Int.natCast_add, decide_eq_true_eq, decide_true, decide_false, Bool.not_true, Bool.not_false, Bool.not_eq_true, and_self, and_true, true_and, Nat.reduceLeDiff, Nat.reduceLT, Bool.and_true, Bool.true_and, Bool.and_false, Bool.false_and, len_l, e, ixD_l, hx]
end NS

set_option Elab.async false
set_option linter.all false
set_option autoImplicit false
set_option maxRecDepth 100000
set_option maxHeartbeats 4000000
namespace NS
open PySem PySem.Spec PyProof.Rows L2
/-- tests -/
inductive Tst | is (w : Str) | any | non (ws : List Str) | like (k : Nat)
def Tst.enc : Tst → Dt
  | .is w => .tuple [.str "is", .str w]
  | .any => .tuple [.str "any"]
  | .non ws => .tuple [.str "none", tupS ws]
  | .like k => .tuple [.str "like", .int k]
theorem enc_is (w : Str) : Tst.enc (.is w) = .tuple [.str "is", .str w] := rfl
theorem enc_any : Tst.enc .any = .tuple [.str "any"] := rfl
theorem enc_non (ws : List Str) : Tst.enc (.non ws) = .tuple [.str "none", tupS ws] := rfl
theorem enc_like (k : Nat) : Tst.enc (.like k) = .tuple [.str "like", .int k] := rfl
/-- those that are drawn -/
inductive TIn (k : Nat) : Tst → Prop
  | isA : TIn k (.is "a")
  | isB : TIn k (.is "b")
  | any : TIn k .any
  | nonA : TIn k (.non ["a"])
  | nonB : TIn k (.non ["a", "b"])
  | like {j : Nat} : j < k → TIn k (.like j)
theorem rep2 (d : Dt) : repF [d] (.int 2) = some [d, d] := by rfl
theorem ext_ok (xs zs : List Dt) (h : xs.length + zs.length ≤ 10000) : extendF xs [.list zs] = some (xs ++ zs) := by
  show (if _ then _ else _) = _
  rw [if_pos h]
theorem extT_ok (xs zs : List Dt) (h : xs.length + zs.length ≤ 10000) : extendF xs [.tuple zs] = some (xs ++ zs) := by
  show (if _ then _ else _) = _
  rw [if_pos h]
theorem app_ok (xs : List Dt) (d : Dt) (h : xs.length < 10000) : appendF xs [d] = some (xs ++ [d]) := by
  show (if _ then _ else _) = _
  rw [if_pos h]
theorem law_test_ok (ns : List Int) {tw : List Dt} (ht : Tw tw) (k : Nat) (hk : k < 10000) : ∃ t tw', F_law_test [.val (intsD ns), .io tw, .val (.int k)] = .ok (Tst.enc t) [.val (intsD ns), .io tw', .val (.int k)] ∧ TIn k t ∧ Tw tw' := by
  by_cases h : 0 < k
  · obtain ⟨r, tw1, e1, h1, h2, ht1⟩ := draw_tw ns ht (n := k) (by omega) (by omega)
    obtain ⟨j, rfl⟩ : ∃ j : Nat, r = j := ⟨r.toNat, by omega⟩
    obtain ⟨x, tw2, e2, hx, ht2⟩ := pick_ok ns ht1 [Tst.enc (.is "a"), Tst.enc (.is "b"), Tst.enc .any, Tst.enc .any, Tst.enc (.non ["a"]), Tst.enc (.non ["a", "b"]), Tst.enc (.like j), Tst.enc (.like j)] (by simp) (by simp)
    have : ∃ t, x = Tst.enc t ∧ TIn k t := by
      simp only [List.mem_cons, List.not_mem_nil, or_false] at hx
      rcases hx with h | h | h | h | h | h | h | h <;> subst h
      · exact ⟨_, rfl, .isA⟩
      · exact ⟨_, rfl, .isB⟩
      · exact ⟨_, rfl, .any⟩
      · exact ⟨_, rfl, .any⟩
      · exact ⟨_, rfl, .nonA⟩
      · exact ⟨_, rfl, .nonB⟩
      · exact ⟨_, rfl, .like (by omega)⟩
      · exact ⟨_, rfl, .like (by omega)⟩
    obtain ⟨t, rfl, htt⟩ := this
    refine ⟨t, tw2, ?_, htt, ht2⟩
    have hk0 : (0:Int) < k := by omega
    unfold F_law_test m_law_test
    simp only [enc_is, enc_any, enc_non, enc_like, tupS, List.map_cons, List.map_nil] at e2
    simp only [ev_seq, ev_seq_nx, ev_seq_rt, ev_seq_ex, ev_seq_bk, ev_seq_ct, ev_seq_st, ev_seq_ite, ev_next, ev_ifs, ev_ites, ev_ites_ex, ev_ret, ev_drop, ev_out, ev_out_ex, ev_outA, ev_c, ev_set, ev_own, ev_bind, ev_bind_ex, ev_bindA, ev_op, ev_un, ev_call, ev_ofO, ev_nil, ev_cons, ev_consok, ev_push, ev_tup, ev_lst, ev_not, ev_notb, ev_and, ev_or, ev_if, ev_ite, ev_chain, ev_var, ev_ixO, ev_setIx, ev_augIx, ev_opOL, ev_callO, ev_ref, ev_mut, ev_callF, ev_callN, ev_back, ev_backX, ev_backN, ev_mk0, ev_mkv, ev_mkr, ev_wb0, ev_wbv, ev_wbr, ev_iter, ev_iterA, ev_comp, ev_for, ev_sl, ev_part0, ev_part1, ev_mpart, ev_asg, ev_par, ev_listOf, ev_binL, ev_gN, ev_gT, ev_gA0, ev_gA, ev_noIo0, ev_noIo, ev_wipe0, ev_wipe, ev_compL0, ev_compL, ev_forL0, ev_forL, at2_0, at2_1, ixN2_0, ixN2_1, fnSem, List.length_cons, List.length_nil, List.replicate, List.append_eq, List.cons_append, List.nil_append, List.getElem?_cons_zero, List.getElem?_cons_succ, List.set_cons_zero, List.set_cons_succ, List.take_succ_cons, List.take_zero, isIoAt, lstAt, setL, Nat.reduceAdd, Nat.reduceSub, Option.map_some, Option.bind_some, if_true, if_false, Bool.false_eq_true, ite_true, ite_false, reduceIte, Int.natCast_add, decide_eq_true_eq, decide_true, decide_false, Bool.not_true, Bool.not_false, Bool.not_eq_true, and_self, and_true, true_and, Nat.reduceLeDiff, Nat.reduceLT, Bool.and_true, Bool.true_and, Bool.and_false, Bool.false_and, gtD_i, hk0, e1, rep2, extendF, e2]
  · have hk0 : ¬ (0:Int) < k := by omega
    obtain ⟨x, tw2, e2, hx, ht2⟩ := pick_ok ns ht [Tst.enc (.is "a"), Tst.enc (.is "b"), Tst.enc .any, Tst.enc .any, Tst.enc (.non ["a"]), Tst.enc (.non ["a", "b"])] (by simp) (by simp)
    have : ∃ t, x = Tst.enc t ∧ TIn k t := by
      simp only [List.mem_cons, List.not_mem_nil, or_false] at hx
      rcases hx with h | h | h | h | h | h <;> subst h
      · exact ⟨_, rfl, .isA⟩
      · exact ⟨_, rfl, .isB⟩
      · exact ⟨_, rfl, .any⟩
      · exact ⟨_, rfl, .any⟩
      · exact ⟨_, rfl, .nonA⟩
      · exact ⟨_, rfl, .nonB⟩
    obtain ⟨t, rfl, htt⟩ := this
    refine ⟨t, tw2, ?_, htt, ht2⟩
    unfold F_law_test m_law_test
    simp only [enc_is, enc_any, enc_non, enc_like, tupS, List.map_cons, List.map_nil] at e2
    simp only [ev_seq, ev_seq_nx, ev_seq_rt, ev_seq_ex, ev_seq_bk, ev_seq_ct, ev_seq_st, ev_seq_ite, ev_next, ev_ifs, ev_ites, ev_ites_ex, ev_ret, ev_drop, ev_out, ev_out_ex, ev_outA, ev_c, ev_set, ev_own, ev_bind, ev_bind_ex, ev_bindA, ev_op, ev_un, ev_call, ev_ofO, ev_nil, ev_cons, ev_consok, ev_push, ev_tup, ev_lst, ev_not, ev_notb, ev_and, ev_or, ev_if, ev_ite, ev_chain, ev_var, ev_ixO, ev_setIx, ev_augIx, ev_opOL, ev_callO, ev_ref, ev_mut, ev_callF, ev_callN, ev_back, ev_backX, ev_backN, ev_mk0, ev_mkv, ev_mkr, ev_wb0, ev_wbv, ev_wbr, ev_iter, ev_iterA, ev_comp, ev_for, ev_sl, ev_part0, ev_part1, ev_mpart, ev_asg, ev_par, ev_listOf, ev_binL, ev_gN, ev_gT, ev_gA0, ev_gA, ev_noIo0, ev_noIo, ev_wipe0, ev_wipe, ev_compL0, ev_compL, ev_forL0, ev_forL, at2_0, at2_1, ixN2_0, ixN2_1, fnSem, List.length_cons, List.length_nil, List.replicate, List.append_eq, List.cons_append, List.nil_append, List.getElem?_cons_zero, List.getElem?_cons_succ, List.set_cons_zero, List.set_cons_succ, List.take_succ_cons, List.take_zero, isIoAt, lstAt, setL, Nat.reduceAdd, Nat.reduceSub, Option.map_some, Option.bind_some, if_true, if_false, Bool.false_eq_true, ite_true, ite_false, reduceIte, Int.natCast_add, decide_eq_true_eq, decide_true, decide_false, Bool.not_true, Bool.not_false, Bool.not_eq_true, and_self, and_true, true_and, Nat.reduceLeDiff, Nat.reduceLT, Bool.and_true, Bool.true_and, Bool.and_false, Bool.false_and, gtD_i, hk0, e2]
end NS

set_option Elab.async false
set_option linter.all false
set_option autoImplicit false
set_option maxRecDepth 100000
set_option maxHeartbeats 4000000
namespace NS
open PySem PySem.Spec PyProof.Rows L2
/-- items -/
inductive Itm | word (w : Str) | field (k : Nat) | rest
def Itm.enc : Itm → Dt
  | .word w => .tuple [.str "word", .str w]
  | .field k => .tuple [.str "field", .int k]
  | .rest => .tuple [.str "rest"]
theorem enc_word (w : Str) : Itm.enc (.word w) = .tuple [.str "word", .str w] := rfl
theorem enc_field (k : Nat) : Itm.enc (.field k) = .tuple [.str "field", .int k] := rfl
theorem enc_rest : Itm.enc .rest = .tuple [.str "rest"] := rfl
inductive IIn (n : Nat) : Itm → Prop
  | a : IIn n (.word "a")
  | b : IIn n (.word "b")
  | c : IIn n (.word "c")
  | f {j : Nat} : j < n → IIn n (.field j)
/-- rules -/
structure Rul where
  fr : List Tst
  op : Bool
  bk : List Tst
  making : List Itm
def tTs (ts : List Tst) : Dt := .tuple (ts.map Tst.enc)
def tIs (is : List Itm) : Dt := .tuple (is.map Itm.enc)
def Rul.enc (r : Rul) : Dt := .tuple [tTs r.fr, .bool r.op, tTs r.bk, tIs r.making]
structure RIn (r : Rul) : Prop where
  fr : r.fr.length ≤ 2
  bk : r.bk.length ≤ 2
  cl : r.op = false → r.bk = [] ∧ 0 < r.fr.length
  ts : ∀ (k : Nat) (t : Tst), (r.fr ++ r.bk)[k]? = some t → TIn k t
  items : ∃ its : List Itm, 0 < its.length ∧ its.length ≤ 3 ∧ (∀ i ∈ its, IIn (r.fr ++ r.bk).length i) ∧ (r.making = its ∨ r.op = true ∧ ∃ k : Nat, r.making = its.take k ++ Itm.rest :: its.drop k)
/-! slices -/
theorem cut_take {xs : List Dt} {k : Nat} : cutD xs none (some (k : Int)) = xs.take k := by
  unfold cutD
  rw [HT.sIx_none, HT.sIx_nat, List.drop_zero, Nat.sub_zero]
  rcases Nat.le_total k xs.length with h | h
  · rw [Nat.min_eq_left h]
  · rw [Nat.min_eq_right h, List.take_of_length_le (Nat.le_refl _), List.take_of_length_le h]
theorem cut_drop {xs : List Dt} {k : Nat} : cutD xs (some (k : Int)) none = xs.drop k := by
  unfold cutD
  rw [HT.sIx_none, HT.sIx_nat]
  rcases Nat.le_total k xs.length with h | h
  · rw [Nat.min_eq_left h, List.take_of_length_le (by rw [List.length_drop]; exact Nat.le_refl _)]
  · rw [Nat.min_eq_right h, Nat.sub_self, List.take_zero, List.drop_of_length_le h]
theorem cut_mid {xs : List Dt} {a b : Nat} : cutD xs (some (a : Int)) (some (b : Int)) = (xs.take b).drop a := by
  unfold cutD
  rw [HT.sIx_nat, HT.sIx_nat, List.drop_take]
  rcases Nat.le_total a xs.length with h | h
  · rw [Nat.min_eq_left h]
    rcases Nat.le_total b xs.length with h2 | h2
    · rw [Nat.min_eq_left h2]
    · rw [Nat.min_eq_right h2, List.take_of_length_le (by rw [List.length_drop]; exact Nat.le_refl _), List.take_of_length_le (by rw [List.length_drop]; omega)]
  · rw [Nat.min_eq_right h, List.drop_of_length_le (Nat.le_refl _), List.take_nil, List.drop_of_length_le h, List.take_nil]
theorem sl_take {xs : List Dt} {k : Nat} : slD (.tuple xs) none (some (k : Int)) = some (.tuple (xs.take k)) := by
  show some (PyData.tuple _) = _
  rw [cut_take]
theorem sl_drop {xs : List Dt} {k : Nat} : slD (.tuple xs) (some (k : Int)) none = some (.tuple (xs.drop k)) := by
  show some (PyData.tuple _) = _
  rw [cut_drop]
theorem sl_mid {xs : List Dt} {a b : Nat} : slD (.tuple xs) (some (a : Int)) (some (b : Int)) = some (.tuple ((xs.take b).drop a)) := by
  show some (PyData.tuple _) = _
  rw [cut_mid]
theorem rangeD_nat (n : Nat) (h : n < 10000) : rangeD [.int n] = some (rangeL 0 n) := by
  show (if _ then _ else _) = _
  rw [if_pos ⟨by omega, by omega⟩, Int.toNat_natCast]
theorem rangeL_len (lo : Int) (n : Nat) : (rangeL lo n).length = n := by unfold rangeL; simp
theorem rangeL_mem {n : Nat} {d : Dt} (h : d ∈ rangeL 0 n) : ∃ k : Nat, d = .int k ∧ k < n := by
  unfold rangeL at h
  obtain ⟨k, h1, rfl⟩ := List.mem_map.mp h
  exact ⟨k, by simp, List.mem_range.mp h1⟩
theorem rangeL_get {n k : Nat} (h : k < n) : (rangeL 0 n)[k]? = some (.int k) := by
  unfold rangeL
  simp [h]
theorem F2.get {α β : Type} {P : α → β → Prop} {as : List α} {bs : List β} (h : F2 P as bs) : as.length = bs.length ∧ ∀ (k : Nat) (a : α) (b : β), as[k]? = some a → bs[k]? = some b → P a b := by
  induction h with
  | nil => exact ⟨rfl, fun k a b h => by simp at h⟩
  | cons hp _ ih =>
    refine ⟨by simp [ih.1], fun k a b h1 h2 => ?_⟩
    cases k with
    | zero => simp at h1 h2; subst h1 h2; exact hp
    | succ k => simp at h1 h2; exact ih.2 k a b h1 h2
theorem F2.encs {α : Type} {P : Dt → Dt → Prop} {Q : α → Prop} {enc : α → Dt} {as bs : List Dt} (h : F2 P as bs) (hP : ∀ a b, P a b → ∃ t, b = enc t ∧ Q t) : ∃ ts : List α, bs = ts.map enc ∧ ts.length = as.length ∧ ∀ t ∈ ts, Q t := by
  induction h with
  | nil => exact ⟨[], rfl, rfl, by simp⟩
  | cons hp _ ih =>
    obtain ⟨t, rfl, h1⟩ := hP _ _ hp
    obtain ⟨ts, rfl, h2, h3⟩ := ih
    refine ⟨t :: ts, rfl, by simp [h2], fun t' h' => ?_⟩
    rcases List.mem_cons.mp h' with rfl | h'
    · exact h1
    · exact h3 t' h'
theorem TIn.mono {a b : Nat} (h : a ≤ b) {t : Tst} (ht : TIn a t) : TIn b t := by
  cases ht with
  | isA => exact .isA
  | isB => exact .isB
  | any => exact .any
  | nonA => exact .nonA
  | nonB => exact .nonB
  | like hj => exact .like (by omega)
theorem enc_inj_ts {n : Nat} {ys : List Dt} (h : F2 (fun d y => ∃ k : Nat, d = .int k ∧ ∃ t, y = Tst.enc t ∧ TIn k t) (rangeL 0 n) ys) : ∃ ts : List Tst, ys = ts.map Tst.enc ∧ ts.length = n ∧ ∀ (k : Nat) (t : Tst), ts[k]? = some t → TIn k t := by
  have key : ∀ (as ys : List Dt) (m : Nat), F2 (fun d y => ∃ k : Nat, d = .int k ∧ ∃ t, y = Tst.enc t ∧ TIn k t) as ys → (∀ k : Nat, k < as.length → as[k]? = some (.int ((m + k : Nat) : Int))) → ∃ ts : List Tst, ys = ts.map Tst.enc ∧ ts.length = as.length ∧ ∀ (k : Nat) (t : Tst), ts[k]? = some t → TIn (m + k) t := by
    intro as
    induction as with
    | nil =>
      intro ys m h _
      cases h
      exact ⟨[], rfl, rfl, fun k t h => by simp at h⟩
    | cons a as ih =>
      intro ys m h hk
      cases h with
      | cons hp h =>
        obtain ⟨k, rfl, t, rfl, ht⟩ := hp
        obtain ⟨ts, rfl, h2, h3⟩ := ih _ (m + 1) h (fun k h => by
          have := hk (k + 1) (by simp; omega)
          simp only [List.getElem?_cons_succ] at this
          rw [this]
          congr 2
          omega)
        have h0 := hk 0 (by simp)
        simp at h0
        refine ⟨t :: ts, rfl, by simp [h2], fun k' t' h' => ?_⟩
        cases k' with
        | zero =>
          simp at h'
          subst h'
          have : k = m := by omega
          subst this
          exact ht
        | succ k' =>
          simp only [List.getElem?_cons_succ] at h'
          have := h3 k' t' h'
          rwa [show m + 1 + k' = m + (k' + 1) by omega] at this
  obtain ⟨ts, h1, h2, h3⟩ := key _ _ 0 h (fun k hk => by rw [rangeL_len] at hk; rw [rangeL_get hk]; simp)
  exact ⟨ts, h1, by rw [h2, rangeL_len], fun k t h => by have := h3 k t h; rwa [Nat.zero_add] at this⟩
end NS

set_option Elab.async false
set_option linter.all false
set_option autoImplicit false
set_option maxRecDepth 100000
set_option maxHeartbeats 4000000
namespace NS
open PySem PySem.Spec PyProof.Rows L2
def bodyRule : Ev → Out := (mSeq (mSet 9 (mIf (mOp neD (mVar 6) (mTup mNil)) (mTup (mCons (mC (.str "field")) (mCons (mCallF F_law_draw [none, some 1, none] (mCons (mVar 0) (mRef 1 (mCons (mOp addD (mVar 4) (mVar 5)) mNil)))) mNil))) (mTup (mCons (mC (.str "word")) (mCons (mC (.str "b")) mNil)))))
  (mMut 7 appendF (mCons (mCallF F_law_pick [none, some 1, none] (mCons (mVar 0) (mRef 1 (mCons (mLst (mCons (mTup (mCons (mC (.str "word")) (mCons (mC (.str "a")) mNil))) (mCons (mTup (mCons (mC (.str "word")) (mCons (mC (.str "c")) mNil))) (mCons (mVar 9) (mCons (mVar 9) (mCons (mVar 9) (mCons (mVar 9) mNil))))))) mNil)))) mNil)))
def tail3 : Ev → Out := (mSeq (mIfS (mAnd (mVar 3) (mOp gtD (mCallF F_law_draw [none, some 1, none] (mCons (mVar 0) (mRef 1 (mCons (mC (.int 5)) mNil)))) (mC (.int 0)))) (mMut 7 insertF (mCons (mCallF F_law_draw [none, some 1, none] (mCons (mVar 0) (mRef 1 (mCons (mOp addD (mCallO lenTD 7) (mC (.int 1))) mNil)))) (mCons (mTup (mCons (mC (.str "rest")) mNil)) mNil))) mNext)
  (mRet (mTup (mCons (mSl (mVar 6) (mC .none) (mPart (mVar 4))) (mCons (mVar 3) (mCons (mSl (mVar 6) (mPart (mVar 4)) (mC .none)) (mCons (mCall tupleD (mCons (mVar 7) mNil)) mNil)))))))
def tailRule : Ev → Out := (mSeq (mSet 6 (mCall tupleD (mCons (mLst (mComp [8] (mIterA rangeD (mCons (mOp addD (mVar 4) (mVar 5)) mNil)) (gN 8) (mC (.bool true)) (mCallN F_law_test [none, some 1, none] (mCons (mVar 0) (mRef 1 (mCons (mVar 8) mNil)))))) mNil)))
  (mSeq (mOwn 7 mNil)
  (mSeq (mFor (mIterA rangeD (mCons (mOp addD (mC (.int 1)) (mCallF F_law_draw [none, some 1, none] (mCons (mVar 0) (mRef 1 (mCons (mC (.int 3)) mNil))))) mNil)) (gN 8) bodyRule) tail3)))
theorem m_rule_eq : m_law_rule = (mSeq (mSet 3 (mOp gtD (mCallF F_law_draw [none, some 1, none] (mCons (mVar 0) (mRef 1 (mCons (mC (.int 4)) mNil)))) (mC (.int 0))))
  (mSeq (mSet 4 (mIf (mVar 3) (mCallF F_law_draw [none, some 1, none] (mCons (mVar 0) (mRef 1 (mCons (mOp addD (mVar 2) (mC (.int 1))) mNil)))) (mOp addD (mC (.int 1)) (mCallF F_law_draw [none, some 1, none] (mCons (mVar 0) (mRef 1 (mCons (mC (.int 2)) mNil)))))))
  (mSeq (mSet 5 (mIf (mVar 3) (mCallF F_law_draw [none, some 1, none] (mCons (mVar 0) (mRef 1 (mCons (mOp addD (mVar 2) (mC (.int 1))) mNil)))) (mC (.int 0)))) tailRule))) := rfl
theorem plainA_tst : ∀ ts : List Tst, PyData.plainAll (ts.map Tst.enc) = true
  | [] => rfl
  | t :: ts => by
    rw [List.map_cons, PyData.plainAll, plainA_tst ts]
    cases t <;> simp [Tst.enc, PyData.plain, PyData.plainAll, plain_tupS]
theorem ne_ts (ts : List Tst) : neD (tTs ts) (.tuple []) = some (.bool (!ts.isEmpty)) := by
  unfold neD eqOk tTs
  rw [PyData.plain, plainA_tst, PyData.plain, PyData.plainAll]
  have hd : (PyData.tuple []).depth = 1 := by simp [PyData.depth, PyData.depthAll]
  rw [hd, if_pos (by simp; omega)]
  cases ts <;> rfl
def rSt (ns : List Int) (tw : List Dt) (sd : Nat) (w : Bool) (m m2 : Nat) (ts : List Tst) (its : List Itm) (s8 s9 : Sl) : Ev := [.val (intsD ns), .io tw, .val (.int sd), .val (.bool w), .val (.int m), .val (.int m2), .val (tTs ts), .own (its.map Itm.enc), s8, s9]
theorem its_len (its : List Itm) (i : Itm) : its.map Itm.enc ++ [i.enc] = (its ++ [i]).map Itm.enc := by simp
theorem body_ok (ns : List Int) {tw : List Dt} (ht : Tw tw) (sd : Nat) (w : Bool) (m m2 : Nat) (ts : List Tst) (its : List Itm) (d8 : Dt) (s9 : Sl) (h9 : s9 = .no ∨ ∃ d, s9 = .val d) (hl : its.length < 10000) (hts : ts.length = m + m2) (hm : m + m2 < 10000) : ∃ i tw' d9, bodyRule (rSt ns tw sd w m m2 ts its (.val d8) s9) = .nx (rSt ns tw' sd w m m2 ts (its ++ [i]) (.val d8) (.val d9)) ∧ Tw tw' ∧ IIn ts.length i := by
  have hap : ∀ i : Itm, appendF (its.map Itm.enc) [i.enc] = some ((its ++ [i]).map Itm.enc) := fun i => by rw [app_ok _ _ (by rw [List.length_map]; exact hl), its_len]
  by_cases h : ts = []
  · subst h
    obtain ⟨x, tw2, e2, hx, ht2⟩ := pick_ok ns ht [Itm.enc (.word "a"), Itm.enc (.word "c"), Itm.enc (.word "b"), Itm.enc (.word "b"), Itm.enc (.word "b"), Itm.enc (.word "b")] (by simp) (by simp)
    have : ∃ t, x = Itm.enc t ∧ IIn 0 t := by
      simp only [List.mem_cons, List.not_mem_nil, or_false] at hx
      rcases hx with h | h | h | h | h | h <;> subst h
      · exact ⟨_, rfl, .a⟩
      · exact ⟨_, rfl, .c⟩
      all_goals exact ⟨_, rfl, .b⟩
    obtain ⟨i, rfl, hi⟩ := this
    refine ⟨i, tw2, Itm.enc (.word "b"), ?_, ht2, hi⟩
    have hne := ne_ts []
    unfold bodyRule rSt
    simp only [enc_word] at e2 ⊢
    rcases h9 with rfl | ⟨dd, rfl⟩ <;> simp only [ev_seq, ev_seq_nx, ev_seq_rt, ev_seq_ex, ev_seq_bk, ev_seq_ct, ev_seq_st, ev_seq_ite, ev_next, ev_ifs, ev_ites, ev_ites_ex, ev_ret, ev_drop, ev_out, ev_out_ex, ev_outA, ev_c, ev_set, ev_own, ev_bind, ev_bind_ex, ev_bindA, ev_op, ev_un, ev_call, ev_ofO, ev_nil, ev_cons, ev_consok, ev_push, ev_tup, ev_lst, ev_not, ev_notb, ev_and, ev_or, ev_if, ev_ite, ev_chain, ev_var, ev_ixO, ev_setIx, ev_augIx, ev_opOL, ev_callO, ev_ref, ev_mut, ev_callF, ev_callN, ev_back, ev_backX, ev_backN, ev_mk0, ev_mkv, ev_mkr, ev_wb0, ev_wbv, ev_wbr, ev_iter, ev_iterA, ev_comp, ev_for, ev_sl, ev_part0, ev_part1, ev_mpart, ev_asg, ev_par, ev_listOf, ev_binL, ev_gN, ev_gT, ev_gA0, ev_gA, ev_noIo0, ev_noIo, ev_wipe0, ev_wipe, ev_compL0, ev_compL, ev_forL0, ev_forL, at2_0, at2_1, ixN2_0, ixN2_1, fnSem, List.length_cons, List.length_nil, List.replicate, List.append_eq, List.cons_append, List.nil_append, List.getElem?_cons_zero, List.getElem?_cons_succ, List.set_cons_zero, List.set_cons_succ, List.take_succ_cons, List.take_zero, isIoAt, lstAt, setL, Nat.reduceAdd, Nat.reduceSub, Option.map_some, Option.bind_some, if_true, if_false, Bool.false_eq_true, ite_true, ite_false, reduceIte, Int.natCast_add, decide_eq_true_eq, decide_true, decide_false, Bool.not_true, Bool.not_false, Bool.not_eq_true, and_self, and_true, true_and, Nat.reduceLeDiff, Nat.reduceLT, Bool.and_true, Bool.true_and, Bool.and_false, Bool.false_and, hne, List.isEmpty_nil, e2, hap]
  · have hpos : (0:Int) < (m:Int) + m2 := by
      have : ts.length ≠ 0 := fun h' => h (List.length_eq_zero_iff.mp h')
      omega
    obtain ⟨r, tw1, e1, h1, h2, ht1⟩ := draw_tw ns ht (n := (m:Int) + m2) hpos (by omega)
    obtain ⟨j, rfl⟩ : ∃ j : Nat, r = j := ⟨r.toNat, by omega⟩
    obtain ⟨x, tw2, e2, hx, ht2⟩ := pick_ok ns ht1 [Itm.enc (.word "a"), Itm.enc (.word "c"), Itm.enc (.field j), Itm.enc (.field j), Itm.enc (.field j), Itm.enc (.field j)] (by simp) (by simp)
    have : ∃ t, x = Itm.enc t ∧ IIn ts.length t := by
      simp only [List.mem_cons, List.not_mem_nil, or_false] at hx
      rcases hx with h | h | h | h | h | h <;> subst h
      · exact ⟨_, rfl, .a⟩
      · exact ⟨_, rfl, .c⟩
      all_goals exact ⟨_, rfl, .f (by omega)⟩
    obtain ⟨i, rfl, hi⟩ := this
    refine ⟨i, tw2, Itm.enc (.field j), ?_, ht2, hi⟩
    have hne := ne_ts ts
    have hem : ts.isEmpty = false := by cases ts with
      | nil => exact absurd rfl h
      | cons _ _ => rfl
    unfold bodyRule rSt
    simp only [enc_word, enc_field] at e2 ⊢
    rcases h9 with rfl | ⟨dd, rfl⟩ <;> simp only [ev_seq, ev_seq_nx, ev_seq_rt, ev_seq_ex, ev_seq_bk, ev_seq_ct, ev_seq_st, ev_seq_ite, ev_next, ev_ifs, ev_ites, ev_ites_ex, ev_ret, ev_drop, ev_out, ev_out_ex, ev_outA, ev_c, ev_set, ev_own, ev_bind, ev_bind_ex, ev_bindA, ev_op, ev_un, ev_call, ev_ofO, ev_nil, ev_cons, ev_consok, ev_push, ev_tup, ev_lst, ev_not, ev_notb, ev_and, ev_or, ev_if, ev_ite, ev_chain, ev_var, ev_ixO, ev_setIx, ev_augIx, ev_opOL, ev_callO, ev_ref, ev_mut, ev_callF, ev_callN, ev_back, ev_backX, ev_backN, ev_mk0, ev_mkv, ev_mkr, ev_wb0, ev_wbv, ev_wbr, ev_iter, ev_iterA, ev_comp, ev_for, ev_sl, ev_part0, ev_part1, ev_mpart, ev_asg, ev_par, ev_listOf, ev_binL, ev_gN, ev_gT, ev_gA0, ev_gA, ev_noIo0, ev_noIo, ev_wipe0, ev_wipe, ev_compL0, ev_compL, ev_forL0, ev_forL, at2_0, at2_1, ixN2_0, ixN2_1, fnSem, List.length_cons, List.length_nil, List.replicate, List.append_eq, List.cons_append, List.nil_append, List.getElem?_cons_zero, List.getElem?_cons_succ, List.set_cons_zero, List.set_cons_succ, List.take_succ_cons, List.take_zero, isIoAt, lstAt, setL, Nat.reduceAdd, Nat.reduceSub, Option.map_some, Option.bind_some, if_true, if_false, Bool.false_eq_true, ite_true, ite_false, reduceIte, Int.natCast_add, decide_eq_true_eq, decide_true, decide_false, Bool.not_true, Bool.not_false, Bool.not_eq_true, and_self, and_true, true_and, Nat.reduceLeDiff, Nat.reduceLT, Bool.and_true, Bool.true_and, Bool.and_false, Bool.false_and, hne, hem, addD_i, e1, e2, hap]
end NS

set_option Elab.async false
set_option linter.all false
set_option autoImplicit false
set_option maxRecDepth 100000
set_option maxHeartbeats 4000000
namespace NS
open PySem PySem.Spec PyProof.Rows L2
def tail4 : Ev → Out := (mRet (mTup (mCons (mSl (mVar 6) (mC .none) (mPart (mVar 4))) (mCons (mVar 3) (mCons (mSl (mVar 6) (mPart (mVar 4)) (mC .none)) (mCons (mCall tupleD (mCons (mVar 7) mNil)) mNil))))))
theorem tail3_eq : tail3 = (mSeq (mIfS (mAnd (mVar 3) (mOp gtD (mCallF F_law_draw [none, some 1, none] (mCons (mVar 0) (mRef 1 (mCons (mC (.int 5)) mNil)))) (mC (.int 0)))) (mMut 7 insertF (mCons (mCallF F_law_draw [none, some 1, none] (mCons (mVar 0) (mRef 1 (mCons (mOp addD (mCallO lenTD 7) (mC (.int 1))) mNil)))) (mCons (mTup (mCons (mC (.str "rest")) mNil)) mNil))) mNext)
  tail4) := rfl
theorem tupleD_l {xs : List Dt} : tupleD [.list xs] = some (.tuple xs) := rfl
theorem tail4_ok (ns : List Int) (tw : List Dt) (sd : Nat) (w : Bool) (m m2 : Nat) (ts : List Tst) (its : List Itm) (s8 s9 : Sl) : ∃ ρ', tail4 (rSt ns tw sd w m m2 ts its s8 s9) = .rt (Rul.enc ⟨ts.take m, w, ts.drop m, its⟩) ρ' ∧ ρ'.take 3 = [.val (intsD ns), .io tw, .val (.int sd)] := by
  refine ⟨(rSt ns tw sd w m m2 ts its s8 s9).set 7 (.val (.list (its.map Itm.enc))), ?_, rfl⟩
  unfold tail4 rSt Rul.enc
  simp only [ev_seq, ev_seq_nx, ev_seq_rt, ev_seq_ex, ev_seq_bk, ev_seq_ct, ev_seq_st, ev_seq_ite, ev_next, ev_ifs, ev_ites, ev_ites_ex, ev_ret, ev_drop, ev_out, ev_out_ex, ev_outA, ev_c, ev_set, ev_own, ev_bind, ev_bind_ex, ev_bindA, ev_op, ev_un, ev_call, ev_ofO, ev_nil, ev_cons, ev_consok, ev_push, ev_tup, ev_lst, ev_not, ev_notb, ev_and, ev_or, ev_if, ev_ite, ev_chain, ev_var, ev_ixO, ev_setIx, ev_augIx, ev_opOL, ev_callO, ev_ref, ev_mut, ev_callF, ev_callN, ev_back, ev_backX, ev_backN, ev_mk0, ev_mkv, ev_mkr, ev_wb0, ev_wbv, ev_wbr, ev_iter, ev_iterA, ev_comp, ev_for, ev_sl, ev_part0, ev_part1, ev_mpart, ev_asg, ev_par, ev_listOf, ev_binL, ev_gN, ev_gT, ev_gA0, ev_gA, ev_noIo0, ev_noIo, ev_wipe0, ev_wipe, ev_compL0, ev_compL, ev_forL0, ev_forL, at2_0, at2_1, ixN2_0, ixN2_1, fnSem, List.length_cons, List.length_nil, List.replicate, List.append_eq, List.cons_append, List.nil_append, List.getElem?_cons_zero, List.getElem?_cons_succ, List.set_cons_zero, List.set_cons_succ, List.take_succ_cons, List.take_zero, isIoAt, lstAt, setL, Nat.reduceAdd, Nat.reduceSub, Option.map_some, Option.bind_some, if_true, if_false, Bool.false_eq_true, ite_true, ite_false, reduceIte, Int.natCast_add, decide_eq_true_eq, decide_true, decide_false, Bool.not_true, Bool.not_false, Bool.not_eq_true, and_self, and_true, true_and, Nat.reduceLeDiff, Nat.reduceLT, Bool.and_true, Bool.true_and, Bool.and_false, Bool.false_and, tTs, tIs, sl_take, sl_drop, tupleD_l, List.map_take, List.map_drop]
theorem ins_ok (its : List Itm) (k : Nat) (h : its.length < 10000) (hk : k < 10000) : insertF (its.map Itm.enc) [.int k, Itm.enc .rest] = some ((its.take k ++ Itm.rest :: its.drop k).map Itm.enc) := by
  show (if _ then _ else _) = _
  rw [if_pos ⟨by rw [List.length_map]; exact h, by omega, by omega⟩, Int.toNat_natCast]
  simp
theorem tail3_ok (ns : List Int) {tw : List Dt} (ht : Tw tw) (sd : Nat) (w : Bool) (m m2 : Nat) (ts : List Tst) (its : List Itm) (s8 s9 : Sl) (hl : its.length < 1000) : ∃ (its' : List Itm) (tw' : List Dt) (ρ' : Ev), tail3 (rSt ns tw sd w m m2 ts its s8 s9) = .rt (Rul.enc ⟨ts.take m, w, ts.drop m, its'⟩) ρ' ∧ ρ'.take 3 = [.val (intsD ns), .io tw', .val (.int sd)] ∧ Tw tw' ∧ (its' = its ∨ w = true ∧ ∃ k : Nat, its' = its.take k ++ Itm.rest :: its.drop k) := by
  rw [tail3_eq]
  cases w with
  | false =>
    obtain ⟨ρ', e, h⟩ := tail4_ok ns tw sd false m m2 ts its s8 s9
    refine ⟨its, tw, ρ', ?_, h, ht, .inl rfl⟩
    unfold rSt at e ⊢
    simp only [ev_seq, ev_seq_nx, ev_seq_rt, ev_seq_ex, ev_seq_bk, ev_seq_ct, ev_seq_st, ev_seq_ite, ev_next, ev_ifs, ev_ites, ev_ites_ex, ev_ret, ev_drop, ev_out, ev_out_ex, ev_outA, ev_c, ev_set, ev_own, ev_bind, ev_bind_ex, ev_bindA, ev_op, ev_un, ev_call, ev_ofO, ev_nil, ev_cons, ev_consok, ev_push, ev_tup, ev_lst, ev_not, ev_notb, ev_and, ev_or, ev_if, ev_ite, ev_chain, ev_var, ev_ixO, ev_setIx, ev_augIx, ev_opOL, ev_callO, ev_ref, ev_mut, ev_callF, ev_callN, ev_back, ev_backX, ev_backN, ev_mk0, ev_mkv, ev_mkr, ev_wb0, ev_wbv, ev_wbr, ev_iter, ev_iterA, ev_comp, ev_for, ev_sl, ev_part0, ev_part1, ev_mpart, ev_asg, ev_par, ev_listOf, ev_binL, ev_gN, ev_gT, ev_gA0, ev_gA, ev_noIo0, ev_noIo, ev_wipe0, ev_wipe, ev_compL0, ev_compL, ev_forL0, ev_forL, at2_0, at2_1, ixN2_0, ixN2_1, fnSem, List.length_cons, List.length_nil, List.replicate, List.append_eq, List.cons_append, List.nil_append, List.getElem?_cons_zero, List.getElem?_cons_succ, List.set_cons_zero, List.set_cons_succ, List.take_succ_cons, List.take_zero, isIoAt, lstAt, setL, Nat.reduceAdd, Nat.reduceSub, Option.map_some, Option.bind_some, if_true, if_false, Bool.false_eq_true, ite_true, ite_false, reduceIte, Int.natCast_add, decide_eq_true_eq, decide_true, decide_false, Bool.not_true, Bool.not_false, Bool.not_eq_true, and_self, and_true, true_and, Nat.reduceLeDiff, Nat.reduceLT, Bool.and_true, Bool.true_and, Bool.and_false, Bool.false_and, e]
  | true =>
    obtain ⟨r, tw1, e1, h1, h2, ht1⟩ := draw_tw ns ht (n := 5) (by omega) (by omega)
    by_cases hr : 0 < r
    · obtain ⟨k, tw2, e2, h3, h4, ht2⟩ := draw_tw ns ht1 (n := (its.length : Int) + 1) (by omega) (by omega)
      obtain ⟨k, rfl⟩ : ∃ j : Nat, k = j := ⟨k.toNat, by omega⟩
      obtain ⟨ρ', e, h⟩ := tail4_ok ns tw2 sd true m m2 ts (its.take k ++ Itm.rest :: its.drop k) s8 s9
      refine ⟨its.take k ++ Itm.rest :: its.drop k, tw2, ρ', ?_, h, ht2, .inr ⟨rfl, k, rfl⟩⟩
      have hi := ins_ok its k (by omega) (by omega)
      rw [enc_rest] at hi
      unfold rSt at e ⊢
      simp only [ev_seq, ev_seq_nx, ev_seq_rt, ev_seq_ex, ev_seq_bk, ev_seq_ct, ev_seq_st, ev_seq_ite, ev_next, ev_ifs, ev_ites, ev_ites_ex, ev_ret, ev_drop, ev_out, ev_out_ex, ev_outA, ev_c, ev_set, ev_own, ev_bind, ev_bind_ex, ev_bindA, ev_op, ev_un, ev_call, ev_ofO, ev_nil, ev_cons, ev_consok, ev_push, ev_tup, ev_lst, ev_not, ev_notb, ev_and, ev_or, ev_if, ev_ite, ev_chain, ev_var, ev_ixO, ev_setIx, ev_augIx, ev_opOL, ev_callO, ev_ref, ev_mut, ev_callF, ev_callN, ev_back, ev_backX, ev_backN, ev_mk0, ev_mkv, ev_mkr, ev_wb0, ev_wbv, ev_wbr, ev_iter, ev_iterA, ev_comp, ev_for, ev_sl, ev_part0, ev_part1, ev_mpart, ev_asg, ev_par, ev_listOf, ev_binL, ev_gN, ev_gT, ev_gA0, ev_gA, ev_noIo0, ev_noIo, ev_wipe0, ev_wipe, ev_compL0, ev_compL, ev_forL0, ev_forL, at2_0, at2_1, ixN2_0, ixN2_1, fnSem, List.length_cons, List.length_nil, List.replicate, List.append_eq, List.cons_append, List.nil_append, List.getElem?_cons_zero, List.getElem?_cons_succ, List.set_cons_zero, List.set_cons_succ, List.take_succ_cons, List.take_zero, isIoAt, lstAt, setL, Nat.reduceAdd, Nat.reduceSub, Option.map_some, Option.bind_some, if_true, if_false, Bool.false_eq_true, ite_true, ite_false, reduceIte, Int.natCast_add, decide_eq_true_eq, decide_true, decide_false, Bool.not_true, Bool.not_false, Bool.not_eq_true, and_self, and_true, true_and, Nat.reduceLeDiff, Nat.reduceLT, Bool.and_true, Bool.true_and, Bool.and_false, Bool.false_and, e1, gtD_i, hr, len_l, List.length_map, isScal, addD_i, e2, hi, e]
    · obtain ⟨ρ', e, h⟩ := tail4_ok ns tw1 sd true m m2 ts its s8 s9
      refine ⟨its, tw1, ρ', ?_, h, ht1, .inl rfl⟩
      unfold rSt at e ⊢
      simp only [ev_seq, ev_seq_nx, ev_seq_rt, ev_seq_ex, ev_seq_bk, ev_seq_ct, ev_seq_st, ev_seq_ite, ev_next, ev_ifs, ev_ites, ev_ites_ex, ev_ret, ev_drop, ev_out, ev_out_ex, ev_outA, ev_c, ev_set, ev_own, ev_bind, ev_bind_ex, ev_bindA, ev_op, ev_un, ev_call, ev_ofO, ev_nil, ev_cons, ev_consok, ev_push, ev_tup, ev_lst, ev_not, ev_notb, ev_and, ev_or, ev_if, ev_ite, ev_chain, ev_var, ev_ixO, ev_setIx, ev_augIx, ev_opOL, ev_callO, ev_ref, ev_mut, ev_callF, ev_callN, ev_back, ev_backX, ev_backN, ev_mk0, ev_mkv, ev_mkr, ev_wb0, ev_wbv, ev_wbr, ev_iter, ev_iterA, ev_comp, ev_for, ev_sl, ev_part0, ev_part1, ev_mpart, ev_asg, ev_par, ev_listOf, ev_binL, ev_gN, ev_gT, ev_gA0, ev_gA, ev_noIo0, ev_noIo, ev_wipe0, ev_wipe, ev_compL0, ev_compL, ev_forL0, ev_forL, at2_0, at2_1, ixN2_0, ixN2_1, fnSem, List.length_cons, List.length_nil, List.replicate, List.append_eq, List.cons_append, List.nil_append, List.getElem?_cons_zero, List.getElem?_cons_succ, List.set_cons_zero, List.set_cons_succ, List.take_succ_cons, List.take_zero, isIoAt, lstAt, setL, Nat.reduceAdd, Nat.reduceSub, Option.map_some, Option.bind_some, if_true, if_false, Bool.false_eq_true, ite_true, ite_false, reduceIte, Int.natCast_add, decide_eq_true_eq, decide_true, decide_false, Bool.not_true, Bool.not_false, Bool.not_eq_true, and_self, and_true, true_and, Nat.reduceLeDiff, Nat.reduceLT, Bool.and_true, Bool.true_and, Bool.and_false, Bool.false_and, e1, gtD_i, hr, e]
def rI (ns : List Int) (sd : Nat) (w : Bool) (m m2 : Nat) (ts : List Tst) (k : Nat) (ρ : Ev) : Prop := ∃ tw its s8 s9, ρ = rSt ns tw sd w m m2 ts its s8 s9 ∧ Tw tw ∧ its.length = k ∧ (∀ i ∈ its, IIn ts.length i) ∧ (s8 = .no ∨ ∃ d, s8 = .val d) ∧ (s9 = .no ∨ ∃ d, s9 = .val d)
def rS0 (ns : List Int) (tw : List Dt) (sd : Nat) (w : Bool) (m m2 : Nat) : Ev := [.val (intsD ns), .io tw, .val (.int sd), .val (.bool w), .val (.int m), .val (.int m2), .no, .no, .no, .no]
theorem tail_ok (ns : List Int) {tw : List Dt} (ht : Tw tw) (sd : Nat) (w : Bool) (m m2 : Nat) (hm : m + m2 < 1000) : ∃ (ts : List Tst) (its its' : List Itm) (tw' : List Dt) (ρ' : Ev), tailRule (rS0 ns tw sd w m m2) = .rt (Rul.enc ⟨ts.take m, w, ts.drop m, its'⟩) ρ' ∧ ρ'.take 3 = [.val (intsD ns), .io tw', .val (.int sd)] ∧ Tw tw' ∧ ts.length = m + m2 ∧ (∀ (k : Nat) (t : Tst), ts[k]? = some t → TIn k t) ∧ 0 < its.length ∧ its.length ≤ 3 ∧ (∀ i ∈ its, IIn ts.length i) ∧ (its' = its ∨ w = true ∧ ∃ k : Nat, its' = its.take k ++ Itm.rest :: its.drop k) := by
  have hrg : rangeD [.int ((m:Int) + m2)] = some (rangeL 0 (m + m2)) := rangeD_nat (m + m2) (by omega)
  obtain ⟨ys, ρ1, e1, ⟨tw1, ht1, rfl⟩, hf⟩ := compL_inv (vs := [8]) (g := gN 8) (mb := mCallN F_law_test [none, some 1, none] (mCons (mVar 0) (mRef 1 (mCons (mVar 8) mNil)))) (fun ρ => ∃ tw, Tw tw ∧ ρ = rS0 ns tw sd w m m2) (fun d y => ∃ k : Nat, d = .int k ∧ ∃ t, y = Tst.enc t ∧ TIn k t) (rangeL 0 (m + m2)) (rS0 ns tw sd w m m2) [] ⟨tw, ht, rfl⟩ (by rw [rangeL_len]; simp; omega) (by
    rintro d hd ρ ⟨tw, ht, rfl⟩
    obtain ⟨k, rfl, hk⟩ := rangeL_mem hd
    obtain ⟨t, tw', e, ht1, ht2⟩ := law_test_ok ns ht k (by omega)
    refine ⟨(rS0 ns tw sd w m m2).set 8 (.val (.int k)), Tst.enc t, (rS0 ns tw' sd w m m2).set 8 (.val (.int k)), rfl, ?_, ⟨k, rfl, t, rfl, ht1⟩, rfl, tw', ht2, rfl⟩
    unfold rS0
    simp only [ev_seq, ev_seq_nx, ev_seq_rt, ev_seq_ex, ev_seq_bk, ev_seq_ct, ev_seq_st, ev_seq_ite, ev_next, ev_ifs, ev_ites, ev_ites_ex, ev_ret, ev_drop, ev_out, ev_out_ex, ev_outA, ev_c, ev_set, ev_own, ev_bind, ev_bind_ex, ev_bindA, ev_op, ev_un, ev_call, ev_ofO, ev_nil, ev_cons, ev_consok, ev_push, ev_tup, ev_lst, ev_not, ev_notb, ev_and, ev_or, ev_if, ev_ite, ev_chain, ev_var, ev_ixO, ev_setIx, ev_augIx, ev_opOL, ev_callO, ev_ref, ev_mut, ev_callF, ev_callN, ev_back, ev_backX, ev_backN, ev_mk0, ev_mkv, ev_mkr, ev_wb0, ev_wbv, ev_wbr, ev_iter, ev_iterA, ev_comp, ev_for, ev_sl, ev_part0, ev_part1, ev_mpart, ev_asg, ev_par, ev_listOf, ev_binL, ev_gN, ev_gT, ev_gA0, ev_gA, ev_noIo0, ev_noIo, ev_wipe0, ev_wipe, ev_compL0, ev_compL, ev_forL0, ev_forL, at2_0, at2_1, ixN2_0, ixN2_1, fnSem, List.length_cons, List.length_nil, List.replicate, List.append_eq, List.cons_append, List.nil_append, List.getElem?_cons_zero, List.getElem?_cons_succ, List.set_cons_zero, List.set_cons_succ, List.take_succ_cons, List.take_zero, isIoAt, lstAt, setL, Nat.reduceAdd, Nat.reduceSub, Option.map_some, Option.bind_some, if_true, if_false, Bool.false_eq_true, ite_true, ite_false, reduceIte, Int.natCast_add, decide_eq_true_eq, decide_true, decide_false, Bool.not_true, Bool.not_false, Bool.not_eq_true, and_self, and_true, true_and, Nat.reduceLeDiff, Nat.reduceLT, Bool.and_true, Bool.true_and, Bool.and_false, Bool.false_and, e])
  obtain ⟨ts, rfl, hlen, hts⟩ := enc_inj_ts hf
  rw [List.nil_append] at e1
  obtain ⟨r, tw2, e2, h1, h2, ht2⟩ := draw_tw ns ht1 (n := 3) (by omega) (by omega)
  obtain ⟨c, rfl⟩ : ∃ j : Nat, r = j := ⟨r.toNat, by omega⟩
  have hrg2 : rangeD [.int (1 + (c:Int))] = some (rangeL 0 (1 + c)) := rangeD_nat (1 + c) (by omega)
  obtain ⟨ρ3, e3, tw3, hI⟩ := forL_keep (g := gN 8) (b := bodyRule) (rI ns sd w m m2 ts) (rangeL 0 (1 + c)) 0 (rSt ns tw2 sd w m m2 ts [] .no .no) ⟨tw2, [], .no, .no, rfl, ht2, rfl, by simp, .inl rfl, .inl rfl⟩ (by
    rintro d hd k' ρ hk ⟨tw, its, s8, s9, rfl, ht, hl, hi, h8, h9⟩
    rw [rangeL_len] at hk
    obtain ⟨i, tw', d9, e, h1', h2'⟩ := body_ok ns ht sd w m m2 ts its d s9 h9 (by omega) hlen (by omega)
    refine ⟨rSt ns tw sd w m m2 ts its (.val d) s9, _, ?_, e, tw', its ++ [i], .val d, .val d9, rfl, h1', by simp [hl], fun j hj => ?_, .inr ⟨d, rfl⟩, .inr ⟨d9, rfl⟩⟩
    · rcases h8 with rfl | ⟨d', rfl⟩ <;> rfl
    · rcases List.mem_append.mp hj with hj | hj
      · exact hi j hj
      · rw [List.mem_singleton] at hj
        subst hj
        exact h2')
  rw [rangeL_len] at hI
  obtain ⟨its, s8, s9, rfl, ht3, hl3, hi3, -, -⟩ := hI
  obtain ⟨its', tw4, ρ4, e4, h4, ht4, hit⟩ := tail3_ok ns ht3 sd w m m2 ts its s8 s9 (by omega)
  refine ⟨ts, its, its', tw4, ρ4, ?_, h4, ht4, hlen, hts, by omega, by omega, hi3, hit⟩
  unfold tailRule
  unfold rS0 at e1 ⊢
  unfold rSt tTs at e3 e4
  simp only [List.map_nil] at e3
  simp only [ev_seq, ev_seq_nx, ev_seq_rt, ev_seq_ex, ev_seq_bk, ev_seq_ct, ev_seq_st, ev_seq_ite, ev_next, ev_ifs, ev_ites, ev_ites_ex, ev_ret, ev_drop, ev_out, ev_out_ex, ev_outA, ev_c, ev_set, ev_own, ev_bind, ev_bind_ex, ev_bindA, ev_op, ev_un, ev_call, ev_ofO, ev_nil, ev_cons, ev_consok, ev_push, ev_tup, ev_lst, ev_not, ev_notb, ev_and, ev_or, ev_if, ev_ite, ev_chain, ev_var, ev_ixO, ev_setIx, ev_augIx, ev_opOL, ev_callO, ev_ref, ev_mut, ev_callF, ev_callN, ev_back, ev_backX, ev_backN, ev_mk0, ev_mkv, ev_mkr, ev_wb0, ev_wbv, ev_wbr, ev_iter, ev_iterA, ev_comp, ev_for, ev_sl, ev_part0, ev_part1, ev_mpart, ev_asg, ev_par, ev_listOf, ev_binL, ev_gN, ev_gT, ev_gA0, ev_gA, ev_noIo0, ev_noIo, ev_wipe0, ev_wipe, ev_compL0, ev_compL, ev_forL0, ev_forL, at2_0, at2_1, ixN2_0, ixN2_1, fnSem, List.length_cons, List.length_nil, List.replicate, List.append_eq, List.cons_append, List.nil_append, List.getElem?_cons_zero, List.getElem?_cons_succ, List.set_cons_zero, List.set_cons_succ, List.take_succ_cons, List.take_zero, isIoAt, lstAt, setL, Nat.reduceAdd, Nat.reduceSub, Option.map_some, Option.bind_some, if_true, if_false, Bool.false_eq_true, ite_true, ite_false, reduceIte, Int.natCast_add, decide_eq_true_eq, decide_true, decide_false, Bool.not_true, Bool.not_false, Bool.not_eq_true, and_self, and_true, true_and, Nat.reduceLeDiff, Nat.reduceLT, Bool.and_true, Bool.true_and, Bool.and_false, Bool.false_and, addD_i, hrg, e1, tupleD_l, e2, hrg2, e3, e4]
end NS

set_option Elab.async false
set_option linter.all false
set_option autoImplicit false
set_option maxRecDepth 100000
set_option maxHeartbeats 4000000
namespace NS
open PySem PySem.Spec PyProof.Rows L2
theorem rin_of (w : Bool) (m m2 : Nat) (ts : List Tst) (its its' : List Itm) (hm : m ≤ 2) (hm2 : m2 ≤ 2) (hc : w = false → m2 = 0 ∧ 0 < m) (hl : ts.length = m + m2) (ht : ∀ (k : Nat) (t : Tst), ts[k]? = some t → TIn k t) (h1 : 0 < its.length) (h3 : its.length ≤ 3) (hi : ∀ i ∈ its, IIn ts.length i) (hit : its' = its ∨ w = true ∧ ∃ k : Nat, its' = its.take k ++ Itm.rest :: its.drop k) : RIn ⟨ts.take m, w, ts.drop m, its'⟩ := by
  refine ⟨by simp [hl]; omega, by simp [hl]; omega, fun h => ?_, ?_, its, h1, h3, ?_, hit⟩
  · have := hc h
    refine ⟨List.drop_eq_nil_of_le (by omega), by simp [hl]; omega⟩
  · intro k t
    rw [List.take_append_drop]
    exact ht k t
  · rw [List.take_append_drop]
    exact hi
theorem take3 {ρ : Ev} {a b c : Sl} {d : Dt} {m : Out} (h : m = .rt d ρ) (h3 : ρ.take 3 = [a, b, c]) : (match m with
  | .rt d ρ' => FR.ok d (ρ'.take 3)
  | .nx ρ' => .ok .none (ρ'.take 3)
  | .ex x ρ' => .exc x (ρ'.take 3)
  | _ => .stuck) = .ok d [a, b, c] := by rw [h]; show FR.ok _ _ = _; rw [h3]
theorem rule_ok (ns : List Int) {tw : List Dt} (ht : Tw tw) : ∃ r tw', F_law_rule [.val (intsD ns), .io tw, .val (.int 2)] = .ok (Rul.enc r) [.val (intsD ns), .io tw', .val (.int 2)] ∧ RIn r ∧ Tw tw' := by
  obtain ⟨r0, tw1, e1, h1, h2, ht1⟩ := draw_tw ns ht (n := 4) (by omega) (by omega)
  by_cases hr : 0 < r0
  · obtain ⟨m, tw2, e2, h3, h4, ht2⟩ := draw_tw ns ht1 (n := 2 + 1) (by omega) (by omega)
    obtain ⟨m, rfl⟩ : ∃ j : Nat, m = j := ⟨m.toNat, by omega⟩
    obtain ⟨m2, tw3, e3, h5, h6, ht3⟩ := draw_tw ns ht2 (n := 2 + 1) (by omega) (by omega)
    obtain ⟨m2, rfl⟩ : ∃ j : Nat, m2 = j := ⟨m2.toNat, by omega⟩
    obtain ⟨ts, its, its', tw4, ρ', e4, h7, ht4, hlen, hts, q1, q2, q3, q4⟩ := tail_ok ns ht3 2 true m m2 (by omega)
    refine ⟨⟨ts.take m, true, ts.drop m, its'⟩, tw4, ?_, rin_of true m m2 ts its its' (by omega) (by omega) (by simp) hlen hts q1 q2 q3 q4, ht4⟩
    unfold F_law_rule
    rw [m_rule_eq]
    refine take3 (ρ := ρ') ?_ h7
    unfold rS0 at e4
    simp only [ev_seq, ev_seq_nx, ev_seq_rt, ev_seq_ex, ev_seq_bk, ev_seq_ct, ev_seq_st, ev_seq_ite, ev_next, ev_ifs, ev_ites, ev_ites_ex, ev_ret, ev_drop, ev_out, ev_out_ex, ev_outA, ev_c, ev_set, ev_own, ev_bind, ev_bind_ex, ev_bindA, ev_op, ev_un, ev_call, ev_ofO, ev_nil, ev_cons, ev_consok, ev_push, ev_tup, ev_lst, ev_not, ev_notb, ev_and, ev_or, ev_if, ev_ite, ev_chain, ev_var, ev_ixO, ev_setIx, ev_augIx, ev_opOL, ev_callO, ev_ref, ev_mut, ev_callF, ev_callN, ev_back, ev_backX, ev_backN, ev_mk0, ev_mkv, ev_mkr, ev_wb0, ev_wbv, ev_wbr, ev_iter, ev_iterA, ev_comp, ev_for, ev_sl, ev_part0, ev_part1, ev_mpart, ev_asg, ev_par, ev_listOf, ev_binL, ev_gN, ev_gT, ev_gA0, ev_gA, ev_noIo0, ev_noIo, ev_wipe0, ev_wipe, ev_compL0, ev_compL, ev_forL0, ev_forL, at2_0, at2_1, ixN2_0, ixN2_1, fnSem, List.length_cons, List.length_nil, List.replicate, List.append_eq, List.cons_append, List.nil_append, List.getElem?_cons_zero, List.getElem?_cons_succ, List.set_cons_zero, List.set_cons_succ, List.take_succ_cons, List.take_zero, isIoAt, lstAt, setL, Nat.reduceAdd, Nat.reduceSub, Option.map_some, Option.bind_some, if_true, if_false, Bool.false_eq_true, ite_true, ite_false, reduceIte, Int.natCast_add, decide_eq_true_eq, decide_true, decide_false, Bool.not_true, Bool.not_false, Bool.not_eq_true, and_self, and_true, true_and, Nat.reduceLeDiff, Nat.reduceLT, Bool.and_true, Bool.true_and, Bool.and_false, Bool.false_and, e1, gtD_i, hr, addD_i, e2, e3, e4]
    exact e4
  · obtain ⟨m, tw2, e2, h3, h4, ht2⟩ := draw_tw ns ht1 (n := 2) (by omega) (by omega)
    obtain ⟨m, rfl⟩ : ∃ j : Nat, m = j := ⟨m.toNat, by omega⟩
    obtain ⟨ts, its, its', tw4, ρ', e4, h7, ht4, hlen, hts, q1, q2, q3, q4⟩ := tail_ok ns ht2 2 false (1 + m) 0 (by omega)
    refine ⟨⟨ts.take (1 + m), false, ts.drop (1 + m), its'⟩, tw4, ?_, rin_of false (1 + m) 0 ts its its' (by omega) (by omega) (by simp; omega) hlen hts q1 q2 q3 q4, ht4⟩
    unfold F_law_rule
    rw [m_rule_eq]
    refine take3 (ρ := ρ') ?_ h7
    unfold rS0 at e4
    simp only [ev_seq, ev_seq_nx, ev_seq_rt, ev_seq_ex, ev_seq_bk, ev_seq_ct, ev_seq_st, ev_seq_ite, ev_next, ev_ifs, ev_ites, ev_ites_ex, ev_ret, ev_drop, ev_out, ev_out_ex, ev_outA, ev_c, ev_set, ev_own, ev_bind, ev_bind_ex, ev_bindA, ev_op, ev_un, ev_call, ev_ofO, ev_nil, ev_cons, ev_consok, ev_push, ev_tup, ev_lst, ev_not, ev_notb, ev_and, ev_or, ev_if, ev_ite, ev_chain, ev_var, ev_ixO, ev_setIx, ev_augIx, ev_opOL, ev_callO, ev_ref, ev_mut, ev_callF, ev_callN, ev_back, ev_backX, ev_backN, ev_mk0, ev_mkv, ev_mkr, ev_wb0, ev_wbv, ev_wbr, ev_iter, ev_iterA, ev_comp, ev_for, ev_sl, ev_part0, ev_part1, ev_mpart, ev_asg, ev_par, ev_listOf, ev_binL, ev_gN, ev_gT, ev_gA0, ev_gA, ev_noIo0, ev_noIo, ev_wipe0, ev_wipe, ev_compL0, ev_compL, ev_forL0, ev_forL, at2_0, at2_1, ixN2_0, ixN2_1, fnSem, List.length_cons, List.length_nil, List.replicate, List.append_eq, List.cons_append, List.nil_append, List.getElem?_cons_zero, List.getElem?_cons_succ, List.set_cons_zero, List.set_cons_succ, List.take_succ_cons, List.take_zero, isIoAt, lstAt, setL, Nat.reduceAdd, Nat.reduceSub, Option.map_some, Option.bind_some, if_true, if_false, Bool.false_eq_true, ite_true, ite_false, reduceIte, Int.natCast_add, decide_eq_true_eq, decide_true, decide_false, Bool.not_true, Bool.not_false, Bool.not_eq_true, and_self, and_true, true_and, Nat.reduceLeDiff, Nat.reduceLT, Bool.and_true, Bool.true_and, Bool.and_false, Bool.false_and, e1, gtD_i, hr, addD_i, e2]
    exact e4
theorem script_ok (ns : List Int) {tw : List Dt} (ht : Tw tw) (n : Nat) (hn : 0 < n) (hn2 : n < 1000) : ∃ (rs : List Rul) (tw' : List Dt), F_law_script [.val (intsD ns), .io tw, .val (.int n), .val (.int 2)] = .ok (.tuple (rs.map Rul.enc)) [.val (intsD ns), .io tw', .val (.int n), .val (.int 2)] ∧ rs.length ≤ n ∧ (∀ r ∈ rs, RIn r) ∧ Tw tw' ∧ 0 < rs.length := by
  obtain ⟨c, tw1, e1, h1, h2, ht1⟩ := draw_tw ns ht (n := n) (by omega) (by omega)
  obtain ⟨c, rfl⟩ : ∃ j : Nat, c = j := ⟨c.toNat, by omega⟩
  have hrg : rangeD [.int (1 + (c:Int))] = some (rangeL 0 (1 + c)) := rangeD_nat (1 + c) (by omega)
  obtain ⟨ys, ρ1, e2, ⟨tw2, ht2, rfl⟩, hf⟩ := compL_inv (vs := [4]) (g := gN 4) (mb := mCallN F_law_rule [none, some 1, none] (mCons (mVar 0) (mRef 1 (mCons (mVar 3) mNil)))) (fun ρ => ∃ tw, Tw tw ∧ ρ = [.val (intsD ns), .io tw, .val (.int n), .val (.int 2), .no]) (fun d y => ∃ r, y = Rul.enc r ∧ RIn r) (rangeL 0 (1 + c)) [.val (intsD ns), .io tw1, .val (.int n), .val (.int 2), .no] [] ⟨tw1, ht1, rfl⟩ (by rw [rangeL_len]; simp; omega) (by
    rintro d hd ρ ⟨tw, ht, rfl⟩
    obtain ⟨r, tw', e, h1, h2⟩ := rule_ok ns ht
    refine ⟨[.val (intsD ns), .io tw, .val (.int n), .val (.int 2), .val d], Rul.enc r, [.val (intsD ns), .io tw', .val (.int n), .val (.int 2), .val d], rfl, ?_, ⟨r, rfl, h1⟩, rfl, tw', h2, rfl⟩
    simp only [ev_seq, ev_seq_nx, ev_seq_rt, ev_seq_ex, ev_seq_bk, ev_seq_ct, ev_seq_st, ev_seq_ite, ev_next, ev_ifs, ev_ites, ev_ites_ex, ev_ret, ev_drop, ev_out, ev_out_ex, ev_outA, ev_c, ev_set, ev_own, ev_bind, ev_bind_ex, ev_bindA, ev_op, ev_un, ev_call, ev_ofO, ev_nil, ev_cons, ev_consok, ev_push, ev_tup, ev_lst, ev_not, ev_notb, ev_and, ev_or, ev_if, ev_ite, ev_chain, ev_var, ev_ixO, ev_setIx, ev_augIx, ev_opOL, ev_callO, ev_ref, ev_mut, ev_callF, ev_callN, ev_back, ev_backX, ev_backN, ev_mk0, ev_mkv, ev_mkr, ev_wb0, ev_wbv, ev_wbr, ev_iter, ev_iterA, ev_comp, ev_for, ev_sl, ev_part0, ev_part1, ev_mpart, ev_asg, ev_par, ev_listOf, ev_binL, ev_gN, ev_gT, ev_gA0, ev_gA, ev_noIo0, ev_noIo, ev_wipe0, ev_wipe, ev_compL0, ev_compL, ev_forL0, ev_forL, at2_0, at2_1, ixN2_0, ixN2_1, fnSem, List.length_cons, List.length_nil, List.replicate, List.append_eq, List.cons_append, List.nil_append, List.getElem?_cons_zero, List.getElem?_cons_succ, List.set_cons_zero, List.set_cons_succ, List.take_succ_cons, List.take_zero, isIoAt, lstAt, setL, Nat.reduceAdd, Nat.reduceSub, Option.map_some, Option.bind_some, if_true, if_false, Bool.false_eq_true, ite_true, ite_false, reduceIte, Int.natCast_add, decide_eq_true_eq, decide_true, decide_false, Bool.not_true, Bool.not_false, Bool.not_eq_true, and_self, and_true, true_and, Nat.reduceLeDiff, Nat.reduceLT, Bool.and_true, Bool.true_and, Bool.and_false, Bool.false_and, e])
  obtain ⟨rs, rfl, hl, hr⟩ := hf.encs (Q := RIn) (enc := Rul.enc) (fun a b h => h)
  rw [rangeL_len] at hl
  rw [List.nil_append] at e2
  refine ⟨rs, tw2, ?_, by omega, hr, ht2, by omega⟩
  unfold F_law_script m_law_script
  simp only [ev_seq, ev_seq_nx, ev_seq_rt, ev_seq_ex, ev_seq_bk, ev_seq_ct, ev_seq_st, ev_seq_ite, ev_next, ev_ifs, ev_ites, ev_ites_ex, ev_ret, ev_drop, ev_out, ev_out_ex, ev_outA, ev_c, ev_set, ev_own, ev_bind, ev_bind_ex, ev_bindA, ev_op, ev_un, ev_call, ev_ofO, ev_nil, ev_cons, ev_consok, ev_push, ev_tup, ev_lst, ev_not, ev_notb, ev_and, ev_or, ev_if, ev_ite, ev_chain, ev_var, ev_ixO, ev_setIx, ev_augIx, ev_opOL, ev_callO, ev_ref, ev_mut, ev_callF, ev_callN, ev_back, ev_backX, ev_backN, ev_mk0, ev_mkv, ev_mkr, ev_wb0, ev_wbv, ev_wbr, ev_iter, ev_iterA, ev_comp, ev_for, ev_sl, ev_part0, ev_part1, ev_mpart, ev_asg, ev_par, ev_listOf, ev_binL, ev_gN, ev_gT, ev_gA0, ev_gA, ev_noIo0, ev_noIo, ev_wipe0, ev_wipe, ev_compL0, ev_compL, ev_forL0, ev_forL, at2_0, at2_1, ixN2_0, ixN2_1, fnSem, List.length_cons, List.length_nil, List.replicate, List.append_eq, List.cons_append, List.nil_append, List.getElem?_cons_zero, List.getElem?_cons_succ, List.set_cons_zero, List.set_cons_succ, List.take_succ_cons, List.take_zero, isIoAt, lstAt, setL, Nat.reduceAdd, Nat.reduceSub, Option.map_some, Option.bind_some, if_true, if_false, Bool.false_eq_true, ite_true, ite_false, reduceIte, Int.natCast_add, decide_eq_true_eq, decide_true, decide_false, Bool.not_true, Bool.not_false, Bool.not_eq_true, and_self, and_true, true_and, Nat.reduceLeDiff, Nat.reduceLT, Bool.and_true, Bool.true_and, Bool.and_false, Bool.false_and, e1, addD_i, hrg, e2, tupleD_l]
/-- words that are drawn -/
def W4 : List Str := ["a", "b", "c", "d"]
theorem name_ok (ns : List Int) {tw : List Dt} (ht : Tw tw) (n : Nat) (hn : 0 < n) (hn2 : n < 1000) : ∃ (nm : List Str) (tw' : List Dt), F_law_name [.val (intsD ns), .io tw, .val (.int n)] = .ok (tupS nm) [.val (intsD ns), .io tw', .val (.int n)] ∧ 0 < nm.length ∧ nm.length ≤ n ∧ (∀ w ∈ nm, w ∈ W4) ∧ Tw tw' := by
  obtain ⟨c, tw1, e1, h1, h2, ht1⟩ := draw_tw ns ht (n := n) (by omega) (by omega)
  obtain ⟨c, rfl⟩ : ∃ j : Nat, c = j := ⟨c.toNat, by omega⟩
  have hrg : rangeD [.int (1 + (c:Int))] = some (rangeL 0 (1 + c)) := rangeD_nat (1 + c) (by omega)
  obtain ⟨ys, ρ1, e2, ⟨tw2, ht2, rfl⟩, hf⟩ := compL_inv (vs := [3]) (g := gN 3) (mb := mCallN F_law_pick [none, some 1, none] (mCons (mVar 0) (mRef 1 (mCons (mLst (mCons (mC (.str "a")) (mCons (mC (.str "b")) (mCons (mC (.str "c")) (mCons (mC (.str "d")) mNil))))) mNil)))) (fun ρ => ∃ tw, Tw tw ∧ ρ = [.val (intsD ns), .io tw, .val (.int n), .no]) (fun d y => ∃ w : Str, y = .str w ∧ w ∈ W4) (rangeL 0 (1 + c)) [.val (intsD ns), .io tw1, .val (.int n), .no] [] ⟨tw1, ht1, rfl⟩ (by rw [rangeL_len]; simp; omega) (by
    rintro d hd ρ ⟨tw, ht, rfl⟩
    obtain ⟨x, tw', e, hx, h2⟩ := pick_ok ns ht [.str "a", .str "b", .str "c", .str "d"] (by simp) (by simp)
    have : ∃ w : Str, x = .str w ∧ w ∈ W4 := by
      simp only [List.mem_cons, List.not_mem_nil, or_false] at hx
      rcases hx with h | h | h | h <;> subst h <;> exact ⟨_, rfl, by simp [W4]⟩
    obtain ⟨w, rfl, hw⟩ := this
    refine ⟨[.val (intsD ns), .io tw, .val (.int n), .val d], .str w, [.val (intsD ns), .io tw', .val (.int n), .val d], rfl, ?_, ⟨w, rfl, hw⟩, rfl, tw', h2, rfl⟩
    simp only [ev_seq, ev_seq_nx, ev_seq_rt, ev_seq_ex, ev_seq_bk, ev_seq_ct, ev_seq_st, ev_seq_ite, ev_next, ev_ifs, ev_ites, ev_ites_ex, ev_ret, ev_drop, ev_out, ev_out_ex, ev_outA, ev_c, ev_set, ev_own, ev_bind, ev_bind_ex, ev_bindA, ev_op, ev_un, ev_call, ev_ofO, ev_nil, ev_cons, ev_consok, ev_push, ev_tup, ev_lst, ev_not, ev_notb, ev_and, ev_or, ev_if, ev_ite, ev_chain, ev_var, ev_ixO, ev_setIx, ev_augIx, ev_opOL, ev_callO, ev_ref, ev_mut, ev_callF, ev_callN, ev_back, ev_backX, ev_backN, ev_mk0, ev_mkv, ev_mkr, ev_wb0, ev_wbv, ev_wbr, ev_iter, ev_iterA, ev_comp, ev_for, ev_sl, ev_part0, ev_part1, ev_mpart, ev_asg, ev_par, ev_listOf, ev_binL, ev_gN, ev_gT, ev_gA0, ev_gA, ev_noIo0, ev_noIo, ev_wipe0, ev_wipe, ev_compL0, ev_compL, ev_forL0, ev_forL, at2_0, at2_1, ixN2_0, ixN2_1, fnSem, List.length_cons, List.length_nil, List.replicate, List.append_eq, List.cons_append, List.nil_append, List.getElem?_cons_zero, List.getElem?_cons_succ, List.set_cons_zero, List.set_cons_succ, List.take_succ_cons, List.take_zero, isIoAt, lstAt, setL, Nat.reduceAdd, Nat.reduceSub, Option.map_some, Option.bind_some, if_true, if_false, Bool.false_eq_true, ite_true, ite_false, reduceIte, Int.natCast_add, decide_eq_true_eq, decide_true, decide_false, Bool.not_true, Bool.not_false, Bool.not_eq_true, and_self, and_true, true_and, Nat.reduceLeDiff, Nat.reduceLT, Bool.and_true, Bool.true_and, Bool.and_false, Bool.false_and, e])
  obtain ⟨nm, rfl, hl, hr⟩ := hf.encs (Q := (· ∈ W4)) (enc := PyData.str) (fun a b h => h)
  rw [rangeL_len] at hl
  rw [List.nil_append] at e2
  refine ⟨nm, tw2, ?_, by omega, by omega, hr, ht2⟩
  unfold F_law_name m_law_name
  simp only [ev_seq, ev_seq_nx, ev_seq_rt, ev_seq_ex, ev_seq_bk, ev_seq_ct, ev_seq_st, ev_seq_ite, ev_next, ev_ifs, ev_ites, ev_ites_ex, ev_ret, ev_drop, ev_out, ev_out_ex, ev_outA, ev_c, ev_set, ev_own, ev_bind, ev_bind_ex, ev_bindA, ev_op, ev_un, ev_call, ev_ofO, ev_nil, ev_cons, ev_consok, ev_push, ev_tup, ev_lst, ev_not, ev_notb, ev_and, ev_or, ev_if, ev_ite, ev_chain, ev_var, ev_ixO, ev_setIx, ev_augIx, ev_opOL, ev_callO, ev_ref, ev_mut, ev_callF, ev_callN, ev_back, ev_backX, ev_backN, ev_mk0, ev_mkv, ev_mkr, ev_wb0, ev_wbv, ev_wbr, ev_iter, ev_iterA, ev_comp, ev_for, ev_sl, ev_part0, ev_part1, ev_mpart, ev_asg, ev_par, ev_listOf, ev_binL, ev_gN, ev_gT, ev_gA0, ev_gA, ev_noIo0, ev_noIo, ev_wipe0, ev_wipe, ev_compL0, ev_compL, ev_forL0, ev_forL, at2_0, at2_1, ixN2_0, ixN2_1, fnSem, List.length_cons, List.length_nil, List.replicate, List.append_eq, List.cons_append, List.nil_append, List.getElem?_cons_zero, List.getElem?_cons_succ, List.set_cons_zero, List.set_cons_succ, List.take_succ_cons, List.take_zero, isIoAt, lstAt, setL, Nat.reduceAdd, Nat.reduceSub, Option.map_some, Option.bind_some, if_true, if_false, Bool.false_eq_true, ite_true, ite_false, reduceIte, Int.natCast_add, decide_eq_true_eq, decide_true, decide_false, Bool.not_true, Bool.not_false, Bool.not_eq_true, and_self, and_true, true_and, Nat.reduceLeDiff, Nat.reduceLT, Bool.and_true, Bool.true_and, Bool.and_false, Bool.false_and, e1, addD_i, hrg, e2, tupleD_l]
  rfl
end NS

set_option Elab.async false
set_option linter.all false
set_option autoImplicit false
set_option maxRecDepth 100000
set_option maxHeartbeats 4000000
namespace NS
open PySem PySem.Spec PyProof.Rows L2
theorem isi_t {xs : List Dt} : isiD "tuple" (.tuple xs) = some (.bool true) := by rfl
theorem isi_b {b : Bool} : isiD "bool" (.bool b) = some (.bool true) := by rfl
theorem isi_i {i : Int} : isiD "int" (.int i) = some (.bool true) := by rfl
theorem isi_ib {i : Int} : isiD "bool" (.int i) = some (.bool false) := by rfl
theorem seqD_t {xs : List Dt} : seqD (.tuple xs) = some xs := rfl
theorem all_true {α : Type} (xs : List α) : allD [.list (xs.map fun _ => PyData.bool true)] = some (.bool true) := by
  have := allD_map (fun _ : α => true) xs
  rw [this]
  simp
theorem map_enc_true {α : Type} (enc : α → Dt) (xs : List α) : (xs.map enc).map (fun _ => PyData.bool true) = xs.map fun _ => PyData.bool true := by rw [List.map_map]; rfl
theorem word_ok {w : Str} (h : w ∈ W4) : F_is_word [.val (.str w)] = .ok (.bool true) [.val (.str w)] := by
  unfold W4 at h
  simp only [List.mem_cons, List.not_mem_nil, or_false] at h
  rcases h with h | h | h | h <;> subst h <;> rfl
theorem isname_ok (nm : List Str) (h1 : 0 < nm.length) (h2 : nm.length ≤ 30) (h : ∀ w ∈ nm, w ∈ W4) : F_is_name [.val (tupS nm)] = .ok (.bool true) [.val (tupS nm)] := by
  unfold F_is_name m_is_name tupS
  have e1 := compL_map (vs := [1]) (g := gN 1) (mb := mCallN F_is_word [none] (mCons (mVar 1) mNil)) (ρ := [.val (.tuple (nm.map PyData.str)), .no]) (fun _ => .bool true) (nm.map PyData.str) (by rw [List.length_map]; omega) (by
    intro d hd
    obtain ⟨w, hw, rfl⟩ := List.mem_map.mp hd
    refine ⟨[.val (.tuple (nm.map PyData.str)), .val (.str w)], [.val (.tuple (nm.map PyData.str)), .val (.str w)], rfl, ?_, rfl, rfl⟩
    have := word_ok (h w hw)
    simp only [ev_seq, ev_seq_nx, ev_seq_rt, ev_seq_ex, ev_seq_bk, ev_seq_ct, ev_seq_st, ev_seq_ite, ev_next, ev_ifs, ev_ites, ev_ites_ex, ev_ret, ev_drop, ev_out, ev_out_ex, ev_outA, ev_c, ev_set, ev_own, ev_bind, ev_bind_ex, ev_bindA, ev_op, ev_un, ev_call, ev_ofO, ev_nil, ev_cons, ev_consok, ev_push, ev_tup, ev_lst, ev_not, ev_notb, ev_and, ev_or, ev_if, ev_ite, ev_chain, ev_var, ev_ixO, ev_setIx, ev_augIx, ev_opOL, ev_callO, ev_ref, ev_mut, ev_callF, ev_callN, ev_back, ev_backX, ev_backN, ev_mk0, ev_mkv, ev_mkr, ev_wb0, ev_wbv, ev_wbr, ev_iter, ev_iterA, ev_comp, ev_for, ev_sl, ev_part0, ev_part1, ev_mpart, ev_asg, ev_par, ev_listOf, ev_binL, ev_gN, ev_gT, ev_gA0, ev_gA, ev_noIo0, ev_noIo, ev_wipe0, ev_wipe, ev_compL0, ev_compL, ev_forL0, ev_forL, at2_0, at2_1, ixN2_0, ixN2_1, fnSem, List.length_cons, List.length_nil, List.replicate, List.append_eq, List.cons_append, List.nil_append, List.getElem?_cons_zero, List.getElem?_cons_succ, List.set_cons_zero, List.set_cons_succ, List.take_succ_cons, List.take_zero, isIoAt, lstAt, setL, Nat.reduceAdd, Nat.reduceSub, Option.map_some, Option.bind_some, if_true, if_false, Bool.false_eq_true, ite_true, ite_false, reduceIte, Int.natCast_add, decide_eq_true_eq, decide_true, decide_false, Bool.not_true, Bool.not_false, Bool.not_eq_true, and_self, and_true, true_and, Nat.reduceLeDiff, Nat.reduceLT, Bool.and_true, Bool.true_and, Bool.and_false, Bool.false_and, this])
  rw [map_enc_true] at e1
  have c1 : (1:Int) ≤ nm.length := by omega
  have c2 : (nm.length:Int) ≤ 30 := by omega
  simp only [ev_seq, ev_seq_nx, ev_seq_rt, ev_seq_ex, ev_seq_bk, ev_seq_ct, ev_seq_st, ev_seq_ite, ev_next, ev_ifs, ev_ites, ev_ites_ex, ev_ret, ev_drop, ev_out, ev_out_ex, ev_outA, ev_c, ev_set, ev_own, ev_bind, ev_bind_ex, ev_bindA, ev_op, ev_un, ev_call, ev_ofO, ev_nil, ev_cons, ev_consok, ev_push, ev_tup, ev_lst, ev_not, ev_notb, ev_and, ev_or, ev_if, ev_ite, ev_chain, ev_var, ev_ixO, ev_setIx, ev_augIx, ev_opOL, ev_callO, ev_ref, ev_mut, ev_callF, ev_callN, ev_back, ev_backX, ev_backN, ev_mk0, ev_mkv, ev_mkr, ev_wb0, ev_wbv, ev_wbr, ev_iter, ev_iterA, ev_comp, ev_for, ev_sl, ev_part0, ev_part1, ev_mpart, ev_asg, ev_par, ev_listOf, ev_binL, ev_gN, ev_gT, ev_gA0, ev_gA, ev_noIo0, ev_noIo, ev_wipe0, ev_wipe, ev_compL0, ev_compL, ev_forL0, ev_forL, at2_0, at2_1, ixN2_0, ixN2_1, fnSem, List.length_cons, List.length_nil, List.replicate, List.append_eq, List.cons_append, List.nil_append, List.getElem?_cons_zero, List.getElem?_cons_succ, List.set_cons_zero, List.set_cons_succ, List.take_succ_cons, List.take_zero, isIoAt, lstAt, setL, Nat.reduceAdd, Nat.reduceSub, Option.map_some, Option.bind_some, if_true, if_false, Bool.false_eq_true, ite_true, ite_false, reduceIte, Int.natCast_add, decide_eq_true_eq, decide_true, decide_false, Bool.not_true, Bool.not_false, Bool.not_eq_true, and_self, and_true, true_and, Nat.reduceLeDiff, Nat.reduceLT, Bool.and_true, Bool.true_and, Bool.and_false, Bool.false_and, isi_t, len_t, List.length_map, leD_i, c1, c2, seqD_t, e1, all_true]
theorem kind_t (t : Tst) : F_has_kind [.val t.enc] = .ok (.bool true) [.val t.enc] := by cases t <;> rfl
theorem kind_i (t : Itm) : F_has_kind [.val t.enc] = .ok (.bool true) [.val t.enc] := by cases t <;> rfl
theorem below_ok {j k : Nat} (h : j < k) : F_is_number_below [.val (.int j), .val (.int k)] = .ok (.bool true) [.val (.int j), .val (.int k)] := by
  unfold F_is_number_below m_is_number_below
  have c1 : (0:Int) ≤ j := by omega
  have c2 : (j:Int) < k := by omega
  simp only [ev_seq, ev_seq_nx, ev_seq_rt, ev_seq_ex, ev_seq_bk, ev_seq_ct, ev_seq_st, ev_seq_ite, ev_next, ev_ifs, ev_ites, ev_ites_ex, ev_ret, ev_drop, ev_out, ev_out_ex, ev_outA, ev_c, ev_set, ev_own, ev_bind, ev_bind_ex, ev_bindA, ev_op, ev_un, ev_call, ev_ofO, ev_nil, ev_cons, ev_consok, ev_push, ev_tup, ev_lst, ev_not, ev_notb, ev_and, ev_or, ev_if, ev_ite, ev_chain, ev_var, ev_ixO, ev_setIx, ev_augIx, ev_opOL, ev_callO, ev_ref, ev_mut, ev_callF, ev_callN, ev_back, ev_backX, ev_backN, ev_mk0, ev_mkv, ev_mkr, ev_wb0, ev_wbv, ev_wbr, ev_iter, ev_iterA, ev_comp, ev_for, ev_sl, ev_part0, ev_part1, ev_mpart, ev_asg, ev_par, ev_listOf, ev_binL, ev_gN, ev_gT, ev_gA0, ev_gA, ev_noIo0, ev_noIo, ev_wipe0, ev_wipe, ev_compL0, ev_compL, ev_forL0, ev_forL, at2_0, at2_1, ixN2_0, ixN2_1, fnSem, List.length_cons, List.length_nil, List.replicate, List.append_eq, List.cons_append, List.nil_append, List.getElem?_cons_zero, List.getElem?_cons_succ, List.set_cons_zero, List.set_cons_succ, List.take_succ_cons, List.take_zero, isIoAt, lstAt, setL, Nat.reduceAdd, Nat.reduceSub, Option.map_some, Option.bind_some, if_true, if_false, Bool.false_eq_true, ite_true, ite_false, reduceIte, Int.natCast_add, decide_eq_true_eq, decide_true, decide_false, Bool.not_true, Bool.not_false, Bool.not_eq_true, and_self, and_true, true_and, Nat.reduceLeDiff, Nat.reduceLT, Bool.and_true, Bool.true_and, Bool.and_false, Bool.false_and, isi_i, isi_ib, leD_i, ltD_i, c1, c2]
theorem istest_ok {k : Nat} {t : Tst} (h : TIn k t) : F_is_test [.val t.enc, .val (.int k)] = .ok (.bool true) [.val t.enc, .val (.int k)] := by
  cases h with
  | isA => rfl
  | isB => rfl
  | any => rfl
  | nonA => rfl
  | nonB => rfl
  | @like j hj =>
    have e0 := kind_t (.like j)
    have e1 := below_ok hj
    rw [enc_like] at e0 ⊢
    have s1 : eqD (.str "like") (.str "any") = some (.bool false) := by rfl
    have s2 : eqD (.str "like") (.str "is") = some (.bool false) := by rfl
    have s3 : eqD (.str "like") (.str "none") = some (.bool false) := by rfl
    have s4 : eqD (.str "like") (.str "like") = some (.bool true) := by rfl
    have s5 : neD (.int (2:Nat)) (.int 2) = some (.bool false) := by rfl
    unfold F_is_test m_is_test
    simp only [ev_seq, ev_seq_nx, ev_seq_rt, ev_seq_ex, ev_seq_bk, ev_seq_ct, ev_seq_st, ev_seq_ite, ev_next, ev_ifs, ev_ites, ev_ites_ex, ev_ret, ev_drop, ev_out, ev_out_ex, ev_outA, ev_c, ev_set, ev_own, ev_bind, ev_bind_ex, ev_bindA, ev_op, ev_un, ev_call, ev_ofO, ev_nil, ev_cons, ev_consok, ev_push, ev_tup, ev_lst, ev_not, ev_notb, ev_and, ev_or, ev_if, ev_ite, ev_chain, ev_var, ev_ixO, ev_setIx, ev_augIx, ev_opOL, ev_callO, ev_ref, ev_mut, ev_callF, ev_callN, ev_back, ev_backX, ev_backN, ev_mk0, ev_mkv, ev_mkr, ev_wb0, ev_wbv, ev_wbr, ev_iter, ev_iterA, ev_comp, ev_for, ev_sl, ev_part0, ev_part1, ev_mpart, ev_asg, ev_par, ev_listOf, ev_binL, ev_gN, ev_gT, ev_gA0, ev_gA, ev_noIo0, ev_noIo, ev_wipe0, ev_wipe, ev_compL0, ev_compL, ev_forL0, ev_forL, at2_0, at2_1, ixN2_0, ixN2_1, fnSem, List.length_cons, List.length_nil, List.replicate, List.append_eq, List.cons_append, List.nil_append, List.getElem?_cons_zero, List.getElem?_cons_succ, List.set_cons_zero, List.set_cons_succ, List.take_succ_cons, List.take_zero, isIoAt, lstAt, setL, Nat.reduceAdd, Nat.reduceSub, Option.map_some, Option.bind_some, if_true, if_false, Bool.false_eq_true, ite_true, ite_false, reduceIte, Int.natCast_add, decide_eq_true_eq, decide_true, decide_false, Bool.not_true, Bool.not_false, Bool.not_eq_true, and_self, and_true, true_and, Nat.reduceLeDiff, Nat.reduceLT, Bool.and_true, Bool.true_and, Bool.and_false, Bool.false_and, e0, ixD_t, at2_0, at2_1, s1, s2, s3, s4, len_t, s5, e1]
theorem isitem_ok {n : Nat} {i : Itm} {w : Bool} (h : IIn n i) : F_is_item [.val i.enc, .val (.int n), .val (.bool w)] = .ok (.bool true) [.val i.enc, .val (.int n), .val (.bool w)] := by
  cases h with
  | a => rfl
  | b => rfl
  | c => rfl
  | @f j hj =>
    have e0 := kind_i (.field j)
    have e1 := below_ok hj
    rw [enc_field] at e0 ⊢
    have s1 : eqD (.str "field") (.str "rest") = some (.bool false) := by rfl
    have s2 : eqD (.str "field") (.str "word") = some (.bool false) := by rfl
    have s4 : eqD (.str "field") (.str "field") = some (.bool true) := by rfl
    have s5 : neD (.int (2:Nat)) (.int 2) = some (.bool false) := by rfl
    unfold F_is_item m_is_item
    simp only [ev_seq, ev_seq_nx, ev_seq_rt, ev_seq_ex, ev_seq_bk, ev_seq_ct, ev_seq_st, ev_seq_ite, ev_next, ev_ifs, ev_ites, ev_ites_ex, ev_ret, ev_drop, ev_out, ev_out_ex, ev_outA, ev_c, ev_set, ev_own, ev_bind, ev_bind_ex, ev_bindA, ev_op, ev_un, ev_call, ev_ofO, ev_nil, ev_cons, ev_consok, ev_push, ev_tup, ev_lst, ev_not, ev_notb, ev_and, ev_or, ev_if, ev_ite, ev_chain, ev_var, ev_ixO, ev_setIx, ev_augIx, ev_opOL, ev_callO, ev_ref, ev_mut, ev_callF, ev_callN, ev_back, ev_backX, ev_backN, ev_mk0, ev_mkv, ev_mkr, ev_wb0, ev_wbv, ev_wbr, ev_iter, ev_iterA, ev_comp, ev_for, ev_sl, ev_part0, ev_part1, ev_mpart, ev_asg, ev_par, ev_listOf, ev_binL, ev_gN, ev_gT, ev_gA0, ev_gA, ev_noIo0, ev_noIo, ev_wipe0, ev_wipe, ev_compL0, ev_compL, ev_forL0, ev_forL, at2_0, at2_1, ixN2_0, ixN2_1, fnSem, List.length_cons, List.length_nil, List.replicate, List.append_eq, List.cons_append, List.nil_append, List.getElem?_cons_zero, List.getElem?_cons_succ, List.set_cons_zero, List.set_cons_succ, List.take_succ_cons, List.take_zero, isIoAt, lstAt, setL, Nat.reduceAdd, Nat.reduceSub, Option.map_some, Option.bind_some, if_true, if_false, Bool.false_eq_true, ite_true, ite_false, reduceIte, Int.natCast_add, decide_eq_true_eq, decide_true, decide_false, Bool.not_true, Bool.not_false, Bool.not_eq_true, and_self, and_true, true_and, Nat.reduceLeDiff, Nat.reduceLT, Bool.and_true, Bool.true_and, Bool.and_false, Bool.false_and, e0, ixD_t, at2_0, at2_1, s1, s2, s4, len_t, s5, e1]
theorem isrest_ok {n : Nat} : F_is_item [.val (Itm.enc .rest), .val (.int n), .val (.bool true)] = .ok (.bool true) [.val (Itm.enc .rest), .val (.int n), .val (.bool true)] := by rfl
end NS

set_option Elab.async false
set_option linter.all false
set_option autoImplicit false
set_option maxRecDepth 100000
set_option maxHeartbeats 4000000
namespace NS
open PySem PySem.Spec PyProof.Rows L2
def Itm.isRest : Itm → Bool
  | .rest => true
  | _ => false
def restD (d : Dt) : Bool := PyData.eqv ((ixD d (.int 0)).getD .none) (.str "rest")
theorem restD_enc (i : Itm) : restD i.enc = i.isRest := by cases i <;> rfl
theorem rest_ev (i : Itm) : ∃ x, ixD i.enc (.int 0) = some x ∧ eqD x (.str "rest") = some (.bool i.isRest) := by cases i <;> exact ⟨_, rfl, rfl⟩
theorem making_ok {is : List Itm} {n : Nat} {w : Bool} (h1 : 0 < is.length) (h2 : is.length ≤ 4) (h3 : ∀ i ∈ is, F_is_item [.val i.enc, .val (.int n), .val (.bool w)] = .ok (.bool true) [.val i.enc, .val (.int n), .val (.bool w)]) (h4 : (is.filter Itm.isRest).length ≤ 1) (h5 : (is.filter Itm.isRest).length < is.length) : F_is_making [.val (tIs is), .val (.int n), .val (.bool w)] = .ok (.bool true) [.val (tIs is), .val (.int n), .val (.bool w)] := by
  unfold F_is_making m_is_making tIs
  have e1 := compL_map (vs := [4]) (g := gN 4) (mb := mCallN F_is_item [none, none, none] (mCons (mVar 4) (mCons (mVar 1) (mCons (mVar 2) mNil)))) (ρ := [.val (.tuple (is.map Itm.enc)), .val (.int n), .val (.bool w), .no, .no]) (fun _ => .bool true) (is.map Itm.enc) (by rw [List.length_map]; omega) (by
    intro d hd
    obtain ⟨i, hi, rfl⟩ := List.mem_map.mp hd
    refine ⟨_, [.val (.tuple (is.map Itm.enc)), .val (.int n), .val (.bool w), .no, .val i.enc], rfl, ?_, rfl, rfl⟩
    have := h3 i hi
    simp only [ev_seq, ev_seq_nx, ev_seq_rt, ev_seq_ex, ev_seq_bk, ev_seq_ct, ev_seq_st, ev_seq_ite, ev_next, ev_ifs, ev_ites, ev_ites_ex, ev_ret, ev_drop, ev_out, ev_out_ex, ev_outA, ev_c, ev_set, ev_own, ev_bind, ev_bind_ex, ev_bindA, ev_op, ev_un, ev_call, ev_ofO, ev_nil, ev_cons, ev_consok, ev_push, ev_tup, ev_lst, ev_not, ev_notb, ev_and, ev_or, ev_if, ev_ite, ev_chain, ev_var, ev_ixO, ev_setIx, ev_augIx, ev_opOL, ev_callO, ev_ref, ev_mut, ev_callF, ev_callN, ev_back, ev_backX, ev_backN, ev_mk0, ev_mkv, ev_mkr, ev_wb0, ev_wbv, ev_wbr, ev_iter, ev_iterA, ev_comp, ev_for, ev_sl, ev_part0, ev_part1, ev_mpart, ev_asg, ev_par, ev_listOf, ev_binL, ev_gN, ev_gT, ev_gA0, ev_gA, ev_noIo0, ev_noIo, ev_wipe0, ev_wipe, ev_compL0, ev_compL, ev_forL0, ev_forL, at2_0, at2_1, ixN2_0, ixN2_1, fnSem, List.length_cons, List.length_nil, List.replicate, List.append_eq, List.cons_append, List.nil_append, List.getElem?_cons_zero, List.getElem?_cons_succ, List.set_cons_zero, List.set_cons_succ, List.take_succ_cons, List.take_zero, isIoAt, lstAt, setL, Nat.reduceAdd, Nat.reduceSub, Option.map_some, Option.bind_some, if_true, if_false, Bool.false_eq_true, ite_true, ite_false, reduceIte, Int.natCast_add, decide_eq_true_eq, decide_true, decide_false, Bool.not_true, Bool.not_false, Bool.not_eq_true, and_self, and_true, true_and, Nat.reduceLeDiff, Nat.reduceLT, Bool.and_true, Bool.true_and, Bool.and_false, Bool.false_and, this])
  rw [map_enc_true] at e1
  have e2 := compL_fm (vs := [4]) (g := gN 4) (mc := mOp eqD (mOp ixD (mVar 4) (mC (.int 0))) (mC (.str "rest"))) (mb := mVar 4) (ρ := [.val (.tuple (is.map Itm.enc)), .val (.int n), .val (.bool w), .no, .no]) restD id (is.map Itm.enc) [] (by rw [List.length_map]; simp; omega) (by
    intro d hd
    obtain ⟨i, hi, rfl⟩ := List.mem_map.mp hd
    obtain ⟨x, hx, hx2⟩ := rest_ev i
    refine ⟨[.val (.tuple (is.map Itm.enc)), .val (.int n), .val (.bool w), .no, .val i.enc], [.val (.tuple (is.map Itm.enc)), .val (.int n), .val (.bool w), .no, .val i.enc], rfl, ?_, fun _ => ⟨rfl, rfl⟩, fun _ => ⟨_, rfl, rfl, rfl⟩⟩
    rw [restD_enc]
    simp only [ev_seq, ev_seq_nx, ev_seq_rt, ev_seq_ex, ev_seq_bk, ev_seq_ct, ev_seq_st, ev_seq_ite, ev_next, ev_ifs, ev_ites, ev_ites_ex, ev_ret, ev_drop, ev_out, ev_out_ex, ev_outA, ev_c, ev_set, ev_own, ev_bind, ev_bind_ex, ev_bindA, ev_op, ev_un, ev_call, ev_ofO, ev_nil, ev_cons, ev_consok, ev_push, ev_tup, ev_lst, ev_not, ev_notb, ev_and, ev_or, ev_if, ev_ite, ev_chain, ev_var, ev_ixO, ev_setIx, ev_augIx, ev_opOL, ev_callO, ev_ref, ev_mut, ev_callF, ev_callN, ev_back, ev_backX, ev_backN, ev_mk0, ev_mkv, ev_mkr, ev_wb0, ev_wbv, ev_wbr, ev_iter, ev_iterA, ev_comp, ev_for, ev_sl, ev_part0, ev_part1, ev_mpart, ev_asg, ev_par, ev_listOf, ev_binL, ev_gN, ev_gT, ev_gA0, ev_gA, ev_noIo0, ev_noIo, ev_wipe0, ev_wipe, ev_compL0, ev_compL, ev_forL0, ev_forL, at2_0, at2_1, ixN2_0, ixN2_1, fnSem, List.length_cons, List.length_nil, List.replicate, List.append_eq, List.cons_append, List.nil_append, List.getElem?_cons_zero, List.getElem?_cons_succ, List.set_cons_zero, List.set_cons_succ, List.take_succ_cons, List.take_zero, isIoAt, lstAt, setL, Nat.reduceAdd, Nat.reduceSub, Option.map_some, Option.bind_some, if_true, if_false, Bool.false_eq_true, ite_true, ite_false, reduceIte, Int.natCast_add, decide_eq_true_eq, decide_true, decide_false, Bool.not_true, Bool.not_false, Bool.not_eq_true, and_self, and_true, true_and, Nat.reduceLeDiff, Nat.reduceLT, Bool.and_true, Bool.true_and, Bool.and_false, Bool.false_and, hx, hx2])
  rw [List.map_id, List.filter_map] at e2
  rw [show restD ∘ Itm.enc = Itm.isRest from funext restD_enc, List.nil_append] at e2
  have c1 : (1:Int) ≤ is.length := by omega
  have c2 : (is.length:Int) ≤ 4 := by omega
  have c3 : ((is.filter Itm.isRest).length:Int) ≤ 1 := by omega
  have c4 : ((is.filter Itm.isRest).length:Int) < is.length := by omega
  simp only [ev_seq, ev_seq_nx, ev_seq_rt, ev_seq_ex, ev_seq_bk, ev_seq_ct, ev_seq_st, ev_seq_ite, ev_next, ev_ifs, ev_ites, ev_ites_ex, ev_ret, ev_drop, ev_out, ev_out_ex, ev_outA, ev_c, ev_set, ev_own, ev_bind, ev_bind_ex, ev_bindA, ev_op, ev_un, ev_call, ev_ofO, ev_nil, ev_cons, ev_consok, ev_push, ev_tup, ev_lst, ev_not, ev_notb, ev_and, ev_or, ev_if, ev_ite, ev_chain, ev_var, ev_ixO, ev_setIx, ev_augIx, ev_opOL, ev_callO, ev_ref, ev_mut, ev_callF, ev_callN, ev_back, ev_backX, ev_backN, ev_mk0, ev_mkv, ev_mkr, ev_wb0, ev_wbv, ev_wbr, ev_iter, ev_iterA, ev_comp, ev_for, ev_sl, ev_part0, ev_part1, ev_mpart, ev_asg, ev_par, ev_listOf, ev_binL, ev_gN, ev_gT, ev_gA0, ev_gA, ev_noIo0, ev_noIo, ev_wipe0, ev_wipe, ev_compL0, ev_compL, ev_forL0, ev_forL, at2_0, at2_1, ixN2_0, ixN2_1, fnSem, List.length_cons, List.length_nil, List.replicate, List.append_eq, List.cons_append, List.nil_append, List.getElem?_cons_zero, List.getElem?_cons_succ, List.set_cons_zero, List.set_cons_succ, List.take_succ_cons, List.take_zero, isIoAt, lstAt, setL, Nat.reduceAdd, Nat.reduceSub, Option.map_some, Option.bind_some, if_true, if_false, Bool.false_eq_true, ite_true, ite_false, reduceIte, Int.natCast_add, decide_eq_true_eq, decide_true, decide_false, Bool.not_true, Bool.not_false, Bool.not_eq_true, and_self, and_true, true_and, Nat.reduceLeDiff, Nat.reduceLT, Bool.and_true, Bool.true_and, Bool.and_false, Bool.false_and, isi_t, len_t, len_l, List.length_map, leD_i, ltD_i, c1, c2, c3, c4, seqD_t, e1, e2, all_true]
theorem enumL_mem {α : Type} {enc : α → Dt} {xs : List α} {d : Dt} (h : d ∈ enumL (xs.map enc)) : ∃ (k : Nat) (x : α), d = .tuple [.int k, enc x] ∧ xs[k]? = some x := by
  unfold enumL at h
  obtain ⟨⟨y, k⟩, h1, rfl⟩ := List.mem_map.mp h
  rw [List.mem_zipIdx_iff_getElem?, List.getElem?_map] at h1
  cases hx : xs[k]? with
  | none => rw [hx] at h1; cases h1
  | some x =>
    rw [hx] at h1
    simp at h1
    exact ⟨k, x, by rw [h1], hx⟩
theorem enumD_t (xs : List Dt) : enumD [.tuple xs] = some (enumL xs) := rfl
theorem addD_t {xs ys : List Dt} (h : xs.length + ys.length ≤ 10000) : addD (.tuple xs) (.tuple ys) = some (.tuple (xs ++ ys)) := by
  show (if _ then _ else _) = _
  rw [if_pos h]
theorem map_true (ds : List Dt) : (ds.map fun _ => PyData.bool true) = ds.map fun _ => PyData.bool true := rfl
theorem side_ok (ts : List Tst) (h : ts.length ≤ 2) : F_is_side [.val (tTs ts)] = .ok (.bool true) [.val (tTs ts)] := by
  unfold F_is_side m_is_side tTs
  have c1 : (ts.length:Int) ≤ 2 := by omega
  simp only [ev_seq, ev_seq_nx, ev_seq_rt, ev_seq_ex, ev_seq_bk, ev_seq_ct, ev_seq_st, ev_seq_ite, ev_next, ev_ifs, ev_ites, ev_ites_ex, ev_ret, ev_drop, ev_out, ev_out_ex, ev_outA, ev_c, ev_set, ev_own, ev_bind, ev_bind_ex, ev_bindA, ev_op, ev_un, ev_call, ev_ofO, ev_nil, ev_cons, ev_consok, ev_push, ev_tup, ev_lst, ev_not, ev_notb, ev_and, ev_or, ev_if, ev_ite, ev_chain, ev_var, ev_ixO, ev_setIx, ev_augIx, ev_opOL, ev_callO, ev_ref, ev_mut, ev_callF, ev_callN, ev_back, ev_backX, ev_backN, ev_mk0, ev_mkv, ev_mkr, ev_wb0, ev_wbv, ev_wbr, ev_iter, ev_iterA, ev_comp, ev_for, ev_sl, ev_part0, ev_part1, ev_mpart, ev_asg, ev_par, ev_listOf, ev_binL, ev_gN, ev_gT, ev_gA0, ev_gA, ev_noIo0, ev_noIo, ev_wipe0, ev_wipe, ev_compL0, ev_compL, ev_forL0, ev_forL, at2_0, at2_1, ixN2_0, ixN2_1, fnSem, List.length_cons, List.length_nil, List.replicate, List.append_eq, List.cons_append, List.nil_append, List.getElem?_cons_zero, List.getElem?_cons_succ, List.set_cons_zero, List.set_cons_succ, List.take_succ_cons, List.take_zero, isIoAt, lstAt, setL, Nat.reduceAdd, Nat.reduceSub, Option.map_some, Option.bind_some, if_true, if_false, Bool.false_eq_true, ite_true, ite_false, reduceIte, Int.natCast_add, decide_eq_true_eq, decide_true, decide_false, Bool.not_true, Bool.not_false, Bool.not_eq_true, and_self, and_true, true_and, Nat.reduceLeDiff, Nat.reduceLT, Bool.and_true, Bool.true_and, Bool.and_false, Bool.false_and, isi_t, len_t, List.length_map, leD_i, c1]
theorem looking_ok (r : Rul) (h : RIn r) : F_is_looking [.val (tTs r.fr), .val (.bool r.op), .val (tTs r.bk)] = .ok (.bool true) [.val (tTs r.fr), .val (.bool r.op), .val (tTs r.bk)] := by
  have s1 := side_ok r.fr h.fr
  have s2 := side_ok r.bk h.bk
  have hl := h.fr
  have hl2 := h.bk
  have e1 := compL_map (vs := [3, 4]) (g := gT [3, 4]) (mb := mCallN F_is_test [none, none] (mCons (mVar 4) (mCons (mVar 3) mNil))) (ρ := [.val (tTs r.fr), .val (.bool r.op), .val (tTs r.bk), .no, .no]) (fun _ => .bool true) (enumL ((r.fr ++ r.bk).map Tst.enc)) (by rw [enumL_len, List.length_map, List.length_append]; omega) (by
    intro d hd
    obtain ⟨k, t, rfl, ht⟩ := enumL_mem hd
    refine ⟨[.val (tTs r.fr), .val (.bool r.op), .val (tTs r.bk), .val (.int k), .val t.enc], [.val (tTs r.fr), .val (.bool r.op), .val (tTs r.bk), .val (.int k), .val t.enc], rfl, ?_, rfl, rfl⟩
    have := istest_ok (h.ts k t ht)
    simp only [ev_seq, ev_seq_nx, ev_seq_rt, ev_seq_ex, ev_seq_bk, ev_seq_ct, ev_seq_st, ev_seq_ite, ev_next, ev_ifs, ev_ites, ev_ites_ex, ev_ret, ev_drop, ev_out, ev_out_ex, ev_outA, ev_c, ev_set, ev_own, ev_bind, ev_bind_ex, ev_bindA, ev_op, ev_un, ev_call, ev_ofO, ev_nil, ev_cons, ev_consok, ev_push, ev_tup, ev_lst, ev_not, ev_notb, ev_and, ev_or, ev_if, ev_ite, ev_chain, ev_var, ev_ixO, ev_setIx, ev_augIx, ev_opOL, ev_callO, ev_ref, ev_mut, ev_callF, ev_callN, ev_back, ev_backX, ev_backN, ev_mk0, ev_mkv, ev_mkr, ev_wb0, ev_wbv, ev_wbr, ev_iter, ev_iterA, ev_comp, ev_for, ev_sl, ev_part0, ev_part1, ev_mpart, ev_asg, ev_par, ev_listOf, ev_binL, ev_gN, ev_gT, ev_gA0, ev_gA, ev_noIo0, ev_noIo, ev_wipe0, ev_wipe, ev_compL0, ev_compL, ev_forL0, ev_forL, at2_0, at2_1, ixN2_0, ixN2_1, fnSem, List.length_cons, List.length_nil, List.replicate, List.append_eq, List.cons_append, List.nil_append, List.getElem?_cons_zero, List.getElem?_cons_succ, List.set_cons_zero, List.set_cons_succ, List.take_succ_cons, List.take_zero, isIoAt, lstAt, setL, Nat.reduceAdd, Nat.reduceSub, Option.map_some, Option.bind_some, if_true, if_false, Bool.false_eq_true, ite_true, ite_false, reduceIte, Int.natCast_add, decide_eq_true_eq, decide_true, decide_false, Bool.not_true, Bool.not_false, Bool.not_eq_true, and_self, and_true, true_and, Nat.reduceLeDiff, Nat.reduceLT, Bool.and_true, Bool.true_and, Bool.and_false, Bool.false_and, this])
  have a1 : addD (tTs r.fr) (tTs r.bk) = some (.tuple ((r.fr ++ r.bk).map Tst.enc)) := by
    unfold tTs
    rw [addD_t (by rw [List.length_map, List.length_map]; omega), List.map_append]
  have l1 : lenTD [tTs r.fr] = some (.int r.fr.length) := by unfold tTs; rw [len_t, List.length_map]
  have l2 : lenTD [tTs r.bk] = some (.int r.bk.length) := by unfold tTs; rw [len_t, List.length_map]
  unfold F_is_looking m_is_looking
  cases hop : r.op with
  | true =>
    rw [hop] at e1
    simp only [ev_seq, ev_seq_nx, ev_seq_rt, ev_seq_ex, ev_seq_bk, ev_seq_ct, ev_seq_st, ev_seq_ite, ev_next, ev_ifs, ev_ites, ev_ites_ex, ev_ret, ev_drop, ev_out, ev_out_ex, ev_outA, ev_c, ev_set, ev_own, ev_bind, ev_bind_ex, ev_bindA, ev_op, ev_un, ev_call, ev_ofO, ev_nil, ev_cons, ev_consok, ev_push, ev_tup, ev_lst, ev_not, ev_notb, ev_and, ev_or, ev_if, ev_ite, ev_chain, ev_var, ev_ixO, ev_setIx, ev_augIx, ev_opOL, ev_callO, ev_ref, ev_mut, ev_callF, ev_callN, ev_back, ev_backX, ev_backN, ev_mk0, ev_mkv, ev_mkr, ev_wb0, ev_wbv, ev_wbr, ev_iter, ev_iterA, ev_comp, ev_for, ev_sl, ev_part0, ev_part1, ev_mpart, ev_asg, ev_par, ev_listOf, ev_binL, ev_gN, ev_gT, ev_gA0, ev_gA, ev_noIo0, ev_noIo, ev_wipe0, ev_wipe, ev_compL0, ev_compL, ev_forL0, ev_forL, at2_0, at2_1, ixN2_0, ixN2_1, fnSem, List.length_cons, List.length_nil, List.replicate, List.append_eq, List.cons_append, List.nil_append, List.getElem?_cons_zero, List.getElem?_cons_succ, List.set_cons_zero, List.set_cons_succ, List.take_succ_cons, List.take_zero, isIoAt, lstAt, setL, Nat.reduceAdd, Nat.reduceSub, Option.map_some, Option.bind_some, if_true, if_false, Bool.false_eq_true, ite_true, ite_false, reduceIte, Int.natCast_add, decide_eq_true_eq, decide_true, decide_false, Bool.not_true, Bool.not_false, Bool.not_eq_true, and_self, and_true, true_and, Nat.reduceLeDiff, Nat.reduceLT, Bool.and_true, Bool.true_and, Bool.and_false, Bool.false_and, s1, s2, isi_b, a1, enumD_t, e1, all_true]
  | false =>
    rw [hop] at e1
    obtain ⟨q1, q2⟩ := h.cl hop
    have c1 : ¬ (0:Int) < r.bk.length := by rw [q1]; simp
    have c2 : ¬ (r.fr.length : Int) = 0 := by omega
    simp only [ev_seq, ev_seq_nx, ev_seq_rt, ev_seq_ex, ev_seq_bk, ev_seq_ct, ev_seq_st, ev_seq_ite, ev_next, ev_ifs, ev_ites, ev_ites_ex, ev_ret, ev_drop, ev_out, ev_out_ex, ev_outA, ev_c, ev_set, ev_own, ev_bind, ev_bind_ex, ev_bindA, ev_op, ev_un, ev_call, ev_ofO, ev_nil, ev_cons, ev_consok, ev_push, ev_tup, ev_lst, ev_not, ev_notb, ev_and, ev_or, ev_if, ev_ite, ev_chain, ev_var, ev_ixO, ev_setIx, ev_augIx, ev_opOL, ev_callO, ev_ref, ev_mut, ev_callF, ev_callN, ev_back, ev_backX, ev_backN, ev_mk0, ev_mkv, ev_mkr, ev_wb0, ev_wbv, ev_wbr, ev_iter, ev_iterA, ev_comp, ev_for, ev_sl, ev_part0, ev_part1, ev_mpart, ev_asg, ev_par, ev_listOf, ev_binL, ev_gN, ev_gT, ev_gA0, ev_gA, ev_noIo0, ev_noIo, ev_wipe0, ev_wipe, ev_compL0, ev_compL, ev_forL0, ev_forL, at2_0, at2_1, ixN2_0, ixN2_1, fnSem, List.length_cons, List.length_nil, List.replicate, List.append_eq, List.cons_append, List.nil_append, List.getElem?_cons_zero, List.getElem?_cons_succ, List.set_cons_zero, List.set_cons_succ, List.take_succ_cons, List.take_zero, isIoAt, lstAt, setL, Nat.reduceAdd, Nat.reduceSub, Option.map_some, Option.bind_some, if_true, if_false, Bool.false_eq_true, ite_true, ite_false, reduceIte, Int.natCast_add, decide_eq_true_eq, decide_true, decide_false, Bool.not_true, Bool.not_false, Bool.not_eq_true, and_self, and_true, true_and, Nat.reduceLeDiff, Nat.reduceLT, Bool.and_true, Bool.true_and, Bool.and_false, Bool.false_and, s1, s2, isi_b, l1, l2, gtD_i, c1, eqD_int, c2, a1, enumD_t, e1, all_true]
theorem filter_none {its : List Itm} {n : Nat} (h : ∀ i ∈ its, IIn n i) : its.filter Itm.isRest = [] := by
  rw [List.filter_eq_nil_iff]
  intro i hi
  cases h i hi <;> exact Bool.false_ne_true
theorem isrule_ok (r : Rul) (h : RIn r) : F_is_rule [.val r.enc] = .ok (.bool true) [.val r.enc] := by
  have e1 := looking_ok r h
  obtain ⟨its, h1, h2, h3, h4⟩ := h.items
  have e2 : F_is_making [.val (tIs r.making), .val (.int ((r.fr.length + r.bk.length : Nat) : Int)), .val (.bool r.op)] = .ok (.bool true) [.val (tIs r.making), .val (.int ((r.fr.length + r.bk.length : Nat) : Int)), .val (.bool r.op)] := by
    rw [List.length_append] at h3
    rcases h4 with h4 | ⟨hw, k, h4⟩
    · have hf := filter_none h3
      refine making_ok (by rw [h4]; exact h1) (by rw [h4]; omega) (fun i hi => isitem_ok (h3 i (h4 ▸ hi))) ?_ ?_
      · rw [h4, hf]; simp
      · rw [h4, hf]; exact h1
    · have hf1 : (its.take k).filter Itm.isRest = [] := filter_none fun i hi => h3 i (List.mem_of_mem_take hi)
      have hf2 : (its.drop k).filter Itm.isRest = [] := filter_none fun i hi => h3 i (List.mem_of_mem_drop hi)
      have hlen : r.making.length = its.length + 1 := by
        rw [h4, List.length_append, List.length_cons, List.length_take, List.length_drop]
        omega
      have hfr : r.making.filter Itm.isRest = [.rest] := by
        rw [h4, List.filter_append, List.filter_cons_of_pos rfl, hf1, hf2]
        rfl
      refine making_ok (by omega) (by omega) (fun i hi => ?_) (by rw [hfr]; simp) (by rw [hfr, hlen]; simp; omega)
      rw [h4] at hi
      rcases List.mem_append.mp hi with hi | hi
      · exact isitem_ok (h3 i (List.mem_of_mem_take hi))
      · rcases List.mem_cons.mp hi with rfl | hi
        · rw [hw]; exact isrest_ok
        · exact isitem_ok (h3 i (List.mem_of_mem_drop hi))
  have l1 : lenTD [tTs r.fr] = some (.int r.fr.length) := by unfold tTs; rw [len_t, List.length_map]
  have l2 : lenTD [tTs r.bk] = some (.int r.bk.length) := by unfold tTs; rw [len_t, List.length_map]
  have s5 : neD (.int (4:Nat)) (.int 4) = some (.bool false) := by rfl
  rw [Int.natCast_add] at e2
  unfold F_is_rule m_is_rule Rul.enc
  simp only [ev_seq, ev_seq_nx, ev_seq_rt, ev_seq_ex, ev_seq_bk, ev_seq_ct, ev_seq_st, ev_seq_ite, ev_next, ev_ifs, ev_ites, ev_ites_ex, ev_ret, ev_drop, ev_out, ev_out_ex, ev_outA, ev_c, ev_set, ev_own, ev_bind, ev_bind_ex, ev_bindA, ev_op, ev_un, ev_call, ev_ofO, ev_nil, ev_cons, ev_consok, ev_push, ev_tup, ev_lst, ev_not, ev_notb, ev_and, ev_or, ev_if, ev_ite, ev_chain, ev_var, ev_ixO, ev_setIx, ev_augIx, ev_opOL, ev_callO, ev_ref, ev_mut, ev_callF, ev_callN, ev_back, ev_backX, ev_backN, ev_mk0, ev_mkv, ev_mkr, ev_wb0, ev_wbv, ev_wbr, ev_iter, ev_iterA, ev_comp, ev_for, ev_sl, ev_part0, ev_part1, ev_mpart, ev_asg, ev_par, ev_listOf, ev_binL, ev_gN, ev_gT, ev_gA0, ev_gA, ev_noIo0, ev_noIo, ev_wipe0, ev_wipe, ev_compL0, ev_compL, ev_forL0, ev_forL, at2_0, at2_1, ixN2_0, ixN2_1, fnSem, List.length_cons, List.length_nil, List.replicate, List.append_eq, List.cons_append, List.nil_append, List.getElem?_cons_zero, List.getElem?_cons_succ, List.set_cons_zero, List.set_cons_succ, List.take_succ_cons, List.take_zero, isIoAt, lstAt, setL, Nat.reduceAdd, Nat.reduceSub, Option.map_some, Option.bind_some, if_true, if_false, Bool.false_eq_true, ite_true, ite_false, reduceIte, Int.natCast_add, decide_eq_true_eq, decide_true, decide_false, Bool.not_true, Bool.not_false, Bool.not_eq_true, and_self, and_true, true_and, Nat.reduceLeDiff, Nat.reduceLT, Bool.and_true, Bool.true_and, Bool.and_false, Bool.false_and, isi_t, len_t, s5, e1, l1, l2, addD_i, e2]
theorem isscript_ok (rs : List Rul) (h0 : rs.length ≤ 4) (h : ∀ r ∈ rs, RIn r) : F_is_script [.val (.tuple (rs.map Rul.enc))] = .ok (.bool true) [.val (.tuple (rs.map Rul.enc))] := by
  unfold F_is_script m_is_script
  have e1 := compL_map (vs := [1]) (g := gN 1) (mb := mCallN F_is_rule [none] (mCons (mVar 1) mNil)) (ρ := [.val (.tuple (rs.map Rul.enc)), .no]) (fun _ => .bool true) (rs.map Rul.enc) (by rw [List.length_map]; omega) (by
    intro d hd
    obtain ⟨r, hr, rfl⟩ := List.mem_map.mp hd
    refine ⟨[.val (.tuple (rs.map Rul.enc)), .val r.enc], [.val (.tuple (rs.map Rul.enc)), .val r.enc], rfl, ?_, rfl, rfl⟩
    have := isrule_ok r (h r hr)
    simp only [ev_seq, ev_seq_nx, ev_seq_rt, ev_seq_ex, ev_seq_bk, ev_seq_ct, ev_seq_st, ev_seq_ite, ev_next, ev_ifs, ev_ites, ev_ites_ex, ev_ret, ev_drop, ev_out, ev_out_ex, ev_outA, ev_c, ev_set, ev_own, ev_bind, ev_bind_ex, ev_bindA, ev_op, ev_un, ev_call, ev_ofO, ev_nil, ev_cons, ev_consok, ev_push, ev_tup, ev_lst, ev_not, ev_notb, ev_and, ev_or, ev_if, ev_ite, ev_chain, ev_var, ev_ixO, ev_setIx, ev_augIx, ev_opOL, ev_callO, ev_ref, ev_mut, ev_callF, ev_callN, ev_back, ev_backX, ev_backN, ev_mk0, ev_mkv, ev_mkr, ev_wb0, ev_wbv, ev_wbr, ev_iter, ev_iterA, ev_comp, ev_for, ev_sl, ev_part0, ev_part1, ev_mpart, ev_asg, ev_par, ev_listOf, ev_binL, ev_gN, ev_gT, ev_gA0, ev_gA, ev_noIo0, ev_noIo, ev_wipe0, ev_wipe, ev_compL0, ev_compL, ev_forL0, ev_forL, at2_0, at2_1, ixN2_0, ixN2_1, fnSem, List.length_cons, List.length_nil, List.replicate, List.append_eq, List.cons_append, List.nil_append, List.getElem?_cons_zero, List.getElem?_cons_succ, List.set_cons_zero, List.set_cons_succ, List.take_succ_cons, List.take_zero, isIoAt, lstAt, setL, Nat.reduceAdd, Nat.reduceSub, Option.map_some, Option.bind_some, if_true, if_false, Bool.false_eq_true, ite_true, ite_false, reduceIte, Int.natCast_add, decide_eq_true_eq, decide_true, decide_false, Bool.not_true, Bool.not_false, Bool.not_eq_true, and_self, and_true, true_and, Nat.reduceLeDiff, Nat.reduceLT, Bool.and_true, Bool.true_and, Bool.and_false, Bool.false_and, this])
  rw [map_enc_true] at e1
  have c1 : ¬ (4:Int) < rs.length := by omega
  simp only [ev_seq, ev_seq_nx, ev_seq_rt, ev_seq_ex, ev_seq_bk, ev_seq_ct, ev_seq_st, ev_seq_ite, ev_next, ev_ifs, ev_ites, ev_ites_ex, ev_ret, ev_drop, ev_out, ev_out_ex, ev_outA, ev_c, ev_set, ev_own, ev_bind, ev_bind_ex, ev_bindA, ev_op, ev_un, ev_call, ev_ofO, ev_nil, ev_cons, ev_consok, ev_push, ev_tup, ev_lst, ev_not, ev_notb, ev_and, ev_or, ev_if, ev_ite, ev_chain, ev_var, ev_ixO, ev_setIx, ev_augIx, ev_opOL, ev_callO, ev_ref, ev_mut, ev_callF, ev_callN, ev_back, ev_backX, ev_backN, ev_mk0, ev_mkv, ev_mkr, ev_wb0, ev_wbv, ev_wbr, ev_iter, ev_iterA, ev_comp, ev_for, ev_sl, ev_part0, ev_part1, ev_mpart, ev_asg, ev_par, ev_listOf, ev_binL, ev_gN, ev_gT, ev_gA0, ev_gA, ev_noIo0, ev_noIo, ev_wipe0, ev_wipe, ev_compL0, ev_compL, ev_forL0, ev_forL, at2_0, at2_1, ixN2_0, ixN2_1, fnSem, List.length_cons, List.length_nil, List.replicate, List.append_eq, List.cons_append, List.nil_append, List.getElem?_cons_zero, List.getElem?_cons_succ, List.set_cons_zero, List.set_cons_succ, List.take_succ_cons, List.take_zero, isIoAt, lstAt, setL, Nat.reduceAdd, Nat.reduceSub, Option.map_some, Option.bind_some, if_true, if_false, Bool.false_eq_true, ite_true, ite_false, reduceIte, Int.natCast_add, decide_eq_true_eq, decide_true, decide_false, Bool.not_true, Bool.not_false, Bool.not_eq_true, and_self, and_true, true_and, Nat.reduceLeDiff, Nat.reduceLT, Bool.and_true, Bool.true_and, Bool.and_false, Bool.false_and, isi_t, len_t, List.length_map, gtD_i, c1, seqD_t, e1, all_true]
end NS

set_option Elab.async false
set_option linter.all false
set_option autoImplicit false
set_option maxRecDepth 100000
set_option maxHeartbeats 4000000
namespace NS
open PySem PySem.Spec PyProof.Rows L2
def Tst.pass (l : List Str) (f : Str) : Tst → Bool
  | .is w => decide (f = w)
  | .any => true
  | .non ws => !decide (f ∈ ws)
  | .like k => decide (some f = l[k]?)
def Tst.fine (n : Nat) : Tst → Bool
  | .like k => decide (k < n)
  | _ => true
def encO : Option (List Str) → Dt
  | none => .none
  | some l => tupS l
def lookedM (r : Rul) (nm : List Str) : Option (List Str) := if nm.length < r.fr.length + r.bk.length ∨ r.fr.length + r.bk.length < nm.length ∧ r.op = false then none else some (nm.take r.fr.length ++ nm.drop (nm.length - r.bk.length))
def matchedM (r : Rul) (nm : List Str) : Option (List Str) := (lookedM r nm).bind fun l => if ((r.fr ++ r.bk).zip l).all (fun p => p.1.pass l p.2) = true then some l else none
def itemM (r : Rul) (nm l : List Str) : Itm → List Str
  | .word w => [w]
  | .field k => l[k]?.toList
  | .rest => (nm.take (nm.length - r.bk.length)).drop r.fr.length
def madeM (r : Rul) (nm : List Str) : Option (List Str) := (matchedM r nm).map fun l => r.making.flatMap (itemM r nm l)
def firstM (rs : List Rul) (nm : List Str) : Option Nat := (rs.zipIdx.find? fun p => (matchedM p.1 nm).isSome).map (·.2)
def turnM (rs : List Rul) (nm : List Str) : List Str := match firstM rs nm with
  | none => nm
  | some k => match rs[k]? with
    | some r => (madeM r nm).getD nm
    | none => nm
theorem k_is_is : eqD (.str "is") (.str "is") = some (.bool true) := by rfl
theorem k_is_non : eqD (.str "is") (.str "none") = some (.bool false) := by rfl
theorem k_is_lk : eqD (.str "is") (.str "like") = some (.bool false) := by rfl
theorem k_any_is : eqD (.str "any") (.str "is") = some (.bool false) := by rfl
theorem k_any_non : eqD (.str "any") (.str "none") = some (.bool false) := by rfl
theorem k_any_lk : eqD (.str "any") (.str "like") = some (.bool false) := by rfl
theorem k_non_is : eqD (.str "none") (.str "is") = some (.bool false) := by rfl
theorem k_non_non : eqD (.str "none") (.str "none") = some (.bool true) := by rfl
theorem k_non_lk : eqD (.str "none") (.str "like") = some (.bool false) := by rfl
theorem k_lk_is : eqD (.str "like") (.str "is") = some (.bool false) := by rfl
theorem k_lk_non : eqD (.str "like") (.str "none") = some (.bool false) := by rfl
theorem k_lk_lk : eqD (.str "like") (.str "like") = some (.bool true) := by rfl
theorem k_w_w : eqD (.str "word") (.str "word") = some (.bool true) := by rfl
theorem k_w_r : eqD (.str "word") (.str "rest") = some (.bool false) := by rfl
theorem k_f_w : eqD (.str "field") (.str "word") = some (.bool false) := by rfl
theorem k_f_f : eqD (.str "field") (.str "field") = some (.bool true) := by rfl
theorem k_f_r : eqD (.str "field") (.str "rest") = some (.bool false) := by rfl
theorem k_r_w : eqD (.str "rest") (.str "word") = some (.bool false) := by rfl
theorem k_r_f : eqD (.str "rest") (.str "field") = some (.bool false) := by rfl
theorem k_r_r : eqD (.str "rest") (.str "rest") = some (.bool true) := by rfl
theorem at1_0 {α : Type} {a : α} : atI [a] 0 = some a := rfl
theorem passes_ok (t : Tst) (f : Str) (l : List Str) (h : t.fine l.length = true) : F_passes [.val t.enc, .val (.str f), .val (tupS l)] = .ok (.bool (t.pass l f)) [.val t.enc, .val (.str f), .val (tupS l)] := by
  unfold F_passes m_passes
  cases t with
  | is w =>
    rw [enc_is]
    simp only [ev_seq, ev_seq_nx, ev_seq_rt, ev_seq_ex, ev_seq_bk, ev_seq_ct, ev_seq_st, ev_seq_ite, ev_next, ev_ifs, ev_ites, ev_ites_ex, ev_ret, ev_drop, ev_out, ev_out_ex, ev_outA, ev_c, ev_set, ev_own, ev_bind, ev_bind_ex, ev_bindA, ev_op, ev_un, ev_call, ev_ofO, ev_nil, ev_cons, ev_consok, ev_push, ev_tup, ev_lst, ev_not, ev_notb, ev_and, ev_or, ev_if, ev_ite, ev_chain, ev_var, ev_ixO, ev_setIx, ev_augIx, ev_opOL, ev_callO, ev_ref, ev_mut, ev_callF, ev_callN, ev_back, ev_backX, ev_backN, ev_mk0, ev_mkv, ev_mkr, ev_wb0, ev_wbv, ev_wbr, ev_iter, ev_iterA, ev_comp, ev_for, ev_sl, ev_part0, ev_part1, ev_mpart, ev_asg, ev_par, ev_listOf, ev_binL, ev_gN, ev_gT, ev_gA0, ev_gA, ev_noIo0, ev_noIo, ev_wipe0, ev_wipe, ev_compL0, ev_compL, ev_forL0, ev_forL, at2_0, at2_1, ixN2_0, ixN2_1, fnSem, List.length_cons, List.length_nil, List.replicate, List.append_eq, List.cons_append, List.nil_append, List.getElem?_cons_zero, List.getElem?_cons_succ, List.set_cons_zero, List.set_cons_succ, List.take_succ_cons, List.take_zero, isIoAt, lstAt, setL, Nat.reduceAdd, Nat.reduceSub, Option.map_some, Option.bind_some, if_true, if_false, Bool.false_eq_true, ite_true, ite_false, reduceIte, Int.natCast_add, decide_eq_true_eq, decide_true, decide_false, Bool.not_true, Bool.not_false, Bool.not_eq_true, and_self, and_true, true_and, Nat.reduceLeDiff, Nat.reduceLT, Bool.and_true, Bool.true_and, Bool.and_false, Bool.false_and, ixD_t, at2_0, at2_1, k_is_is, eqD_str f w]
    rfl
  | any =>
    rw [enc_any]
    simp only [ev_seq, ev_seq_nx, ev_seq_rt, ev_seq_ex, ev_seq_bk, ev_seq_ct, ev_seq_st, ev_seq_ite, ev_next, ev_ifs, ev_ites, ev_ites_ex, ev_ret, ev_drop, ev_out, ev_out_ex, ev_outA, ev_c, ev_set, ev_own, ev_bind, ev_bind_ex, ev_bindA, ev_op, ev_un, ev_call, ev_ofO, ev_nil, ev_cons, ev_consok, ev_push, ev_tup, ev_lst, ev_not, ev_notb, ev_and, ev_or, ev_if, ev_ite, ev_chain, ev_var, ev_ixO, ev_setIx, ev_augIx, ev_opOL, ev_callO, ev_ref, ev_mut, ev_callF, ev_callN, ev_back, ev_backX, ev_backN, ev_mk0, ev_mkv, ev_mkr, ev_wb0, ev_wbv, ev_wbr, ev_iter, ev_iterA, ev_comp, ev_for, ev_sl, ev_part0, ev_part1, ev_mpart, ev_asg, ev_par, ev_listOf, ev_binL, ev_gN, ev_gT, ev_gA0, ev_gA, ev_noIo0, ev_noIo, ev_wipe0, ev_wipe, ev_compL0, ev_compL, ev_forL0, ev_forL, at2_0, at2_1, ixN2_0, ixN2_1, fnSem, List.length_cons, List.length_nil, List.replicate, List.append_eq, List.cons_append, List.nil_append, List.getElem?_cons_zero, List.getElem?_cons_succ, List.set_cons_zero, List.set_cons_succ, List.take_succ_cons, List.take_zero, isIoAt, lstAt, setL, Nat.reduceAdd, Nat.reduceSub, Option.map_some, Option.bind_some, if_true, if_false, Bool.false_eq_true, ite_true, ite_false, reduceIte, Int.natCast_add, decide_eq_true_eq, decide_true, decide_false, Bool.not_true, Bool.not_false, Bool.not_eq_true, and_self, and_true, true_and, Nat.reduceLeDiff, Nat.reduceLT, Bool.and_true, Bool.true_and, Bool.and_false, Bool.false_and, ixD_t, at1_0, k_any_is, k_any_non, k_any_lk]
    rfl
  | non ws =>
    rw [enc_non]
    simp only [ev_seq, ev_seq_nx, ev_seq_rt, ev_seq_ex, ev_seq_bk, ev_seq_ct, ev_seq_st, ev_seq_ite, ev_next, ev_ifs, ev_ites, ev_ites_ex, ev_ret, ev_drop, ev_out, ev_out_ex, ev_outA, ev_c, ev_set, ev_own, ev_bind, ev_bind_ex, ev_bindA, ev_op, ev_un, ev_call, ev_ofO, ev_nil, ev_cons, ev_consok, ev_push, ev_tup, ev_lst, ev_not, ev_notb, ev_and, ev_or, ev_if, ev_ite, ev_chain, ev_var, ev_ixO, ev_setIx, ev_augIx, ev_opOL, ev_callO, ev_ref, ev_mut, ev_callF, ev_callN, ev_back, ev_backX, ev_backN, ev_mk0, ev_mkv, ev_mkr, ev_wb0, ev_wbv, ev_wbr, ev_iter, ev_iterA, ev_comp, ev_for, ev_sl, ev_part0, ev_part1, ev_mpart, ev_asg, ev_par, ev_listOf, ev_binL, ev_gN, ev_gT, ev_gA0, ev_gA, ev_noIo0, ev_noIo, ev_wipe0, ev_wipe, ev_compL0, ev_compL, ev_forL0, ev_forL, at2_0, at2_1, ixN2_0, ixN2_1, fnSem, List.length_cons, List.length_nil, List.replicate, List.append_eq, List.cons_append, List.nil_append, List.getElem?_cons_zero, List.getElem?_cons_succ, List.set_cons_zero, List.set_cons_succ, List.take_succ_cons, List.take_zero, isIoAt, lstAt, setL, Nat.reduceAdd, Nat.reduceSub, Option.map_some, Option.bind_some, if_true, if_false, Bool.false_eq_true, ite_true, ite_false, reduceIte, Int.natCast_add, decide_eq_true_eq, decide_true, decide_false, Bool.not_true, Bool.not_false, Bool.not_eq_true, and_self, and_true, true_and, Nat.reduceLeDiff, Nat.reduceLT, Bool.and_true, Bool.true_and, Bool.and_false, Bool.false_and, ixD_t, at2_0, at2_1, k_non_is, k_non_non, notIn_tupS]
    rfl
  | like k =>
    have hk : k < l.length := of_decide_eq_true h
    have hx : l[k]? = some l[k] := List.getElem?_eq_getElem hk
    rw [enc_like]
    simp only [ev_seq, ev_seq_nx, ev_seq_rt, ev_seq_ex, ev_seq_bk, ev_seq_ct, ev_seq_st, ev_seq_ite, ev_next, ev_ifs, ev_ites, ev_ites_ex, ev_ret, ev_drop, ev_out, ev_out_ex, ev_outA, ev_c, ev_set, ev_own, ev_bind, ev_bind_ex, ev_bindA, ev_op, ev_un, ev_call, ev_ofO, ev_nil, ev_cons, ev_consok, ev_push, ev_tup, ev_lst, ev_not, ev_notb, ev_and, ev_or, ev_if, ev_ite, ev_chain, ev_var, ev_ixO, ev_setIx, ev_augIx, ev_opOL, ev_callO, ev_ref, ev_mut, ev_callF, ev_callN, ev_back, ev_backX, ev_backN, ev_mk0, ev_mkv, ev_mkr, ev_wb0, ev_wbv, ev_wbr, ev_iter, ev_iterA, ev_comp, ev_for, ev_sl, ev_part0, ev_part1, ev_mpart, ev_asg, ev_par, ev_listOf, ev_binL, ev_gN, ev_gT, ev_gA0, ev_gA, ev_noIo0, ev_noIo, ev_wipe0, ev_wipe, ev_compL0, ev_compL, ev_forL0, ev_forL, at2_0, at2_1, ixN2_0, ixN2_1, fnSem, List.length_cons, List.length_nil, List.replicate, List.append_eq, List.cons_append, List.nil_append, List.getElem?_cons_zero, List.getElem?_cons_succ, List.set_cons_zero, List.set_cons_succ, List.take_succ_cons, List.take_zero, isIoAt, lstAt, setL, Nat.reduceAdd, Nat.reduceSub, Option.map_some, Option.bind_some, if_true, if_false, Bool.false_eq_true, ite_true, ite_false, reduceIte, Int.natCast_add, decide_eq_true_eq, decide_true, decide_false, Bool.not_true, Bool.not_false, Bool.not_eq_true, and_self, and_true, true_and, Nat.reduceLeDiff, Nat.reduceLT, Bool.and_true, Bool.true_and, Bool.and_false, Bool.false_and, ixD_t, at2_0, at2_1, k_lk_is, k_lk_non, k_lk_lk, ix_tupS hx, eqD_str f l[k]]
    show FR.ok (.bool (decide (f = l[k]))) _ = FR.ok (.bool (decide (some f = l[k]?))) _
    rw [hx]
    by_cases hf : f = l[k] <;> simp [hf]
theorem tT_len (ts : List Tst) : lenTD [tTs ts] = some (.int ts.length) := by unfold tTs; rw [len_t, List.length_map]
theorem sl_takeS {xs : List Str} {k : Nat} : slD (tupS xs) none (some (k : Int)) = some (tupS (xs.take k)) := by
  unfold tupS; rw [sl_take, List.map_take]
theorem sl_dropS {xs : List Str} {k : Nat} : slD (tupS xs) (some (k : Int)) none = some (tupS (xs.drop k)) := by
  unfold tupS; rw [sl_drop, List.map_drop]
theorem sl_midS {xs : List Str} {a b : Nat} : slD (tupS xs) (some (a : Int)) (some (b : Int)) = some (tupS ((xs.take b).drop a)) := by
  unfold tupS; rw [sl_mid, List.map_drop, List.map_take]
theorem looked_ok (r : Rul) (nm : List Str) (hn : nm.length ≤ 1000) : F_looked_at [.val r.enc, .val (tupS nm)] = .ok (encO (lookedM r nm)) [.val r.enc, .val (tupS nm)] := by
  unfold F_looked_at m_looked_at Rul.enc lookedM
  by_cases h1 : nm.length < r.fr.length + r.bk.length
  · rw [if_pos (.inl h1)]
    have c1 : (nm.length : Int) < (r.fr.length : Int) + r.bk.length := by omega
    simp only [ev_seq, ev_seq_nx, ev_seq_rt, ev_seq_ex, ev_seq_bk, ev_seq_ct, ev_seq_st, ev_seq_ite, ev_next, ev_ifs, ev_ites, ev_ites_ex, ev_ret, ev_drop, ev_out, ev_out_ex, ev_outA, ev_c, ev_set, ev_own, ev_bind, ev_bind_ex, ev_bindA, ev_op, ev_un, ev_call, ev_ofO, ev_nil, ev_cons, ev_consok, ev_push, ev_tup, ev_lst, ev_not, ev_notb, ev_and, ev_or, ev_if, ev_ite, ev_chain, ev_var, ev_ixO, ev_setIx, ev_augIx, ev_opOL, ev_callO, ev_ref, ev_mut, ev_callF, ev_callN, ev_back, ev_backX, ev_backN, ev_mk0, ev_mkv, ev_mkr, ev_wb0, ev_wbv, ev_wbr, ev_iter, ev_iterA, ev_comp, ev_for, ev_sl, ev_part0, ev_part1, ev_mpart, ev_asg, ev_par, ev_listOf, ev_binL, ev_gN, ev_gT, ev_gA0, ev_gA, ev_noIo0, ev_noIo, ev_wipe0, ev_wipe, ev_compL0, ev_compL, ev_forL0, ev_forL, at2_0, at2_1, ixN2_0, ixN2_1, fnSem, List.length_cons, List.length_nil, List.replicate, List.append_eq, List.cons_append, List.nil_append, List.getElem?_cons_zero, List.getElem?_cons_succ, List.set_cons_zero, List.set_cons_succ, List.take_succ_cons, List.take_zero, isIoAt, lstAt, setL, Nat.reduceAdd, Nat.reduceSub, Option.map_some, Option.bind_some, if_true, if_false, Bool.false_eq_true, ite_true, ite_false, reduceIte, Int.natCast_add, decide_eq_true_eq, decide_true, decide_false, Bool.not_true, Bool.not_false, Bool.not_eq_true, and_self, and_true, true_and, Nat.reduceLeDiff, Nat.reduceLT, Bool.and_true, Bool.true_and, Bool.and_false, Bool.false_and, tT_len, len_tupS, addD_i, ltD_i, c1]
    rfl
  · have c1 : ¬ (nm.length : Int) < (r.fr.length : Int) + r.bk.length := by omega
    by_cases h2 : r.fr.length + r.bk.length < nm.length
    · have c2 : (r.fr.length : Int) + r.bk.length < (nm.length : Int) := by omega
      cases hop : r.op with
      | false =>
        rw [if_pos (.inr ⟨h2, rfl⟩)]
        simp only [ev_seq, ev_seq_nx, ev_seq_rt, ev_seq_ex, ev_seq_bk, ev_seq_ct, ev_seq_st, ev_seq_ite, ev_next, ev_ifs, ev_ites, ev_ites_ex, ev_ret, ev_drop, ev_out, ev_out_ex, ev_outA, ev_c, ev_set, ev_own, ev_bind, ev_bind_ex, ev_bindA, ev_op, ev_un, ev_call, ev_ofO, ev_nil, ev_cons, ev_consok, ev_push, ev_tup, ev_lst, ev_not, ev_notb, ev_and, ev_or, ev_if, ev_ite, ev_chain, ev_var, ev_ixO, ev_setIx, ev_augIx, ev_opOL, ev_callO, ev_ref, ev_mut, ev_callF, ev_callN, ev_back, ev_backX, ev_backN, ev_mk0, ev_mkv, ev_mkr, ev_wb0, ev_wbv, ev_wbr, ev_iter, ev_iterA, ev_comp, ev_for, ev_sl, ev_part0, ev_part1, ev_mpart, ev_asg, ev_par, ev_listOf, ev_binL, ev_gN, ev_gT, ev_gA0, ev_gA, ev_noIo0, ev_noIo, ev_wipe0, ev_wipe, ev_compL0, ev_compL, ev_forL0, ev_forL, at2_0, at2_1, ixN2_0, ixN2_1, fnSem, List.length_cons, List.length_nil, List.replicate, List.append_eq, List.cons_append, List.nil_append, List.getElem?_cons_zero, List.getElem?_cons_succ, List.set_cons_zero, List.set_cons_succ, List.take_succ_cons, List.take_zero, isIoAt, lstAt, setL, Nat.reduceAdd, Nat.reduceSub, Option.map_some, Option.bind_some, if_true, if_false, Bool.false_eq_true, ite_true, ite_false, reduceIte, Int.natCast_add, decide_eq_true_eq, decide_true, decide_false, Bool.not_true, Bool.not_false, Bool.not_eq_true, and_self, and_true, true_and, Nat.reduceLeDiff, Nat.reduceLT, Bool.and_true, Bool.true_and, Bool.and_false, Bool.false_and, tT_len, len_tupS, addD_i, ltD_i, gtD_i, c1, c2]
        rfl
      | true =>
        rw [if_neg (by simp; omega)]
        have hs : (nm.length : Int) - r.bk.length = ((nm.length - r.bk.length : Nat) : Int) := by omega
        simp only [ev_seq, ev_seq_nx, ev_seq_rt, ev_seq_ex, ev_seq_bk, ev_seq_ct, ev_seq_st, ev_seq_ite, ev_next, ev_ifs, ev_ites, ev_ites_ex, ev_ret, ev_drop, ev_out, ev_out_ex, ev_outA, ev_c, ev_set, ev_own, ev_bind, ev_bind_ex, ev_bindA, ev_op, ev_un, ev_call, ev_ofO, ev_nil, ev_cons, ev_consok, ev_push, ev_tup, ev_lst, ev_not, ev_notb, ev_and, ev_or, ev_if, ev_ite, ev_chain, ev_var, ev_ixO, ev_setIx, ev_augIx, ev_opOL, ev_callO, ev_ref, ev_mut, ev_callF, ev_callN, ev_back, ev_backX, ev_backN, ev_mk0, ev_mkv, ev_mkr, ev_wb0, ev_wbv, ev_wbr, ev_iter, ev_iterA, ev_comp, ev_for, ev_sl, ev_part0, ev_part1, ev_mpart, ev_asg, ev_par, ev_listOf, ev_binL, ev_gN, ev_gT, ev_gA0, ev_gA, ev_noIo0, ev_noIo, ev_wipe0, ev_wipe, ev_compL0, ev_compL, ev_forL0, ev_forL, at2_0, at2_1, ixN2_0, ixN2_1, fnSem, List.length_cons, List.length_nil, List.replicate, List.append_eq, List.cons_append, List.nil_append, List.getElem?_cons_zero, List.getElem?_cons_succ, List.set_cons_zero, List.set_cons_succ, List.take_succ_cons, List.take_zero, isIoAt, lstAt, setL, Nat.reduceAdd, Nat.reduceSub, Option.map_some, Option.bind_some, if_true, if_false, Bool.false_eq_true, ite_true, ite_false, reduceIte, Int.natCast_add, decide_eq_true_eq, decide_true, decide_false, Bool.not_true, Bool.not_false, Bool.not_eq_true, and_self, and_true, true_and, Nat.reduceLeDiff, Nat.reduceLT, Bool.and_true, Bool.true_and, Bool.and_false, Bool.false_and, tT_len, len_tupS, addD_i, ltD_i, gtD_i, c1, c2, subD_i, hs, sl_takeS, sl_dropS]
        rw [add_tupS (by rw [List.length_take, List.length_drop]; omega)]
        rfl
    · have c2 : ¬ (r.fr.length : Int) + r.bk.length < (nm.length : Int) := by omega
      rw [if_neg (by omega)]
      have hs : (nm.length : Int) - r.bk.length = ((nm.length - r.bk.length : Nat) : Int) := by omega
      simp only [ev_seq, ev_seq_nx, ev_seq_rt, ev_seq_ex, ev_seq_bk, ev_seq_ct, ev_seq_st, ev_seq_ite, ev_next, ev_ifs, ev_ites, ev_ites_ex, ev_ret, ev_drop, ev_out, ev_out_ex, ev_outA, ev_c, ev_set, ev_own, ev_bind, ev_bind_ex, ev_bindA, ev_op, ev_un, ev_call, ev_ofO, ev_nil, ev_cons, ev_consok, ev_push, ev_tup, ev_lst, ev_not, ev_notb, ev_and, ev_or, ev_if, ev_ite, ev_chain, ev_var, ev_ixO, ev_setIx, ev_augIx, ev_opOL, ev_callO, ev_ref, ev_mut, ev_callF, ev_callN, ev_back, ev_backX, ev_backN, ev_mk0, ev_mkv, ev_mkr, ev_wb0, ev_wbv, ev_wbr, ev_iter, ev_iterA, ev_comp, ev_for, ev_sl, ev_part0, ev_part1, ev_mpart, ev_asg, ev_par, ev_listOf, ev_binL, ev_gN, ev_gT, ev_gA0, ev_gA, ev_noIo0, ev_noIo, ev_wipe0, ev_wipe, ev_compL0, ev_compL, ev_forL0, ev_forL, at2_0, at2_1, ixN2_0, ixN2_1, fnSem, List.length_cons, List.length_nil, List.replicate, List.append_eq, List.cons_append, List.nil_append, List.getElem?_cons_zero, List.getElem?_cons_succ, List.set_cons_zero, List.set_cons_succ, List.take_succ_cons, List.take_zero, isIoAt, lstAt, setL, Nat.reduceAdd, Nat.reduceSub, Option.map_some, Option.bind_some, if_true, if_false, Bool.false_eq_true, ite_true, ite_false, reduceIte, Int.natCast_add, decide_eq_true_eq, decide_true, decide_false, Bool.not_true, Bool.not_false, Bool.not_eq_true, and_self, and_true, true_and, Nat.reduceLeDiff, Nat.reduceLT, Bool.and_true, Bool.true_and, Bool.and_false, Bool.false_and, tT_len, len_tupS, addD_i, ltD_i, gtD_i, c1, c2, subD_i, hs, sl_takeS, sl_dropS]
      rw [add_tupS (by rw [List.length_take, List.length_drop]; omega)]
      rfl
end NS

set_option Elab.async false
set_option linter.all false
set_option autoImplicit false
set_option maxRecDepth 100000
set_option maxHeartbeats 4000000
namespace NS
open PySem PySem.Spec PyProof.Rows L2
/-- what is asked of a rule for all that follows -/
structure RFine (r : Rul) : Prop where
  few : r.fr.length + r.bk.length ≤ 8
  ts : ∀ t ∈ r.fr ++ r.bk, t.fine (r.fr.length + r.bk.length) = true
  cl : r.op = false → r.bk = []
  items : ∀ i ∈ r.making, ∀ k, i = .field k → k < r.fr.length + r.bk.length
  many : r.making.length ≤ 8
theorem fine_mono {a b : Nat} {t : Tst} (h : TIn a t) (hab : a ≤ b) : t.fine b = true := by
  cases h with
  | like hj => exact decide_eq_true (by omega)
  | _ => rfl
theorem RIn.fine {r : Rul} (h : RIn r) : RFine r := by
  obtain ⟨its, h1, h2, h3, h4⟩ := h.items
  have hf := h.fr
  have hb := h.bk
  refine ⟨by omega, fun t ht => ?_, fun ho => (h.cl ho).1, fun i hi k hk => ?_, ?_⟩
  · obtain ⟨k, hk, hkt⟩ := List.mem_iff_getElem.mp ht
    have h5 := h.ts k t (by rw [← hkt]; exact List.getElem?_eq_getElem hk)
    rw [List.length_append] at hk
    exact fine_mono h5 (by omega)
  · subst hk
    rw [List.length_append] at h3
    have : ∀ i ∈ its, i = .field k → k < r.fr.length + r.bk.length := fun i hi e => by
      have := h3 i hi
      subst e
      cases this with
      | f hj => exact hj
    rcases h4 with h4 | ⟨_, j, h4⟩
    · exact this _ (h4 ▸ hi) rfl
    · rw [h4] at hi
      rcases List.mem_append.mp hi with hi | hi
      · exact this _ (List.mem_of_mem_take hi) rfl
      · rcases List.mem_cons.mp hi with hi | hi
        · cases hi
        · exact this _ (List.mem_of_mem_drop hi) rfl
  · rcases h4 with h4 | ⟨_, j, h4⟩
    · rw [h4]; omega
    · rw [h4, List.length_append, List.length_cons, List.length_take, List.length_drop]; omega
theorem lookedM_len {r : Rul} {nm l : List Str} (h : lookedM r nm = some l) : l.length = r.fr.length + r.bk.length := by
  unfold lookedM at h
  split at h
  · cases h
  · rename_i c
    cases h
    rw [List.length_append, List.length_take, List.length_drop]
    omega
theorem isN_none : isN1 .none .none = some (.bool true) := rfl
theorem isN_tup {l : List Str} : isN1 (tupS l) .none = some (.bool false) := rfl
theorem isNot_none : isNotN1 .none .none = some (.bool false) := rfl
theorem isNot_tup {l : List Str} : isNotN1 (tupS l) .none = some (.bool true) := rfl
theorem rule0 (r : Rul) : ixD r.enc (.int 0) = some (tTs r.fr) := rfl
theorem rule2 (r : Rul) : ixD r.enc (.int 2) = some (tTs r.bk) := rfl
theorem add_tTs {a b : List Tst} (h : a.length + b.length ≤ 10000) : addD (tTs a) (tTs b) = some (.tuple ((a ++ b).map Tst.enc)) := by
  unfold tTs
  rw [addD_t (by rw [List.length_map, List.length_map]; exact h), List.map_append]
theorem fitting_ok (r : Rul) (hr : RFine r) (nm : List Str) (hn : nm.length ≤ 1000) : F_is_fitting [.val r.enc, .val (tupS nm)] = .ok (.bool (matchedM r nm).isSome) [.val r.enc, .val (tupS nm)] := by
  have e0 := looked_ok r nm hn
  unfold matchedM
  cases hl : lookedM r nm with
  | none =>
    rw [hl] at e0
    unfold F_is_fitting m_is_fitting
    simp only [encO] at e0
    simp only [ev_seq, ev_seq_nx, ev_seq_rt, ev_seq_ex, ev_seq_bk, ev_seq_ct, ev_seq_st, ev_seq_ite, ev_next, ev_ifs, ev_ites, ev_ites_ex, ev_ret, ev_drop, ev_out, ev_out_ex, ev_outA, ev_c, ev_set, ev_own, ev_bind, ev_bind_ex, ev_bindA, ev_op, ev_un, ev_call, ev_ofO, ev_nil, ev_cons, ev_consok, ev_push, ev_tup, ev_lst, ev_not, ev_notb, ev_and, ev_or, ev_if, ev_ite, ev_chain, ev_var, ev_ixO, ev_setIx, ev_augIx, ev_opOL, ev_callO, ev_ref, ev_mut, ev_callF, ev_callN, ev_back, ev_backX, ev_backN, ev_mk0, ev_mkv, ev_mkr, ev_wb0, ev_wbv, ev_wbr, ev_iter, ev_iterA, ev_comp, ev_for, ev_sl, ev_part0, ev_part1, ev_mpart, ev_asg, ev_par, ev_listOf, ev_binL, ev_gN, ev_gT, ev_gA0, ev_gA, ev_noIo0, ev_noIo, ev_wipe0, ev_wipe, ev_compL0, ev_compL, ev_forL0, ev_forL, at2_0, at2_1, ixN2_0, ixN2_1, fnSem, List.length_cons, List.length_nil, List.replicate, List.append_eq, List.cons_append, List.nil_append, List.getElem?_cons_zero, List.getElem?_cons_succ, List.set_cons_zero, List.set_cons_succ, List.take_succ_cons, List.take_zero, isIoAt, lstAt, setL, Nat.reduceAdd, Nat.reduceSub, Option.map_some, Option.bind_some, if_true, if_false, Bool.false_eq_true, ite_true, ite_false, reduceIte, Int.natCast_add, decide_eq_true_eq, decide_true, decide_false, Bool.not_true, Bool.not_false, Bool.not_eq_true, and_self, and_true, true_and, Nat.reduceLeDiff, Nat.reduceLT, Bool.and_true, Bool.true_and, Bool.and_false, Bool.false_and, e0, isN_none]
    rfl
  | some l =>
    rw [hl] at e0
    simp only [encO] at e0
    have hlen := lookedM_len hl
    have hfew := hr.few
    have e1 := compL_mapA (vs := [4, 5]) (g := gT [4, 5]) (mb := mCallN F_passes [none, none, none] (mCons (mVar 4) (mCons (mVar 5) (mCons (mVar 2) mNil)))) (ρ := [.val r.enc, .val (tupS nm), .val (tupS l), .val (.tuple ((r.fr ++ r.bk).map Tst.enc)), .no, .no]) (fun p : Tst × Str => .tuple [p.1.enc, .str p.2]) (fun p => .bool (p.1.pass l p.2)) ((r.fr ++ r.bk).zip l) (by rw [List.length_zip, List.length_append]; omega) (by
      rintro ⟨t, f⟩ hx
      refine ⟨[.val r.enc, .val (tupS nm), .val (tupS l), .val (.tuple ((r.fr ++ r.bk).map Tst.enc)), .val t.enc, .val (.str f)], [.val r.enc, .val (tupS nm), .val (tupS l), .val (.tuple ((r.fr ++ r.bk).map Tst.enc)), .val t.enc, .val (.str f)], rfl, ?_, rfl, rfl⟩
      have := passes_ok t f l (by rw [hlen]; exact hr.ts t (List.of_mem_zip hx).1)
      simp only [ev_seq, ev_seq_nx, ev_seq_rt, ev_seq_ex, ev_seq_bk, ev_seq_ct, ev_seq_st, ev_seq_ite, ev_next, ev_ifs, ev_ites, ev_ites_ex, ev_ret, ev_drop, ev_out, ev_out_ex, ev_outA, ev_c, ev_set, ev_own, ev_bind, ev_bind_ex, ev_bindA, ev_op, ev_un, ev_call, ev_ofO, ev_nil, ev_cons, ev_consok, ev_push, ev_tup, ev_lst, ev_not, ev_notb, ev_and, ev_or, ev_if, ev_ite, ev_chain, ev_var, ev_ixO, ev_setIx, ev_augIx, ev_opOL, ev_callO, ev_ref, ev_mut, ev_callF, ev_callN, ev_back, ev_backX, ev_backN, ev_mk0, ev_mkv, ev_mkr, ev_wb0, ev_wbv, ev_wbr, ev_iter, ev_iterA, ev_comp, ev_for, ev_sl, ev_part0, ev_part1, ev_mpart, ev_asg, ev_par, ev_listOf, ev_binL, ev_gN, ev_gT, ev_gA0, ev_gA, ev_noIo0, ev_noIo, ev_wipe0, ev_wipe, ev_compL0, ev_compL, ev_forL0, ev_forL, at2_0, at2_1, ixN2_0, ixN2_1, fnSem, List.length_cons, List.length_nil, List.replicate, List.append_eq, List.cons_append, List.nil_append, List.getElem?_cons_zero, List.getElem?_cons_succ, List.set_cons_zero, List.set_cons_succ, List.take_succ_cons, List.take_zero, isIoAt, lstAt, setL, Nat.reduceAdd, Nat.reduceSub, Option.map_some, Option.bind_some, if_true, if_false, Bool.false_eq_true, ite_true, ite_false, reduceIte, Int.natCast_add, decide_eq_true_eq, decide_true, decide_false, Bool.not_true, Bool.not_false, Bool.not_eq_true, and_self, and_true, true_and, Nat.reduceLeDiff, Nat.reduceLT, Bool.and_true, Bool.true_and, Bool.and_false, Bool.false_and, this])
    have e2 : zipD [.tuple ((r.fr ++ r.bk).map Tst.enc), tupS l] = some (((r.fr ++ r.bk).zip l).map fun p => .tuple [p.1.enc, .str p.2]) := by
      show some (zipL _ (l.map PyData.str)) = _
      rw [zipL_map]
    have e3 := add_tTs (a := r.fr) (b := r.bk) (by omega)
    have e4 := allD_map (fun p : Tst × Str => p.1.pass l p.2) ((r.fr ++ r.bk).zip l)
    rw [Option.bind_some]
    unfold F_is_fitting m_is_fitting
    cases hall : ((r.fr ++ r.bk).zip l).all (fun p => p.1.pass l p.2) with
    | false =>
      rw [hall] at e4
      simp only [ev_seq, ev_seq_nx, ev_seq_rt, ev_seq_ex, ev_seq_bk, ev_seq_ct, ev_seq_st, ev_seq_ite, ev_next, ev_ifs, ev_ites, ev_ites_ex, ev_ret, ev_drop, ev_out, ev_out_ex, ev_outA, ev_c, ev_set, ev_own, ev_bind, ev_bind_ex, ev_bindA, ev_op, ev_un, ev_call, ev_ofO, ev_nil, ev_cons, ev_consok, ev_push, ev_tup, ev_lst, ev_not, ev_notb, ev_and, ev_or, ev_if, ev_ite, ev_chain, ev_var, ev_ixO, ev_setIx, ev_augIx, ev_opOL, ev_callO, ev_ref, ev_mut, ev_callF, ev_callN, ev_back, ev_backX, ev_backN, ev_mk0, ev_mkv, ev_mkr, ev_wb0, ev_wbv, ev_wbr, ev_iter, ev_iterA, ev_comp, ev_for, ev_sl, ev_part0, ev_part1, ev_mpart, ev_asg, ev_par, ev_listOf, ev_binL, ev_gN, ev_gT, ev_gA0, ev_gA, ev_noIo0, ev_noIo, ev_wipe0, ev_wipe, ev_compL0, ev_compL, ev_forL0, ev_forL, at2_0, at2_1, ixN2_0, ixN2_1, fnSem, List.length_cons, List.length_nil, List.replicate, List.append_eq, List.cons_append, List.nil_append, List.getElem?_cons_zero, List.getElem?_cons_succ, List.set_cons_zero, List.set_cons_succ, List.take_succ_cons, List.take_zero, isIoAt, lstAt, setL, Nat.reduceAdd, Nat.reduceSub, Option.map_some, Option.bind_some, if_true, if_false, Bool.false_eq_true, ite_true, ite_false, reduceIte, Int.natCast_add, decide_eq_true_eq, decide_true, decide_false, Bool.not_true, Bool.not_false, Bool.not_eq_true, and_self, and_true, true_and, Nat.reduceLeDiff, Nat.reduceLT, Bool.and_true, Bool.true_and, Bool.and_false, Bool.false_and, e0, isN_tup, rule0, rule2, e3, e2, e1, e4]
      rfl
    | true =>
      rw [hall] at e4
      simp only [ev_seq, ev_seq_nx, ev_seq_rt, ev_seq_ex, ev_seq_bk, ev_seq_ct, ev_seq_st, ev_seq_ite, ev_next, ev_ifs, ev_ites, ev_ites_ex, ev_ret, ev_drop, ev_out, ev_out_ex, ev_outA, ev_c, ev_set, ev_own, ev_bind, ev_bind_ex, ev_bindA, ev_op, ev_un, ev_call, ev_ofO, ev_nil, ev_cons, ev_consok, ev_push, ev_tup, ev_lst, ev_not, ev_notb, ev_and, ev_or, ev_if, ev_ite, ev_chain, ev_var, ev_ixO, ev_setIx, ev_augIx, ev_opOL, ev_callO, ev_ref, ev_mut, ev_callF, ev_callN, ev_back, ev_backX, ev_backN, ev_mk0, ev_mkv, ev_mkr, ev_wb0, ev_wbv, ev_wbr, ev_iter, ev_iterA, ev_comp, ev_for, ev_sl, ev_part0, ev_part1, ev_mpart, ev_asg, ev_par, ev_listOf, ev_binL, ev_gN, ev_gT, ev_gA0, ev_gA, ev_noIo0, ev_noIo, ev_wipe0, ev_wipe, ev_compL0, ev_compL, ev_forL0, ev_forL, at2_0, at2_1, ixN2_0, ixN2_1, fnSem, List.length_cons, List.length_nil, List.replicate, List.append_eq, List.cons_append, List.nil_append, List.getElem?_cons_zero, List.getElem?_cons_succ, List.set_cons_zero, List.set_cons_succ, List.take_succ_cons, List.take_zero, isIoAt, lstAt, setL, Nat.reduceAdd, Nat.reduceSub, Option.map_some, Option.bind_some, if_true, if_false, Bool.false_eq_true, ite_true, ite_false, reduceIte, Int.natCast_add, decide_eq_true_eq, decide_true, decide_false, Bool.not_true, Bool.not_false, Bool.not_eq_true, and_self, and_true, true_and, Nat.reduceLeDiff, Nat.reduceLT, Bool.and_true, Bool.true_and, Bool.and_false, Bool.false_and, e0, isN_tup, rule0, rule2, e3, e2, e1, e4]
      rfl
end NS

set_option Elab.async false
set_option linter.all false
set_option autoImplicit false
set_option maxRecDepth 100000
set_option maxHeartbeats 4000000
namespace NS
open PySem PySem.Spec PyProof.Rows L2
theorem flat_len {α β : Type} (f : α → List β) (B : Nat) : ∀ xs : List α, (∀ x ∈ xs, (f x).length ≤ B) → (xs.flatMap f).length ≤ xs.length * B
  | [], _ => by simp
  | x :: xs, h => by
    rw [List.flatMap_cons, List.length_append, List.length_cons]
    have h1 := h x (List.mem_cons_self ..)
    have h2 := flat_len f B xs fun y m => h y (List.mem_cons_of_mem _ m)
    have : (xs.length + 1) * B = xs.length * B + B := Nat.succ_mul _ _
    omega
theorem itemM_len (r : Rul) (nm l : List Str) (i : Itm) : (itemM r nm l i).length ≤ nm.length + 1 := by
  unfold itemM
  cases i with
  | word w => simp
  | field k =>
    show (l[k]?.toList).length ≤ _
    generalize l[k]? = o
    cases o <;> simp
  | rest => simp; omega
theorem appS (acc : List Str) (w : Str) (h : acc.length < 10000) : appendF (acc.map PyData.str) [.str w] = some ((acc ++ [w]).map PyData.str) := by
  rw [app_ok _ _ (by rw [List.length_map]; exact h), List.map_append]; rfl
theorem extS (acc xs : List Str) (h : acc.length + xs.length ≤ 10000) : extendF (acc.map PyData.str) [tupS xs] = some ((acc ++ xs).map PyData.str) := by
  unfold tupS
  rw [extT_ok _ _ (by rw [List.length_map, List.length_map]; exact h), List.map_append]
theorem extL (acc xs : List Str) (h : acc.length + xs.length ≤ 10000) : extendF (acc.map PyData.str) [.list (xs.map PyData.str)] = some ((acc ++ xs).map PyData.str) := by
  rw [ext_ok _ _ (by rw [List.length_map, List.length_map]; exact h), List.map_append]
def bodyMade : Ev → Out := (mIfS (mOp eqD (mOp ixD (mVar 8) (mC (.int 0))) (mC (.str "word"))) (mMut 7 appendF (mCons (mOp ixD (mVar 8) (mC (.int 1))) mNil)) (mIfS (mOp eqD (mOp ixD (mVar 8) (mC (.int 0))) (mC (.str "field"))) (mMut 7 appendF (mCons (mOp ixD (mVar 6) (mOp ixD (mVar 8) (mC (.int 1)))) mNil)) (mMut 7 extendF (mCons (mSl (mVar 1) (mPart (mCall lenTD (mCons (mVar 2) mNil))) (mPart (mOp subD (mCall lenTD (mCons (mVar 1) mNil)) (mCall lenTD (mCons (mVar 4) mNil))))) mNil))))
theorem m_built_eq : m_built = (mSeq (mAsgG (gT [2, 3, 4, 5]) (mVar 0))
  (mSeq (mSet 6 (mCallF F_looked_at [none, none] (mCons (mVar 0) (mCons (mVar 1) mNil))))
  (mSeq (mOwn 7 mNil)
  (mSeq (mFor (mIter seqD (mVar 5)) (gN 8) bodyMade)
  (mRet (mCall tupleD (mCons (mVar 7) mNil))))))) := rfl
def mdS (r : Rul) (nm l acc : List Str) (s : Sl) : Ev := [.val r.enc, .val (tupS nm), .val (tTs r.fr), .val (.bool r.op), .val (tTs r.bk), .val (tIs r.making), .val (tupS l), .own (acc.map PyData.str), s]
theorem bodyMade_ok (r : Rul) (hr : RFine r) (nm l acc : List Str) (hl : l.length = r.fr.length + r.bk.length) (hn : l.length ≤ nm.length) (i : Itm) (hi : i ∈ r.making) (hb : acc.length + nm.length + 1 < 10000) : bodyMade (mdS r nm l acc (.val i.enc)) = .nx (mdS r nm l (acc ++ itemM r nm l i) (.val i.enc)) := by
  unfold bodyMade mdS
  cases i with
  | word w =>
    have h1 := appS acc w (by omega)
    rw [enc_word]
    simp only [ev_seq, ev_seq_nx, ev_seq_rt, ev_seq_ex, ev_seq_bk, ev_seq_ct, ev_seq_st, ev_seq_ite, ev_next, ev_ifs, ev_ites, ev_ites_ex, ev_ret, ev_drop, ev_out, ev_out_ex, ev_outA, ev_c, ev_set, ev_own, ev_bind, ev_bind_ex, ev_bindA, ev_op, ev_un, ev_call, ev_ofO, ev_nil, ev_cons, ev_consok, ev_push, ev_tup, ev_lst, ev_not, ev_notb, ev_and, ev_or, ev_if, ev_ite, ev_chain, ev_var, ev_ixO, ev_setIx, ev_augIx, ev_opOL, ev_callO, ev_ref, ev_mut, ev_callF, ev_callN, ev_back, ev_backX, ev_backN, ev_mk0, ev_mkv, ev_mkr, ev_wb0, ev_wbv, ev_wbr, ev_iter, ev_iterA, ev_comp, ev_for, ev_sl, ev_part0, ev_part1, ev_mpart, ev_asg, ev_par, ev_listOf, ev_binL, ev_gN, ev_gT, ev_gA0, ev_gA, ev_noIo0, ev_noIo, ev_wipe0, ev_wipe, ev_compL0, ev_compL, ev_forL0, ev_forL, at2_0, at2_1, ixN2_0, ixN2_1, fnSem, List.length_cons, List.length_nil, List.replicate, List.append_eq, List.cons_append, List.nil_append, List.getElem?_cons_zero, List.getElem?_cons_succ, List.set_cons_zero, List.set_cons_succ, List.take_succ_cons, List.take_zero, isIoAt, lstAt, setL, Nat.reduceAdd, Nat.reduceSub, Option.map_some, Option.bind_some, if_true, if_false, Bool.false_eq_true, ite_true, ite_false, reduceIte, Int.natCast_add, decide_eq_true_eq, decide_true, decide_false, Bool.not_true, Bool.not_false, Bool.not_eq_true, and_self, and_true, true_and, Nat.reduceLeDiff, Nat.reduceLT, Bool.and_true, Bool.true_and, Bool.and_false, Bool.false_and, ixD_t, at2_0, at2_1, k_w_w, h1]
    rfl
  | field k =>
    have hk := hr.items _ hi k rfl
    have hx : l[k]? = some l[k] := List.getElem?_eq_getElem (by omega)
    have h1 := appS acc l[k] (by omega)
    rw [enc_field]
    simp only [ev_seq, ev_seq_nx, ev_seq_rt, ev_seq_ex, ev_seq_bk, ev_seq_ct, ev_seq_st, ev_seq_ite, ev_next, ev_ifs, ev_ites, ev_ites_ex, ev_ret, ev_drop, ev_out, ev_out_ex, ev_outA, ev_c, ev_set, ev_own, ev_bind, ev_bind_ex, ev_bindA, ev_op, ev_un, ev_call, ev_ofO, ev_nil, ev_cons, ev_consok, ev_push, ev_tup, ev_lst, ev_not, ev_notb, ev_and, ev_or, ev_if, ev_ite, ev_chain, ev_var, ev_ixO, ev_setIx, ev_augIx, ev_opOL, ev_callO, ev_ref, ev_mut, ev_callF, ev_callN, ev_back, ev_backX, ev_backN, ev_mk0, ev_mkv, ev_mkr, ev_wb0, ev_wbv, ev_wbr, ev_iter, ev_iterA, ev_comp, ev_for, ev_sl, ev_part0, ev_part1, ev_mpart, ev_asg, ev_par, ev_listOf, ev_binL, ev_gN, ev_gT, ev_gA0, ev_gA, ev_noIo0, ev_noIo, ev_wipe0, ev_wipe, ev_compL0, ev_compL, ev_forL0, ev_forL, at2_0, at2_1, ixN2_0, ixN2_1, fnSem, List.length_cons, List.length_nil, List.replicate, List.append_eq, List.cons_append, List.nil_append, List.getElem?_cons_zero, List.getElem?_cons_succ, List.set_cons_zero, List.set_cons_succ, List.take_succ_cons, List.take_zero, isIoAt, lstAt, setL, Nat.reduceAdd, Nat.reduceSub, Option.map_some, Option.bind_some, if_true, if_false, Bool.false_eq_true, ite_true, ite_false, reduceIte, Int.natCast_add, decide_eq_true_eq, decide_true, decide_false, Bool.not_true, Bool.not_false, Bool.not_eq_true, and_self, and_true, true_and, Nat.reduceLeDiff, Nat.reduceLT, Bool.and_true, Bool.true_and, Bool.and_false, Bool.false_and, ixD_t, at2_0, at2_1, k_f_w, k_f_f, ix_tupS hx, h1]
    unfold itemM
    simp only [hx, Option.toList]
  | rest =>
    have hs : (nm.length : Int) - r.bk.length = ((nm.length - r.bk.length : Nat) : Int) := by omega
    have h1 := extS acc ((nm.take (nm.length - r.bk.length)).drop r.fr.length) (by rw [List.length_drop, List.length_take]; omega)
    rw [enc_rest]
    simp only [ev_seq, ev_seq_nx, ev_seq_rt, ev_seq_ex, ev_seq_bk, ev_seq_ct, ev_seq_st, ev_seq_ite, ev_next, ev_ifs, ev_ites, ev_ites_ex, ev_ret, ev_drop, ev_out, ev_out_ex, ev_outA, ev_c, ev_set, ev_own, ev_bind, ev_bind_ex, ev_bindA, ev_op, ev_un, ev_call, ev_ofO, ev_nil, ev_cons, ev_consok, ev_push, ev_tup, ev_lst, ev_not, ev_notb, ev_and, ev_or, ev_if, ev_ite, ev_chain, ev_var, ev_ixO, ev_setIx, ev_augIx, ev_opOL, ev_callO, ev_ref, ev_mut, ev_callF, ev_callN, ev_back, ev_backX, ev_backN, ev_mk0, ev_mkv, ev_mkr, ev_wb0, ev_wbv, ev_wbr, ev_iter, ev_iterA, ev_comp, ev_for, ev_sl, ev_part0, ev_part1, ev_mpart, ev_asg, ev_par, ev_listOf, ev_binL, ev_gN, ev_gT, ev_gA0, ev_gA, ev_noIo0, ev_noIo, ev_wipe0, ev_wipe, ev_compL0, ev_compL, ev_forL0, ev_forL, at2_0, at2_1, ixN2_0, ixN2_1, fnSem, List.length_cons, List.length_nil, List.replicate, List.append_eq, List.cons_append, List.nil_append, List.getElem?_cons_zero, List.getElem?_cons_succ, List.set_cons_zero, List.set_cons_succ, List.take_succ_cons, List.take_zero, isIoAt, lstAt, setL, Nat.reduceAdd, Nat.reduceSub, Option.map_some, Option.bind_some, if_true, if_false, Bool.false_eq_true, ite_true, ite_false, reduceIte, Int.natCast_add, decide_eq_true_eq, decide_true, decide_false, Bool.not_true, Bool.not_false, Bool.not_eq_true, and_self, and_true, true_and, Nat.reduceLeDiff, Nat.reduceLT, Bool.and_true, Bool.true_and, Bool.and_false, Bool.false_and, ixD_t, at1_0, k_r_w, k_r_f, tT_len, len_tupS, subD_i, hs, sl_midS, h1]
    rfl
theorem matched_len {r : Rul} {nm l : List Str} (h : matchedM r nm = some l) : l.length = r.fr.length + r.bk.length ∧ l.length ≤ nm.length := by
  unfold matchedM at h
  cases hl : lookedM r nm with
  | none => rw [hl] at h; cases h
  | some l' =>
    rw [hl, Option.bind_some] at h
    split at h
    · cases h
      have h1 := lookedM_len hl
      refine ⟨h1, ?_⟩
      rw [h1]
      unfold lookedM at hl
      split at hl
      · cases hl
      · rename_i c
        omega
    · cases h
theorem looked_le {r : Rul} {nm l : List Str} (h : lookedM r nm = some l) : l.length ≤ nm.length := by
  rw [lookedM_len h]
  unfold lookedM at h
  split at h
  · cases h
  · rename_i c
    omega
/-- what is built of a name that has the fields -/
def builtM (r : Rul) (nm l : List Str) : List Str := r.making.flatMap (itemM r nm l)
theorem built_ok (r : Rul) (hr : RFine r) (nm l : List Str) (hn : nm.length ≤ 1000) (hl : lookedM r nm = some l) : F_built [.val r.enc, .val (tupS nm)] = .ok (tupS (builtM r nm l)) [.val r.enc, .val (tupS nm)] := by
  have e0 := looked_ok r nm hn
  rw [hl] at e0
  simp only [encO] at e0
  have h1 := lookedM_len hl
  have h2 := looked_le hl
  have hmany := hr.many
  obtain ⟨ρ', e1, s8, hs8, rfl⟩ := forL_A (g := gN 8) (b := bodyMade) Itm.enc r.making (fun dn ρ => ∃ s, (s = .no ∨ ∃ d, s = .val d) ∧ ρ = mdS r nm l (dn.flatMap (itemM r nm l)) s) (ρ := mdS r nm l [] .no) ⟨.no, .inl rfl, rfl⟩ (by
      rintro dn i rs ρ hx ⟨s, hs, rfl⟩
      have hi : i ∈ r.making := by rw [hx]; simp
      have hlen : (dn.flatMap (itemM r nm l)).length ≤ dn.length * (nm.length + 1) := flat_len _ _ _ fun x _ => itemM_len r nm l x
      have hdn : dn.length < 8 := by
        have := congrArg List.length hx
        rw [List.length_append, List.length_cons] at this
        omega
      have hdm : dn.length * (nm.length + 1) ≤ 7 * (nm.length + 1) := Nat.mul_le_mul_right _ (by omega)
      refine ⟨mdS r nm l (dn.flatMap (itemM r nm l)) (.val i.enc), _, ?_, bodyMade_ok r hr nm l _ h1 h2 i hi (by omega), .val i.enc, .inr ⟨_, rfl⟩, ?_⟩
      · rcases hs with rfl | ⟨d, rfl⟩ <;> rfl
      · rw [List.flatMap_append]; simp)
  unfold F_built
  rw [m_built_eq]
  unfold mdS tIs at e1
  simp only [List.map_nil] at e1
  have e2 : gT [2, 3, 4, 5] r.enc [.val r.enc, .val (tupS nm), .no, .no, .no, .no, .no, .no, .no] = some [.val r.enc, .val (tupS nm), .val (tTs r.fr), .val (.bool r.op), .val (tTs r.bk), .val (.tuple (r.making.map Itm.enc)), .no, .no, .no] := rfl
  have e3 : ∀ ρ, mAsgG (gT [2, 3, 4, 5]) (mVar 0) (.val r.enc :: ρ) = (match gT [2, 3, 4, 5] r.enc (.val r.enc :: ρ) with | some ρ2 => .nx ρ2 | none => .stuck) := fun _ => rfl
  simp only [ev_seq, ev_seq_nx, ev_seq_rt, ev_seq_ex, ev_seq_bk, ev_seq_ct, ev_seq_st, ev_seq_ite, ev_next, ev_ifs, ev_ites, ev_ites_ex, ev_ret, ev_drop, ev_out, ev_out_ex, ev_outA, ev_c, ev_set, ev_own, ev_bind, ev_bind_ex, ev_bindA, ev_op, ev_un, ev_call, ev_ofO, ev_nil, ev_cons, ev_consok, ev_push, ev_tup, ev_lst, ev_not, ev_notb, ev_and, ev_or, ev_if, ev_ite, ev_chain, ev_var, ev_ixO, ev_setIx, ev_augIx, ev_opOL, ev_callO, ev_ref, ev_mut, ev_callF, ev_callN, ev_back, ev_backX, ev_backN, ev_mk0, ev_mkv, ev_mkr, ev_wb0, ev_wbv, ev_wbr, ev_iter, ev_iterA, ev_comp, ev_for, ev_sl, ev_part0, ev_part1, ev_mpart, ev_asg, ev_par, ev_listOf, ev_binL, ev_gN, ev_gT, ev_gA0, ev_gA, ev_noIo0, ev_noIo, ev_wipe0, ev_wipe, ev_compL0, ev_compL, ev_forL0, ev_forL, at2_0, at2_1, ixN2_0, ixN2_1, fnSem, List.length_cons, List.length_nil, List.replicate, List.append_eq, List.cons_append, List.nil_append, List.getElem?_cons_zero, List.getElem?_cons_succ, List.set_cons_zero, List.set_cons_succ, List.take_succ_cons, List.take_zero, isIoAt, lstAt, setL, Nat.reduceAdd, Nat.reduceSub, Option.map_some, Option.bind_some, if_true, if_false, Bool.false_eq_true, ite_true, ite_false, reduceIte, Int.natCast_add, decide_eq_true_eq, decide_true, decide_false, Bool.not_true, Bool.not_false, Bool.not_eq_true, and_self, and_true, true_and, Nat.reduceLeDiff, Nat.reduceLT, Bool.and_true, Bool.true_and, Bool.and_false, Bool.false_and, e0, seqD_t, e1, e2, e3, tupleD_l]
  rfl
theorem matched_looked {r : Rul} {nm l : List Str} (h : matchedM r nm = some l) : lookedM r nm = some l := by
  unfold matchedM at h
  cases hl : lookedM r nm with
  | none => rw [hl] at h; cases h
  | some l' =>
    rw [hl, Option.bind_some] at h
    split at h
    · exact h
    · cases h
theorem made_ok (r : Rul) (hr : RFine r) (nm : List Str) (hn : nm.length ≤ 1000) : F_made [.val r.enc, .val (tupS nm)] = .ok (encO (madeM r nm)) [.val r.enc, .val (tupS nm)] := by
  have e0 := fitting_ok r hr nm hn
  unfold madeM
  cases hm : matchedM r nm with
  | none =>
    rw [hm] at e0
    simp only [Option.isSome] at e0
    unfold F_made m_made
    simp only [ev_seq, ev_seq_nx, ev_seq_rt, ev_seq_ex, ev_seq_bk, ev_seq_ct, ev_seq_st, ev_seq_ite, ev_next, ev_ifs, ev_ites, ev_ites_ex, ev_ret, ev_drop, ev_out, ev_out_ex, ev_outA, ev_c, ev_set, ev_own, ev_bind, ev_bind_ex, ev_bindA, ev_op, ev_un, ev_call, ev_ofO, ev_nil, ev_cons, ev_consok, ev_push, ev_tup, ev_lst, ev_not, ev_notb, ev_and, ev_or, ev_if, ev_ite, ev_chain, ev_var, ev_ixO, ev_setIx, ev_augIx, ev_opOL, ev_callO, ev_ref, ev_mut, ev_callF, ev_callN, ev_back, ev_backX, ev_backN, ev_mk0, ev_mkv, ev_mkr, ev_wb0, ev_wbv, ev_wbr, ev_iter, ev_iterA, ev_comp, ev_for, ev_sl, ev_part0, ev_part1, ev_mpart, ev_asg, ev_par, ev_listOf, ev_binL, ev_gN, ev_gT, ev_gA0, ev_gA, ev_noIo0, ev_noIo, ev_wipe0, ev_wipe, ev_compL0, ev_compL, ev_forL0, ev_forL, at2_0, at2_1, ixN2_0, ixN2_1, fnSem, List.length_cons, List.length_nil, List.replicate, List.append_eq, List.cons_append, List.nil_append, List.getElem?_cons_zero, List.getElem?_cons_succ, List.set_cons_zero, List.set_cons_succ, List.take_succ_cons, List.take_zero, isIoAt, lstAt, setL, Nat.reduceAdd, Nat.reduceSub, Option.map_some, Option.bind_some, if_true, if_false, Bool.false_eq_true, ite_true, ite_false, reduceIte, Int.natCast_add, decide_eq_true_eq, decide_true, decide_false, Bool.not_true, Bool.not_false, Bool.not_eq_true, and_self, and_true, true_and, Nat.reduceLeDiff, Nat.reduceLT, Bool.and_true, Bool.true_and, Bool.and_false, Bool.false_and, e0]
    rfl
  | some l =>
    rw [hm] at e0
    simp only [Option.isSome] at e0
    have e1 := built_ok r hr nm l hn (matched_looked hm)
    unfold F_made m_made
    simp only [ev_seq, ev_seq_nx, ev_seq_rt, ev_seq_ex, ev_seq_bk, ev_seq_ct, ev_seq_st, ev_seq_ite, ev_next, ev_ifs, ev_ites, ev_ites_ex, ev_ret, ev_drop, ev_out, ev_out_ex, ev_outA, ev_c, ev_set, ev_own, ev_bind, ev_bind_ex, ev_bindA, ev_op, ev_un, ev_call, ev_ofO, ev_nil, ev_cons, ev_consok, ev_push, ev_tup, ev_lst, ev_not, ev_notb, ev_and, ev_or, ev_if, ev_ite, ev_chain, ev_var, ev_ixO, ev_setIx, ev_augIx, ev_opOL, ev_callO, ev_ref, ev_mut, ev_callF, ev_callN, ev_back, ev_backX, ev_backN, ev_mk0, ev_mkv, ev_mkr, ev_wb0, ev_wbv, ev_wbr, ev_iter, ev_iterA, ev_comp, ev_for, ev_sl, ev_part0, ev_part1, ev_mpart, ev_asg, ev_par, ev_listOf, ev_binL, ev_gN, ev_gT, ev_gA0, ev_gA, ev_noIo0, ev_noIo, ev_wipe0, ev_wipe, ev_compL0, ev_compL, ev_forL0, ev_forL, at2_0, at2_1, ixN2_0, ixN2_1, fnSem, List.length_cons, List.length_nil, List.replicate, List.append_eq, List.cons_append, List.nil_append, List.getElem?_cons_zero, List.getElem?_cons_succ, List.set_cons_zero, List.set_cons_succ, List.take_succ_cons, List.take_zero, isIoAt, lstAt, setL, Nat.reduceAdd, Nat.reduceSub, Option.map_some, Option.bind_some, if_true, if_false, Bool.false_eq_true, ite_true, ite_false, reduceIte, Int.natCast_add, decide_eq_true_eq, decide_true, decide_false, Bool.not_true, Bool.not_false, Bool.not_eq_true, and_self, and_true, true_and, Nat.reduceLeDiff, Nat.reduceLT, Bool.and_true, Bool.true_and, Bool.and_false, Bool.false_and, e0, e1]
    rfl
theorem asg_rule (is : List Nat) (r : Rul) (ρ : Ev) : gT is r.enc ρ = gAll is [tTs r.fr, .bool r.op, tTs r.bk, tIs r.making] ρ := rfl
end NS

set_option Elab.async false
set_option linter.all false
set_option autoImplicit false
set_option maxRecDepth 100000
set_option maxHeartbeats 4000000
namespace NS
open PySem PySem.Spec PyProof.Rows L2
def tRs (rs : List Rul) : Dt := .tuple (rs.map Rul.enc)
def encN : Option Nat → Dt
  | none => .none
  | some k => .int k
theorem find_zip (p : Rul → Bool) (rs : List Rul) : ∀ x, (rs.zipIdx.find? fun q => p q.1) = some x → rs[x.2]? = some x.1 := by
  intro x hx
  have := List.mem_of_find?_eq_some hx
  exact List.mem_zipIdx_iff_getElem?.mp this
theorem firstfit_ok (rs : List Rul) (hr : ∀ r ∈ rs, RFine r) (nm : List Str) (hn : nm.length ≤ 1000) : F_first_fitting [.val (tRs rs), .val (tupS nm)] = .ok (encN (firstM rs nm)) [.val (tRs rs), .val (tupS nm)] := by
  obtain ⟨ρ', e1, e2⟩ := forL_findA (g := gT [2, 3]) (b := (mIfS (mCallF F_is_fitting [none, none] (mCons (mVar 3) (mCons (mVar 1) mNil))) (mRet (mVar 2)) mNext)) (fun p : Rul × Nat => .tuple [.int p.2, p.1.enc]) rs.zipIdx (fun ρ => ∃ s t, (s = .no ∨ ∃ d, s = .val d) ∧ (t = .no ∨ ∃ d, t = .val d) ∧ ρ = [.val (tRs rs), .val (tupS nm), s, t]) (fun ρ => ρ.take 2 = [.val (tRs rs), .val (tupS nm)]) (fun p => (matchedM p.1 nm).isSome) (fun p => .int p.2) (ρ := [.val (tRs rs), .val (tupS nm), .no, .no]) ⟨.no, .no, .inl rfl, .inl rfl, rfl⟩ (by
    rintro ⟨r, k⟩ hx ρ ⟨s, t, hs, ht, rfl⟩
    have hm : r ∈ rs := List.mem_of_getElem? (List.mem_zipIdx_iff_getElem?.mp hx)
    have e0 := fitting_ok r (hr r hm) nm hn
    refine ⟨[.val (tRs rs), .val (tupS nm), .val (.int k), .val r.enc], [.val (tRs rs), .val (tupS nm), .val (.int k), .val r.enc], ?_, ?_⟩
    · rcases hs with rfl | ⟨d, rfl⟩ <;> rcases ht with rfl | ⟨d', rfl⟩ <;> rfl
    · cases hmm : matchedM r nm with
      | none =>
        rw [hmm] at e0
        simp only [Option.isSome] at e0
        refine .inl ⟨by simp only [hmm, Option.isSome], ?_, .val (.int k), .val r.enc, .inr ⟨_, rfl⟩, .inr ⟨_, rfl⟩, rfl⟩
        simp only [ev_seq, ev_seq_nx, ev_seq_rt, ev_seq_ex, ev_seq_bk, ev_seq_ct, ev_seq_st, ev_seq_ite, ev_next, ev_ifs, ev_ites, ev_ites_ex, ev_ret, ev_drop, ev_out, ev_out_ex, ev_outA, ev_c, ev_set, ev_own, ev_bind, ev_bind_ex, ev_bindA, ev_op, ev_un, ev_call, ev_ofO, ev_nil, ev_cons, ev_consok, ev_push, ev_tup, ev_lst, ev_not, ev_notb, ev_and, ev_or, ev_if, ev_ite, ev_chain, ev_var, ev_ixO, ev_setIx, ev_augIx, ev_opOL, ev_callO, ev_ref, ev_mut, ev_callF, ev_callN, ev_back, ev_backX, ev_backN, ev_mk0, ev_mkv, ev_mkr, ev_wb0, ev_wbv, ev_wbr, ev_iter, ev_iterA, ev_comp, ev_for, ev_sl, ev_part0, ev_part1, ev_mpart, ev_asg, ev_par, ev_listOf, ev_binL, ev_gN, ev_gT, ev_gA0, ev_gA, ev_noIo0, ev_noIo, ev_wipe0, ev_wipe, ev_compL0, ev_compL, ev_forL0, ev_forL, at2_0, at2_1, ixN2_0, ixN2_1, fnSem, List.length_cons, List.length_nil, List.replicate, List.append_eq, List.cons_append, List.nil_append, List.getElem?_cons_zero, List.getElem?_cons_succ, List.set_cons_zero, List.set_cons_succ, List.take_succ_cons, List.take_zero, isIoAt, lstAt, setL, Nat.reduceAdd, Nat.reduceSub, Option.map_some, Option.bind_some, if_true, if_false, Bool.false_eq_true, ite_true, ite_false, reduceIte, Int.natCast_add, decide_eq_true_eq, decide_true, decide_false, Bool.not_true, Bool.not_false, Bool.not_eq_true, and_self, and_true, true_and, Nat.reduceLeDiff, Nat.reduceLT, Bool.and_true, Bool.true_and, Bool.and_false, Bool.false_and, e0]
      | some l =>
        rw [hmm] at e0
        simp only [Option.isSome] at e0
        refine .inr ⟨by simp only [hmm, Option.isSome], ?_, rfl⟩
        simp only [ev_seq, ev_seq_nx, ev_seq_rt, ev_seq_ex, ev_seq_bk, ev_seq_ct, ev_seq_st, ev_seq_ite, ev_next, ev_ifs, ev_ites, ev_ites_ex, ev_ret, ev_drop, ev_out, ev_out_ex, ev_outA, ev_c, ev_set, ev_own, ev_bind, ev_bind_ex, ev_bindA, ev_op, ev_un, ev_call, ev_ofO, ev_nil, ev_cons, ev_consok, ev_push, ev_tup, ev_lst, ev_not, ev_notb, ev_and, ev_or, ev_if, ev_ite, ev_chain, ev_var, ev_ixO, ev_setIx, ev_augIx, ev_opOL, ev_callO, ev_ref, ev_mut, ev_callF, ev_callN, ev_back, ev_backX, ev_backN, ev_mk0, ev_mkv, ev_mkr, ev_wb0, ev_wbv, ev_wbr, ev_iter, ev_iterA, ev_comp, ev_for, ev_sl, ev_part0, ev_part1, ev_mpart, ev_asg, ev_par, ev_listOf, ev_binL, ev_gN, ev_gT, ev_gA0, ev_gA, ev_noIo0, ev_noIo, ev_wipe0, ev_wipe, ev_compL0, ev_compL, ev_forL0, ev_forL, at2_0, at2_1, ixN2_0, ixN2_1, fnSem, List.length_cons, List.length_nil, List.replicate, List.append_eq, List.cons_append, List.nil_append, List.getElem?_cons_zero, List.getElem?_cons_succ, List.set_cons_zero, List.set_cons_succ, List.take_succ_cons, List.take_zero, isIoAt, lstAt, setL, Nat.reduceAdd, Nat.reduceSub, Option.map_some, Option.bind_some, if_true, if_false, Bool.false_eq_true, ite_true, ite_false, reduceIte, Int.natCast_add, decide_eq_true_eq, decide_true, decide_false, Bool.not_true, Bool.not_false, Bool.not_eq_true, and_self, and_true, true_and, Nat.reduceLeDiff, Nat.reduceLT, Bool.and_true, Bool.true_and, Bool.and_false, Bool.false_and, e0])
  have e3 : enumD [tRs rs] = some (rs.zipIdx.map fun p : Rul × Nat => .tuple [.int p.2, p.1.enc]) := by
    show some (enumL _) = _
    rw [enumL_map]
  unfold F_first_fitting m_first_fitting firstM
  cases hf : rs.zipIdx.find? (fun p => (matchedM p.1 nm).isSome) with
  | none =>
    obtain ⟨e4, s, t, -, -, rfl⟩ := e1 hf
    simp only [ev_seq, ev_seq_nx, ev_seq_rt, ev_seq_ex, ev_seq_bk, ev_seq_ct, ev_seq_st, ev_seq_ite, ev_next, ev_ifs, ev_ites, ev_ites_ex, ev_ret, ev_drop, ev_out, ev_out_ex, ev_outA, ev_c, ev_set, ev_own, ev_bind, ev_bind_ex, ev_bindA, ev_op, ev_un, ev_call, ev_ofO, ev_nil, ev_cons, ev_consok, ev_push, ev_tup, ev_lst, ev_not, ev_notb, ev_and, ev_or, ev_if, ev_ite, ev_chain, ev_var, ev_ixO, ev_setIx, ev_augIx, ev_opOL, ev_callO, ev_ref, ev_mut, ev_callF, ev_callN, ev_back, ev_backX, ev_backN, ev_mk0, ev_mkv, ev_mkr, ev_wb0, ev_wbv, ev_wbr, ev_iter, ev_iterA, ev_comp, ev_for, ev_sl, ev_part0, ev_part1, ev_mpart, ev_asg, ev_par, ev_listOf, ev_binL, ev_gN, ev_gT, ev_gA0, ev_gA, ev_noIo0, ev_noIo, ev_wipe0, ev_wipe, ev_compL0, ev_compL, ev_forL0, ev_forL, at2_0, at2_1, ixN2_0, ixN2_1, fnSem, List.length_cons, List.length_nil, List.replicate, List.append_eq, List.cons_append, List.nil_append, List.getElem?_cons_zero, List.getElem?_cons_succ, List.set_cons_zero, List.set_cons_succ, List.take_succ_cons, List.take_zero, isIoAt, lstAt, setL, Nat.reduceAdd, Nat.reduceSub, Option.map_some, Option.bind_some, if_true, if_false, Bool.false_eq_true, ite_true, ite_false, reduceIte, Int.natCast_add, decide_eq_true_eq, decide_true, decide_false, Bool.not_true, Bool.not_false, Bool.not_eq_true, and_self, and_true, true_and, Nat.reduceLeDiff, Nat.reduceLT, Bool.and_true, Bool.true_and, Bool.and_false, Bool.false_and, e3, e4]
    rfl
  | some x =>
    obtain ⟨e4, e5⟩ := e2 x hf
    simp only [ev_seq, ev_seq_nx, ev_seq_rt, ev_seq_ex, ev_seq_bk, ev_seq_ct, ev_seq_st, ev_seq_ite, ev_next, ev_ifs, ev_ites, ev_ites_ex, ev_ret, ev_drop, ev_out, ev_out_ex, ev_outA, ev_c, ev_set, ev_own, ev_bind, ev_bind_ex, ev_bindA, ev_op, ev_un, ev_call, ev_ofO, ev_nil, ev_cons, ev_consok, ev_push, ev_tup, ev_lst, ev_not, ev_notb, ev_and, ev_or, ev_if, ev_ite, ev_chain, ev_var, ev_ixO, ev_setIx, ev_augIx, ev_opOL, ev_callO, ev_ref, ev_mut, ev_callF, ev_callN, ev_back, ev_backX, ev_backN, ev_mk0, ev_mkv, ev_mkr, ev_wb0, ev_wbv, ev_wbr, ev_iter, ev_iterA, ev_comp, ev_for, ev_sl, ev_part0, ev_part1, ev_mpart, ev_asg, ev_par, ev_listOf, ev_binL, ev_gN, ev_gT, ev_gA0, ev_gA, ev_noIo0, ev_noIo, ev_wipe0, ev_wipe, ev_compL0, ev_compL, ev_forL0, ev_forL, at2_0, at2_1, ixN2_0, ixN2_1, fnSem, List.length_cons, List.length_nil, List.replicate, List.append_eq, List.cons_append, List.nil_append, List.getElem?_cons_zero, List.getElem?_cons_succ, List.set_cons_zero, List.set_cons_succ, List.take_succ_cons, List.take_zero, isIoAt, lstAt, setL, Nat.reduceAdd, Nat.reduceSub, Option.map_some, Option.bind_some, if_true, if_false, Bool.false_eq_true, ite_true, ite_false, reduceIte, Int.natCast_add, decide_eq_true_eq, decide_true, decide_false, Bool.not_true, Bool.not_false, Bool.not_eq_true, and_self, and_true, true_and, Nat.reduceLeDiff, Nat.reduceLT, Bool.and_true, Bool.true_and, Bool.and_false, Bool.false_and, e3, e4, e5]
    rfl
theorem turn_ok (rs : List Rul) (hr : ∀ r ∈ rs, RFine r) (nm : List Str) (hn : nm.length ≤ 1000) : F_turn [.val (tRs rs), .val (tupS nm)] = .ok (tupS (turnM rs nm)) [.val (tRs rs), .val (tupS nm)] := by
  have e0 := firstfit_ok rs hr nm hn
  unfold F_turn m_turn turnM
  unfold firstM at e0 ⊢
  cases hf : rs.zipIdx.find? (fun p => (matchedM p.1 nm).isSome) with
  | none =>
    rw [hf] at e0
    simp only [Option.map_none, encN] at e0
    simp only [ev_seq, ev_seq_nx, ev_seq_rt, ev_seq_ex, ev_seq_bk, ev_seq_ct, ev_seq_st, ev_seq_ite, ev_next, ev_ifs, ev_ites, ev_ites_ex, ev_ret, ev_drop, ev_out, ev_out_ex, ev_outA, ev_c, ev_set, ev_own, ev_bind, ev_bind_ex, ev_bindA, ev_op, ev_un, ev_call, ev_ofO, ev_nil, ev_cons, ev_consok, ev_push, ev_tup, ev_lst, ev_not, ev_notb, ev_and, ev_or, ev_if, ev_ite, ev_chain, ev_var, ev_ixO, ev_setIx, ev_augIx, ev_opOL, ev_callO, ev_ref, ev_mut, ev_callF, ev_callN, ev_back, ev_backX, ev_backN, ev_mk0, ev_mkv, ev_mkr, ev_wb0, ev_wbv, ev_wbr, ev_iter, ev_iterA, ev_comp, ev_for, ev_sl, ev_part0, ev_part1, ev_mpart, ev_asg, ev_par, ev_listOf, ev_binL, ev_gN, ev_gT, ev_gA0, ev_gA, ev_noIo0, ev_noIo, ev_wipe0, ev_wipe, ev_compL0, ev_compL, ev_forL0, ev_forL, at2_0, at2_1, ixN2_0, ixN2_1, fnSem, List.length_cons, List.length_nil, List.replicate, List.append_eq, List.cons_append, List.nil_append, List.getElem?_cons_zero, List.getElem?_cons_succ, List.set_cons_zero, List.set_cons_succ, List.take_succ_cons, List.take_zero, isIoAt, lstAt, setL, Nat.reduceAdd, Nat.reduceSub, Option.map_some, Option.bind_some, if_true, if_false, Bool.false_eq_true, ite_true, ite_false, reduceIte, Int.natCast_add, decide_eq_true_eq, decide_true, decide_false, Bool.not_true, Bool.not_false, Bool.not_eq_true, and_self, and_true, true_and, Nat.reduceLeDiff, Nat.reduceLT, Bool.and_true, Bool.true_and, Bool.and_false, Bool.false_and, e0, isN_none, Option.map_none]
  | some x =>
    rw [hf] at e0
    simp only [Option.map_some, encN] at e0
    have hx := List.mem_zipIdx_iff_getElem?.mp (List.mem_of_find?_eq_some hf)
    have hs := List.find?_some hf
    have hix : ixD (tRs rs) (.int x.2) = some x.1.enc := ix_map hx
    have hin : isN1 (.int x.2) .none = some (.bool false) := rfl
    simp only [Option.map_some, hx]
    unfold madeM
    cases hm : matchedM x.1 nm with
    | none =>
      simp only [hm] at hs
      cases hs
    | some l =>
      have e1 := built_ok x.1 (hr x.1 (List.mem_of_getElem? hx)) nm l hn (matched_looked hm)
      simp only [ev_seq, ev_seq_nx, ev_seq_rt, ev_seq_ex, ev_seq_bk, ev_seq_ct, ev_seq_st, ev_seq_ite, ev_next, ev_ifs, ev_ites, ev_ites_ex, ev_ret, ev_drop, ev_out, ev_out_ex, ev_outA, ev_c, ev_set, ev_own, ev_bind, ev_bind_ex, ev_bindA, ev_op, ev_un, ev_call, ev_ofO, ev_nil, ev_cons, ev_consok, ev_push, ev_tup, ev_lst, ev_not, ev_notb, ev_and, ev_or, ev_if, ev_ite, ev_chain, ev_var, ev_ixO, ev_setIx, ev_augIx, ev_opOL, ev_callO, ev_ref, ev_mut, ev_callF, ev_callN, ev_back, ev_backX, ev_backN, ev_mk0, ev_mkv, ev_mkr, ev_wb0, ev_wbv, ev_wbr, ev_iter, ev_iterA, ev_comp, ev_for, ev_sl, ev_part0, ev_part1, ev_mpart, ev_asg, ev_par, ev_listOf, ev_binL, ev_gN, ev_gT, ev_gA0, ev_gA, ev_noIo0, ev_noIo, ev_wipe0, ev_wipe, ev_compL0, ev_compL, ev_forL0, ev_forL, at2_0, at2_1, ixN2_0, ixN2_1, fnSem, List.length_cons, List.length_nil, List.replicate, List.append_eq, List.cons_append, List.nil_append, List.getElem?_cons_zero, List.getElem?_cons_succ, List.set_cons_zero, List.set_cons_succ, List.take_succ_cons, List.take_zero, isIoAt, lstAt, setL, Nat.reduceAdd, Nat.reduceSub, Option.map_some, Option.bind_some, if_true, if_false, Bool.false_eq_true, ite_true, ite_false, reduceIte, Int.natCast_add, decide_eq_true_eq, decide_true, decide_false, Bool.not_true, Bool.not_false, Bool.not_eq_true, and_self, and_true, true_and, Nat.reduceLeDiff, Nat.reduceLT, Bool.and_true, Bool.true_and, Bool.and_false, Bool.false_and, e0, hin, hix, e1]
      simp only [Option.map_some, Option.getD_some]
      rfl
end NS

set_option Elab.async false
set_option linter.all false
set_option autoImplicit false
set_option maxRecDepth 100000
set_option maxHeartbeats 4000000
namespace NS
open PySem PySem.Spec PyProof.Rows L2
def badT (l : List Str) (p : Tst × Nat) : Bool := match l[p.2]? with
  | some f => !p.1.pass l f
  | none => true
theorem zip_all (L : List Str) : ∀ (ts : List Tst) (l : List Str) (k : Nat), (∀ i : Nat, l[i]? = L[k + i]?) → ts.length = l.length → ((ts.zip l).all (fun p => p.1.pass L p.2) = true ↔ (ts.zipIdx k).find? (badT L) = none)
  | [], l, k, _, _ => by simp
  | t :: ts, [], k, _, h => by simp at h
  | t :: ts, f :: l, k, hL, h => by
    have ih := zip_all L ts l (k + 1) (fun i => by
      have := hL (i + 1)
      rw [List.getElem?_cons_succ] at this
      rw [this]
      congr 1
      omega) (by simpa using h)
    have h0 := hL 0
    rw [List.getElem?_cons_zero, Nat.add_zero] at h0
    have hb : badT L (t, k) = !t.pass L f := by unfold badT; rw [← h0]
    rw [List.zip_cons_cons, List.all_cons, List.zipIdx_cons]
    cases hp : t.pass L f with
    | false =>
      rw [hp] at hb
      rw [List.find?_cons_of_pos hb]
      simp
    | true =>
      rw [hp] at hb
      rw [List.find?_cons_of_neg (by rw [hb]; exact Bool.false_ne_true), Bool.true_and]
      exact ih
def bodyChk : Ev → Out := (mSeq (mIfS (mOr (mAnd (mOp eqD (mOp ixD (mVar 10) (mC (.int 0))) (mC (.str "is"))) (mOp neD (mOp ixD (mVar 8) (mVar 9)) (mOp ixD (mVar 10) (mC (.int 1))))) (mAnd (mOp eqD (mOp ixD (mVar 10) (mC (.int 0))) (mC (.str "none"))) (mOp inD (mOp ixD (mVar 8) (mVar 9)) (mOp ixD (mVar 10) (mC (.int 1)))))) (mRet (mC .none)) mNext)
  (mIfS (mAnd (mOp eqD (mOp ixD (mVar 10) (mC (.int 0))) (mC (.str "like"))) (mOp neD (mOp ixD (mVar 8) (mVar 9)) (mOp ixD (mVar 8) (mOp ixD (mVar 10) (mC (.int 1)))))) (mRet (mC .none)) mNext))
def bodyGet : Ev → Out := (mIfS (mOp eqD (mOp ixD (mVar 12) (mC (.int 0))) (mC (.str "rest"))) (mMut 11 extendF (mCons (mLst (mListOf (mSl (mVar 1) (mPart (mVar 6)) (mPart (mOp subD (mCall lenTD (mCons (mVar 1) mNil)) (mVar 7)))))) mNil)) (mMut 11 appendF (mCons (mIf (mOp eqD (mOp ixD (mVar 12) (mC (.int 0))) (mC (.str "word"))) (mOp ixD (mVar 12) (mC (.int 1))) (mOp ixD (mVar 8) (mOp ixD (mVar 12) (mC (.int 1))))) mNil)))
theorem m_lmade_eq : m_law_made = (mSeq (mAsgG (gT [2, 3, 4, 5]) (mVar 0))
  (mSeq (mPar 6 7 (mCons (mCall lenTD (mCons (mVar 2) mNil)) (mCons (mCall lenTD (mCons (mVar 4) mNil)) mNil)))
  (mSeq (mIfS (mOr (mOp ltD (mCall lenTD (mCons (mVar 1) mNil)) (mOp addD (mVar 6) (mVar 7))) (mAnd (mNot (mVar 3)) (mOp neD (mCall lenTD (mCons (mVar 1) mNil)) (mVar 6)))) (mRet (mC .none)) mNext)
  (mSeq (mSet 8 (mLst (mCatL (mListOf (mSl (mVar 1) (mC .none) (mPart (mVar 6)))) (mListOf (mSl (mVar 1) (mPart (mOp subD (mCall lenTD (mCons (mVar 1) mNil)) (mVar 7))) (mC .none))))))
  (mSeq (mFor (mIterA enumD (mCons (mOp addD (mVar 2) (mVar 4)) mNil)) (gT [9, 10]) bodyChk)
  (mSeq (mOwn 11 mNil)
  (mSeq (mFor (mIter seqD (mVar 5)) (gN 12) bodyGet)
  (mRet (mCall tupleD (mCons (mVar 11) mNil)))))))))) := rfl
def cS (r : Rul) (nm l : List Str) (s9 s10 : Sl) : Ev := [.val r.enc, .val (tupS nm), .val (tTs r.fr), .val (.bool r.op), .val (tTs r.bk), .val (tIs r.making), .val (.int r.fr.length), .val (.int r.bk.length), .val (.list (l.map PyData.str)), s9, s10, .no, .no]
def gS (r : Rul) (nm l acc : List Str) (s9 s10 s12 : Sl) : Ev := [.val r.enc, .val (tupS nm), .val (tTs r.fr), .val (.bool r.op), .val (tTs r.bk), .val (tIs r.making), .val (.int r.fr.length), .val (.int r.bk.length), .val (.list (l.map PyData.str)), s9, s10, .own (acc.map PyData.str), s12]
theorem chk_ok (r : Rul) (nm l : List Str) (t : Tst) (i : Nat) (f : Str) (hf : l[i]? = some f) (ht : t.fine l.length = true) : bodyChk (cS r nm l (.val (.int i)) (.val t.enc)) = if badT l (t, i) = true then .rt .none (cS r nm l (.val (.int i)) (.val t.enc)) else .nx (cS r nm l (.val (.int i)) (.val t.enc)) := by
  have hb : badT l (t, i) = !t.pass l f := by unfold badT; simp only [hf]
  rw [hb]
  unfold bodyChk cS
  cases t with
  | is w =>
    rw [enc_is]
    by_cases h : f = w
    · have h2 : Tst.pass l f (.is w) = true := decide_eq_true h
      have h3 : neD (.str f) (.str w) = some (.bool false) := by rw [neD_str]; simp [h]
      rw [h2]
      simp only [ev_seq, ev_seq_nx, ev_seq_rt, ev_seq_ex, ev_seq_bk, ev_seq_ct, ev_seq_st, ev_seq_ite, ev_next, ev_ifs, ev_ites, ev_ites_ex, ev_ret, ev_drop, ev_out, ev_out_ex, ev_outA, ev_c, ev_set, ev_own, ev_bind, ev_bind_ex, ev_bindA, ev_op, ev_un, ev_call, ev_ofO, ev_nil, ev_cons, ev_consok, ev_push, ev_tup, ev_lst, ev_not, ev_notb, ev_and, ev_or, ev_if, ev_ite, ev_chain, ev_var, ev_ixO, ev_setIx, ev_augIx, ev_opOL, ev_callO, ev_ref, ev_mut, ev_callF, ev_callN, ev_back, ev_backX, ev_backN, ev_mk0, ev_mkv, ev_mkr, ev_wb0, ev_wbv, ev_wbr, ev_iter, ev_iterA, ev_comp, ev_for, ev_sl, ev_part0, ev_part1, ev_mpart, ev_asg, ev_par, ev_listOf, ev_binL, ev_gN, ev_gT, ev_gA0, ev_gA, ev_noIo0, ev_noIo, ev_wipe0, ev_wipe, ev_compL0, ev_compL, ev_forL0, ev_forL, at2_0, at2_1, ixN2_0, ixN2_1, fnSem, List.length_cons, List.length_nil, List.replicate, List.append_eq, List.cons_append, List.nil_append, List.getElem?_cons_zero, List.getElem?_cons_succ, List.set_cons_zero, List.set_cons_succ, List.take_succ_cons, List.take_zero, isIoAt, lstAt, setL, Nat.reduceAdd, Nat.reduceSub, Option.map_some, Option.bind_some, if_true, if_false, Bool.false_eq_true, ite_true, ite_false, reduceIte, Int.natCast_add, decide_eq_true_eq, decide_true, decide_false, Bool.not_true, Bool.not_false, Bool.not_eq_true, and_self, and_true, true_and, Nat.reduceLeDiff, Nat.reduceLT, Bool.and_true, Bool.true_and, Bool.and_false, Bool.false_and, ixD_t, at2_0, at2_1, k_is_is, k_is_non, k_is_lk, ix_lstS hf, h3]
    · have h2 : Tst.pass l f (.is w) = false := decide_eq_false h
      rw [h2]
      simp only [ev_seq, ev_seq_nx, ev_seq_rt, ev_seq_ex, ev_seq_bk, ev_seq_ct, ev_seq_st, ev_seq_ite, ev_next, ev_ifs, ev_ites, ev_ites_ex, ev_ret, ev_drop, ev_out, ev_out_ex, ev_outA, ev_c, ev_set, ev_own, ev_bind, ev_bind_ex, ev_bindA, ev_op, ev_un, ev_call, ev_ofO, ev_nil, ev_cons, ev_consok, ev_push, ev_tup, ev_lst, ev_not, ev_notb, ev_and, ev_or, ev_if, ev_ite, ev_chain, ev_var, ev_ixO, ev_setIx, ev_augIx, ev_opOL, ev_callO, ev_ref, ev_mut, ev_callF, ev_callN, ev_back, ev_backX, ev_backN, ev_mk0, ev_mkv, ev_mkr, ev_wb0, ev_wbv, ev_wbr, ev_iter, ev_iterA, ev_comp, ev_for, ev_sl, ev_part0, ev_part1, ev_mpart, ev_asg, ev_par, ev_listOf, ev_binL, ev_gN, ev_gT, ev_gA0, ev_gA, ev_noIo0, ev_noIo, ev_wipe0, ev_wipe, ev_compL0, ev_compL, ev_forL0, ev_forL, at2_0, at2_1, ixN2_0, ixN2_1, fnSem, List.length_cons, List.length_nil, List.replicate, List.append_eq, List.cons_append, List.nil_append, List.getElem?_cons_zero, List.getElem?_cons_succ, List.set_cons_zero, List.set_cons_succ, List.take_succ_cons, List.take_zero, isIoAt, lstAt, setL, Nat.reduceAdd, Nat.reduceSub, Option.map_some, Option.bind_some, if_true, if_false, Bool.false_eq_true, ite_true, ite_false, reduceIte, Int.natCast_add, decide_eq_true_eq, decide_true, decide_false, Bool.not_true, Bool.not_false, Bool.not_eq_true, and_self, and_true, true_and, Nat.reduceLeDiff, Nat.reduceLT, Bool.and_true, Bool.true_and, Bool.and_false, Bool.false_and, ixD_t, at2_0, at2_1, k_is_is, k_is_non, k_is_lk, ix_lstS hf, neD_str f w, h]
  | any =>
    have h2 : Tst.pass l f .any = true := rfl
    rw [enc_any, h2]
    simp only [ev_seq, ev_seq_nx, ev_seq_rt, ev_seq_ex, ev_seq_bk, ev_seq_ct, ev_seq_st, ev_seq_ite, ev_next, ev_ifs, ev_ites, ev_ites_ex, ev_ret, ev_drop, ev_out, ev_out_ex, ev_outA, ev_c, ev_set, ev_own, ev_bind, ev_bind_ex, ev_bindA, ev_op, ev_un, ev_call, ev_ofO, ev_nil, ev_cons, ev_consok, ev_push, ev_tup, ev_lst, ev_not, ev_notb, ev_and, ev_or, ev_if, ev_ite, ev_chain, ev_var, ev_ixO, ev_setIx, ev_augIx, ev_opOL, ev_callO, ev_ref, ev_mut, ev_callF, ev_callN, ev_back, ev_backX, ev_backN, ev_mk0, ev_mkv, ev_mkr, ev_wb0, ev_wbv, ev_wbr, ev_iter, ev_iterA, ev_comp, ev_for, ev_sl, ev_part0, ev_part1, ev_mpart, ev_asg, ev_par, ev_listOf, ev_binL, ev_gN, ev_gT, ev_gA0, ev_gA, ev_noIo0, ev_noIo, ev_wipe0, ev_wipe, ev_compL0, ev_compL, ev_forL0, ev_forL, at2_0, at2_1, ixN2_0, ixN2_1, fnSem, List.length_cons, List.length_nil, List.replicate, List.append_eq, List.cons_append, List.nil_append, List.getElem?_cons_zero, List.getElem?_cons_succ, List.set_cons_zero, List.set_cons_succ, List.take_succ_cons, List.take_zero, isIoAt, lstAt, setL, Nat.reduceAdd, Nat.reduceSub, Option.map_some, Option.bind_some, if_true, if_false, Bool.false_eq_true, ite_true, ite_false, reduceIte, Int.natCast_add, decide_eq_true_eq, decide_true, decide_false, Bool.not_true, Bool.not_false, Bool.not_eq_true, and_self, and_true, true_and, Nat.reduceLeDiff, Nat.reduceLT, Bool.and_true, Bool.true_and, Bool.and_false, Bool.false_and, ixD_t, at1_0, k_any_is, k_any_non, k_any_lk]
  | non ws =>
    rw [enc_non]
    by_cases h : f ∈ ws
    · have h2 : Tst.pass l f (.non ws) = false := by show (!decide (f ∈ ws)) = false; simp [h]
      rw [h2]
      simp only [ev_seq, ev_seq_nx, ev_seq_rt, ev_seq_ex, ev_seq_bk, ev_seq_ct, ev_seq_st, ev_seq_ite, ev_next, ev_ifs, ev_ites, ev_ites_ex, ev_ret, ev_drop, ev_out, ev_out_ex, ev_outA, ev_c, ev_set, ev_own, ev_bind, ev_bind_ex, ev_bindA, ev_op, ev_un, ev_call, ev_ofO, ev_nil, ev_cons, ev_consok, ev_push, ev_tup, ev_lst, ev_not, ev_notb, ev_and, ev_or, ev_if, ev_ite, ev_chain, ev_var, ev_ixO, ev_setIx, ev_augIx, ev_opOL, ev_callO, ev_ref, ev_mut, ev_callF, ev_callN, ev_back, ev_backX, ev_backN, ev_mk0, ev_mkv, ev_mkr, ev_wb0, ev_wbv, ev_wbr, ev_iter, ev_iterA, ev_comp, ev_for, ev_sl, ev_part0, ev_part1, ev_mpart, ev_asg, ev_par, ev_listOf, ev_binL, ev_gN, ev_gT, ev_gA0, ev_gA, ev_noIo0, ev_noIo, ev_wipe0, ev_wipe, ev_compL0, ev_compL, ev_forL0, ev_forL, at2_0, at2_1, ixN2_0, ixN2_1, fnSem, List.length_cons, List.length_nil, List.replicate, List.append_eq, List.cons_append, List.nil_append, List.getElem?_cons_zero, List.getElem?_cons_succ, List.set_cons_zero, List.set_cons_succ, List.take_succ_cons, List.take_zero, isIoAt, lstAt, setL, Nat.reduceAdd, Nat.reduceSub, Option.map_some, Option.bind_some, if_true, if_false, Bool.false_eq_true, ite_true, ite_false, reduceIte, Int.natCast_add, decide_eq_true_eq, decide_true, decide_false, Bool.not_true, Bool.not_false, Bool.not_eq_true, and_self, and_true, true_and, Nat.reduceLeDiff, Nat.reduceLT, Bool.and_true, Bool.true_and, Bool.and_false, Bool.false_and, ixD_t, at2_0, at2_1, k_non_is, k_non_non, k_non_lk, ix_lstS hf, in_tupS f ws, h]
    · have h2 : Tst.pass l f (.non ws) = true := by show (!decide (f ∈ ws)) = true; simp [h]
      rw [h2]
      simp only [ev_seq, ev_seq_nx, ev_seq_rt, ev_seq_ex, ev_seq_bk, ev_seq_ct, ev_seq_st, ev_seq_ite, ev_next, ev_ifs, ev_ites, ev_ites_ex, ev_ret, ev_drop, ev_out, ev_out_ex, ev_outA, ev_c, ev_set, ev_own, ev_bind, ev_bind_ex, ev_bindA, ev_op, ev_un, ev_call, ev_ofO, ev_nil, ev_cons, ev_consok, ev_push, ev_tup, ev_lst, ev_not, ev_notb, ev_and, ev_or, ev_if, ev_ite, ev_chain, ev_var, ev_ixO, ev_setIx, ev_augIx, ev_opOL, ev_callO, ev_ref, ev_mut, ev_callF, ev_callN, ev_back, ev_backX, ev_backN, ev_mk0, ev_mkv, ev_mkr, ev_wb0, ev_wbv, ev_wbr, ev_iter, ev_iterA, ev_comp, ev_for, ev_sl, ev_part0, ev_part1, ev_mpart, ev_asg, ev_par, ev_listOf, ev_binL, ev_gN, ev_gT, ev_gA0, ev_gA, ev_noIo0, ev_noIo, ev_wipe0, ev_wipe, ev_compL0, ev_compL, ev_forL0, ev_forL, at2_0, at2_1, ixN2_0, ixN2_1, fnSem, List.length_cons, List.length_nil, List.replicate, List.append_eq, List.cons_append, List.nil_append, List.getElem?_cons_zero, List.getElem?_cons_succ, List.set_cons_zero, List.set_cons_succ, List.take_succ_cons, List.take_zero, isIoAt, lstAt, setL, Nat.reduceAdd, Nat.reduceSub, Option.map_some, Option.bind_some, if_true, if_false, Bool.false_eq_true, ite_true, ite_false, reduceIte, Int.natCast_add, decide_eq_true_eq, decide_true, decide_false, Bool.not_true, Bool.not_false, Bool.not_eq_true, and_self, and_true, true_and, Nat.reduceLeDiff, Nat.reduceLT, Bool.and_true, Bool.true_and, Bool.and_false, Bool.false_and, ixD_t, at2_0, at2_1, k_non_is, k_non_non, k_non_lk, ix_lstS hf, in_tupS f ws, h]
  | like k =>
    have hk : k < l.length := of_decide_eq_true ht
    have hx : l[k]? = some l[k] := List.getElem?_eq_getElem hk
    rw [enc_like]
    by_cases h : f = l[k]
    · have h2 : Tst.pass l f (.like k) = true := by show decide (some f = l[k]?) = true; rw [hx, h]; simp
      have h3 : neD (.str f) (.str l[k]) = some (.bool false) := by rw [neD_str]; simp [h]
      rw [h2]
      simp only [ev_seq, ev_seq_nx, ev_seq_rt, ev_seq_ex, ev_seq_bk, ev_seq_ct, ev_seq_st, ev_seq_ite, ev_next, ev_ifs, ev_ites, ev_ites_ex, ev_ret, ev_drop, ev_out, ev_out_ex, ev_outA, ev_c, ev_set, ev_own, ev_bind, ev_bind_ex, ev_bindA, ev_op, ev_un, ev_call, ev_ofO, ev_nil, ev_cons, ev_consok, ev_push, ev_tup, ev_lst, ev_not, ev_notb, ev_and, ev_or, ev_if, ev_ite, ev_chain, ev_var, ev_ixO, ev_setIx, ev_augIx, ev_opOL, ev_callO, ev_ref, ev_mut, ev_callF, ev_callN, ev_back, ev_backX, ev_backN, ev_mk0, ev_mkv, ev_mkr, ev_wb0, ev_wbv, ev_wbr, ev_iter, ev_iterA, ev_comp, ev_for, ev_sl, ev_part0, ev_part1, ev_mpart, ev_asg, ev_par, ev_listOf, ev_binL, ev_gN, ev_gT, ev_gA0, ev_gA, ev_noIo0, ev_noIo, ev_wipe0, ev_wipe, ev_compL0, ev_compL, ev_forL0, ev_forL, at2_0, at2_1, ixN2_0, ixN2_1, fnSem, List.length_cons, List.length_nil, List.replicate, List.append_eq, List.cons_append, List.nil_append, List.getElem?_cons_zero, List.getElem?_cons_succ, List.set_cons_zero, List.set_cons_succ, List.take_succ_cons, List.take_zero, isIoAt, lstAt, setL, Nat.reduceAdd, Nat.reduceSub, Option.map_some, Option.bind_some, if_true, if_false, Bool.false_eq_true, ite_true, ite_false, reduceIte, Int.natCast_add, decide_eq_true_eq, decide_true, decide_false, Bool.not_true, Bool.not_false, Bool.not_eq_true, and_self, and_true, true_and, Nat.reduceLeDiff, Nat.reduceLT, Bool.and_true, Bool.true_and, Bool.and_false, Bool.false_and, ixD_t, at2_0, at2_1, k_lk_is, k_lk_non, k_lk_lk, ix_lstS hf, ix_lstS hx, h3]
    · have h2 : Tst.pass l f (.like k) = false := by show decide (some f = l[k]?) = false; rw [hx]; simp [h]
      rw [h2]
      simp only [ev_seq, ev_seq_nx, ev_seq_rt, ev_seq_ex, ev_seq_bk, ev_seq_ct, ev_seq_st, ev_seq_ite, ev_next, ev_ifs, ev_ites, ev_ites_ex, ev_ret, ev_drop, ev_out, ev_out_ex, ev_outA, ev_c, ev_set, ev_own, ev_bind, ev_bind_ex, ev_bindA, ev_op, ev_un, ev_call, ev_ofO, ev_nil, ev_cons, ev_consok, ev_push, ev_tup, ev_lst, ev_not, ev_notb, ev_and, ev_or, ev_if, ev_ite, ev_chain, ev_var, ev_ixO, ev_setIx, ev_augIx, ev_opOL, ev_callO, ev_ref, ev_mut, ev_callF, ev_callN, ev_back, ev_backX, ev_backN, ev_mk0, ev_mkv, ev_mkr, ev_wb0, ev_wbv, ev_wbr, ev_iter, ev_iterA, ev_comp, ev_for, ev_sl, ev_part0, ev_part1, ev_mpart, ev_asg, ev_par, ev_listOf, ev_binL, ev_gN, ev_gT, ev_gA0, ev_gA, ev_noIo0, ev_noIo, ev_wipe0, ev_wipe, ev_compL0, ev_compL, ev_forL0, ev_forL, at2_0, at2_1, ixN2_0, ixN2_1, fnSem, List.length_cons, List.length_nil, List.replicate, List.append_eq, List.cons_append, List.nil_append, List.getElem?_cons_zero, List.getElem?_cons_succ, List.set_cons_zero, List.set_cons_succ, List.take_succ_cons, List.take_zero, isIoAt, lstAt, setL, Nat.reduceAdd, Nat.reduceSub, Option.map_some, Option.bind_some, if_true, if_false, Bool.false_eq_true, ite_true, ite_false, reduceIte, Int.natCast_add, decide_eq_true_eq, decide_true, decide_false, Bool.not_true, Bool.not_false, Bool.not_eq_true, and_self, and_true, true_and, Nat.reduceLeDiff, Nat.reduceLT, Bool.and_true, Bool.true_and, Bool.and_false, Bool.false_and, ixD_t, at2_0, at2_1, k_lk_is, k_lk_non, k_lk_lk, ix_lstS hf, ix_lstS hx, neD_str f l[k], h]
theorem itemsD_S (xs : List Str) : itemsD (tupS xs) = some (xs.map PyData.str) := rfl
theorem get_ok (r : Rul) (hr : RFine r) (nm l acc : List Str) (hl : l.length = r.fr.length + r.bk.length) (hn : l.length ≤ nm.length) (i : Itm) (hi : i ∈ r.making) (hb : acc.length + nm.length + 1 < 10000) (s9 s10 : Sl) : bodyGet (gS r nm l acc s9 s10 (.val i.enc)) = .nx (gS r nm l (acc ++ itemM r nm l i) s9 s10 (.val i.enc)) := by
  unfold bodyGet gS
  cases i with
  | word w =>
    have h1 := appS acc w (by omega)
    rw [enc_word]
    simp only [ev_seq, ev_seq_nx, ev_seq_rt, ev_seq_ex, ev_seq_bk, ev_seq_ct, ev_seq_st, ev_seq_ite, ev_next, ev_ifs, ev_ites, ev_ites_ex, ev_ret, ev_drop, ev_out, ev_out_ex, ev_outA, ev_c, ev_set, ev_own, ev_bind, ev_bind_ex, ev_bindA, ev_op, ev_un, ev_call, ev_ofO, ev_nil, ev_cons, ev_consok, ev_push, ev_tup, ev_lst, ev_not, ev_notb, ev_and, ev_or, ev_if, ev_ite, ev_chain, ev_var, ev_ixO, ev_setIx, ev_augIx, ev_opOL, ev_callO, ev_ref, ev_mut, ev_callF, ev_callN, ev_back, ev_backX, ev_backN, ev_mk0, ev_mkv, ev_mkr, ev_wb0, ev_wbv, ev_wbr, ev_iter, ev_iterA, ev_comp, ev_for, ev_sl, ev_part0, ev_part1, ev_mpart, ev_asg, ev_par, ev_listOf, ev_binL, ev_gN, ev_gT, ev_gA0, ev_gA, ev_noIo0, ev_noIo, ev_wipe0, ev_wipe, ev_compL0, ev_compL, ev_forL0, ev_forL, at2_0, at2_1, ixN2_0, ixN2_1, fnSem, List.length_cons, List.length_nil, List.replicate, List.append_eq, List.cons_append, List.nil_append, List.getElem?_cons_zero, List.getElem?_cons_succ, List.set_cons_zero, List.set_cons_succ, List.take_succ_cons, List.take_zero, isIoAt, lstAt, setL, Nat.reduceAdd, Nat.reduceSub, Option.map_some, Option.bind_some, if_true, if_false, Bool.false_eq_true, ite_true, ite_false, reduceIte, Int.natCast_add, decide_eq_true_eq, decide_true, decide_false, Bool.not_true, Bool.not_false, Bool.not_eq_true, and_self, and_true, true_and, Nat.reduceLeDiff, Nat.reduceLT, Bool.and_true, Bool.true_and, Bool.and_false, Bool.false_and, ixD_t, at2_0, at2_1, k_w_w, k_w_r, h1]
    rfl
  | field k =>
    have hk := hr.items _ hi k rfl
    have hx : l[k]? = some l[k] := List.getElem?_eq_getElem (by omega)
    have h1 := appS acc l[k] (by omega)
    rw [enc_field]
    simp only [ev_seq, ev_seq_nx, ev_seq_rt, ev_seq_ex, ev_seq_bk, ev_seq_ct, ev_seq_st, ev_seq_ite, ev_next, ev_ifs, ev_ites, ev_ites_ex, ev_ret, ev_drop, ev_out, ev_out_ex, ev_outA, ev_c, ev_set, ev_own, ev_bind, ev_bind_ex, ev_bindA, ev_op, ev_un, ev_call, ev_ofO, ev_nil, ev_cons, ev_consok, ev_push, ev_tup, ev_lst, ev_not, ev_notb, ev_and, ev_or, ev_if, ev_ite, ev_chain, ev_var, ev_ixO, ev_setIx, ev_augIx, ev_opOL, ev_callO, ev_ref, ev_mut, ev_callF, ev_callN, ev_back, ev_backX, ev_backN, ev_mk0, ev_mkv, ev_mkr, ev_wb0, ev_wbv, ev_wbr, ev_iter, ev_iterA, ev_comp, ev_for, ev_sl, ev_part0, ev_part1, ev_mpart, ev_asg, ev_par, ev_listOf, ev_binL, ev_gN, ev_gT, ev_gA0, ev_gA, ev_noIo0, ev_noIo, ev_wipe0, ev_wipe, ev_compL0, ev_compL, ev_forL0, ev_forL, at2_0, at2_1, ixN2_0, ixN2_1, fnSem, List.length_cons, List.length_nil, List.replicate, List.append_eq, List.cons_append, List.nil_append, List.getElem?_cons_zero, List.getElem?_cons_succ, List.set_cons_zero, List.set_cons_succ, List.take_succ_cons, List.take_zero, isIoAt, lstAt, setL, Nat.reduceAdd, Nat.reduceSub, Option.map_some, Option.bind_some, if_true, if_false, Bool.false_eq_true, ite_true, ite_false, reduceIte, Int.natCast_add, decide_eq_true_eq, decide_true, decide_false, Bool.not_true, Bool.not_false, Bool.not_eq_true, and_self, and_true, true_and, Nat.reduceLeDiff, Nat.reduceLT, Bool.and_true, Bool.true_and, Bool.and_false, Bool.false_and, ixD_t, at2_0, at2_1, k_f_w, k_f_r, ix_lstS hx, h1]
    unfold itemM
    simp only [hx, Option.toList]
  | rest =>
    have hs : (nm.length : Int) - r.bk.length = ((nm.length - r.bk.length : Nat) : Int) := by omega
    have h1 := extL acc ((nm.take (nm.length - r.bk.length)).drop r.fr.length) (by rw [List.length_drop, List.length_take]; omega)
    rw [enc_rest]
    simp only [ev_seq, ev_seq_nx, ev_seq_rt, ev_seq_ex, ev_seq_bk, ev_seq_ct, ev_seq_st, ev_seq_ite, ev_next, ev_ifs, ev_ites, ev_ites_ex, ev_ret, ev_drop, ev_out, ev_out_ex, ev_outA, ev_c, ev_set, ev_own, ev_bind, ev_bind_ex, ev_bindA, ev_op, ev_un, ev_call, ev_ofO, ev_nil, ev_cons, ev_consok, ev_push, ev_tup, ev_lst, ev_not, ev_notb, ev_and, ev_or, ev_if, ev_ite, ev_chain, ev_var, ev_ixO, ev_setIx, ev_augIx, ev_opOL, ev_callO, ev_ref, ev_mut, ev_callF, ev_callN, ev_back, ev_backX, ev_backN, ev_mk0, ev_mkv, ev_mkr, ev_wb0, ev_wbv, ev_wbr, ev_iter, ev_iterA, ev_comp, ev_for, ev_sl, ev_part0, ev_part1, ev_mpart, ev_asg, ev_par, ev_listOf, ev_binL, ev_gN, ev_gT, ev_gA0, ev_gA, ev_noIo0, ev_noIo, ev_wipe0, ev_wipe, ev_compL0, ev_compL, ev_forL0, ev_forL, at2_0, at2_1, ixN2_0, ixN2_1, fnSem, List.length_cons, List.length_nil, List.replicate, List.append_eq, List.cons_append, List.nil_append, List.getElem?_cons_zero, List.getElem?_cons_succ, List.set_cons_zero, List.set_cons_succ, List.take_succ_cons, List.take_zero, isIoAt, lstAt, setL, Nat.reduceAdd, Nat.reduceSub, Option.map_some, Option.bind_some, if_true, if_false, Bool.false_eq_true, ite_true, ite_false, reduceIte, Int.natCast_add, decide_eq_true_eq, decide_true, decide_false, Bool.not_true, Bool.not_false, Bool.not_eq_true, and_self, and_true, true_and, Nat.reduceLeDiff, Nat.reduceLT, Bool.and_true, Bool.true_and, Bool.and_false, Bool.false_and, ixD_t, at1_0, k_r_r, len_tupS, subD_i, hs, sl_midS, itemsD_S, h1]
    rfl
end NS

set_option Elab.async false
set_option linter.all false
set_option autoImplicit false
set_option maxRecDepth 100000
set_option maxHeartbeats 4000000
namespace NS
open PySem PySem.Spec PyProof.Rows L2
theorem cat_ok {ma mb : Ev → RA} {ρ ρ1 ρ2 : Ev} {xs ys : List Dt} (h1 : ma ρ = .ok xs ρ1) (h2 : mb ρ1 = .ok ys ρ2) (h : xs.length + ys.length ≤ 10000) : mCatL ma mb ρ = .ok (xs ++ ys) ρ2 := by
  unfold mCatL
  rw [h1]
  show (match mb ρ1 with | .ok ys ρ2 => if xs.length + ys.length ≤ 10000 then RA.ok (xs ++ ys) ρ2 else .stuck | .exc x ρ2 => .exc x ρ2 | .stuck => .stuck) = _
  rw [h2]
  show (if _ then _ else _) = _
  rw [if_pos h]
def l0 (r : Rul) (nm : List Str) : Ev := [.val r.enc, .val (tupS nm), .val (tTs r.fr), .val (.bool r.op), .val (tTs r.bk), .val (tIs r.making), .val (.int r.fr.length), .val (.int r.bk.length), .no, .no, .no, .no, .no]
theorem par_ok (r : Rul) (nm : List Str) : mPar 6 7 (mCons (mCall lenTD (mCons (mVar 2) mNil)) (mCons (mCall lenTD (mCons (mVar 4) mNil)) mNil)) [.val r.enc, .val (tupS nm), .val (tTs r.fr), .val (.bool r.op), .val (tTs r.bk), .val (tIs r.making), .no, .no, .no, .no, .no, .no, .no] = .nx (l0 r nm) := by
  simp only [ev_seq, ev_seq_nx, ev_seq_rt, ev_seq_ex, ev_seq_bk, ev_seq_ct, ev_seq_st, ev_seq_ite, ev_next, ev_ifs, ev_ites, ev_ites_ex, ev_ret, ev_drop, ev_out, ev_out_ex, ev_outA, ev_c, ev_set, ev_own, ev_bind, ev_bind_ex, ev_bindA, ev_op, ev_un, ev_call, ev_ofO, ev_nil, ev_cons, ev_consok, ev_push, ev_tup, ev_lst, ev_not, ev_notb, ev_and, ev_or, ev_if, ev_ite, ev_chain, ev_var, ev_ixO, ev_setIx, ev_augIx, ev_opOL, ev_callO, ev_ref, ev_mut, ev_callF, ev_callN, ev_back, ev_backX, ev_backN, ev_mk0, ev_mkv, ev_mkr, ev_wb0, ev_wbv, ev_wbr, ev_iter, ev_iterA, ev_comp, ev_for, ev_sl, ev_part0, ev_part1, ev_mpart, ev_asg, ev_par, ev_listOf, ev_binL, ev_gN, ev_gT, ev_gA0, ev_gA, ev_noIo0, ev_noIo, ev_wipe0, ev_wipe, ev_compL0, ev_compL, ev_forL0, ev_forL, at2_0, at2_1, ixN2_0, ixN2_1, fnSem, List.length_cons, List.length_nil, List.replicate, List.append_eq, List.cons_append, List.nil_append, List.getElem?_cons_zero, List.getElem?_cons_succ, List.set_cons_zero, List.set_cons_succ, List.take_succ_cons, List.take_zero, isIoAt, lstAt, setL, Nat.reduceAdd, Nat.reduceSub, Option.map_some, Option.bind_some, if_true, if_false, Bool.false_eq_true, ite_true, ite_false, reduceIte, Int.natCast_add, decide_eq_true_eq, decide_true, decide_false, Bool.not_true, Bool.not_false, Bool.not_eq_true, and_self, and_true, true_and, Nat.reduceLeDiff, Nat.reduceLT, Bool.and_true, Bool.true_and, Bool.and_false, Bool.false_and, tT_len]
  rfl
theorem asg_ok (r : Rul) (nm : List Str) : mAsgG (gT [2, 3, 4, 5]) (mVar 0) [.val r.enc, .val (tupS nm), .no, .no, .no, .no, .no, .no, .no, .no, .no, .no, .no] = .nx [.val r.enc, .val (tupS nm), .val (tTs r.fr), .val (.bool r.op), .val (tTs r.bk), .val (tIs r.making), .no, .no, .no, .no, .no, .no, .no] := rfl
theorem ne_int {x y : Int} : neD (.int x) (.int y) = some (.bool (!decide (x = y))) := neD_int x y
theorem lmade_ok (r : Rul) (hr : RFine r) (nm : List Str) (hn : nm.length ≤ 1000) : F_law_made [.val r.enc, .val (tupS nm)] = .ok (encO (madeM r nm)) [.val r.enc, .val (tupS nm)] := by
  have hfew := hr.few
  have hmany := hr.many
  unfold F_law_made
  rw [m_lmade_eq]
  by_cases h1 : nm.length < r.fr.length + r.bk.length ∨ r.fr.length + r.bk.length < nm.length ∧ r.op = false
  · have hl : lookedM r nm = none := by unfold lookedM; rw [if_pos h1]
    have hm : madeM r nm = none := by unfold madeM matchedM; rw [hl]; rfl
    rw [hm]
    by_cases h2 : nm.length < r.fr.length + r.bk.length
    · have c1 : (nm.length : Int) < (r.fr.length : Int) + r.bk.length := by omega
      simp only [fnSem, List.length_cons, List.length_nil, if_true, Nat.reduceAdd, Nat.reduceSub, List.replicate, List.cons_append, List.nil_append, ev_seq, asg_ok, par_ok, ev_seq_nx]
      unfold l0
      simp only [ev_seq, ev_seq_nx, ev_seq_rt, ev_seq_ex, ev_seq_bk, ev_seq_ct, ev_seq_st, ev_seq_ite, ev_next, ev_ifs, ev_ites, ev_ites_ex, ev_ret, ev_drop, ev_out, ev_out_ex, ev_outA, ev_c, ev_set, ev_own, ev_bind, ev_bind_ex, ev_bindA, ev_op, ev_un, ev_call, ev_ofO, ev_nil, ev_cons, ev_consok, ev_push, ev_tup, ev_lst, ev_not, ev_notb, ev_and, ev_or, ev_if, ev_ite, ev_chain, ev_var, ev_ixO, ev_setIx, ev_augIx, ev_opOL, ev_callO, ev_ref, ev_mut, ev_callF, ev_callN, ev_back, ev_backX, ev_backN, ev_mk0, ev_mkv, ev_mkr, ev_wb0, ev_wbv, ev_wbr, ev_iter, ev_iterA, ev_comp, ev_for, ev_sl, ev_part0, ev_part1, ev_mpart, ev_asg, ev_par, ev_listOf, ev_binL, ev_gN, ev_gT, ev_gA0, ev_gA, ev_noIo0, ev_noIo, ev_wipe0, ev_wipe, ev_compL0, ev_compL, ev_forL0, ev_forL, at2_0, at2_1, ixN2_0, ixN2_1, fnSem, List.length_cons, List.length_nil, List.replicate, List.append_eq, List.cons_append, List.nil_append, List.getElem?_cons_zero, List.getElem?_cons_succ, List.set_cons_zero, List.set_cons_succ, List.take_succ_cons, List.take_zero, isIoAt, lstAt, setL, Nat.reduceAdd, Nat.reduceSub, Option.map_some, Option.bind_some, if_true, if_false, Bool.false_eq_true, ite_true, ite_false, reduceIte, Int.natCast_add, decide_eq_true_eq, decide_true, decide_false, Bool.not_true, Bool.not_false, Bool.not_eq_true, and_self, and_true, true_and, Nat.reduceLeDiff, Nat.reduceLT, Bool.and_true, Bool.true_and, Bool.and_false, Bool.false_and, len_tupS, addD_i, ltD_i, c1]
      rfl
    · rcases h1 with h1 | ⟨h1, hop⟩
      · exact absurd h1 h2
      · have c1 : ¬ (nm.length : Int) < (r.fr.length : Int) + r.bk.length := by omega
        have hb := hr.cl hop
        have c2 : ¬ (nm.length : Int) = r.fr.length := by rw [hb] at h1; simp at h1; omega
        simp only [fnSem, List.length_cons, List.length_nil, if_true, Nat.reduceAdd, Nat.reduceSub, List.replicate, List.cons_append, List.nil_append, ev_seq, asg_ok, par_ok, ev_seq_nx]
        unfold l0
        rw [hop]
        simp only [ev_seq, ev_seq_nx, ev_seq_rt, ev_seq_ex, ev_seq_bk, ev_seq_ct, ev_seq_st, ev_seq_ite, ev_next, ev_ifs, ev_ites, ev_ites_ex, ev_ret, ev_drop, ev_out, ev_out_ex, ev_outA, ev_c, ev_set, ev_own, ev_bind, ev_bind_ex, ev_bindA, ev_op, ev_un, ev_call, ev_ofO, ev_nil, ev_cons, ev_consok, ev_push, ev_tup, ev_lst, ev_not, ev_notb, ev_and, ev_or, ev_if, ev_ite, ev_chain, ev_var, ev_ixO, ev_setIx, ev_augIx, ev_opOL, ev_callO, ev_ref, ev_mut, ev_callF, ev_callN, ev_back, ev_backX, ev_backN, ev_mk0, ev_mkv, ev_mkr, ev_wb0, ev_wbv, ev_wbr, ev_iter, ev_iterA, ev_comp, ev_for, ev_sl, ev_part0, ev_part1, ev_mpart, ev_asg, ev_par, ev_listOf, ev_binL, ev_gN, ev_gT, ev_gA0, ev_gA, ev_noIo0, ev_noIo, ev_wipe0, ev_wipe, ev_compL0, ev_compL, ev_forL0, ev_forL, at2_0, at2_1, ixN2_0, ixN2_1, fnSem, List.length_cons, List.length_nil, List.replicate, List.append_eq, List.cons_append, List.nil_append, List.getElem?_cons_zero, List.getElem?_cons_succ, List.set_cons_zero, List.set_cons_succ, List.take_succ_cons, List.take_zero, isIoAt, lstAt, setL, Nat.reduceAdd, Nat.reduceSub, Option.map_some, Option.bind_some, if_true, if_false, Bool.false_eq_true, ite_true, ite_false, reduceIte, Int.natCast_add, decide_eq_true_eq, decide_true, decide_false, Bool.not_true, Bool.not_false, Bool.not_eq_true, and_self, and_true, true_and, Nat.reduceLeDiff, Nat.reduceLT, Bool.and_true, Bool.true_and, Bool.and_false, Bool.false_and, len_tupS, addD_i, ltD_i, c1, ne_int, c2]
        rfl
  · have c1 : ¬ (nm.length : Int) < (r.fr.length : Int) + r.bk.length := by omega
    generalize hl : nm.take r.fr.length ++ nm.drop (nm.length - r.bk.length) = l
    have hlk : lookedM r nm = some l := by unfold lookedM; rw [if_neg h1, hl]
    have hlen := lookedM_len hlk
    have hle : l.length ≤ nm.length := by omega
    have hs : (nm.length : Int) - r.bk.length = ((nm.length - r.bk.length : Nat) : Int) := by omega
    have ecat : mCatL (mListOf (mSl (mVar 1) (mC .none) (mPart (mVar 6)))) (mListOf (mSl (mVar 1) (mPart (mOp subD (mCall lenTD (mCons (mVar 1) mNil)) (mVar 7))) (mC .none))) (l0 r nm) = .ok (l.map PyData.str) (l0 r nm) := by
      rw [← hl, List.map_append]
      refine cat_ok (ρ1 := l0 r nm) ?_ ?_ (by rw [List.length_map, List.length_map, List.length_take, List.length_drop]; omega)
      · unfold l0
        simp only [ev_seq, ev_seq_nx, ev_seq_rt, ev_seq_ex, ev_seq_bk, ev_seq_ct, ev_seq_st, ev_seq_ite, ev_next, ev_ifs, ev_ites, ev_ites_ex, ev_ret, ev_drop, ev_out, ev_out_ex, ev_outA, ev_c, ev_set, ev_own, ev_bind, ev_bind_ex, ev_bindA, ev_op, ev_un, ev_call, ev_ofO, ev_nil, ev_cons, ev_consok, ev_push, ev_tup, ev_lst, ev_not, ev_notb, ev_and, ev_or, ev_if, ev_ite, ev_chain, ev_var, ev_ixO, ev_setIx, ev_augIx, ev_opOL, ev_callO, ev_ref, ev_mut, ev_callF, ev_callN, ev_back, ev_backX, ev_backN, ev_mk0, ev_mkv, ev_mkr, ev_wb0, ev_wbv, ev_wbr, ev_iter, ev_iterA, ev_comp, ev_for, ev_sl, ev_part0, ev_part1, ev_mpart, ev_asg, ev_par, ev_listOf, ev_binL, ev_gN, ev_gT, ev_gA0, ev_gA, ev_noIo0, ev_noIo, ev_wipe0, ev_wipe, ev_compL0, ev_compL, ev_forL0, ev_forL, at2_0, at2_1, ixN2_0, ixN2_1, fnSem, List.length_cons, List.length_nil, List.replicate, List.append_eq, List.cons_append, List.nil_append, List.getElem?_cons_zero, List.getElem?_cons_succ, List.set_cons_zero, List.set_cons_succ, List.take_succ_cons, List.take_zero, isIoAt, lstAt, setL, Nat.reduceAdd, Nat.reduceSub, Option.map_some, Option.bind_some, if_true, if_false, Bool.false_eq_true, ite_true, ite_false, reduceIte, Int.natCast_add, decide_eq_true_eq, decide_true, decide_false, Bool.not_true, Bool.not_false, Bool.not_eq_true, and_self, and_true, true_and, Nat.reduceLeDiff, Nat.reduceLT, Bool.and_true, Bool.true_and, Bool.and_false, Bool.false_and, sl_takeS, itemsD_S]
      · unfold l0
        simp only [ev_seq, ev_seq_nx, ev_seq_rt, ev_seq_ex, ev_seq_bk, ev_seq_ct, ev_seq_st, ev_seq_ite, ev_next, ev_ifs, ev_ites, ev_ites_ex, ev_ret, ev_drop, ev_out, ev_out_ex, ev_outA, ev_c, ev_set, ev_own, ev_bind, ev_bind_ex, ev_bindA, ev_op, ev_un, ev_call, ev_ofO, ev_nil, ev_cons, ev_consok, ev_push, ev_tup, ev_lst, ev_not, ev_notb, ev_and, ev_or, ev_if, ev_ite, ev_chain, ev_var, ev_ixO, ev_setIx, ev_augIx, ev_opOL, ev_callO, ev_ref, ev_mut, ev_callF, ev_callN, ev_back, ev_backX, ev_backN, ev_mk0, ev_mkv, ev_mkr, ev_wb0, ev_wbv, ev_wbr, ev_iter, ev_iterA, ev_comp, ev_for, ev_sl, ev_part0, ev_part1, ev_mpart, ev_asg, ev_par, ev_listOf, ev_binL, ev_gN, ev_gT, ev_gA0, ev_gA, ev_noIo0, ev_noIo, ev_wipe0, ev_wipe, ev_compL0, ev_compL, ev_forL0, ev_forL, at2_0, at2_1, ixN2_0, ixN2_1, fnSem, List.length_cons, List.length_nil, List.replicate, List.append_eq, List.cons_append, List.nil_append, List.getElem?_cons_zero, List.getElem?_cons_succ, List.set_cons_zero, List.set_cons_succ, List.take_succ_cons, List.take_zero, isIoAt, lstAt, setL, Nat.reduceAdd, Nat.reduceSub, Option.map_some, Option.bind_some, if_true, if_false, Bool.false_eq_true, ite_true, ite_false, reduceIte, Int.natCast_add, decide_eq_true_eq, decide_true, decide_false, Bool.not_true, Bool.not_false, Bool.not_eq_true, and_self, and_true, true_and, Nat.reduceLeDiff, Nat.reduceLT, Bool.and_true, Bool.true_and, Bool.and_false, Bool.false_and, len_tupS, subD_i, hs, sl_dropS, itemsD_S]
    have e8 : mSet 8 (mLst (mCatL (mListOf (mSl (mVar 1) (mC .none) (mPart (mVar 6)))) (mListOf (mSl (mVar 1) (mPart (mOp subD (mCall lenTD (mCons (mVar 1) mNil)) (mVar 7))) (mC .none))))) (l0 r nm) = .nx (cS r nm l .no .no) := by
      rw [ev_set, ev_lst, ecat, ev_bindA, ev_out]
      rfl
    have econd : mIfS (mOr (mOp ltD (mCall lenTD (mCons (mVar 1) mNil)) (mOp addD (mVar 6) (mVar 7))) (mAnd (mNot (mVar 3)) (mOp neD (mCall lenTD (mCons (mVar 1) mNil)) (mVar 6)))) (mRet (mC .none)) mNext (l0 r nm) = .nx (l0 r nm) := by
      unfold l0
      cases hop : r.op with
      | true => simp only [ev_seq, ev_seq_nx, ev_seq_rt, ev_seq_ex, ev_seq_bk, ev_seq_ct, ev_seq_st, ev_seq_ite, ev_next, ev_ifs, ev_ites, ev_ites_ex, ev_ret, ev_drop, ev_out, ev_out_ex, ev_outA, ev_c, ev_set, ev_own, ev_bind, ev_bind_ex, ev_bindA, ev_op, ev_un, ev_call, ev_ofO, ev_nil, ev_cons, ev_consok, ev_push, ev_tup, ev_lst, ev_not, ev_notb, ev_and, ev_or, ev_if, ev_ite, ev_chain, ev_var, ev_ixO, ev_setIx, ev_augIx, ev_opOL, ev_callO, ev_ref, ev_mut, ev_callF, ev_callN, ev_back, ev_backX, ev_backN, ev_mk0, ev_mkv, ev_mkr, ev_wb0, ev_wbv, ev_wbr, ev_iter, ev_iterA, ev_comp, ev_for, ev_sl, ev_part0, ev_part1, ev_mpart, ev_asg, ev_par, ev_listOf, ev_binL, ev_gN, ev_gT, ev_gA0, ev_gA, ev_noIo0, ev_noIo, ev_wipe0, ev_wipe, ev_compL0, ev_compL, ev_forL0, ev_forL, at2_0, at2_1, ixN2_0, ixN2_1, fnSem, List.length_cons, List.length_nil, List.replicate, List.append_eq, List.cons_append, List.nil_append, List.getElem?_cons_zero, List.getElem?_cons_succ, List.set_cons_zero, List.set_cons_succ, List.take_succ_cons, List.take_zero, isIoAt, lstAt, setL, Nat.reduceAdd, Nat.reduceSub, Option.map_some, Option.bind_some, if_true, if_false, Bool.false_eq_true, ite_true, ite_false, reduceIte, Int.natCast_add, decide_eq_true_eq, decide_true, decide_false, Bool.not_true, Bool.not_false, Bool.not_eq_true, and_self, and_true, true_and, Nat.reduceLeDiff, Nat.reduceLT, Bool.and_true, Bool.true_and, Bool.and_false, Bool.false_and, len_tupS, addD_i, ltD_i, c1]
      | false =>
        have hb := hr.cl hop
        have c2 : (nm.length : Int) = r.fr.length := by
          have hb0 : r.bk.length = 0 := by rw [hb]; rfl
          have : ¬ r.fr.length + r.bk.length < nm.length := fun h => h1 (.inr ⟨h, hop⟩)
          omega
        have c3 : neD (.int nm.length) (.int r.fr.length) = some (.bool false) := by rw [neD_int, decide_eq_true c2]; rfl
        simp only [ev_seq, ev_seq_nx, ev_seq_rt, ev_seq_ex, ev_seq_bk, ev_seq_ct, ev_seq_st, ev_seq_ite, ev_next, ev_ifs, ev_ites, ev_ites_ex, ev_ret, ev_drop, ev_out, ev_out_ex, ev_outA, ev_c, ev_set, ev_own, ev_bind, ev_bind_ex, ev_bindA, ev_op, ev_un, ev_call, ev_ofO, ev_nil, ev_cons, ev_consok, ev_push, ev_tup, ev_lst, ev_not, ev_notb, ev_and, ev_or, ev_if, ev_ite, ev_chain, ev_var, ev_ixO, ev_setIx, ev_augIx, ev_opOL, ev_callO, ev_ref, ev_mut, ev_callF, ev_callN, ev_back, ev_backX, ev_backN, ev_mk0, ev_mkv, ev_mkr, ev_wb0, ev_wbv, ev_wbr, ev_iter, ev_iterA, ev_comp, ev_for, ev_sl, ev_part0, ev_part1, ev_mpart, ev_asg, ev_par, ev_listOf, ev_binL, ev_gN, ev_gT, ev_gA0, ev_gA, ev_noIo0, ev_noIo, ev_wipe0, ev_wipe, ev_compL0, ev_compL, ev_forL0, ev_forL, at2_0, at2_1, ixN2_0, ixN2_1, fnSem, List.length_cons, List.length_nil, List.replicate, List.append_eq, List.cons_append, List.nil_append, List.getElem?_cons_zero, List.getElem?_cons_succ, List.set_cons_zero, List.set_cons_succ, List.take_succ_cons, List.take_zero, isIoAt, lstAt, setL, Nat.reduceAdd, Nat.reduceSub, Option.map_some, Option.bind_some, if_true, if_false, Bool.false_eq_true, ite_true, ite_false, reduceIte, Int.natCast_add, decide_eq_true_eq, decide_true, decide_false, Bool.not_true, Bool.not_false, Bool.not_eq_true, and_self, and_true, true_and, Nat.reduceLeDiff, Nat.reduceLT, Bool.and_true, Bool.true_and, Bool.and_false, Bool.false_and, len_tupS, addD_i, ltD_i, c1, c3]
    have hts : (r.fr ++ r.bk).length = l.length := by rw [List.length_append, hlen]
    obtain ⟨ρc, f1, f2⟩ := forL_findA (g := gT [9, 10]) (b := bodyChk) (fun p : Tst × Nat => .tuple [.int p.2, p.1.enc]) (r.fr ++ r.bk).zipIdx (fun ρ => ∃ s t, (s = .no ∨ ∃ d, s = .val d) ∧ (t = .no ∨ ∃ d, t = .val d) ∧ ρ = cS r nm l s t) (fun ρ => ρ.take 2 = [.val r.enc, .val (tupS nm)]) (badT l) (fun _ => .none) (ρ := cS r nm l .no .no) ⟨.no, .no, .inl rfl, .inl rfl, rfl⟩ (by
      rintro ⟨t, i⟩ hx ρ ⟨s, s2, hs, hs2, rfl⟩
      have hti := List.mem_zipIdx_iff_getElem?.mp hx
      have hi : i < l.length := by
        rw [← hts]
        exact (List.getElem?_eq_some_iff.mp hti).1
      have hx : l[i]? = some l[i] := List.getElem?_eq_getElem hi
      have e0 := chk_ok r nm l t i l[i] hx (by rw [hlen]; exact hr.ts t (List.mem_of_getElem? hti))
      refine ⟨cS r nm l (.val (.int i)) (.val t.enc), cS r nm l (.val (.int i)) (.val t.enc), ?_, ?_⟩
      · rcases hs with rfl | ⟨d, rfl⟩ <;> rcases hs2 with rfl | ⟨d', rfl⟩ <;> rfl
      · cases hb : badT l (t, i) with
        | true => rw [hb] at e0; exact .inr ⟨rfl, e0, rfl⟩
        | false => rw [hb] at e0; exact .inl ⟨rfl, e0, .val (.int i), .val t.enc, .inr ⟨_, rfl⟩, .inr ⟨_, rfl⟩, rfl⟩)
    have een : enumD [.tuple ((r.fr ++ r.bk).map Tst.enc)] = some ((r.fr ++ r.bk).zipIdx.map fun p : Tst × Nat => .tuple [.int p.2, p.1.enc]) := by
      show some (enumL _) = _
      rw [enumL_map]
    have eadd := add_tTs (a := r.fr) (b := r.bk) (by omega)
    have efor : mFor (mIterA enumD (mCons (mOp addD (mVar 2) (mVar 4)) mNil)) (gT [9, 10]) bodyChk (cS r nm l .no .no) = forL (gT [9, 10]) bodyChk ((r.fr ++ r.bk).zipIdx.map fun p : Tst × Nat => .tuple [.int p.2, p.1.enc]) (cS r nm l .no .no) := by
      unfold cS
      simp only [ev_seq, ev_seq_nx, ev_seq_rt, ev_seq_ex, ev_seq_bk, ev_seq_ct, ev_seq_st, ev_seq_ite, ev_next, ev_ifs, ev_ites, ev_ites_ex, ev_ret, ev_drop, ev_out, ev_out_ex, ev_outA, ev_c, ev_set, ev_own, ev_bind, ev_bind_ex, ev_bindA, ev_op, ev_un, ev_call, ev_ofO, ev_nil, ev_cons, ev_consok, ev_push, ev_tup, ev_lst, ev_not, ev_notb, ev_and, ev_or, ev_if, ev_ite, ev_chain, ev_var, ev_ixO, ev_setIx, ev_augIx, ev_opOL, ev_callO, ev_ref, ev_mut, ev_callF, ev_callN, ev_back, ev_backX, ev_backN, ev_mk0, ev_mkv, ev_mkr, ev_wb0, ev_wbv, ev_wbr, ev_iter, ev_iterA, ev_comp, ev_for, ev_sl, ev_part0, ev_part1, ev_mpart, ev_asg, ev_par, ev_listOf, ev_binL, ev_gN, ev_gT, ev_gA0, ev_gA, ev_noIo0, ev_noIo, ev_wipe0, ev_wipe, ev_compL0, ev_compL, ev_forL0, ev_forL, at2_0, at2_1, ixN2_0, ixN2_1, fnSem, List.length_cons, List.length_nil, List.replicate, List.append_eq, List.cons_append, List.nil_append, List.getElem?_cons_zero, List.getElem?_cons_succ, List.set_cons_zero, List.set_cons_succ, List.take_succ_cons, List.take_zero, isIoAt, lstAt, setL, Nat.reduceAdd, Nat.reduceSub, Option.map_some, Option.bind_some, if_true, if_false, Bool.false_eq_true, ite_true, ite_false, reduceIte, Int.natCast_add, decide_eq_true_eq, decide_true, decide_false, Bool.not_true, Bool.not_false, Bool.not_eq_true, and_self, and_true, true_and, Nat.reduceLeDiff, Nat.reduceLT, Bool.and_true, Bool.true_and, Bool.and_false, Bool.false_and, eadd, een]
    have hz := zip_all l (r.fr ++ r.bk) l 0 (fun i => by rw [Nat.zero_add]) hts
    simp only [fnSem, List.length_cons, List.length_nil, if_true, Nat.reduceAdd, Nat.reduceSub, List.replicate, List.cons_append, List.nil_append, ev_seq, asg_ok, par_ok, ev_seq_nx, econd, e8, efor]
    cases hf : (r.fr ++ r.bk).zipIdx.find? (badT l) with
    | some x =>
      obtain ⟨f3, f4⟩ := f2 x hf
      have hall : ¬ ((r.fr ++ r.bk).zip l).all (fun p => p.1.pass l p.2) = true := fun h => by
        have := hz.mp h
        rw [hf] at this
        cases this
      have hm : madeM r nm = none := by unfold madeM matchedM; rw [hlk, Option.bind_some, if_neg hall]; rfl
      rw [hm]
      simp only [ev_seq, ev_seq_nx, ev_seq_rt, ev_seq_ex, ev_seq_bk, ev_seq_ct, ev_seq_st, ev_seq_ite, ev_next, ev_ifs, ev_ites, ev_ites_ex, ev_ret, ev_drop, ev_out, ev_out_ex, ev_outA, ev_c, ev_set, ev_own, ev_bind, ev_bind_ex, ev_bindA, ev_op, ev_un, ev_call, ev_ofO, ev_nil, ev_cons, ev_consok, ev_push, ev_tup, ev_lst, ev_not, ev_notb, ev_and, ev_or, ev_if, ev_ite, ev_chain, ev_var, ev_ixO, ev_setIx, ev_augIx, ev_opOL, ev_callO, ev_ref, ev_mut, ev_callF, ev_callN, ev_back, ev_backX, ev_backN, ev_mk0, ev_mkv, ev_mkr, ev_wb0, ev_wbv, ev_wbr, ev_iter, ev_iterA, ev_comp, ev_for, ev_sl, ev_part0, ev_part1, ev_mpart, ev_asg, ev_par, ev_listOf, ev_binL, ev_gN, ev_gT, ev_gA0, ev_gA, ev_noIo0, ev_noIo, ev_wipe0, ev_wipe, ev_compL0, ev_compL, ev_forL0, ev_forL, at2_0, at2_1, ixN2_0, ixN2_1, fnSem, List.length_cons, List.length_nil, List.replicate, List.append_eq, List.cons_append, List.nil_append, List.getElem?_cons_zero, List.getElem?_cons_succ, List.set_cons_zero, List.set_cons_succ, List.take_succ_cons, List.take_zero, isIoAt, lstAt, setL, Nat.reduceAdd, Nat.reduceSub, Option.map_some, Option.bind_some, if_true, if_false, Bool.false_eq_true, ite_true, ite_false, reduceIte, Int.natCast_add, decide_eq_true_eq, decide_true, decide_false, Bool.not_true, Bool.not_false, Bool.not_eq_true, and_self, and_true, true_and, Nat.reduceLeDiff, Nat.reduceLT, Bool.and_true, Bool.true_and, Bool.and_false, Bool.false_and, f3, f4]
      rfl
    | none =>
      obtain ⟨f3, s9, s10, -, -, rfl⟩ := f1 hf
      have hall := hz.mpr hf
      have hm : madeM r nm = some (r.making.flatMap (itemM r nm l)) := by unfold madeM matchedM; rw [hlk, Option.bind_some, if_pos hall]; rfl
      rw [hm]
      obtain ⟨ρ', e1, s12, hs12, rfl⟩ := forL_A (g := gN 12) (b := bodyGet) Itm.enc r.making (fun dn ρ => ∃ s, (s = .no ∨ ∃ d, s = .val d) ∧ ρ = gS r nm l (dn.flatMap (itemM r nm l)) s9 s10 s) (ρ := gS r nm l [] s9 s10 .no) ⟨.no, .inl rfl, rfl⟩ (by
        rintro dn i rs ρ hx ⟨s, hs, rfl⟩
        have hi : i ∈ r.making := by rw [hx]; simp
        have hlen' : (dn.flatMap (itemM r nm l)).length ≤ dn.length * (nm.length + 1) := flat_len _ _ _ fun x _ => itemM_len r nm l x
        have hdn : dn.length < 8 := by
          have := congrArg List.length hx
          rw [List.length_append, List.length_cons] at this
          omega
        have hdm : dn.length * (nm.length + 1) ≤ 7 * (nm.length + 1) := Nat.mul_le_mul_right _ (by omega)
        refine ⟨gS r nm l (dn.flatMap (itemM r nm l)) s9 s10 (.val i.enc), _, ?_, get_ok r hr nm l _ hlen hle i hi (by omega) s9 s10, .val i.enc, .inr ⟨_, rfl⟩, ?_⟩
        · rcases hs with rfl | ⟨d, rfl⟩ <;> rfl
        · rw [List.flatMap_append]; simp)
      have eget : mFor (mIter seqD (mVar 5)) (gN 12) bodyGet (gS r nm l [] s9 s10 .no) = forL (gN 12) bodyGet (r.making.map Itm.enc) (gS r nm l [] s9 s10 .no) := rfl
      have eown : mOwn 11 mNil (cS r nm l s9 s10) = .nx (gS r nm l [] s9 s10 .no) := rfl
      simp only [f3, ev_seq_nx, ev_seq, eown, eget, e1]
      unfold gS
      simp only [ev_seq, ev_seq_nx, ev_seq_rt, ev_seq_ex, ev_seq_bk, ev_seq_ct, ev_seq_st, ev_seq_ite, ev_next, ev_ifs, ev_ites, ev_ites_ex, ev_ret, ev_drop, ev_out, ev_out_ex, ev_outA, ev_c, ev_set, ev_own, ev_bind, ev_bind_ex, ev_bindA, ev_op, ev_un, ev_call, ev_ofO, ev_nil, ev_cons, ev_consok, ev_push, ev_tup, ev_lst, ev_not, ev_notb, ev_and, ev_or, ev_if, ev_ite, ev_chain, ev_var, ev_ixO, ev_setIx, ev_augIx, ev_opOL, ev_callO, ev_ref, ev_mut, ev_callF, ev_callN, ev_back, ev_backX, ev_backN, ev_mk0, ev_mkv, ev_mkr, ev_wb0, ev_wbv, ev_wbr, ev_iter, ev_iterA, ev_comp, ev_for, ev_sl, ev_part0, ev_part1, ev_mpart, ev_asg, ev_par, ev_listOf, ev_binL, ev_gN, ev_gT, ev_gA0, ev_gA, ev_noIo0, ev_noIo, ev_wipe0, ev_wipe, ev_compL0, ev_compL, ev_forL0, ev_forL, at2_0, at2_1, ixN2_0, ixN2_1, fnSem, List.length_cons, List.length_nil, List.replicate, List.append_eq, List.cons_append, List.nil_append, List.getElem?_cons_zero, List.getElem?_cons_succ, List.set_cons_zero, List.set_cons_succ, List.take_succ_cons, List.take_zero, isIoAt, lstAt, setL, Nat.reduceAdd, Nat.reduceSub, Option.map_some, Option.bind_some, if_true, if_false, Bool.false_eq_true, ite_true, ite_false, reduceIte, Int.natCast_add, decide_eq_true_eq, decide_true, decide_false, Bool.not_true, Bool.not_false, Bool.not_eq_true, and_self, and_true, true_and, Nat.reduceLeDiff, Nat.reduceLT, Bool.and_true, Bool.true_and, Bool.and_false, Bool.false_and, tupleD_l]
      rfl
end NS

set_option Elab.async false
set_option linter.all false
set_option autoImplicit false
set_option maxRecDepth 100000
set_option maxHeartbeats 4000000
namespace NS
open PySem PySem.Spec PyProof.Rows L2
theorem lfirst_ok (rs : List Rul) (hr : ∀ r ∈ rs, RFine r) (nm : List Str) (hn : nm.length ≤ 1000) : F_law_first [.val (tRs rs), .val (tupS nm)] = .ok (encN (firstM rs nm)) [.val (tRs rs), .val (tupS nm)] := by
  obtain ⟨ρ', e1, e2⟩ := forL_findA (g := gT [2, 3]) (b := (mIfS (mOp isNotN1 (mCallF F_law_made [none, none] (mCons (mVar 3) (mCons (mVar 1) mNil))) (mC .none)) (mRet (mVar 2)) mNext)) (fun p : Rul × Nat => .tuple [.int p.2, p.1.enc]) rs.zipIdx (fun ρ => ∃ s t, (s = .no ∨ ∃ d, s = .val d) ∧ (t = .no ∨ ∃ d, t = .val d) ∧ ρ = [.val (tRs rs), .val (tupS nm), s, t]) (fun ρ => ρ.take 2 = [.val (tRs rs), .val (tupS nm)]) (fun p => (matchedM p.1 nm).isSome) (fun p => .int p.2) (ρ := [.val (tRs rs), .val (tupS nm), .no, .no]) ⟨.no, .no, .inl rfl, .inl rfl, rfl⟩ (by
    rintro ⟨r, k⟩ hx ρ ⟨s, t, hs, ht, rfl⟩
    have hm : r ∈ rs := List.mem_of_getElem? (List.mem_zipIdx_iff_getElem?.mp hx)
    have e0 := lmade_ok r (hr r hm) nm hn
    unfold madeM at e0
    refine ⟨[.val (tRs rs), .val (tupS nm), .val (.int k), .val r.enc], [.val (tRs rs), .val (tupS nm), .val (.int k), .val r.enc], ?_, ?_⟩
    · rcases hs with rfl | ⟨d, rfl⟩ <;> rcases ht with rfl | ⟨d', rfl⟩ <;> rfl
    · cases hmm : matchedM r nm with
      | none =>
        rw [hmm] at e0
        simp only [encO, Option.map_none] at e0
        refine .inl ⟨by simp only [hmm, Option.isSome], ?_, .val (.int k), .val r.enc, .inr ⟨_, rfl⟩, .inr ⟨_, rfl⟩, rfl⟩
        simp only [ev_seq, ev_seq_nx, ev_seq_rt, ev_seq_ex, ev_seq_bk, ev_seq_ct, ev_seq_st, ev_seq_ite, ev_next, ev_ifs, ev_ites, ev_ites_ex, ev_ret, ev_drop, ev_out, ev_out_ex, ev_outA, ev_c, ev_set, ev_own, ev_bind, ev_bind_ex, ev_bindA, ev_op, ev_un, ev_call, ev_ofO, ev_nil, ev_cons, ev_consok, ev_push, ev_tup, ev_lst, ev_not, ev_notb, ev_and, ev_or, ev_if, ev_ite, ev_chain, ev_var, ev_ixO, ev_setIx, ev_augIx, ev_opOL, ev_callO, ev_ref, ev_mut, ev_callF, ev_callN, ev_back, ev_backX, ev_backN, ev_mk0, ev_mkv, ev_mkr, ev_wb0, ev_wbv, ev_wbr, ev_iter, ev_iterA, ev_comp, ev_for, ev_sl, ev_part0, ev_part1, ev_mpart, ev_asg, ev_par, ev_listOf, ev_binL, ev_gN, ev_gT, ev_gA0, ev_gA, ev_noIo0, ev_noIo, ev_wipe0, ev_wipe, ev_compL0, ev_compL, ev_forL0, ev_forL, at2_0, at2_1, ixN2_0, ixN2_1, fnSem, List.length_cons, List.length_nil, List.replicate, List.append_eq, List.cons_append, List.nil_append, List.getElem?_cons_zero, List.getElem?_cons_succ, List.set_cons_zero, List.set_cons_succ, List.take_succ_cons, List.take_zero, isIoAt, lstAt, setL, Nat.reduceAdd, Nat.reduceSub, Option.map_some, Option.bind_some, if_true, if_false, Bool.false_eq_true, ite_true, ite_false, reduceIte, Int.natCast_add, decide_eq_true_eq, decide_true, decide_false, Bool.not_true, Bool.not_false, Bool.not_eq_true, and_self, and_true, true_and, Nat.reduceLeDiff, Nat.reduceLT, Bool.and_true, Bool.true_and, Bool.and_false, Bool.false_and, e0, isNot_none]
      | some l =>
        rw [hmm] at e0
        simp only [encO, Option.map_some] at e0
        refine .inr ⟨by simp only [hmm, Option.isSome], ?_, rfl⟩
        simp only [ev_seq, ev_seq_nx, ev_seq_rt, ev_seq_ex, ev_seq_bk, ev_seq_ct, ev_seq_st, ev_seq_ite, ev_next, ev_ifs, ev_ites, ev_ites_ex, ev_ret, ev_drop, ev_out, ev_out_ex, ev_outA, ev_c, ev_set, ev_own, ev_bind, ev_bind_ex, ev_bindA, ev_op, ev_un, ev_call, ev_ofO, ev_nil, ev_cons, ev_consok, ev_push, ev_tup, ev_lst, ev_not, ev_notb, ev_and, ev_or, ev_if, ev_ite, ev_chain, ev_var, ev_ixO, ev_setIx, ev_augIx, ev_opOL, ev_callO, ev_ref, ev_mut, ev_callF, ev_callN, ev_back, ev_backX, ev_backN, ev_mk0, ev_mkv, ev_mkr, ev_wb0, ev_wbv, ev_wbr, ev_iter, ev_iterA, ev_comp, ev_for, ev_sl, ev_part0, ev_part1, ev_mpart, ev_asg, ev_par, ev_listOf, ev_binL, ev_gN, ev_gT, ev_gA0, ev_gA, ev_noIo0, ev_noIo, ev_wipe0, ev_wipe, ev_compL0, ev_compL, ev_forL0, ev_forL, at2_0, at2_1, ixN2_0, ixN2_1, fnSem, List.length_cons, List.length_nil, List.replicate, List.append_eq, List.cons_append, List.nil_append, List.getElem?_cons_zero, List.getElem?_cons_succ, List.set_cons_zero, List.set_cons_succ, List.take_succ_cons, List.take_zero, isIoAt, lstAt, setL, Nat.reduceAdd, Nat.reduceSub, Option.map_some, Option.bind_some, if_true, if_false, Bool.false_eq_true, ite_true, ite_false, reduceIte, Int.natCast_add, decide_eq_true_eq, decide_true, decide_false, Bool.not_true, Bool.not_false, Bool.not_eq_true, and_self, and_true, true_and, Nat.reduceLeDiff, Nat.reduceLT, Bool.and_true, Bool.true_and, Bool.and_false, Bool.false_and, e0, isNot_tup])
  have e3 : enumD [tRs rs] = some (rs.zipIdx.map fun p : Rul × Nat => .tuple [.int p.2, p.1.enc]) := by
    show some (enumL _) = _
    rw [enumL_map]
  unfold F_law_first m_law_first firstM
  cases hf : rs.zipIdx.find? (fun p => (matchedM p.1 nm).isSome) with
  | none =>
    obtain ⟨e4, s, t, -, -, rfl⟩ := e1 hf
    simp only [ev_seq, ev_seq_nx, ev_seq_rt, ev_seq_ex, ev_seq_bk, ev_seq_ct, ev_seq_st, ev_seq_ite, ev_next, ev_ifs, ev_ites, ev_ites_ex, ev_ret, ev_drop, ev_out, ev_out_ex, ev_outA, ev_c, ev_set, ev_own, ev_bind, ev_bind_ex, ev_bindA, ev_op, ev_un, ev_call, ev_ofO, ev_nil, ev_cons, ev_consok, ev_push, ev_tup, ev_lst, ev_not, ev_notb, ev_and, ev_or, ev_if, ev_ite, ev_chain, ev_var, ev_ixO, ev_setIx, ev_augIx, ev_opOL, ev_callO, ev_ref, ev_mut, ev_callF, ev_callN, ev_back, ev_backX, ev_backN, ev_mk0, ev_mkv, ev_mkr, ev_wb0, ev_wbv, ev_wbr, ev_iter, ev_iterA, ev_comp, ev_for, ev_sl, ev_part0, ev_part1, ev_mpart, ev_asg, ev_par, ev_listOf, ev_binL, ev_gN, ev_gT, ev_gA0, ev_gA, ev_noIo0, ev_noIo, ev_wipe0, ev_wipe, ev_compL0, ev_compL, ev_forL0, ev_forL, at2_0, at2_1, ixN2_0, ixN2_1, fnSem, List.length_cons, List.length_nil, List.replicate, List.append_eq, List.cons_append, List.nil_append, List.getElem?_cons_zero, List.getElem?_cons_succ, List.set_cons_zero, List.set_cons_succ, List.take_succ_cons, List.take_zero, isIoAt, lstAt, setL, Nat.reduceAdd, Nat.reduceSub, Option.map_some, Option.bind_some, if_true, if_false, Bool.false_eq_true, ite_true, ite_false, reduceIte, Int.natCast_add, decide_eq_true_eq, decide_true, decide_false, Bool.not_true, Bool.not_false, Bool.not_eq_true, and_self, and_true, true_and, Nat.reduceLeDiff, Nat.reduceLT, Bool.and_true, Bool.true_and, Bool.and_false, Bool.false_and, e3, e4]
    rfl
  | some x =>
    obtain ⟨e4, e5⟩ := e2 x hf
    simp only [ev_seq, ev_seq_nx, ev_seq_rt, ev_seq_ex, ev_seq_bk, ev_seq_ct, ev_seq_st, ev_seq_ite, ev_next, ev_ifs, ev_ites, ev_ites_ex, ev_ret, ev_drop, ev_out, ev_out_ex, ev_outA, ev_c, ev_set, ev_own, ev_bind, ev_bind_ex, ev_bindA, ev_op, ev_un, ev_call, ev_ofO, ev_nil, ev_cons, ev_consok, ev_push, ev_tup, ev_lst, ev_not, ev_notb, ev_and, ev_or, ev_if, ev_ite, ev_chain, ev_var, ev_ixO, ev_setIx, ev_augIx, ev_opOL, ev_callO, ev_ref, ev_mut, ev_callF, ev_callN, ev_back, ev_backX, ev_backN, ev_mk0, ev_mkv, ev_mkr, ev_wb0, ev_wbv, ev_wbr, ev_iter, ev_iterA, ev_comp, ev_for, ev_sl, ev_part0, ev_part1, ev_mpart, ev_asg, ev_par, ev_listOf, ev_binL, ev_gN, ev_gT, ev_gA0, ev_gA, ev_noIo0, ev_noIo, ev_wipe0, ev_wipe, ev_compL0, ev_compL, ev_forL0, ev_forL, at2_0, at2_1, ixN2_0, ixN2_1, fnSem, List.length_cons, List.length_nil, List.replicate, List.append_eq, List.cons_append, List.nil_append, List.getElem?_cons_zero, List.getElem?_cons_succ, List.set_cons_zero, List.set_cons_succ, List.take_succ_cons, List.take_zero, isIoAt, lstAt, setL, Nat.reduceAdd, Nat.reduceSub, Option.map_some, Option.bind_some, if_true, if_false, Bool.false_eq_true, ite_true, ite_false, reduceIte, Int.natCast_add, decide_eq_true_eq, decide_true, decide_false, Bool.not_true, Bool.not_false, Bool.not_eq_true, and_self, and_true, true_and, Nat.reduceLeDiff, Nat.reduceLT, Bool.and_true, Bool.true_and, Bool.and_false, Bool.false_and, e3, e4, e5]
    rfl
theorem lturned_ok (rs : List Rul) (hr : ∀ r ∈ rs, RFine r) (nm : List Str) (hn : nm.length ≤ 1000) : F_law_turned [.val (tRs rs), .val (tupS nm)] = .ok (tupS (turnM rs nm)) [.val (tRs rs), .val (tupS nm)] := by
  have e0 := lfirst_ok rs hr nm hn
  unfold F_law_turned m_law_turned turnM
  unfold firstM at e0 ⊢
  cases hf : rs.zipIdx.find? (fun p => (matchedM p.1 nm).isSome) with
  | none =>
    rw [hf] at e0
    simp only [Option.map_none, encN] at e0
    simp only [ev_seq, ev_seq_nx, ev_seq_rt, ev_seq_ex, ev_seq_bk, ev_seq_ct, ev_seq_st, ev_seq_ite, ev_next, ev_ifs, ev_ites, ev_ites_ex, ev_ret, ev_drop, ev_out, ev_out_ex, ev_outA, ev_c, ev_set, ev_own, ev_bind, ev_bind_ex, ev_bindA, ev_op, ev_un, ev_call, ev_ofO, ev_nil, ev_cons, ev_consok, ev_push, ev_tup, ev_lst, ev_not, ev_notb, ev_and, ev_or, ev_if, ev_ite, ev_chain, ev_var, ev_ixO, ev_setIx, ev_augIx, ev_opOL, ev_callO, ev_ref, ev_mut, ev_callF, ev_callN, ev_back, ev_backX, ev_backN, ev_mk0, ev_mkv, ev_mkr, ev_wb0, ev_wbv, ev_wbr, ev_iter, ev_iterA, ev_comp, ev_for, ev_sl, ev_part0, ev_part1, ev_mpart, ev_asg, ev_par, ev_listOf, ev_binL, ev_gN, ev_gT, ev_gA0, ev_gA, ev_noIo0, ev_noIo, ev_wipe0, ev_wipe, ev_compL0, ev_compL, ev_forL0, ev_forL, at2_0, at2_1, ixN2_0, ixN2_1, fnSem, List.length_cons, List.length_nil, List.replicate, List.append_eq, List.cons_append, List.nil_append, List.getElem?_cons_zero, List.getElem?_cons_succ, List.set_cons_zero, List.set_cons_succ, List.take_succ_cons, List.take_zero, isIoAt, lstAt, setL, Nat.reduceAdd, Nat.reduceSub, Option.map_some, Option.bind_some, if_true, if_false, Bool.false_eq_true, ite_true, ite_false, reduceIte, Int.natCast_add, decide_eq_true_eq, decide_true, decide_false, Bool.not_true, Bool.not_false, Bool.not_eq_true, and_self, and_true, true_and, Nat.reduceLeDiff, Nat.reduceLT, Bool.and_true, Bool.true_and, Bool.and_false, Bool.false_and, e0, isN_none, Option.map_none]
  | some x =>
    rw [hf] at e0
    simp only [Option.map_some, encN] at e0
    have hx := List.mem_zipIdx_iff_getElem?.mp (List.mem_of_find?_eq_some hf)
    have hs := List.find?_some hf
    have e1 := lmade_ok x.1 (hr x.1 (List.mem_of_getElem? hx)) nm hn
    have hix : ixD (tRs rs) (.int x.2) = some x.1.enc := ix_map hx
    have hin : isN1 (.int x.2) .none = some (.bool false) := rfl
    simp only [Option.map_some, hx]
    unfold madeM at e1 ⊢
    cases hm : matchedM x.1 nm with
    | none =>
      simp only [hm] at hs
      cases hs
    | some l =>
      rw [hm] at e1
      simp only [Option.map_some, encO] at e1
      simp only [ev_seq, ev_seq_nx, ev_seq_rt, ev_seq_ex, ev_seq_bk, ev_seq_ct, ev_seq_st, ev_seq_ite, ev_next, ev_ifs, ev_ites, ev_ites_ex, ev_ret, ev_drop, ev_out, ev_out_ex, ev_outA, ev_c, ev_set, ev_own, ev_bind, ev_bind_ex, ev_bindA, ev_op, ev_un, ev_call, ev_ofO, ev_nil, ev_cons, ev_consok, ev_push, ev_tup, ev_lst, ev_not, ev_notb, ev_and, ev_or, ev_if, ev_ite, ev_chain, ev_var, ev_ixO, ev_setIx, ev_augIx, ev_opOL, ev_callO, ev_ref, ev_mut, ev_callF, ev_callN, ev_back, ev_backX, ev_backN, ev_mk0, ev_mkv, ev_mkr, ev_wb0, ev_wbv, ev_wbr, ev_iter, ev_iterA, ev_comp, ev_for, ev_sl, ev_part0, ev_part1, ev_mpart, ev_asg, ev_par, ev_listOf, ev_binL, ev_gN, ev_gT, ev_gA0, ev_gA, ev_noIo0, ev_noIo, ev_wipe0, ev_wipe, ev_compL0, ev_compL, ev_forL0, ev_forL, at2_0, at2_1, ixN2_0, ixN2_1, fnSem, List.length_cons, List.length_nil, List.replicate, List.append_eq, List.cons_append, List.nil_append, List.getElem?_cons_zero, List.getElem?_cons_succ, List.set_cons_zero, List.set_cons_succ, List.take_succ_cons, List.take_zero, isIoAt, lstAt, setL, Nat.reduceAdd, Nat.reduceSub, Option.map_some, Option.bind_some, if_true, if_false, Bool.false_eq_true, ite_true, ite_false, reduceIte, Int.natCast_add, decide_eq_true_eq, decide_true, decide_false, Bool.not_true, Bool.not_false, Bool.not_eq_true, and_self, and_true, true_and, Nat.reduceLeDiff, Nat.reduceLT, Bool.and_true, Bool.true_and, Bool.and_false, Bool.false_and, e0, hin, hix, e1]
      simp only [Option.map_some, Option.getD_some]
/-- a good rule, a good script, a good name -/
def GR (r : Rul) : Prop := F_is_rule [.val r.enc] = .ok (.bool true) [.val r.enc]
def GS (rs : List Rul) : Prop := F_is_script [.val (tRs rs)] = .ok (.bool true) [.val (tRs rs)]
def GN (nm : List Str) : Prop := F_is_name [.val (tupS nm)] = .ok (.bool true) [.val (tupS nm)]
theorem need_name_ok {nm : List Str} (h : GN nm) : F_need_name [.val (tupS nm)] = .ok .none [.val (tupS nm)] := by
  unfold GN at h
  unfold F_need_name m_need_name
  simp only [ev_seq, ev_seq_nx, ev_seq_rt, ev_seq_ex, ev_seq_bk, ev_seq_ct, ev_seq_st, ev_seq_ite, ev_next, ev_ifs, ev_ites, ev_ites_ex, ev_ret, ev_drop, ev_out, ev_out_ex, ev_outA, ev_c, ev_set, ev_own, ev_bind, ev_bind_ex, ev_bindA, ev_op, ev_un, ev_call, ev_ofO, ev_nil, ev_cons, ev_consok, ev_push, ev_tup, ev_lst, ev_not, ev_notb, ev_and, ev_or, ev_if, ev_ite, ev_chain, ev_var, ev_ixO, ev_setIx, ev_augIx, ev_opOL, ev_callO, ev_ref, ev_mut, ev_callF, ev_callN, ev_back, ev_backX, ev_backN, ev_mk0, ev_mkv, ev_mkr, ev_wb0, ev_wbv, ev_wbr, ev_iter, ev_iterA, ev_comp, ev_for, ev_sl, ev_part0, ev_part1, ev_mpart, ev_asg, ev_par, ev_listOf, ev_binL, ev_gN, ev_gT, ev_gA0, ev_gA, ev_noIo0, ev_noIo, ev_wipe0, ev_wipe, ev_compL0, ev_compL, ev_forL0, ev_forL, at2_0, at2_1, ixN2_0, ixN2_1, fnSem, List.length_cons, List.length_nil, List.replicate, List.append_eq, List.cons_append, List.nil_append, List.getElem?_cons_zero, List.getElem?_cons_succ, List.set_cons_zero, List.set_cons_succ, List.take_succ_cons, List.take_zero, isIoAt, lstAt, setL, Nat.reduceAdd, Nat.reduceSub, Option.map_some, Option.bind_some, if_true, if_false, Bool.false_eq_true, ite_true, ite_false, reduceIte, Int.natCast_add, decide_eq_true_eq, decide_true, decide_false, Bool.not_true, Bool.not_false, Bool.not_eq_true, and_self, and_true, true_and, Nat.reduceLeDiff, Nat.reduceLT, Bool.and_true, Bool.true_and, Bool.and_false, Bool.false_and, h]
theorem need_rule_ok {r : Rul} (h : GR r) : F_need_rule [.val r.enc] = .ok .none [.val r.enc] := by
  unfold GR at h
  unfold F_need_rule m_need_rule
  simp only [ev_seq, ev_seq_nx, ev_seq_rt, ev_seq_ex, ev_seq_bk, ev_seq_ct, ev_seq_st, ev_seq_ite, ev_next, ev_ifs, ev_ites, ev_ites_ex, ev_ret, ev_drop, ev_out, ev_out_ex, ev_outA, ev_c, ev_set, ev_own, ev_bind, ev_bind_ex, ev_bindA, ev_op, ev_un, ev_call, ev_ofO, ev_nil, ev_cons, ev_consok, ev_push, ev_tup, ev_lst, ev_not, ev_notb, ev_and, ev_or, ev_if, ev_ite, ev_chain, ev_var, ev_ixO, ev_setIx, ev_augIx, ev_opOL, ev_callO, ev_ref, ev_mut, ev_callF, ev_callN, ev_back, ev_backX, ev_backN, ev_mk0, ev_mkv, ev_mkr, ev_wb0, ev_wbv, ev_wbr, ev_iter, ev_iterA, ev_comp, ev_for, ev_sl, ev_part0, ev_part1, ev_mpart, ev_asg, ev_par, ev_listOf, ev_binL, ev_gN, ev_gT, ev_gA0, ev_gA, ev_noIo0, ev_noIo, ev_wipe0, ev_wipe, ev_compL0, ev_compL, ev_forL0, ev_forL, at2_0, at2_1, ixN2_0, ixN2_1, fnSem, List.length_cons, List.length_nil, List.replicate, List.append_eq, List.cons_append, List.nil_append, List.getElem?_cons_zero, List.getElem?_cons_succ, List.set_cons_zero, List.set_cons_succ, List.take_succ_cons, List.take_zero, isIoAt, lstAt, setL, Nat.reduceAdd, Nat.reduceSub, Option.map_some, Option.bind_some, if_true, if_false, Bool.false_eq_true, ite_true, ite_false, reduceIte, Int.natCast_add, decide_eq_true_eq, decide_true, decide_false, Bool.not_true, Bool.not_false, Bool.not_eq_true, and_self, and_true, true_and, Nat.reduceLeDiff, Nat.reduceLT, Bool.and_true, Bool.true_and, Bool.and_false, Bool.false_and, h]
theorem need_script_ok {rs : List Rul} (h : GS rs) : F_need_script [.val (tRs rs)] = .ok .none [.val (tRs rs)] := by
  unfold GS at h
  unfold F_need_script m_need_script
  simp only [ev_seq, ev_seq_nx, ev_seq_rt, ev_seq_ex, ev_seq_bk, ev_seq_ct, ev_seq_st, ev_seq_ite, ev_next, ev_ifs, ev_ites, ev_ites_ex, ev_ret, ev_drop, ev_out, ev_out_ex, ev_outA, ev_c, ev_set, ev_own, ev_bind, ev_bind_ex, ev_bindA, ev_op, ev_un, ev_call, ev_ofO, ev_nil, ev_cons, ev_consok, ev_push, ev_tup, ev_lst, ev_not, ev_notb, ev_and, ev_or, ev_if, ev_ite, ev_chain, ev_var, ev_ixO, ev_setIx, ev_augIx, ev_opOL, ev_callO, ev_ref, ev_mut, ev_callF, ev_callN, ev_back, ev_backX, ev_backN, ev_mk0, ev_mkv, ev_mkr, ev_wb0, ev_wbv, ev_wbr, ev_iter, ev_iterA, ev_comp, ev_for, ev_sl, ev_part0, ev_part1, ev_mpart, ev_asg, ev_par, ev_listOf, ev_binL, ev_gN, ev_gT, ev_gA0, ev_gA, ev_noIo0, ev_noIo, ev_wipe0, ev_wipe, ev_compL0, ev_compL, ev_forL0, ev_forL, at2_0, at2_1, ixN2_0, ixN2_1, fnSem, List.length_cons, List.length_nil, List.replicate, List.append_eq, List.cons_append, List.nil_append, List.getElem?_cons_zero, List.getElem?_cons_succ, List.set_cons_zero, List.set_cons_succ, List.take_succ_cons, List.take_zero, isIoAt, lstAt, setL, Nat.reduceAdd, Nat.reduceSub, Option.map_some, Option.bind_some, if_true, if_false, Bool.false_eq_true, ite_true, ite_false, reduceIte, Int.natCast_add, decide_eq_true_eq, decide_true, decide_false, Bool.not_true, Bool.not_false, Bool.not_eq_true, and_self, and_true, true_and, Nat.reduceLeDiff, Nat.reduceLT, Bool.and_true, Bool.true_and, Bool.and_false, Bool.false_and, h]
theorem isNot_encO (o : Option (List Str)) : isNotN1 (encO o) .none = some (.bool o.isSome) := by cases o <;> rfl
theorem fits_ok {r : Rul} {nm : List Str} (h1 : GR r) (h2 : GN nm) (hr : RFine r) (hn : nm.length ≤ 1000) : F_fits [.val r.enc, .val (tupS nm)] = .ok (.bool (matchedM r nm).isSome) [.val r.enc, .val (tupS nm)] := by
  have e1 := need_rule_ok h1
  have e2 := need_name_ok h2
  have e3 := fitting_ok r hr nm hn
  unfold F_fits m_fits
  simp only [ev_seq, ev_seq_nx, ev_seq_rt, ev_seq_ex, ev_seq_bk, ev_seq_ct, ev_seq_st, ev_seq_ite, ev_next, ev_ifs, ev_ites, ev_ites_ex, ev_ret, ev_drop, ev_out, ev_out_ex, ev_outA, ev_c, ev_set, ev_own, ev_bind, ev_bind_ex, ev_bindA, ev_op, ev_un, ev_call, ev_ofO, ev_nil, ev_cons, ev_consok, ev_push, ev_tup, ev_lst, ev_not, ev_notb, ev_and, ev_or, ev_if, ev_ite, ev_chain, ev_var, ev_ixO, ev_setIx, ev_augIx, ev_opOL, ev_callO, ev_ref, ev_mut, ev_callF, ev_callN, ev_back, ev_backX, ev_backN, ev_mk0, ev_mkv, ev_mkr, ev_wb0, ev_wbv, ev_wbr, ev_iter, ev_iterA, ev_comp, ev_for, ev_sl, ev_part0, ev_part1, ev_mpart, ev_asg, ev_par, ev_listOf, ev_binL, ev_gN, ev_gT, ev_gA0, ev_gA, ev_noIo0, ev_noIo, ev_wipe0, ev_wipe, ev_compL0, ev_compL, ev_forL0, ev_forL, at2_0, at2_1, ixN2_0, ixN2_1, fnSem, List.length_cons, List.length_nil, List.replicate, List.append_eq, List.cons_append, List.nil_append, List.getElem?_cons_zero, List.getElem?_cons_succ, List.set_cons_zero, List.set_cons_succ, List.take_succ_cons, List.take_zero, isIoAt, lstAt, setL, Nat.reduceAdd, Nat.reduceSub, Option.map_some, Option.bind_some, if_true, if_false, Bool.false_eq_true, ite_true, ite_false, reduceIte, Int.natCast_add, decide_eq_true_eq, decide_true, decide_false, Bool.not_true, Bool.not_false, Bool.not_eq_true, and_self, and_true, true_and, Nat.reduceLeDiff, Nat.reduceLT, Bool.and_true, Bool.true_and, Bool.and_false, Bool.false_and, e1, e2, e3]
theorem makes_ok {r : Rul} {nm : List Str} (h1 : GR r) (h2 : GN nm) (hr : RFine r) (hn : nm.length ≤ 1000) : F_makes [.val r.enc, .val (tupS nm)] = .ok (encO (madeM r nm)) [.val r.enc, .val (tupS nm)] := by
  have e1 := need_rule_ok h1
  have e2 := need_name_ok h2
  have e3 := made_ok r hr nm hn
  unfold F_makes m_makes
  simp only [ev_seq, ev_seq_nx, ev_seq_rt, ev_seq_ex, ev_seq_bk, ev_seq_ct, ev_seq_st, ev_seq_ite, ev_next, ev_ifs, ev_ites, ev_ites_ex, ev_ret, ev_drop, ev_out, ev_out_ex, ev_outA, ev_c, ev_set, ev_own, ev_bind, ev_bind_ex, ev_bindA, ev_op, ev_un, ev_call, ev_ofO, ev_nil, ev_cons, ev_consok, ev_push, ev_tup, ev_lst, ev_not, ev_notb, ev_and, ev_or, ev_if, ev_ite, ev_chain, ev_var, ev_ixO, ev_setIx, ev_augIx, ev_opOL, ev_callO, ev_ref, ev_mut, ev_callF, ev_callN, ev_back, ev_backX, ev_backN, ev_mk0, ev_mkv, ev_mkr, ev_wb0, ev_wbv, ev_wbr, ev_iter, ev_iterA, ev_comp, ev_for, ev_sl, ev_part0, ev_part1, ev_mpart, ev_asg, ev_par, ev_listOf, ev_binL, ev_gN, ev_gT, ev_gA0, ev_gA, ev_noIo0, ev_noIo, ev_wipe0, ev_wipe, ev_compL0, ev_compL, ev_forL0, ev_forL, at2_0, at2_1, ixN2_0, ixN2_1, fnSem, List.length_cons, List.length_nil, List.replicate, List.append_eq, List.cons_append, List.nil_append, List.getElem?_cons_zero, List.getElem?_cons_succ, List.set_cons_zero, List.set_cons_succ, List.take_succ_cons, List.take_zero, isIoAt, lstAt, setL, Nat.reduceAdd, Nat.reduceSub, Option.map_some, Option.bind_some, if_true, if_false, Bool.false_eq_true, ite_true, ite_false, reduceIte, Int.natCast_add, decide_eq_true_eq, decide_true, decide_false, Bool.not_true, Bool.not_false, Bool.not_eq_true, and_self, and_true, true_and, Nat.reduceLeDiff, Nat.reduceLT, Bool.and_true, Bool.true_and, Bool.and_false, Bool.false_and, e1, e2, e3]
theorem first_ok {rs : List Rul} {nm : List Str} (h1 : GS rs) (h2 : GN nm) (hr : ∀ r ∈ rs, RFine r) (hn : nm.length ≤ 1000) : F_first [.val (tRs rs), .val (tupS nm)] = .ok (encN (firstM rs nm)) [.val (tRs rs), .val (tupS nm)] := by
  have e1 := need_script_ok h1
  have e2 := need_name_ok h2
  have e3 := firstfit_ok rs hr nm hn
  unfold F_first m_first
  simp only [ev_seq, ev_seq_nx, ev_seq_rt, ev_seq_ex, ev_seq_bk, ev_seq_ct, ev_seq_st, ev_seq_ite, ev_next, ev_ifs, ev_ites, ev_ites_ex, ev_ret, ev_drop, ev_out, ev_out_ex, ev_outA, ev_c, ev_set, ev_own, ev_bind, ev_bind_ex, ev_bindA, ev_op, ev_un, ev_call, ev_ofO, ev_nil, ev_cons, ev_consok, ev_push, ev_tup, ev_lst, ev_not, ev_notb, ev_and, ev_or, ev_if, ev_ite, ev_chain, ev_var, ev_ixO, ev_setIx, ev_augIx, ev_opOL, ev_callO, ev_ref, ev_mut, ev_callF, ev_callN, ev_back, ev_backX, ev_backN, ev_mk0, ev_mkv, ev_mkr, ev_wb0, ev_wbv, ev_wbr, ev_iter, ev_iterA, ev_comp, ev_for, ev_sl, ev_part0, ev_part1, ev_mpart, ev_asg, ev_par, ev_listOf, ev_binL, ev_gN, ev_gT, ev_gA0, ev_gA, ev_noIo0, ev_noIo, ev_wipe0, ev_wipe, ev_compL0, ev_compL, ev_forL0, ev_forL, at2_0, at2_1, ixN2_0, ixN2_1, fnSem, List.length_cons, List.length_nil, List.replicate, List.append_eq, List.cons_append, List.nil_append, List.getElem?_cons_zero, List.getElem?_cons_succ, List.set_cons_zero, List.set_cons_succ, List.take_succ_cons, List.take_zero, isIoAt, lstAt, setL, Nat.reduceAdd, Nat.reduceSub, Option.map_some, Option.bind_some, if_true, if_false, Bool.false_eq_true, ite_true, ite_false, reduceIte, Int.natCast_add, decide_eq_true_eq, decide_true, decide_false, Bool.not_true, Bool.not_false, Bool.not_eq_true, and_self, and_true, true_and, Nat.reduceLeDiff, Nat.reduceLT, Bool.and_true, Bool.true_and, Bool.and_false, Bool.false_and, e1, e2, e3]
theorem turned_ok {rs : List Rul} {nm : List Str} (h1 : GS rs) (h2 : GN nm) (hr : ∀ r ∈ rs, RFine r) (hn : nm.length ≤ 1000) : F_turned [.val (tRs rs), .val (tupS nm)] = .ok (tupS (turnM rs nm)) [.val (tRs rs), .val (tupS nm)] := by
  have e1 := need_script_ok h1
  have e2 := need_name_ok h2
  have e3 := turn_ok rs hr nm hn
  unfold F_turned m_turned
  simp only [ev_seq, ev_seq_nx, ev_seq_rt, ev_seq_ex, ev_seq_bk, ev_seq_ct, ev_seq_st, ev_seq_ite, ev_next, ev_ifs, ev_ites, ev_ites_ex, ev_ret, ev_drop, ev_out, ev_out_ex, ev_outA, ev_c, ev_set, ev_own, ev_bind, ev_bind_ex, ev_bindA, ev_op, ev_un, ev_call, ev_ofO, ev_nil, ev_cons, ev_consok, ev_push, ev_tup, ev_lst, ev_not, ev_notb, ev_and, ev_or, ev_if, ev_ite, ev_chain, ev_var, ev_ixO, ev_setIx, ev_augIx, ev_opOL, ev_callO, ev_ref, ev_mut, ev_callF, ev_callN, ev_back, ev_backX, ev_backN, ev_mk0, ev_mkv, ev_mkr, ev_wb0, ev_wbv, ev_wbr, ev_iter, ev_iterA, ev_comp, ev_for, ev_sl, ev_part0, ev_part1, ev_mpart, ev_asg, ev_par, ev_listOf, ev_binL, ev_gN, ev_gT, ev_gA0, ev_gA, ev_noIo0, ev_noIo, ev_wipe0, ev_wipe, ev_compL0, ev_compL, ev_forL0, ev_forL, at2_0, at2_1, ixN2_0, ixN2_1, fnSem, List.length_cons, List.length_nil, List.replicate, List.append_eq, List.cons_append, List.nil_append, List.getElem?_cons_zero, List.getElem?_cons_succ, List.set_cons_zero, List.set_cons_succ, List.take_succ_cons, List.take_zero, isIoAt, lstAt, setL, Nat.reduceAdd, Nat.reduceSub, Option.map_some, Option.bind_some, if_true, if_false, Bool.false_eq_true, ite_true, ite_false, reduceIte, Int.natCast_add, decide_eq_true_eq, decide_true, decide_false, Bool.not_true, Bool.not_false, Bool.not_eq_true, and_self, and_true, true_and, Nat.reduceLeDiff, Nat.reduceLT, Bool.and_true, Bool.true_and, Bool.and_false, Bool.false_and, e1, e2, e3]
theorem ne_encO (o : Option (List Str)) : neD (encO o) (encO o) = some (.bool false) := by
  cases o with
  | none => rfl
  | some l => show neD (tupS l) (tupS l) = _; rw [neD_tupS]; simp
theorem eq_encN (o : Option Nat) : eqD (encN o) (encN o) = some (.bool true) := by
  cases o with
  | none => rfl
  | some l => show eqD (.int l) (.int l) = _; rw [eqD_int]; simp
theorem ne_bool (b : Bool) : neD (.bool b) (.bool b) = some (.bool false) := by cases b <;> rfl
end NS

set_option Elab.async false
set_option linter.all false
set_option autoImplicit false
set_option maxRecDepth 100000
set_option maxHeartbeats 4000000
/-! refusals: what is no rule, no script, no name. -/
namespace NS
open PySem PySem.Spec PyProof.Rows L2
/-- a loop of turns that all go on -/
theorem forL_each {g : Dt → Ev → Option Ev} {b : Ev → Out} (I : Ev → Prop) : ∀ (ds : List Dt) (ρ : Ev), I ρ → (∀ d ∈ ds, ∀ ρ, I ρ → ∃ ρ1 ρ2, g d ρ = some ρ1 ∧ b ρ1 = .nx ρ2 ∧ I ρ2) → ∃ ρ', forL g b ds ρ = .nx ρ' ∧ I ρ'
  | [], ρ, h, _ => ⟨ρ, rfl, h⟩
  | d :: ds, ρ, h, k => by
    obtain ⟨ρ1, ρ2, e1, e2, e3⟩ := k d (List.mem_cons_self ..) ρ h
    obtain ⟨ρ', e4, e5⟩ := forL_each I ds ρ2 e3 fun d' m => k d' (List.mem_cons_of_mem _ m)
    refine ⟨ρ', ?_, e5⟩
    rw [ev_forL, e1]
    simp only [e2]
    exact e4
def NotRule (d : Dt) : Prop := F_is_rule [.val d] = .ok (.bool false) [.val d]
def NotScript (d : Dt) : Prop := F_is_script [.val d] = .ok (.bool false) [.val d]
def NotName (d : Dt) : Prop := F_is_name [.val d] = .ok (.bool false) [.val d]
/-- a script of things of which it is known whether they are rules -/
theorem isscript_gen (ds : List Dt) (b : Dt → Bool) (hl : ds.length ≤ 4) (h : ∀ d ∈ ds, F_is_rule [.val d] = .ok (.bool (b d)) [.val d]) : F_is_script [.val (.tuple ds)] = .ok (.bool (ds.all b)) [.val (.tuple ds)] := by
  unfold F_is_script m_is_script
  have e1 := compL_map (vs := [1]) (g := gN 1) (mb := mCallN F_is_rule [none] (mCons (mVar 1) mNil)) (ρ := [.val (.tuple ds), .no]) (fun d => .bool (b d)) ds (by omega) (by
    intro d hd
    refine ⟨[.val (.tuple ds), .val d], [.val (.tuple ds), .val d], rfl, ?_, rfl, rfl⟩
    have := h d hd
    simp only [ev_seq, ev_seq_nx, ev_seq_rt, ev_seq_ex, ev_seq_bk, ev_seq_ct, ev_seq_st, ev_seq_ite, ev_next, ev_ifs, ev_ites, ev_ites_ex, ev_ret, ev_drop, ev_out, ev_out_ex, ev_outA, ev_c, ev_set, ev_own, ev_bind, ev_bind_ex, ev_bindA, ev_op, ev_un, ev_call, ev_ofO, ev_nil, ev_cons, ev_consok, ev_push, ev_tup, ev_lst, ev_not, ev_notb, ev_and, ev_or, ev_if, ev_ite, ev_chain, ev_var, ev_ixO, ev_setIx, ev_augIx, ev_opOL, ev_callO, ev_ref, ev_mut, ev_callF, ev_callN, ev_back, ev_backX, ev_backN, ev_mk0, ev_mkv, ev_mkr, ev_wb0, ev_wbv, ev_wbr, ev_iter, ev_iterA, ev_comp, ev_for, ev_sl, ev_part0, ev_part1, ev_mpart, ev_asg, ev_par, ev_listOf, ev_binL, ev_gN, ev_gT, ev_gA0, ev_gA, ev_noIo0, ev_noIo, ev_wipe0, ev_wipe, ev_compL0, ev_compL, ev_forL0, ev_forL, at2_0, at2_1, ixN2_0, ixN2_1, fnSem, List.length_cons, List.length_nil, List.replicate, List.append_eq, List.cons_append, List.nil_append, List.getElem?_cons_zero, List.getElem?_cons_succ, List.set_cons_zero, List.set_cons_succ, List.take_succ_cons, List.take_zero, isIoAt, lstAt, setL, Nat.reduceAdd, Nat.reduceSub, Option.map_some, Option.bind_some, if_true, if_false, Bool.false_eq_true, ite_true, ite_false, reduceIte, Int.natCast_add, decide_eq_true_eq, decide_true, decide_false, Bool.not_true, Bool.not_false, Bool.not_eq_true, and_self, and_true, true_and, Nat.reduceLeDiff, Nat.reduceLT, Bool.and_true, Bool.true_and, Bool.and_false, Bool.false_and, this])
  have c1 : ¬ (4:Int) < ds.length := by omega
  have e2 := allD_map b ds
  simp only [ev_seq, ev_seq_nx, ev_seq_rt, ev_seq_ex, ev_seq_bk, ev_seq_ct, ev_seq_st, ev_seq_ite, ev_next, ev_ifs, ev_ites, ev_ites_ex, ev_ret, ev_drop, ev_out, ev_out_ex, ev_outA, ev_c, ev_set, ev_own, ev_bind, ev_bind_ex, ev_bindA, ev_op, ev_un, ev_call, ev_ofO, ev_nil, ev_cons, ev_consok, ev_push, ev_tup, ev_lst, ev_not, ev_notb, ev_and, ev_or, ev_if, ev_ite, ev_chain, ev_var, ev_ixO, ev_setIx, ev_augIx, ev_opOL, ev_callO, ev_ref, ev_mut, ev_callF, ev_callN, ev_back, ev_backX, ev_backN, ev_mk0, ev_mkv, ev_mkr, ev_wb0, ev_wbv, ev_wbr, ev_iter, ev_iterA, ev_comp, ev_for, ev_sl, ev_part0, ev_part1, ev_mpart, ev_asg, ev_par, ev_listOf, ev_binL, ev_gN, ev_gT, ev_gA0, ev_gA, ev_noIo0, ev_noIo, ev_wipe0, ev_wipe, ev_compL0, ev_compL, ev_forL0, ev_forL, at2_0, at2_1, ixN2_0, ixN2_1, fnSem, List.length_cons, List.length_nil, List.replicate, List.append_eq, List.cons_append, List.nil_append, List.getElem?_cons_zero, List.getElem?_cons_succ, List.set_cons_zero, List.set_cons_succ, List.take_succ_cons, List.take_zero, isIoAt, lstAt, setL, Nat.reduceAdd, Nat.reduceSub, Option.map_some, Option.bind_some, if_true, if_false, Bool.false_eq_true, ite_true, ite_false, reduceIte, Int.natCast_add, decide_eq_true_eq, decide_true, decide_false, Bool.not_true, Bool.not_false, Bool.not_eq_true, and_self, and_true, true_and, Nat.reduceLeDiff, Nat.reduceLT, Bool.and_true, Bool.true_and, Bool.and_false, Bool.false_and, isi_t, len_t, gtD_i, c1, seqD_t, e1, e2]
theorem notScript_one {d : Dt} (h : NotRule d) : NotScript (.tuple [d]) := by
  have := isscript_gen [d] (fun _ => false) (by simp) (by
    intro x hx
    rw [List.mem_singleton] at hx
    subst hx
    exact h)
  exact this
theorem notScript_with {rs : List Rul} {d : Dt} (hr : ∀ r ∈ rs, GR r) (hl : rs.length ≤ 3) (h : NotRule d) : NotScript (.tuple (rs.map Rul.enc ++ [d])) := by
  unfold NotScript
  have key : ∀ x ∈ rs.map Rul.enc ++ [d], ∃ k : Bool, F_is_rule [.val x] = .ok (.bool k) [.val x] := by
    intro x hx
    rcases List.mem_append.mp hx with hx | hx
    · obtain ⟨r, hm, rfl⟩ := List.mem_map.mp hx
      exact ⟨true, hr r hm⟩
    · rw [List.mem_singleton] at hx
      subst hx
      exact ⟨false, h⟩
  have := isscript_gen (rs.map Rul.enc ++ [d]) (fun x => match F_is_rule [.val x] with | .ok (.bool k) _ => k | _ => false) (by rw [List.length_append, List.length_map]; simp; omega) (by
    intro x hx
    obtain ⟨k, hk⟩ := key x hx
    rw [hk])
  rw [this]
  unfold NotRule at h
  have e : (rs.map Rul.enc ++ [d]).all (fun x => match F_is_rule [.val x] with | .ok (.bool k) _ => k | _ => false) = false := by
    rw [List.all_append]
    simp only [List.all_cons, List.all_nil, h, Bool.and_false, Bool.false_and]
  rw [e]
theorem need_rule_no {d : Dt} (h : NotRule d) : F_need_rule [.val d] = .exc ⟨"NoRule", none⟩ [.val d] := by
  unfold NotRule at h
  unfold F_need_rule m_need_rule
  simp only [ev_seq, ev_seq_nx, ev_seq_rt, ev_seq_ex, ev_seq_bk, ev_seq_ct, ev_seq_st, ev_seq_ite, ev_next, ev_ifs, ev_ites, ev_ites_ex, ev_ret, ev_drop, ev_out, ev_out_ex, ev_outA, ev_c, ev_set, ev_own, ev_bind, ev_bind_ex, ev_bindA, ev_op, ev_un, ev_call, ev_ofO, ev_nil, ev_cons, ev_consok, ev_push, ev_tup, ev_lst, ev_not, ev_notb, ev_and, ev_or, ev_if, ev_ite, ev_chain, ev_var, ev_ixO, ev_setIx, ev_augIx, ev_opOL, ev_callO, ev_ref, ev_mut, ev_callF, ev_callN, ev_back, ev_backX, ev_backN, ev_mk0, ev_mkv, ev_mkr, ev_wb0, ev_wbv, ev_wbr, ev_iter, ev_iterA, ev_comp, ev_for, ev_sl, ev_part0, ev_part1, ev_mpart, ev_asg, ev_par, ev_listOf, ev_binL, ev_gN, ev_gT, ev_gA0, ev_gA, ev_noIo0, ev_noIo, ev_wipe0, ev_wipe, ev_compL0, ev_compL, ev_forL0, ev_forL, at2_0, at2_1, ixN2_0, ixN2_1, fnSem, List.length_cons, List.length_nil, List.replicate, List.append_eq, List.cons_append, List.nil_append, List.getElem?_cons_zero, List.getElem?_cons_succ, List.set_cons_zero, List.set_cons_succ, List.take_succ_cons, List.take_zero, isIoAt, lstAt, setL, Nat.reduceAdd, Nat.reduceSub, Option.map_some, Option.bind_some, if_true, if_false, Bool.false_eq_true, ite_true, ite_false, reduceIte, Int.natCast_add, decide_eq_true_eq, decide_true, decide_false, Bool.not_true, Bool.not_false, Bool.not_eq_true, and_self, and_true, true_and, Nat.reduceLeDiff, Nat.reduceLT, Bool.and_true, Bool.true_and, Bool.and_false, Bool.false_and, h]
theorem need_script_no {d : Dt} (h : NotScript d) : F_need_script [.val d] = .exc ⟨"NoScript", none⟩ [.val d] := by
  unfold NotScript at h
  unfold F_need_script m_need_script
  simp only [ev_seq, ev_seq_nx, ev_seq_rt, ev_seq_ex, ev_seq_bk, ev_seq_ct, ev_seq_st, ev_seq_ite, ev_next, ev_ifs, ev_ites, ev_ites_ex, ev_ret, ev_drop, ev_out, ev_out_ex, ev_outA, ev_c, ev_set, ev_own, ev_bind, ev_bind_ex, ev_bindA, ev_op, ev_un, ev_call, ev_ofO, ev_nil, ev_cons, ev_consok, ev_push, ev_tup, ev_lst, ev_not, ev_notb, ev_and, ev_or, ev_if, ev_ite, ev_chain, ev_var, ev_ixO, ev_setIx, ev_augIx, ev_opOL, ev_callO, ev_ref, ev_mut, ev_callF, ev_callN, ev_back, ev_backX, ev_backN, ev_mk0, ev_mkv, ev_mkr, ev_wb0, ev_wbv, ev_wbr, ev_iter, ev_iterA, ev_comp, ev_for, ev_sl, ev_part0, ev_part1, ev_mpart, ev_asg, ev_par, ev_listOf, ev_binL, ev_gN, ev_gT, ev_gA0, ev_gA, ev_noIo0, ev_noIo, ev_wipe0, ev_wipe, ev_compL0, ev_compL, ev_forL0, ev_forL, at2_0, at2_1, ixN2_0, ixN2_1, fnSem, List.length_cons, List.length_nil, List.replicate, List.append_eq, List.cons_append, List.nil_append, List.getElem?_cons_zero, List.getElem?_cons_succ, List.set_cons_zero, List.set_cons_succ, List.take_succ_cons, List.take_zero, isIoAt, lstAt, setL, Nat.reduceAdd, Nat.reduceSub, Option.map_some, Option.bind_some, if_true, if_false, Bool.false_eq_true, ite_true, ite_false, reduceIte, Int.natCast_add, decide_eq_true_eq, decide_true, decide_false, Bool.not_true, Bool.not_false, Bool.not_eq_true, and_self, and_true, true_and, Nat.reduceLeDiff, Nat.reduceLT, Bool.and_true, Bool.true_and, Bool.and_false, Bool.false_and, h]
theorem need_name_no {d : Dt} (h : NotName d) : F_need_name [.val d] = .exc ⟨"NoName", none⟩ [.val d] := by
  unfold NotName at h
  unfold F_need_name m_need_name
  simp only [ev_seq, ev_seq_nx, ev_seq_rt, ev_seq_ex, ev_seq_bk, ev_seq_ct, ev_seq_st, ev_seq_ite, ev_next, ev_ifs, ev_ites, ev_ites_ex, ev_ret, ev_drop, ev_out, ev_out_ex, ev_outA, ev_c, ev_set, ev_own, ev_bind, ev_bind_ex, ev_bindA, ev_op, ev_un, ev_call, ev_ofO, ev_nil, ev_cons, ev_consok, ev_push, ev_tup, ev_lst, ev_not, ev_notb, ev_and, ev_or, ev_if, ev_ite, ev_chain, ev_var, ev_ixO, ev_setIx, ev_augIx, ev_opOL, ev_callO, ev_ref, ev_mut, ev_callF, ev_callN, ev_back, ev_backX, ev_backN, ev_mk0, ev_mkv, ev_mkr, ev_wb0, ev_wbv, ev_wbr, ev_iter, ev_iterA, ev_comp, ev_for, ev_sl, ev_part0, ev_part1, ev_mpart, ev_asg, ev_par, ev_listOf, ev_binL, ev_gN, ev_gT, ev_gA0, ev_gA, ev_noIo0, ev_noIo, ev_wipe0, ev_wipe, ev_compL0, ev_compL, ev_forL0, ev_forL, at2_0, at2_1, ixN2_0, ixN2_1, fnSem, List.length_cons, List.length_nil, List.replicate, List.append_eq, List.cons_append, List.nil_append, List.getElem?_cons_zero, List.getElem?_cons_succ, List.set_cons_zero, List.set_cons_succ, List.take_succ_cons, List.take_zero, isIoAt, lstAt, setL, Nat.reduceAdd, Nat.reduceSub, Option.map_some, Option.bind_some, if_true, if_false, Bool.false_eq_true, ite_true, ite_false, reduceIte, Int.natCast_add, decide_eq_true_eq, decide_true, decide_false, Bool.not_true, Bool.not_false, Bool.not_eq_true, and_self, and_true, true_and, Nat.reduceLeDiff, Nat.reduceLT, Bool.and_true, Bool.true_and, Bool.and_false, Bool.false_and, h]
theorem fits_no {d y : Dt} (h : NotRule d) : F_fits [.val d, .val y] = .exc ⟨"NoRule", none⟩ [.val d, .val y] := by
  have e := need_rule_no h
  unfold F_fits m_fits
  simp only [ev_seq, ev_seq_nx, ev_seq_rt, ev_seq_ex, ev_seq_bk, ev_seq_ct, ev_seq_st, ev_seq_ite, ev_next, ev_ifs, ev_ites, ev_ites_ex, ev_ret, ev_drop, ev_out, ev_out_ex, ev_outA, ev_c, ev_set, ev_own, ev_bind, ev_bind_ex, ev_bindA, ev_op, ev_un, ev_call, ev_ofO, ev_nil, ev_cons, ev_consok, ev_push, ev_tup, ev_lst, ev_not, ev_notb, ev_and, ev_or, ev_if, ev_ite, ev_chain, ev_var, ev_ixO, ev_setIx, ev_augIx, ev_opOL, ev_callO, ev_ref, ev_mut, ev_callF, ev_callN, ev_back, ev_backX, ev_backN, ev_mk0, ev_mkv, ev_mkr, ev_wb0, ev_wbv, ev_wbr, ev_iter, ev_iterA, ev_comp, ev_for, ev_sl, ev_part0, ev_part1, ev_mpart, ev_asg, ev_par, ev_listOf, ev_binL, ev_gN, ev_gT, ev_gA0, ev_gA, ev_noIo0, ev_noIo, ev_wipe0, ev_wipe, ev_compL0, ev_compL, ev_forL0, ev_forL, at2_0, at2_1, ixN2_0, ixN2_1, fnSem, List.length_cons, List.length_nil, List.replicate, List.append_eq, List.cons_append, List.nil_append, List.getElem?_cons_zero, List.getElem?_cons_succ, List.set_cons_zero, List.set_cons_succ, List.take_succ_cons, List.take_zero, isIoAt, lstAt, setL, Nat.reduceAdd, Nat.reduceSub, Option.map_some, Option.bind_some, if_true, if_false, Bool.false_eq_true, ite_true, ite_false, reduceIte, Int.natCast_add, decide_eq_true_eq, decide_true, decide_false, Bool.not_true, Bool.not_false, Bool.not_eq_true, and_self, and_true, true_and, Nat.reduceLeDiff, Nat.reduceLT, Bool.and_true, Bool.true_and, Bool.and_false, Bool.false_and, e]
theorem makes_no {d y : Dt} (h : NotRule d) : F_makes [.val d, .val y] = .exc ⟨"NoRule", none⟩ [.val d, .val y] := by
  have e := need_rule_no h
  unfold F_makes m_makes
  simp only [ev_seq, ev_seq_nx, ev_seq_rt, ev_seq_ex, ev_seq_bk, ev_seq_ct, ev_seq_st, ev_seq_ite, ev_next, ev_ifs, ev_ites, ev_ites_ex, ev_ret, ev_drop, ev_out, ev_out_ex, ev_outA, ev_c, ev_set, ev_own, ev_bind, ev_bind_ex, ev_bindA, ev_op, ev_un, ev_call, ev_ofO, ev_nil, ev_cons, ev_consok, ev_push, ev_tup, ev_lst, ev_not, ev_notb, ev_and, ev_or, ev_if, ev_ite, ev_chain, ev_var, ev_ixO, ev_setIx, ev_augIx, ev_opOL, ev_callO, ev_ref, ev_mut, ev_callF, ev_callN, ev_back, ev_backX, ev_backN, ev_mk0, ev_mkv, ev_mkr, ev_wb0, ev_wbv, ev_wbr, ev_iter, ev_iterA, ev_comp, ev_for, ev_sl, ev_part0, ev_part1, ev_mpart, ev_asg, ev_par, ev_listOf, ev_binL, ev_gN, ev_gT, ev_gA0, ev_gA, ev_noIo0, ev_noIo, ev_wipe0, ev_wipe, ev_compL0, ev_compL, ev_forL0, ev_forL, at2_0, at2_1, ixN2_0, ixN2_1, fnSem, List.length_cons, List.length_nil, List.replicate, List.append_eq, List.cons_append, List.nil_append, List.getElem?_cons_zero, List.getElem?_cons_succ, List.set_cons_zero, List.set_cons_succ, List.take_succ_cons, List.take_zero, isIoAt, lstAt, setL, Nat.reduceAdd, Nat.reduceSub, Option.map_some, Option.bind_some, if_true, if_false, Bool.false_eq_true, ite_true, ite_false, reduceIte, Int.natCast_add, decide_eq_true_eq, decide_true, decide_false, Bool.not_true, Bool.not_false, Bool.not_eq_true, and_self, and_true, true_and, Nat.reduceLeDiff, Nat.reduceLT, Bool.and_true, Bool.true_and, Bool.and_false, Bool.false_and, e]
theorem first_no {d y : Dt} (h : NotScript d) : F_first [.val d, .val y] = .exc ⟨"NoScript", none⟩ [.val d, .val y] := by
  have e := need_script_no h
  unfold F_first m_first
  simp only [ev_seq, ev_seq_nx, ev_seq_rt, ev_seq_ex, ev_seq_bk, ev_seq_ct, ev_seq_st, ev_seq_ite, ev_next, ev_ifs, ev_ites, ev_ites_ex, ev_ret, ev_drop, ev_out, ev_out_ex, ev_outA, ev_c, ev_set, ev_own, ev_bind, ev_bind_ex, ev_bindA, ev_op, ev_un, ev_call, ev_ofO, ev_nil, ev_cons, ev_consok, ev_push, ev_tup, ev_lst, ev_not, ev_notb, ev_and, ev_or, ev_if, ev_ite, ev_chain, ev_var, ev_ixO, ev_setIx, ev_augIx, ev_opOL, ev_callO, ev_ref, ev_mut, ev_callF, ev_callN, ev_back, ev_backX, ev_backN, ev_mk0, ev_mkv, ev_mkr, ev_wb0, ev_wbv, ev_wbr, ev_iter, ev_iterA, ev_comp, ev_for, ev_sl, ev_part0, ev_part1, ev_mpart, ev_asg, ev_par, ev_listOf, ev_binL, ev_gN, ev_gT, ev_gA0, ev_gA, ev_noIo0, ev_noIo, ev_wipe0, ev_wipe, ev_compL0, ev_compL, ev_forL0, ev_forL, at2_0, at2_1, ixN2_0, ixN2_1, fnSem, List.length_cons, List.length_nil, List.replicate, List.append_eq, List.cons_append, List.nil_append, List.getElem?_cons_zero, List.getElem?_cons_succ, List.set_cons_zero, List.set_cons_succ, List.take_succ_cons, List.take_zero, isIoAt, lstAt, setL, Nat.reduceAdd, Nat.reduceSub, Option.map_some, Option.bind_some, if_true, if_false, Bool.false_eq_true, ite_true, ite_false, reduceIte, Int.natCast_add, decide_eq_true_eq, decide_true, decide_false, Bool.not_true, Bool.not_false, Bool.not_eq_true, and_self, and_true, true_and, Nat.reduceLeDiff, Nat.reduceLT, Bool.and_true, Bool.true_and, Bool.and_false, Bool.false_and, e]
theorem turned_no {d y : Dt} (h : NotScript d) : F_turned [.val d, .val y] = .exc ⟨"NoScript", none⟩ [.val d, .val y] := by
  have e := need_script_no h
  unfold F_turned m_turned
  simp only [ev_seq, ev_seq_nx, ev_seq_rt, ev_seq_ex, ev_seq_bk, ev_seq_ct, ev_seq_st, ev_seq_ite, ev_next, ev_ifs, ev_ites, ev_ites_ex, ev_ret, ev_drop, ev_out, ev_out_ex, ev_outA, ev_c, ev_set, ev_own, ev_bind, ev_bind_ex, ev_bindA, ev_op, ev_un, ev_call, ev_ofO, ev_nil, ev_cons, ev_consok, ev_push, ev_tup, ev_lst, ev_not, ev_notb, ev_and, ev_or, ev_if, ev_ite, ev_chain, ev_var, ev_ixO, ev_setIx, ev_augIx, ev_opOL, ev_callO, ev_ref, ev_mut, ev_callF, ev_callN, ev_back, ev_backX, ev_backN, ev_mk0, ev_mkv, ev_mkr, ev_wb0, ev_wbv, ev_wbr, ev_iter, ev_iterA, ev_comp, ev_for, ev_sl, ev_part0, ev_part1, ev_mpart, ev_asg, ev_par, ev_listOf, ev_binL, ev_gN, ev_gT, ev_gA0, ev_gA, ev_noIo0, ev_noIo, ev_wipe0, ev_wipe, ev_compL0, ev_compL, ev_forL0, ev_forL, at2_0, at2_1, ixN2_0, ixN2_1, fnSem, List.length_cons, List.length_nil, List.replicate, List.append_eq, List.cons_append, List.nil_append, List.getElem?_cons_zero, List.getElem?_cons_succ, List.set_cons_zero, List.set_cons_succ, List.take_succ_cons, List.take_zero, isIoAt, lstAt, setL, Nat.reduceAdd, Nat.reduceSub, Option.map_some, Option.bind_some, if_true, if_false, Bool.false_eq_true, ite_true, ite_false, reduceIte, Int.natCast_add, decide_eq_true_eq, decide_true, decide_false, Bool.not_true, Bool.not_false, Bool.not_eq_true, and_self, and_true, true_and, Nat.reduceLeDiff, Nat.reduceLT, Bool.and_true, Bool.true_and, Bool.and_false, Bool.false_and, e]
theorem fits_non {r : Rul} {y : Dt} (h1 : GR r) (h : NotName y) : F_fits [.val r.enc, .val y] = .exc ⟨"NoName", none⟩ [.val r.enc, .val y] := by
  have e1 := need_rule_ok h1
  have e := need_name_no h
  unfold F_fits m_fits
  simp only [ev_seq, ev_seq_nx, ev_seq_rt, ev_seq_ex, ev_seq_bk, ev_seq_ct, ev_seq_st, ev_seq_ite, ev_next, ev_ifs, ev_ites, ev_ites_ex, ev_ret, ev_drop, ev_out, ev_out_ex, ev_outA, ev_c, ev_set, ev_own, ev_bind, ev_bind_ex, ev_bindA, ev_op, ev_un, ev_call, ev_ofO, ev_nil, ev_cons, ev_consok, ev_push, ev_tup, ev_lst, ev_not, ev_notb, ev_and, ev_or, ev_if, ev_ite, ev_chain, ev_var, ev_ixO, ev_setIx, ev_augIx, ev_opOL, ev_callO, ev_ref, ev_mut, ev_callF, ev_callN, ev_back, ev_backX, ev_backN, ev_mk0, ev_mkv, ev_mkr, ev_wb0, ev_wbv, ev_wbr, ev_iter, ev_iterA, ev_comp, ev_for, ev_sl, ev_part0, ev_part1, ev_mpart, ev_asg, ev_par, ev_listOf, ev_binL, ev_gN, ev_gT, ev_gA0, ev_gA, ev_noIo0, ev_noIo, ev_wipe0, ev_wipe, ev_compL0, ev_compL, ev_forL0, ev_forL, at2_0, at2_1, ixN2_0, ixN2_1, fnSem, List.length_cons, List.length_nil, List.replicate, List.append_eq, List.cons_append, List.nil_append, List.getElem?_cons_zero, List.getElem?_cons_succ, List.set_cons_zero, List.set_cons_succ, List.take_succ_cons, List.take_zero, isIoAt, lstAt, setL, Nat.reduceAdd, Nat.reduceSub, Option.map_some, Option.bind_some, if_true, if_false, Bool.false_eq_true, ite_true, ite_false, reduceIte, Int.natCast_add, decide_eq_true_eq, decide_true, decide_false, Bool.not_true, Bool.not_false, Bool.not_eq_true, and_self, and_true, true_and, Nat.reduceLeDiff, Nat.reduceLT, Bool.and_true, Bool.true_and, Bool.and_false, Bool.false_and, e1, e]
theorem makes_non {r : Rul} {y : Dt} (h1 : GR r) (h : NotName y) : F_makes [.val r.enc, .val y] = .exc ⟨"NoName", none⟩ [.val r.enc, .val y] := by
  have e1 := need_rule_ok h1
  have e := need_name_no h
  unfold F_makes m_makes
  simp only [ev_seq, ev_seq_nx, ev_seq_rt, ev_seq_ex, ev_seq_bk, ev_seq_ct, ev_seq_st, ev_seq_ite, ev_next, ev_ifs, ev_ites, ev_ites_ex, ev_ret, ev_drop, ev_out, ev_out_ex, ev_outA, ev_c, ev_set, ev_own, ev_bind, ev_bind_ex, ev_bindA, ev_op, ev_un, ev_call, ev_ofO, ev_nil, ev_cons, ev_consok, ev_push, ev_tup, ev_lst, ev_not, ev_notb, ev_and, ev_or, ev_if, ev_ite, ev_chain, ev_var, ev_ixO, ev_setIx, ev_augIx, ev_opOL, ev_callO, ev_ref, ev_mut, ev_callF, ev_callN, ev_back, ev_backX, ev_backN, ev_mk0, ev_mkv, ev_mkr, ev_wb0, ev_wbv, ev_wbr, ev_iter, ev_iterA, ev_comp, ev_for, ev_sl, ev_part0, ev_part1, ev_mpart, ev_asg, ev_par, ev_listOf, ev_binL, ev_gN, ev_gT, ev_gA0, ev_gA, ev_noIo0, ev_noIo, ev_wipe0, ev_wipe, ev_compL0, ev_compL, ev_forL0, ev_forL, at2_0, at2_1, ixN2_0, ixN2_1, fnSem, List.length_cons, List.length_nil, List.replicate, List.append_eq, List.cons_append, List.nil_append, List.getElem?_cons_zero, List.getElem?_cons_succ, List.set_cons_zero, List.set_cons_succ, List.take_succ_cons, List.take_zero, isIoAt, lstAt, setL, Nat.reduceAdd, Nat.reduceSub, Option.map_some, Option.bind_some, if_true, if_false, Bool.false_eq_true, ite_true, ite_false, reduceIte, Int.natCast_add, decide_eq_true_eq, decide_true, decide_false, Bool.not_true, Bool.not_false, Bool.not_eq_true, and_self, and_true, true_and, Nat.reduceLeDiff, Nat.reduceLT, Bool.and_true, Bool.true_and, Bool.and_false, Bool.false_and, e1, e]
theorem first_non {rs : List Rul} {y : Dt} (h1 : GS rs) (h : NotName y) : F_first [.val (tRs rs), .val y] = .exc ⟨"NoName", none⟩ [.val (tRs rs), .val y] := by
  have e1 := need_script_ok h1
  have e := need_name_no h
  unfold F_first m_first
  simp only [ev_seq, ev_seq_nx, ev_seq_rt, ev_seq_ex, ev_seq_bk, ev_seq_ct, ev_seq_st, ev_seq_ite, ev_next, ev_ifs, ev_ites, ev_ites_ex, ev_ret, ev_drop, ev_out, ev_out_ex, ev_outA, ev_c, ev_set, ev_own, ev_bind, ev_bind_ex, ev_bindA, ev_op, ev_un, ev_call, ev_ofO, ev_nil, ev_cons, ev_consok, ev_push, ev_tup, ev_lst, ev_not, ev_notb, ev_and, ev_or, ev_if, ev_ite, ev_chain, ev_var, ev_ixO, ev_setIx, ev_augIx, ev_opOL, ev_callO, ev_ref, ev_mut, ev_callF, ev_callN, ev_back, ev_backX, ev_backN, ev_mk0, ev_mkv, ev_mkr, ev_wb0, ev_wbv, ev_wbr, ev_iter, ev_iterA, ev_comp, ev_for, ev_sl, ev_part0, ev_part1, ev_mpart, ev_asg, ev_par, ev_listOf, ev_binL, ev_gN, ev_gT, ev_gA0, ev_gA, ev_noIo0, ev_noIo, ev_wipe0, ev_wipe, ev_compL0, ev_compL, ev_forL0, ev_forL, at2_0, at2_1, ixN2_0, ixN2_1, fnSem, List.length_cons, List.length_nil, List.replicate, List.append_eq, List.cons_append, List.nil_append, List.getElem?_cons_zero, List.getElem?_cons_succ, List.set_cons_zero, List.set_cons_succ, List.take_succ_cons, List.take_zero, isIoAt, lstAt, setL, Nat.reduceAdd, Nat.reduceSub, Option.map_some, Option.bind_some, if_true, if_false, Bool.false_eq_true, ite_true, ite_false, reduceIte, Int.natCast_add, decide_eq_true_eq, decide_true, decide_false, Bool.not_true, Bool.not_false, Bool.not_eq_true, and_self, and_true, true_and, Nat.reduceLeDiff, Nat.reduceLT, Bool.and_true, Bool.true_and, Bool.and_false, Bool.false_and, e1, e]
theorem turned_non {rs : List Rul} {y : Dt} (h1 : GS rs) (h : NotName y) : F_turned [.val (tRs rs), .val y] = .exc ⟨"NoName", none⟩ [.val (tRs rs), .val y] := by
  have e1 := need_script_ok h1
  have e := need_name_no h
  unfold F_turned m_turned
  simp only [ev_seq, ev_seq_nx, ev_seq_rt, ev_seq_ex, ev_seq_bk, ev_seq_ct, ev_seq_st, ev_seq_ite, ev_next, ev_ifs, ev_ites, ev_ites_ex, ev_ret, ev_drop, ev_out, ev_out_ex, ev_outA, ev_c, ev_set, ev_own, ev_bind, ev_bind_ex, ev_bindA, ev_op, ev_un, ev_call, ev_ofO, ev_nil, ev_cons, ev_consok, ev_push, ev_tup, ev_lst, ev_not, ev_notb, ev_and, ev_or, ev_if, ev_ite, ev_chain, ev_var, ev_ixO, ev_setIx, ev_augIx, ev_opOL, ev_callO, ev_ref, ev_mut, ev_callF, ev_callN, ev_back, ev_backX, ev_backN, ev_mk0, ev_mkv, ev_mkr, ev_wb0, ev_wbv, ev_wbr, ev_iter, ev_iterA, ev_comp, ev_for, ev_sl, ev_part0, ev_part1, ev_mpart, ev_asg, ev_par, ev_listOf, ev_binL, ev_gN, ev_gT, ev_gA0, ev_gA, ev_noIo0, ev_noIo, ev_wipe0, ev_wipe, ev_compL0, ev_compL, ev_forL0, ev_forL, at2_0, at2_1, ixN2_0, ixN2_1, fnSem, List.length_cons, List.length_nil, List.replicate, List.append_eq, List.cons_append, List.nil_append, List.getElem?_cons_zero, List.getElem?_cons_succ, List.set_cons_zero, List.set_cons_succ, List.take_succ_cons, List.take_zero, isIoAt, lstAt, setL, Nat.reduceAdd, Nat.reduceSub, Option.map_some, Option.bind_some, if_true, if_false, Bool.false_eq_true, ite_true, ite_false, reduceIte, Int.natCast_add, decide_eq_true_eq, decide_true, decide_false, Bool.not_true, Bool.not_false, Bool.not_eq_true, and_self, and_true, true_and, Nat.reduceLeDiff, Nat.reduceLT, Bool.and_true, Bool.true_and, Bool.and_false, Bool.false_and, e1, e]
/-- what is no rule, all of it -/
def noRules : List Dt := match F_law_no_rules [] with
  | .ok (.list xs) _ => xs
  | _ => []
theorem noRules_ok : F_law_no_rules [] = .ok (.list noRules) [] := by rfl
theorem noRules_all : (noRules.map fun d => F_is_rule [.val d]) = noRules.map fun d => .ok (.bool false) [.val d] := by rfl
theorem noRules_each {d : Dt} (h : d ∈ noRules) : NotRule d := by
  have e := noRules_all
  obtain ⟨i, hi, rfl⟩ := List.mem_iff_getElem.mp h
  have := congrArg (fun l => l[i]?) e
  simp only [List.getElem?_map, List.getElem?_eq_getElem hi, Option.map_some, Option.some.injEq] at this
  exact this
end NS

set_option Elab.async false
set_option linter.all false
set_option autoImplicit false
set_option maxRecDepth 100000
set_option maxHeartbeats 4000000
/-! rules as they may be read off a text; which of them are rules. -/
namespace NS
open PySem PySem.Spec PyProof.Rows L2
inductive RT | is (w : Str) | any | non (ws : List Str) | like (i : Int)
inductive RI | word (w : Str) | field (i : Int) | rest
structure RR where
  fr : List RT
  op : Bool
  bk : List RT
  mak : List RI
def RT.enc : RT → Dt
  | .is w => .tuple [.str "is", .str w]
  | .any => .tuple [.str "any"]
  | .non ws => .tuple [.str "none", tupS ws]
  | .like i => .tuple [.str "like", .int i]
def RI.enc : RI → Dt
  | .word w => .tuple [.str "word", .str w]
  | .field i => .tuple [.str "field", .int i]
  | .rest => .tuple [.str "rest"]
def RR.enc (r : RR) : Dt := .tuple [.tuple (r.fr.map RT.enc), .bool r.op, .tuple (r.bk.map RT.enc), .tuple (r.mak.map RI.enc)]
def Tst.raw : Tst → RT
  | .is w => .is w
  | .any => .any
  | .non ws => .non ws
  | .like k => .like k
def Itm.raw : Itm → RI
  | .word w => .word w
  | .field k => .field k
  | .rest => .rest
def Rul.raw (r : Rul) : RR := ⟨r.fr.map Tst.raw, r.op, r.bk.map Tst.raw, r.making.map Itm.raw⟩
theorem raw_tst (t : Tst) : t.raw.enc = t.enc := by cases t <;> rfl
theorem raw_itm (t : Itm) : t.raw.enc = t.enc := by cases t <;> rfl
theorem raw_enc (r : Rul) : r.raw.enc = r.enc := by
  unfold Rul.raw RR.enc Rul.enc tTs tIs
  simp only [List.map_map]
  rw [show RT.enc ∘ Tst.raw = Tst.enc from funext raw_tst, show RI.enc ∘ Itm.raw = Itm.enc from funext raw_itm]
/-- words -/
def signM (c : Nat) : Bool := if ([c] : List Nat) < [97] then false else !decide (([122] : List Nat) < [c])
def wordM (w : Str) : Bool := decide (1 ≤ w.length ∧ w.length ≤ 6) && w.cps.toList.all signM
theorem a_cps : (Str.ofString "a").cps.toList = [97] := by rfl
theorem z_cps : (Str.ofString "z").cps.toList = [122] := by rfl
theorem isi_s {w : Str} : isiD "str" (.str w) = some (.bool true) := by rfl
theorem len_s {w : Str} (h : w.length ≤ 10000) : lenTD [.str w] = some (.int w.length) := by
  show (if _ then _ else _) = _
  rw [if_pos h]
theorem word_eval (w : Str) (h : w.length ≤ 10000) : F_is_word [.val (.str w)] = .ok (.bool (wordM w)) [.val (.str w)] := by
  have e1 := len_s h
  unfold F_is_word m_is_word wordM
  by_cases h1 : (1:Int) ≤ w.length
  · by_cases h2 : (w.length:Int) ≤ 6
    · have e2 := compL_mapA (vs := [1]) (g := gN 1) (mb := mChain strLeD strLeD (mC (.str "a")) (mVar 1) (mC (.str "z"))) (ρ := [.val (.str w), .no]) signD (fun c => .bool (signM c)) w.cps.toList (by
        show w.cps.toList.length ≤ 10000
        rw [Array.length_toList]
        exact h) (by
        intro c hc
        refine ⟨[.val (.str w), .val (signD c)], [.val (.str w), .val (signD c)], rfl, ?_, rfl, rfl⟩
        have q1 : strLeD (.str "a") (signD c) = some (.bool (!decide (([c] : List Nat) < [97]))) := by
          show some (PyData.bool (!decide (_ < (Str.ofString "a").cps.toList))) = _
          rw [a_cps]
        have q2 : strLeD (signD c) (.str "z") = some (.bool (!decide (([122] : List Nat) < [c]))) := by
          show some (PyData.bool (!decide ((Str.ofString "z").cps.toList < _))) = _
          rw [z_cps]
        unfold signM
        by_cases hlt : ([c] : List Nat) < [97]
        · simp only [ev_seq, ev_seq_nx, ev_seq_rt, ev_seq_ex, ev_seq_bk, ev_seq_ct, ev_seq_st, ev_seq_ite, ev_next, ev_ifs, ev_ites, ev_ites_ex, ev_ret, ev_drop, ev_out, ev_out_ex, ev_outA, ev_c, ev_set, ev_own, ev_bind, ev_bind_ex, ev_bindA, ev_op, ev_un, ev_call, ev_ofO, ev_nil, ev_cons, ev_consok, ev_push, ev_tup, ev_lst, ev_not, ev_notb, ev_and, ev_or, ev_if, ev_ite, ev_chain, ev_var, ev_ixO, ev_setIx, ev_augIx, ev_opOL, ev_callO, ev_ref, ev_mut, ev_callF, ev_callN, ev_back, ev_backX, ev_backN, ev_mk0, ev_mkv, ev_mkr, ev_wb0, ev_wbv, ev_wbr, ev_iter, ev_iterA, ev_comp, ev_for, ev_sl, ev_part0, ev_part1, ev_mpart, ev_asg, ev_par, ev_listOf, ev_binL, ev_gN, ev_gT, ev_gA0, ev_gA, ev_noIo0, ev_noIo, ev_wipe0, ev_wipe, ev_compL0, ev_compL, ev_forL0, ev_forL, at2_0, at2_1, ixN2_0, ixN2_1, fnSem, List.length_cons, List.length_nil, List.replicate, List.append_eq, List.cons_append, List.nil_append, List.getElem?_cons_zero, List.getElem?_cons_succ, List.set_cons_zero, List.set_cons_succ, List.take_succ_cons, List.take_zero, isIoAt, lstAt, setL, Nat.reduceAdd, Nat.reduceSub, Option.map_some, Option.bind_some, if_true, if_false, Bool.false_eq_true, ite_true, ite_false, reduceIte, Int.natCast_add, decide_eq_true_eq, decide_true, decide_false, Bool.not_true, Bool.not_false, Bool.not_eq_true, and_self, and_true, true_and, Nat.reduceLeDiff, Nat.reduceLT, Bool.and_true, Bool.true_and, Bool.and_false, Bool.false_and, q1, hlt]
        · simp only [ev_seq, ev_seq_nx, ev_seq_rt, ev_seq_ex, ev_seq_bk, ev_seq_ct, ev_seq_st, ev_seq_ite, ev_next, ev_ifs, ev_ites, ev_ites_ex, ev_ret, ev_drop, ev_out, ev_out_ex, ev_outA, ev_c, ev_set, ev_own, ev_bind, ev_bind_ex, ev_bindA, ev_op, ev_un, ev_call, ev_ofO, ev_nil, ev_cons, ev_consok, ev_push, ev_tup, ev_lst, ev_not, ev_notb, ev_and, ev_or, ev_if, ev_ite, ev_chain, ev_var, ev_ixO, ev_setIx, ev_augIx, ev_opOL, ev_callO, ev_ref, ev_mut, ev_callF, ev_callN, ev_back, ev_backX, ev_backN, ev_mk0, ev_mkv, ev_mkr, ev_wb0, ev_wbv, ev_wbr, ev_iter, ev_iterA, ev_comp, ev_for, ev_sl, ev_part0, ev_part1, ev_mpart, ev_asg, ev_par, ev_listOf, ev_binL, ev_gN, ev_gT, ev_gA0, ev_gA, ev_noIo0, ev_noIo, ev_wipe0, ev_wipe, ev_compL0, ev_compL, ev_forL0, ev_forL, at2_0, at2_1, ixN2_0, ixN2_1, fnSem, List.length_cons, List.length_nil, List.replicate, List.append_eq, List.cons_append, List.nil_append, List.getElem?_cons_zero, List.getElem?_cons_succ, List.set_cons_zero, List.set_cons_succ, List.take_succ_cons, List.take_zero, isIoAt, lstAt, setL, Nat.reduceAdd, Nat.reduceSub, Option.map_some, Option.bind_some, if_true, if_false, Bool.false_eq_true, ite_true, ite_false, reduceIte, Int.natCast_add, decide_eq_true_eq, decide_true, decide_false, Bool.not_true, Bool.not_false, Bool.not_eq_true, and_self, and_true, true_and, Nat.reduceLeDiff, Nat.reduceLT, Bool.and_true, Bool.true_and, Bool.and_false, Bool.false_and, q1, hlt, q2])
      have e3 : seqD (.str w) = some (w.cps.toList.map signD) := rfl
      have e4 := allD_map signM w.cps.toList
      have c : (1 ≤ w.length ∧ w.length ≤ 6) := ⟨by omega, by omega⟩
      rw [decide_eq_true c, Bool.true_and]
      simp only [ev_seq, ev_seq_nx, ev_seq_rt, ev_seq_ex, ev_seq_bk, ev_seq_ct, ev_seq_st, ev_seq_ite, ev_next, ev_ifs, ev_ites, ev_ites_ex, ev_ret, ev_drop, ev_out, ev_out_ex, ev_outA, ev_c, ev_set, ev_own, ev_bind, ev_bind_ex, ev_bindA, ev_op, ev_un, ev_call, ev_ofO, ev_nil, ev_cons, ev_consok, ev_push, ev_tup, ev_lst, ev_not, ev_notb, ev_and, ev_or, ev_if, ev_ite, ev_chain, ev_var, ev_ixO, ev_setIx, ev_augIx, ev_opOL, ev_callO, ev_ref, ev_mut, ev_callF, ev_callN, ev_back, ev_backX, ev_backN, ev_mk0, ev_mkv, ev_mkr, ev_wb0, ev_wbv, ev_wbr, ev_iter, ev_iterA, ev_comp, ev_for, ev_sl, ev_part0, ev_part1, ev_mpart, ev_asg, ev_par, ev_listOf, ev_binL, ev_gN, ev_gT, ev_gA0, ev_gA, ev_noIo0, ev_noIo, ev_wipe0, ev_wipe, ev_compL0, ev_compL, ev_forL0, ev_forL, at2_0, at2_1, ixN2_0, ixN2_1, fnSem, List.length_cons, List.length_nil, List.replicate, List.append_eq, List.cons_append, List.nil_append, List.getElem?_cons_zero, List.getElem?_cons_succ, List.set_cons_zero, List.set_cons_succ, List.take_succ_cons, List.take_zero, isIoAt, lstAt, setL, Nat.reduceAdd, Nat.reduceSub, Option.map_some, Option.bind_some, if_true, if_false, Bool.false_eq_true, ite_true, ite_false, reduceIte, Int.natCast_add, decide_eq_true_eq, decide_true, decide_false, Bool.not_true, Bool.not_false, Bool.not_eq_true, and_self, and_true, true_and, Nat.reduceLeDiff, Nat.reduceLT, Bool.and_true, Bool.true_and, Bool.and_false, Bool.false_and, isi_s, e1, leD_i, h1, h2, e3, e2, e4]
    · have c : ¬ (1 ≤ w.length ∧ w.length ≤ 6) := by omega
      rw [decide_eq_false c]
      simp only [ev_seq, ev_seq_nx, ev_seq_rt, ev_seq_ex, ev_seq_bk, ev_seq_ct, ev_seq_st, ev_seq_ite, ev_next, ev_ifs, ev_ites, ev_ites_ex, ev_ret, ev_drop, ev_out, ev_out_ex, ev_outA, ev_c, ev_set, ev_own, ev_bind, ev_bind_ex, ev_bindA, ev_op, ev_un, ev_call, ev_ofO, ev_nil, ev_cons, ev_consok, ev_push, ev_tup, ev_lst, ev_not, ev_notb, ev_and, ev_or, ev_if, ev_ite, ev_chain, ev_var, ev_ixO, ev_setIx, ev_augIx, ev_opOL, ev_callO, ev_ref, ev_mut, ev_callF, ev_callN, ev_back, ev_backX, ev_backN, ev_mk0, ev_mkv, ev_mkr, ev_wb0, ev_wbv, ev_wbr, ev_iter, ev_iterA, ev_comp, ev_for, ev_sl, ev_part0, ev_part1, ev_mpart, ev_asg, ev_par, ev_listOf, ev_binL, ev_gN, ev_gT, ev_gA0, ev_gA, ev_noIo0, ev_noIo, ev_wipe0, ev_wipe, ev_compL0, ev_compL, ev_forL0, ev_forL, at2_0, at2_1, ixN2_0, ixN2_1, fnSem, List.length_cons, List.length_nil, List.replicate, List.append_eq, List.cons_append, List.nil_append, List.getElem?_cons_zero, List.getElem?_cons_succ, List.set_cons_zero, List.set_cons_succ, List.take_succ_cons, List.take_zero, isIoAt, lstAt, setL, Nat.reduceAdd, Nat.reduceSub, Option.map_some, Option.bind_some, if_true, if_false, Bool.false_eq_true, ite_true, ite_false, reduceIte, Int.natCast_add, decide_eq_true_eq, decide_true, decide_false, Bool.not_true, Bool.not_false, Bool.not_eq_true, and_self, and_true, true_and, Nat.reduceLeDiff, Nat.reduceLT, Bool.and_true, Bool.true_and, Bool.and_false, Bool.false_and, isi_s, e1, leD_i, h1, h2]
  · have c : ¬ (1 ≤ w.length ∧ w.length ≤ 6) := by omega
    rw [decide_eq_false c]
    simp only [ev_seq, ev_seq_nx, ev_seq_rt, ev_seq_ex, ev_seq_bk, ev_seq_ct, ev_seq_st, ev_seq_ite, ev_next, ev_ifs, ev_ites, ev_ites_ex, ev_ret, ev_drop, ev_out, ev_out_ex, ev_outA, ev_c, ev_set, ev_own, ev_bind, ev_bind_ex, ev_bindA, ev_op, ev_un, ev_call, ev_ofO, ev_nil, ev_cons, ev_consok, ev_push, ev_tup, ev_lst, ev_not, ev_notb, ev_and, ev_or, ev_if, ev_ite, ev_chain, ev_var, ev_ixO, ev_setIx, ev_augIx, ev_opOL, ev_callO, ev_ref, ev_mut, ev_callF, ev_callN, ev_back, ev_backX, ev_backN, ev_mk0, ev_mkv, ev_mkr, ev_wb0, ev_wbv, ev_wbr, ev_iter, ev_iterA, ev_comp, ev_for, ev_sl, ev_part0, ev_part1, ev_mpart, ev_asg, ev_par, ev_listOf, ev_binL, ev_gN, ev_gT, ev_gA0, ev_gA, ev_noIo0, ev_noIo, ev_wipe0, ev_wipe, ev_compL0, ev_compL, ev_forL0, ev_forL, at2_0, at2_1, ixN2_0, ixN2_1, fnSem, List.length_cons, List.length_nil, List.replicate, List.append_eq, List.cons_append, List.nil_append, List.getElem?_cons_zero, List.getElem?_cons_succ, List.set_cons_zero, List.set_cons_succ, List.take_succ_cons, List.take_zero, isIoAt, lstAt, setL, Nat.reduceAdd, Nat.reduceSub, Option.map_some, Option.bind_some, if_true, if_false, Bool.false_eq_true, ite_true, ite_false, reduceIte, Int.natCast_add, decide_eq_true_eq, decide_true, decide_false, Bool.not_true, Bool.not_false, Bool.not_eq_true, and_self, and_true, true_and, Nat.reduceLeDiff, Nat.reduceLT, Bool.and_true, Bool.true_and, Bool.and_false, Bool.false_and, isi_s, e1, leD_i, h1]
theorem wordM_len {w : Str} (h : wordM w = true) : 1 ≤ w.length ∧ w.length ≤ 6 := by
  unfold wordM at h
  rw [Bool.and_eq_true] at h
  exact of_decide_eq_true h.1
theorem signM_bd {c : Nat} (h : signM c = true) : 97 ≤ c ∧ c ≤ 122 := by
  unfold signM at h
  split at h
  · cases h
  · rename_i h1
    have h2 : ¬ (([122] : List Nat) < [c]) := by simpa using h
    constructor
    · by_cases hc : 97 ≤ c
      · exact hc
      · exact absurd (List.cons_lt_cons_iff.mpr (.inl (by omega))) h1
    · by_cases hc : c ≤ 122
      · exact hc
      · exact absurd (List.cons_lt_cons_iff.mpr (.inl (by omega))) h2
theorem wordM_signs {w : Str} (h : wordM w = true) : ∀ c ∈ w.cps.toList, 97 ≤ c ∧ c ≤ 122 := by
  unfold wordM at h
  rw [Bool.and_eq_true] at h
  exact fun c hc => signM_bd (List.all_eq_true.mp h.2 c hc)
/-- whether words rise: some answer -/
theorem ltAD_str (x y : Str) : ltAD (.str x) (.str y) = some (.bool (PySem.W.dataLt (.str x) (.str y))) := by
  unfold ltAD ltOk
  simp only [PySem.W.alike, PyData.plain, PyData.depth]
  rfl
def risingM (ws : List Str) : Bool := (List.range (ws.length - 1)).all fun k => PySem.W.dataLt (.str (ws.getD k default)) (.str (ws.getD (k + 1) default))
theorem rising_eval (ws : List Str) (h : ws.length ≤ 1000) (h0 : 0 < ws.length) : F_is_rising [.val (tupS ws)] = .ok (.bool (risingM ws)) [.val (tupS ws)] := by
  have l1 := len_tupS ws
  have r1 : rangeD [.int ((ws.length:Int) - 1)] = some (rangeL 0 (ws.length - 1)) := by
    have : (ws.length:Int) - 1 = ((ws.length - 1 : Nat) : Int) := by omega
    rw [this]
    exact rangeD_nat _ (by omega)
  have e1 := compL_mapA (vs := [1]) (g := gN 1) (mb := mOp ltAD (mOp ixD (mVar 0) (mVar 1)) (mOp ixD (mVar 0) (mOp addD (mVar 1) (mC (.int 1))))) (ρ := [.val (tupS ws), .no]) (fun k : Nat => .int ((0:Int) + k)) (fun k => .bool (PySem.W.dataLt (.str (ws.getD k default)) (.str (ws.getD (k + 1) default)))) (List.range (ws.length - 1)) (by rw [List.length_range]; omega) (by
    intro k hk
    have hk := List.mem_range.mp hk
    refine ⟨[.val (tupS ws), .val (.int ((0:Int) + k))], [.val (tupS ws), .val (.int ((0:Int) + k))], rfl, ?_, rfl, rfl⟩
    have q1 : ws[k]? = some (ws.getD k default) := by rw [List.getD_eq_getElem?_getD, List.getElem?_eq_getElem (by omega)]; rfl
    have q2 : ws[k + 1]? = some (ws.getD (k + 1) default) := by rw [List.getD_eq_getElem?_getD, List.getElem?_eq_getElem (by omega)]; rfl
    have i1 : ixD (tupS ws) (.int ((0:Int) + k)) = some (.str (ws.getD k default)) := by rw [Int.zero_add]; exact ix_tupS q1
    have i2 : ixD (tupS ws) (.int ((0:Int) + k + 1)) = some (.str (ws.getD (k + 1) default)) := by
      have : (0:Int) + k + 1 = ((k + 1 : Nat) : Int) := by omega
      rw [this]; exact ix_tupS q2
    simp only [ev_seq, ev_seq_nx, ev_seq_rt, ev_seq_ex, ev_seq_bk, ev_seq_ct, ev_seq_st, ev_seq_ite, ev_next, ev_ifs, ev_ites, ev_ites_ex, ev_ret, ev_drop, ev_out, ev_out_ex, ev_outA, ev_c, ev_set, ev_own, ev_bind, ev_bind_ex, ev_bindA, ev_op, ev_un, ev_call, ev_ofO, ev_nil, ev_cons, ev_consok, ev_push, ev_tup, ev_lst, ev_not, ev_notb, ev_and, ev_or, ev_if, ev_ite, ev_chain, ev_var, ev_ixO, ev_setIx, ev_augIx, ev_opOL, ev_callO, ev_ref, ev_mut, ev_callF, ev_callN, ev_back, ev_backX, ev_backN, ev_mk0, ev_mkv, ev_mkr, ev_wb0, ev_wbv, ev_wbr, ev_iter, ev_iterA, ev_comp, ev_for, ev_sl, ev_part0, ev_part1, ev_mpart, ev_asg, ev_par, ev_listOf, ev_binL, ev_gN, ev_gT, ev_gA0, ev_gA, ev_noIo0, ev_noIo, ev_wipe0, ev_wipe, ev_compL0, ev_compL, ev_forL0, ev_forL, at2_0, at2_1, ixN2_0, ixN2_1, fnSem, List.length_cons, List.length_nil, List.replicate, List.append_eq, List.cons_append, List.nil_append, List.getElem?_cons_zero, List.getElem?_cons_succ, List.set_cons_zero, List.set_cons_succ, List.take_succ_cons, List.take_zero, isIoAt, lstAt, setL, Nat.reduceAdd, Nat.reduceSub, Option.map_some, Option.bind_some, if_true, if_false, Bool.false_eq_true, ite_true, ite_false, reduceIte, Int.natCast_add, decide_eq_true_eq, decide_true, decide_false, Bool.not_true, Bool.not_false, Bool.not_eq_true, and_self, and_true, true_and, Nat.reduceLeDiff, Nat.reduceLT, Bool.and_true, Bool.true_and, Bool.and_false, Bool.false_and, i1, addD_i, i2, ltAD_str])
  have e2 := allD_map (fun k : Nat => PySem.W.dataLt (.str (ws.getD k default)) (.str (ws.getD (k + 1) default))) (List.range (ws.length - 1))
  unfold rangeL at r1
  unfold F_is_rising m_is_rising risingM
  simp only [ev_seq, ev_seq_nx, ev_seq_rt, ev_seq_ex, ev_seq_bk, ev_seq_ct, ev_seq_st, ev_seq_ite, ev_next, ev_ifs, ev_ites, ev_ites_ex, ev_ret, ev_drop, ev_out, ev_out_ex, ev_outA, ev_c, ev_set, ev_own, ev_bind, ev_bind_ex, ev_bindA, ev_op, ev_un, ev_call, ev_ofO, ev_nil, ev_cons, ev_consok, ev_push, ev_tup, ev_lst, ev_not, ev_notb, ev_and, ev_or, ev_if, ev_ite, ev_chain, ev_var, ev_ixO, ev_setIx, ev_augIx, ev_opOL, ev_callO, ev_ref, ev_mut, ev_callF, ev_callN, ev_back, ev_backX, ev_backN, ev_mk0, ev_mkv, ev_mkr, ev_wb0, ev_wbv, ev_wbr, ev_iter, ev_iterA, ev_comp, ev_for, ev_sl, ev_part0, ev_part1, ev_mpart, ev_asg, ev_par, ev_listOf, ev_binL, ev_gN, ev_gT, ev_gA0, ev_gA, ev_noIo0, ev_noIo, ev_wipe0, ev_wipe, ev_compL0, ev_compL, ev_forL0, ev_forL, at2_0, at2_1, ixN2_0, ixN2_1, fnSem, List.length_cons, List.length_nil, List.replicate, List.append_eq, List.cons_append, List.nil_append, List.getElem?_cons_zero, List.getElem?_cons_succ, List.set_cons_zero, List.set_cons_succ, List.take_succ_cons, List.take_zero, isIoAt, lstAt, setL, Nat.reduceAdd, Nat.reduceSub, Option.map_some, Option.bind_some, if_true, if_false, Bool.false_eq_true, ite_true, ite_false, reduceIte, Int.natCast_add, decide_eq_true_eq, decide_true, decide_false, Bool.not_true, Bool.not_false, Bool.not_eq_true, and_self, and_true, true_and, Nat.reduceLeDiff, Nat.reduceLT, Bool.and_true, Bool.true_and, Bool.and_false, Bool.false_and, l1, subD_i, r1, e1, e2]
def barredM (ws : List Str) : Bool := decide (1 ≤ ws.length ∧ ws.length ≤ 3) && (ws.all wordM && risingM ws)
theorem barred_eval (ws : List Str) (h : ws.length ≤ 5000) (hw : ∀ w ∈ ws, w.length ≤ 10000) : F_is_barred [.val (tupS ws)] = .ok (.bool (barredM ws)) [.val (tupS ws)] := by
  have l1 := len_tupS ws
  have it : isiD "tuple" (tupS ws) = some (.bool true) := by rfl
  unfold F_is_barred m_is_barred barredM
  by_cases h1 : (1:Int) ≤ ws.length
  · by_cases h2 : (ws.length:Int) ≤ 3
    · have e1 := compL_mapA (vs := [1]) (g := gN 1) (mb := mCallN F_is_word [none] (mCons (mVar 1) mNil)) (ρ := [.val (tupS ws), .no]) PyData.str (fun w => .bool (wordM w)) ws (by omega) (by
        intro w hm
        refine ⟨[.val (tupS ws), .val (.str w)], [.val (tupS ws), .val (.str w)], rfl, ?_, rfl, rfl⟩
        have := word_eval w (hw w hm)
        simp only [ev_seq, ev_seq_nx, ev_seq_rt, ev_seq_ex, ev_seq_bk, ev_seq_ct, ev_seq_st, ev_seq_ite, ev_next, ev_ifs, ev_ites, ev_ites_ex, ev_ret, ev_drop, ev_out, ev_out_ex, ev_outA, ev_c, ev_set, ev_own, ev_bind, ev_bind_ex, ev_bindA, ev_op, ev_un, ev_call, ev_ofO, ev_nil, ev_cons, ev_consok, ev_push, ev_tup, ev_lst, ev_not, ev_notb, ev_and, ev_or, ev_if, ev_ite, ev_chain, ev_var, ev_ixO, ev_setIx, ev_augIx, ev_opOL, ev_callO, ev_ref, ev_mut, ev_callF, ev_callN, ev_back, ev_backX, ev_backN, ev_mk0, ev_mkv, ev_mkr, ev_wb0, ev_wbv, ev_wbr, ev_iter, ev_iterA, ev_comp, ev_for, ev_sl, ev_part0, ev_part1, ev_mpart, ev_asg, ev_par, ev_listOf, ev_binL, ev_gN, ev_gT, ev_gA0, ev_gA, ev_noIo0, ev_noIo, ev_wipe0, ev_wipe, ev_compL0, ev_compL, ev_forL0, ev_forL, at2_0, at2_1, ixN2_0, ixN2_1, fnSem, List.length_cons, List.length_nil, List.replicate, List.append_eq, List.cons_append, List.nil_append, List.getElem?_cons_zero, List.getElem?_cons_succ, List.set_cons_zero, List.set_cons_succ, List.take_succ_cons, List.take_zero, isIoAt, lstAt, setL, Nat.reduceAdd, Nat.reduceSub, Option.map_some, Option.bind_some, if_true, if_false, Bool.false_eq_true, ite_true, ite_false, reduceIte, Int.natCast_add, decide_eq_true_eq, decide_true, decide_false, Bool.not_true, Bool.not_false, Bool.not_eq_true, and_self, and_true, true_and, Nat.reduceLeDiff, Nat.reduceLT, Bool.and_true, Bool.true_and, Bool.and_false, Bool.false_and, this])
      have e2 := allD_map wordM ws
      have e3 : seqD (tupS ws) = some (ws.map PyData.str) := rfl
      have e4 := rising_eval ws (by omega) (by omega)
      have c : (1 ≤ ws.length ∧ ws.length ≤ 3) := ⟨by omega, by omega⟩
      rw [decide_eq_true c, Bool.true_and]
      cases hall : ws.all wordM with
      | true =>
        rw [hall] at e2
        rw [Bool.true_and]
        simp only [ev_seq, ev_seq_nx, ev_seq_rt, ev_seq_ex, ev_seq_bk, ev_seq_ct, ev_seq_st, ev_seq_ite, ev_next, ev_ifs, ev_ites, ev_ites_ex, ev_ret, ev_drop, ev_out, ev_out_ex, ev_outA, ev_c, ev_set, ev_own, ev_bind, ev_bind_ex, ev_bindA, ev_op, ev_un, ev_call, ev_ofO, ev_nil, ev_cons, ev_consok, ev_push, ev_tup, ev_lst, ev_not, ev_notb, ev_and, ev_or, ev_if, ev_ite, ev_chain, ev_var, ev_ixO, ev_setIx, ev_augIx, ev_opOL, ev_callO, ev_ref, ev_mut, ev_callF, ev_callN, ev_back, ev_backX, ev_backN, ev_mk0, ev_mkv, ev_mkr, ev_wb0, ev_wbv, ev_wbr, ev_iter, ev_iterA, ev_comp, ev_for, ev_sl, ev_part0, ev_part1, ev_mpart, ev_asg, ev_par, ev_listOf, ev_binL, ev_gN, ev_gT, ev_gA0, ev_gA, ev_noIo0, ev_noIo, ev_wipe0, ev_wipe, ev_compL0, ev_compL, ev_forL0, ev_forL, at2_0, at2_1, ixN2_0, ixN2_1, fnSem, List.length_cons, List.length_nil, List.replicate, List.append_eq, List.cons_append, List.nil_append, List.getElem?_cons_zero, List.getElem?_cons_succ, List.set_cons_zero, List.set_cons_succ, List.take_succ_cons, List.take_zero, isIoAt, lstAt, setL, Nat.reduceAdd, Nat.reduceSub, Option.map_some, Option.bind_some, if_true, if_false, Bool.false_eq_true, ite_true, ite_false, reduceIte, Int.natCast_add, decide_eq_true_eq, decide_true, decide_false, Bool.not_true, Bool.not_false, Bool.not_eq_true, and_self, and_true, true_and, Nat.reduceLeDiff, Nat.reduceLT, Bool.and_true, Bool.true_and, Bool.and_false, Bool.false_and, it, l1, leD_i, h1, h2, e3, e1, e2, e4]
      | false =>
        rw [hall] at e2
        rw [Bool.false_and]
        simp only [ev_seq, ev_seq_nx, ev_seq_rt, ev_seq_ex, ev_seq_bk, ev_seq_ct, ev_seq_st, ev_seq_ite, ev_next, ev_ifs, ev_ites, ev_ites_ex, ev_ret, ev_drop, ev_out, ev_out_ex, ev_outA, ev_c, ev_set, ev_own, ev_bind, ev_bind_ex, ev_bindA, ev_op, ev_un, ev_call, ev_ofO, ev_nil, ev_cons, ev_consok, ev_push, ev_tup, ev_lst, ev_not, ev_notb, ev_and, ev_or, ev_if, ev_ite, ev_chain, ev_var, ev_ixO, ev_setIx, ev_augIx, ev_opOL, ev_callO, ev_ref, ev_mut, ev_callF, ev_callN, ev_back, ev_backX, ev_backN, ev_mk0, ev_mkv, ev_mkr, ev_wb0, ev_wbv, ev_wbr, ev_iter, ev_iterA, ev_comp, ev_for, ev_sl, ev_part0, ev_part1, ev_mpart, ev_asg, ev_par, ev_listOf, ev_binL, ev_gN, ev_gT, ev_gA0, ev_gA, ev_noIo0, ev_noIo, ev_wipe0, ev_wipe, ev_compL0, ev_compL, ev_forL0, ev_forL, at2_0, at2_1, ixN2_0, ixN2_1, fnSem, List.length_cons, List.length_nil, List.replicate, List.append_eq, List.cons_append, List.nil_append, List.getElem?_cons_zero, List.getElem?_cons_succ, List.set_cons_zero, List.set_cons_succ, List.take_succ_cons, List.take_zero, isIoAt, lstAt, setL, Nat.reduceAdd, Nat.reduceSub, Option.map_some, Option.bind_some, if_true, if_false, Bool.false_eq_true, ite_true, ite_false, reduceIte, Int.natCast_add, decide_eq_true_eq, decide_true, decide_false, Bool.not_true, Bool.not_false, Bool.not_eq_true, and_self, and_true, true_and, Nat.reduceLeDiff, Nat.reduceLT, Bool.and_true, Bool.true_and, Bool.and_false, Bool.false_and, it, l1, leD_i, h1, h2, e3, e1, e2]
    · have c : ¬ (1 ≤ ws.length ∧ ws.length ≤ 3) := by omega
      rw [decide_eq_false c]
      simp only [ev_seq, ev_seq_nx, ev_seq_rt, ev_seq_ex, ev_seq_bk, ev_seq_ct, ev_seq_st, ev_seq_ite, ev_next, ev_ifs, ev_ites, ev_ites_ex, ev_ret, ev_drop, ev_out, ev_out_ex, ev_outA, ev_c, ev_set, ev_own, ev_bind, ev_bind_ex, ev_bindA, ev_op, ev_un, ev_call, ev_ofO, ev_nil, ev_cons, ev_consok, ev_push, ev_tup, ev_lst, ev_not, ev_notb, ev_and, ev_or, ev_if, ev_ite, ev_chain, ev_var, ev_ixO, ev_setIx, ev_augIx, ev_opOL, ev_callO, ev_ref, ev_mut, ev_callF, ev_callN, ev_back, ev_backX, ev_backN, ev_mk0, ev_mkv, ev_mkr, ev_wb0, ev_wbv, ev_wbr, ev_iter, ev_iterA, ev_comp, ev_for, ev_sl, ev_part0, ev_part1, ev_mpart, ev_asg, ev_par, ev_listOf, ev_binL, ev_gN, ev_gT, ev_gA0, ev_gA, ev_noIo0, ev_noIo, ev_wipe0, ev_wipe, ev_compL0, ev_compL, ev_forL0, ev_forL, at2_0, at2_1, ixN2_0, ixN2_1, fnSem, List.length_cons, List.length_nil, List.replicate, List.append_eq, List.cons_append, List.nil_append, List.getElem?_cons_zero, List.getElem?_cons_succ, List.set_cons_zero, List.set_cons_succ, List.take_succ_cons, List.take_zero, isIoAt, lstAt, setL, Nat.reduceAdd, Nat.reduceSub, Option.map_some, Option.bind_some, if_true, if_false, Bool.false_eq_true, ite_true, ite_false, reduceIte, Int.natCast_add, decide_eq_true_eq, decide_true, decide_false, Bool.not_true, Bool.not_false, Bool.not_eq_true, and_self, and_true, true_and, Nat.reduceLeDiff, Nat.reduceLT, Bool.and_true, Bool.true_and, Bool.and_false, Bool.false_and, it, l1, leD_i, h1, h2]
  · have c : ¬ (1 ≤ ws.length ∧ ws.length ≤ 3) := by omega
    rw [decide_eq_false c]
    simp only [ev_seq, ev_seq_nx, ev_seq_rt, ev_seq_ex, ev_seq_bk, ev_seq_ct, ev_seq_st, ev_seq_ite, ev_next, ev_ifs, ev_ites, ev_ites_ex, ev_ret, ev_drop, ev_out, ev_out_ex, ev_outA, ev_c, ev_set, ev_own, ev_bind, ev_bind_ex, ev_bindA, ev_op, ev_un, ev_call, ev_ofO, ev_nil, ev_cons, ev_consok, ev_push, ev_tup, ev_lst, ev_not, ev_notb, ev_and, ev_or, ev_if, ev_ite, ev_chain, ev_var, ev_ixO, ev_setIx, ev_augIx, ev_opOL, ev_callO, ev_ref, ev_mut, ev_callF, ev_callN, ev_back, ev_backX, ev_backN, ev_mk0, ev_mkv, ev_mkr, ev_wb0, ev_wbv, ev_wbr, ev_iter, ev_iterA, ev_comp, ev_for, ev_sl, ev_part0, ev_part1, ev_mpart, ev_asg, ev_par, ev_listOf, ev_binL, ev_gN, ev_gT, ev_gA0, ev_gA, ev_noIo0, ev_noIo, ev_wipe0, ev_wipe, ev_compL0, ev_compL, ev_forL0, ev_forL, at2_0, at2_1, ixN2_0, ixN2_1, fnSem, List.length_cons, List.length_nil, List.replicate, List.append_eq, List.cons_append, List.nil_append, List.getElem?_cons_zero, List.getElem?_cons_succ, List.set_cons_zero, List.set_cons_succ, List.take_succ_cons, List.take_zero, isIoAt, lstAt, setL, Nat.reduceAdd, Nat.reduceSub, Option.map_some, Option.bind_some, if_true, if_false, Bool.false_eq_true, ite_true, ite_false, reduceIte, Int.natCast_add, decide_eq_true_eq, decide_true, decide_false, Bool.not_true, Bool.not_false, Bool.not_eq_true, and_self, and_true, true_and, Nat.reduceLeDiff, Nat.reduceLT, Bool.and_true, Bool.true_and, Bool.and_false, Bool.false_and, it, l1, leD_i, h1]
def belowM (i : Int) (n : Nat) : Bool := decide (0 ≤ i ∧ i < n)
theorem below_eval (i : Int) (n : Nat) : F_is_number_below [.val (.int i), .val (.int n)] = .ok (.bool (belowM i n)) [.val (.int i), .val (.int n)] := by
  unfold F_is_number_below m_is_number_below belowM
  by_cases c1 : (0:Int) ≤ i
  · by_cases c2 : i < (n:Int)
    · rw [decide_eq_true ⟨c1, c2⟩]
      simp only [ev_seq, ev_seq_nx, ev_seq_rt, ev_seq_ex, ev_seq_bk, ev_seq_ct, ev_seq_st, ev_seq_ite, ev_next, ev_ifs, ev_ites, ev_ites_ex, ev_ret, ev_drop, ev_out, ev_out_ex, ev_outA, ev_c, ev_set, ev_own, ev_bind, ev_bind_ex, ev_bindA, ev_op, ev_un, ev_call, ev_ofO, ev_nil, ev_cons, ev_consok, ev_push, ev_tup, ev_lst, ev_not, ev_notb, ev_and, ev_or, ev_if, ev_ite, ev_chain, ev_var, ev_ixO, ev_setIx, ev_augIx, ev_opOL, ev_callO, ev_ref, ev_mut, ev_callF, ev_callN, ev_back, ev_backX, ev_backN, ev_mk0, ev_mkv, ev_mkr, ev_wb0, ev_wbv, ev_wbr, ev_iter, ev_iterA, ev_comp, ev_for, ev_sl, ev_part0, ev_part1, ev_mpart, ev_asg, ev_par, ev_listOf, ev_binL, ev_gN, ev_gT, ev_gA0, ev_gA, ev_noIo0, ev_noIo, ev_wipe0, ev_wipe, ev_compL0, ev_compL, ev_forL0, ev_forL, at2_0, at2_1, ixN2_0, ixN2_1, fnSem, List.length_cons, List.length_nil, List.replicate, List.append_eq, List.cons_append, List.nil_append, List.getElem?_cons_zero, List.getElem?_cons_succ, List.set_cons_zero, List.set_cons_succ, List.take_succ_cons, List.take_zero, isIoAt, lstAt, setL, Nat.reduceAdd, Nat.reduceSub, Option.map_some, Option.bind_some, if_true, if_false, Bool.false_eq_true, ite_true, ite_false, reduceIte, Int.natCast_add, decide_eq_true_eq, decide_true, decide_false, Bool.not_true, Bool.not_false, Bool.not_eq_true, and_self, and_true, true_and, Nat.reduceLeDiff, Nat.reduceLT, Bool.and_true, Bool.true_and, Bool.and_false, Bool.false_and, isi_i, isi_ib, leD_i, ltD_i, c1, c2]
    · rw [decide_eq_false (fun h => c2 h.2)]
      simp only [ev_seq, ev_seq_nx, ev_seq_rt, ev_seq_ex, ev_seq_bk, ev_seq_ct, ev_seq_st, ev_seq_ite, ev_next, ev_ifs, ev_ites, ev_ites_ex, ev_ret, ev_drop, ev_out, ev_out_ex, ev_outA, ev_c, ev_set, ev_own, ev_bind, ev_bind_ex, ev_bindA, ev_op, ev_un, ev_call, ev_ofO, ev_nil, ev_cons, ev_consok, ev_push, ev_tup, ev_lst, ev_not, ev_notb, ev_and, ev_or, ev_if, ev_ite, ev_chain, ev_var, ev_ixO, ev_setIx, ev_augIx, ev_opOL, ev_callO, ev_ref, ev_mut, ev_callF, ev_callN, ev_back, ev_backX, ev_backN, ev_mk0, ev_mkv, ev_mkr, ev_wb0, ev_wbv, ev_wbr, ev_iter, ev_iterA, ev_comp, ev_for, ev_sl, ev_part0, ev_part1, ev_mpart, ev_asg, ev_par, ev_listOf, ev_binL, ev_gN, ev_gT, ev_gA0, ev_gA, ev_noIo0, ev_noIo, ev_wipe0, ev_wipe, ev_compL0, ev_compL, ev_forL0, ev_forL, at2_0, at2_1, ixN2_0, ixN2_1, fnSem, List.length_cons, List.length_nil, List.replicate, List.append_eq, List.cons_append, List.nil_append, List.getElem?_cons_zero, List.getElem?_cons_succ, List.set_cons_zero, List.set_cons_succ, List.take_succ_cons, List.take_zero, isIoAt, lstAt, setL, Nat.reduceAdd, Nat.reduceSub, Option.map_some, Option.bind_some, if_true, if_false, Bool.false_eq_true, ite_true, ite_false, reduceIte, Int.natCast_add, decide_eq_true_eq, decide_true, decide_false, Bool.not_true, Bool.not_false, Bool.not_eq_true, and_self, and_true, true_and, Nat.reduceLeDiff, Nat.reduceLT, Bool.and_true, Bool.true_and, Bool.and_false, Bool.false_and, isi_i, isi_ib, leD_i, ltD_i, c1, c2]
  · rw [decide_eq_false (fun h => c1 h.1)]
    simp only [ev_seq, ev_seq_nx, ev_seq_rt, ev_seq_ex, ev_seq_bk, ev_seq_ct, ev_seq_st, ev_seq_ite, ev_next, ev_ifs, ev_ites, ev_ites_ex, ev_ret, ev_drop, ev_out, ev_out_ex, ev_outA, ev_c, ev_set, ev_own, ev_bind, ev_bind_ex, ev_bindA, ev_op, ev_un, ev_call, ev_ofO, ev_nil, ev_cons, ev_consok, ev_push, ev_tup, ev_lst, ev_not, ev_notb, ev_and, ev_or, ev_if, ev_ite, ev_chain, ev_var, ev_ixO, ev_setIx, ev_augIx, ev_opOL, ev_callO, ev_ref, ev_mut, ev_callF, ev_callN, ev_back, ev_backX, ev_backN, ev_mk0, ev_mkv, ev_mkr, ev_wb0, ev_wbv, ev_wbr, ev_iter, ev_iterA, ev_comp, ev_for, ev_sl, ev_part0, ev_part1, ev_mpart, ev_asg, ev_par, ev_listOf, ev_binL, ev_gN, ev_gT, ev_gA0, ev_gA, ev_noIo0, ev_noIo, ev_wipe0, ev_wipe, ev_compL0, ev_compL, ev_forL0, ev_forL, at2_0, at2_1, ixN2_0, ixN2_1, fnSem, List.length_cons, List.length_nil, List.replicate, List.append_eq, List.cons_append, List.nil_append, List.getElem?_cons_zero, List.getElem?_cons_succ, List.set_cons_zero, List.set_cons_succ, List.take_succ_cons, List.take_zero, isIoAt, lstAt, setL, Nat.reduceAdd, Nat.reduceSub, Option.map_some, Option.bind_some, if_true, if_false, Bool.false_eq_true, ite_true, ite_false, reduceIte, Int.natCast_add, decide_eq_true_eq, decide_true, decide_false, Bool.not_true, Bool.not_false, Bool.not_eq_true, and_self, and_true, true_and, Nat.reduceLeDiff, Nat.reduceLT, Bool.and_true, Bool.true_and, Bool.and_false, Bool.false_and, isi_i, isi_ib, leD_i, ltD_i, c1]
/-- small enough to be looked at -/
def RT.sm : RT → Prop
  | .is w => w.length ≤ 10000
  | .non ws => ws.length ≤ 5000 ∧ ∀ w ∈ ws, w.length ≤ 10000
  | _ => True
def RI.sm : RI → Prop
  | .word w => w.length ≤ 10000
  | _ => True
def RT.okM (n : Nat) : RT → Bool
  | .is w => wordM w
  | .any => true
  | .non ws => barredM ws
  | .like i => belowM i n
def RI.okM (n : Nat) (op : Bool) : RI → Bool
  | .word w => wordM w
  | .field i => belowM i n
  | .rest => op
def RI.isRest : RI → Bool
  | .rest => true
  | _ => false
theorem kind_rt (t : RT) : F_has_kind [.val t.enc] = .ok (.bool true) [.val t.enc] := by cases t <;> rfl
theorem kind_ri (t : RI) : F_has_kind [.val t.enc] = .ok (.bool true) [.val t.enc] := by cases t <;> rfl
theorem ne22 : neD (.int (2:Nat)) (.int 2) = some (.bool false) := by rfl
theorem k_like_any : eqD (.str "like") (.str "any") = some (.bool false) := by rfl
theorem k_is_any : eqD (.str "is") (.str "any") = some (.bool false) := by rfl
theorem k_non_any : eqD (.str "none") (.str "any") = some (.bool false) := by rfl
theorem test_eval (t : RT) (n : Nat) (h : t.sm) : F_is_test [.val t.enc, .val (.int n)] = .ok (.bool (t.okM n)) [.val t.enc, .val (.int n)] := by
  have e0 := kind_rt t
  unfold F_is_test m_is_test
  cases t with
  | is w =>
    have e1 := word_eval w h
    unfold RT.enc at e0 ⊢
    simp only [ev_seq, ev_seq_nx, ev_seq_rt, ev_seq_ex, ev_seq_bk, ev_seq_ct, ev_seq_st, ev_seq_ite, ev_next, ev_ifs, ev_ites, ev_ites_ex, ev_ret, ev_drop, ev_out, ev_out_ex, ev_outA, ev_c, ev_set, ev_own, ev_bind, ev_bind_ex, ev_bindA, ev_op, ev_un, ev_call, ev_ofO, ev_nil, ev_cons, ev_consok, ev_push, ev_tup, ev_lst, ev_not, ev_notb, ev_and, ev_or, ev_if, ev_ite, ev_chain, ev_var, ev_ixO, ev_setIx, ev_augIx, ev_opOL, ev_callO, ev_ref, ev_mut, ev_callF, ev_callN, ev_back, ev_backX, ev_backN, ev_mk0, ev_mkv, ev_mkr, ev_wb0, ev_wbv, ev_wbr, ev_iter, ev_iterA, ev_comp, ev_for, ev_sl, ev_part0, ev_part1, ev_mpart, ev_asg, ev_par, ev_listOf, ev_binL, ev_gN, ev_gT, ev_gA0, ev_gA, ev_noIo0, ev_noIo, ev_wipe0, ev_wipe, ev_compL0, ev_compL, ev_forL0, ev_forL, at2_0, at2_1, ixN2_0, ixN2_1, fnSem, List.length_cons, List.length_nil, List.replicate, List.append_eq, List.cons_append, List.nil_append, List.getElem?_cons_zero, List.getElem?_cons_succ, List.set_cons_zero, List.set_cons_succ, List.take_succ_cons, List.take_zero, isIoAt, lstAt, setL, Nat.reduceAdd, Nat.reduceSub, Option.map_some, Option.bind_some, if_true, if_false, Bool.false_eq_true, ite_true, ite_false, reduceIte, Int.natCast_add, decide_eq_true_eq, decide_true, decide_false, Bool.not_true, Bool.not_false, Bool.not_eq_true, and_self, and_true, true_and, Nat.reduceLeDiff, Nat.reduceLT, Bool.and_true, Bool.true_and, Bool.and_false, Bool.false_and, e0, ixD_t, at2_0, at2_1, k_is_any, k_is_is, len_t, ne22, e1]
    rfl
  | any => rfl
  | non ws =>
    have e1 := barred_eval ws h.1 h.2
    unfold RT.enc at e0 ⊢
    simp only [ev_seq, ev_seq_nx, ev_seq_rt, ev_seq_ex, ev_seq_bk, ev_seq_ct, ev_seq_st, ev_seq_ite, ev_next, ev_ifs, ev_ites, ev_ites_ex, ev_ret, ev_drop, ev_out, ev_out_ex, ev_outA, ev_c, ev_set, ev_own, ev_bind, ev_bind_ex, ev_bindA, ev_op, ev_un, ev_call, ev_ofO, ev_nil, ev_cons, ev_consok, ev_push, ev_tup, ev_lst, ev_not, ev_notb, ev_and, ev_or, ev_if, ev_ite, ev_chain, ev_var, ev_ixO, ev_setIx, ev_augIx, ev_opOL, ev_callO, ev_ref, ev_mut, ev_callF, ev_callN, ev_back, ev_backX, ev_backN, ev_mk0, ev_mkv, ev_mkr, ev_wb0, ev_wbv, ev_wbr, ev_iter, ev_iterA, ev_comp, ev_for, ev_sl, ev_part0, ev_part1, ev_mpart, ev_asg, ev_par, ev_listOf, ev_binL, ev_gN, ev_gT, ev_gA0, ev_gA, ev_noIo0, ev_noIo, ev_wipe0, ev_wipe, ev_compL0, ev_compL, ev_forL0, ev_forL, at2_0, at2_1, ixN2_0, ixN2_1, fnSem, List.length_cons, List.length_nil, List.replicate, List.append_eq, List.cons_append, List.nil_append, List.getElem?_cons_zero, List.getElem?_cons_succ, List.set_cons_zero, List.set_cons_succ, List.take_succ_cons, List.take_zero, isIoAt, lstAt, setL, Nat.reduceAdd, Nat.reduceSub, Option.map_some, Option.bind_some, if_true, if_false, Bool.false_eq_true, ite_true, ite_false, reduceIte, Int.natCast_add, decide_eq_true_eq, decide_true, decide_false, Bool.not_true, Bool.not_false, Bool.not_eq_true, and_self, and_true, true_and, Nat.reduceLeDiff, Nat.reduceLT, Bool.and_true, Bool.true_and, Bool.and_false, Bool.false_and, e0, ixD_t, at2_0, at2_1, k_non_any, k_non_is, k_non_non, len_t, ne22, e1]
    rfl
  | like i =>
    have e1 := below_eval i n
    unfold RT.enc at e0 ⊢
    simp only [ev_seq, ev_seq_nx, ev_seq_rt, ev_seq_ex, ev_seq_bk, ev_seq_ct, ev_seq_st, ev_seq_ite, ev_next, ev_ifs, ev_ites, ev_ites_ex, ev_ret, ev_drop, ev_out, ev_out_ex, ev_outA, ev_c, ev_set, ev_own, ev_bind, ev_bind_ex, ev_bindA, ev_op, ev_un, ev_call, ev_ofO, ev_nil, ev_cons, ev_consok, ev_push, ev_tup, ev_lst, ev_not, ev_notb, ev_and, ev_or, ev_if, ev_ite, ev_chain, ev_var, ev_ixO, ev_setIx, ev_augIx, ev_opOL, ev_callO, ev_ref, ev_mut, ev_callF, ev_callN, ev_back, ev_backX, ev_backN, ev_mk0, ev_mkv, ev_mkr, ev_wb0, ev_wbv, ev_wbr, ev_iter, ev_iterA, ev_comp, ev_for, ev_sl, ev_part0, ev_part1, ev_mpart, ev_asg, ev_par, ev_listOf, ev_binL, ev_gN, ev_gT, ev_gA0, ev_gA, ev_noIo0, ev_noIo, ev_wipe0, ev_wipe, ev_compL0, ev_compL, ev_forL0, ev_forL, at2_0, at2_1, ixN2_0, ixN2_1, fnSem, List.length_cons, List.length_nil, List.replicate, List.append_eq, List.cons_append, List.nil_append, List.getElem?_cons_zero, List.getElem?_cons_succ, List.set_cons_zero, List.set_cons_succ, List.take_succ_cons, List.take_zero, isIoAt, lstAt, setL, Nat.reduceAdd, Nat.reduceSub, Option.map_some, Option.bind_some, if_true, if_false, Bool.false_eq_true, ite_true, ite_false, reduceIte, Int.natCast_add, decide_eq_true_eq, decide_true, decide_false, Bool.not_true, Bool.not_false, Bool.not_eq_true, and_self, and_true, true_and, Nat.reduceLeDiff, Nat.reduceLT, Bool.and_true, Bool.true_and, Bool.and_false, Bool.false_and, e0, ixD_t, at2_0, at2_1, k_like_any, k_lk_is, k_lk_non, k_lk_lk, len_t, ne22, e1]
    rfl
theorem k_f_rest : eqD (.str "field") (.str "rest") = some (.bool false) := by rfl
theorem k_w_rest : eqD (.str "word") (.str "rest") = some (.bool false) := by rfl
theorem item_eval (t : RI) (n : Nat) (op : Bool) (h : t.sm) : F_is_item [.val t.enc, .val (.int n), .val (.bool op)] = .ok (.bool (t.okM n op)) [.val t.enc, .val (.int n), .val (.bool op)] := by
  have e0 := kind_ri t
  unfold F_is_item m_is_item
  cases t with
  | word w =>
    have e1 := word_eval w h
    unfold RI.enc at e0 ⊢
    simp only [ev_seq, ev_seq_nx, ev_seq_rt, ev_seq_ex, ev_seq_bk, ev_seq_ct, ev_seq_st, ev_seq_ite, ev_next, ev_ifs, ev_ites, ev_ites_ex, ev_ret, ev_drop, ev_out, ev_out_ex, ev_outA, ev_c, ev_set, ev_own, ev_bind, ev_bind_ex, ev_bindA, ev_op, ev_un, ev_call, ev_ofO, ev_nil, ev_cons, ev_consok, ev_push, ev_tup, ev_lst, ev_not, ev_notb, ev_and, ev_or, ev_if, ev_ite, ev_chain, ev_var, ev_ixO, ev_setIx, ev_augIx, ev_opOL, ev_callO, ev_ref, ev_mut, ev_callF, ev_callN, ev_back, ev_backX, ev_backN, ev_mk0, ev_mkv, ev_mkr, ev_wb0, ev_wbv, ev_wbr, ev_iter, ev_iterA, ev_comp, ev_for, ev_sl, ev_part0, ev_part1, ev_mpart, ev_asg, ev_par, ev_listOf, ev_binL, ev_gN, ev_gT, ev_gA0, ev_gA, ev_noIo0, ev_noIo, ev_wipe0, ev_wipe, ev_compL0, ev_compL, ev_forL0, ev_forL, at2_0, at2_1, ixN2_0, ixN2_1, fnSem, List.length_cons, List.length_nil, List.replicate, List.append_eq, List.cons_append, List.nil_append, List.getElem?_cons_zero, List.getElem?_cons_succ, List.set_cons_zero, List.set_cons_succ, List.take_succ_cons, List.take_zero, isIoAt, lstAt, setL, Nat.reduceAdd, Nat.reduceSub, Option.map_some, Option.bind_some, if_true, if_false, Bool.false_eq_true, ite_true, ite_false, reduceIte, Int.natCast_add, decide_eq_true_eq, decide_true, decide_false, Bool.not_true, Bool.not_false, Bool.not_eq_true, and_self, and_true, true_and, Nat.reduceLeDiff, Nat.reduceLT, Bool.and_true, Bool.true_and, Bool.and_false, Bool.false_and, e0, ixD_t, at2_0, at2_1, k_w_rest, k_w_w, len_t, ne22, e1]
    rfl
  | field i =>
    have e1 := below_eval i n
    unfold RI.enc at e0 ⊢
    simp only [ev_seq, ev_seq_nx, ev_seq_rt, ev_seq_ex, ev_seq_bk, ev_seq_ct, ev_seq_st, ev_seq_ite, ev_next, ev_ifs, ev_ites, ev_ites_ex, ev_ret, ev_drop, ev_out, ev_out_ex, ev_outA, ev_c, ev_set, ev_own, ev_bind, ev_bind_ex, ev_bindA, ev_op, ev_un, ev_call, ev_ofO, ev_nil, ev_cons, ev_consok, ev_push, ev_tup, ev_lst, ev_not, ev_notb, ev_and, ev_or, ev_if, ev_ite, ev_chain, ev_var, ev_ixO, ev_setIx, ev_augIx, ev_opOL, ev_callO, ev_ref, ev_mut, ev_callF, ev_callN, ev_back, ev_backX, ev_backN, ev_mk0, ev_mkv, ev_mkr, ev_wb0, ev_wbv, ev_wbr, ev_iter, ev_iterA, ev_comp, ev_for, ev_sl, ev_part0, ev_part1, ev_mpart, ev_asg, ev_par, ev_listOf, ev_binL, ev_gN, ev_gT, ev_gA0, ev_gA, ev_noIo0, ev_noIo, ev_wipe0, ev_wipe, ev_compL0, ev_compL, ev_forL0, ev_forL, at2_0, at2_1, ixN2_0, ixN2_1, fnSem, List.length_cons, List.length_nil, List.replicate, List.append_eq, List.cons_append, List.nil_append, List.getElem?_cons_zero, List.getElem?_cons_succ, List.set_cons_zero, List.set_cons_succ, List.take_succ_cons, List.take_zero, isIoAt, lstAt, setL, Nat.reduceAdd, Nat.reduceSub, Option.map_some, Option.bind_some, if_true, if_false, Bool.false_eq_true, ite_true, ite_false, reduceIte, Int.natCast_add, decide_eq_true_eq, decide_true, decide_false, Bool.not_true, Bool.not_false, Bool.not_eq_true, and_self, and_true, true_and, Nat.reduceLeDiff, Nat.reduceLT, Bool.and_true, Bool.true_and, Bool.and_false, Bool.false_and, e0, ixD_t, at2_0, at2_1, k_f_rest, k_f_w, k_f_f, len_t, ne22, e1]
    rfl
  | rest => rfl
def RR.looksM (r : RR) : Bool := decide (r.fr.length ≤ 2 ∧ r.bk.length ≤ 2) && (!(!r.op && (decide (0 < r.bk.length) || decide (r.fr.length = 0))) && (r.fr ++ r.bk).zipIdx.all fun p => p.1.okM p.2)
def RR.makesM (r : RR) : Bool := decide (1 ≤ r.mak.length ∧ r.mak.length ≤ 4) && (r.mak.all (RI.okM (r.fr.length + r.bk.length) r.op) && (decide ((r.mak.filter RI.isRest).length ≤ 1) && decide ((r.mak.filter RI.isRest).length < r.mak.length)))
def RR.okM (r : RR) : Bool := r.looksM && r.makesM
structure RR.sm (r : RR) : Prop where
  ts : ∀ t ∈ r.fr ++ r.bk, t.sm
  is : ∀ t ∈ r.mak, t.sm
  few : r.fr.length + r.bk.length ≤ 5000
  few2 : r.mak.length ≤ 5000
theorem side_eval (ts : List RT) : F_is_side [.val (.tuple (ts.map RT.enc))] = .ok (.bool (decide (ts.length ≤ 2))) [.val (.tuple (ts.map RT.enc))] := by
  unfold F_is_side m_is_side
  have e : decide ((ts.length:Int) ≤ 2) = decide (ts.length ≤ 2) := by
    by_cases h : ts.length ≤ 2
    · rw [decide_eq_true h, decide_eq_true (by omega)]
    · rw [decide_eq_false h, decide_eq_false (by omega)]
  simp only [ev_seq, ev_seq_nx, ev_seq_rt, ev_seq_ex, ev_seq_bk, ev_seq_ct, ev_seq_st, ev_seq_ite, ev_next, ev_ifs, ev_ites, ev_ites_ex, ev_ret, ev_drop, ev_out, ev_out_ex, ev_outA, ev_c, ev_set, ev_own, ev_bind, ev_bind_ex, ev_bindA, ev_op, ev_un, ev_call, ev_ofO, ev_nil, ev_cons, ev_consok, ev_push, ev_tup, ev_lst, ev_not, ev_notb, ev_and, ev_or, ev_if, ev_ite, ev_chain, ev_var, ev_ixO, ev_setIx, ev_augIx, ev_opOL, ev_callO, ev_ref, ev_mut, ev_callF, ev_callN, ev_back, ev_backX, ev_backN, ev_mk0, ev_mkv, ev_mkr, ev_wb0, ev_wbv, ev_wbr, ev_iter, ev_iterA, ev_comp, ev_for, ev_sl, ev_part0, ev_part1, ev_mpart, ev_asg, ev_par, ev_listOf, ev_binL, ev_gN, ev_gT, ev_gA0, ev_gA, ev_noIo0, ev_noIo, ev_wipe0, ev_wipe, ev_compL0, ev_compL, ev_forL0, ev_forL, at2_0, at2_1, ixN2_0, ixN2_1, fnSem, List.length_cons, List.length_nil, List.replicate, List.append_eq, List.cons_append, List.nil_append, List.getElem?_cons_zero, List.getElem?_cons_succ, List.set_cons_zero, List.set_cons_succ, List.take_succ_cons, List.take_zero, isIoAt, lstAt, setL, Nat.reduceAdd, Nat.reduceSub, Option.map_some, Option.bind_some, if_true, if_false, Bool.false_eq_true, ite_true, ite_false, reduceIte, Int.natCast_add, decide_eq_true_eq, decide_true, decide_false, Bool.not_true, Bool.not_false, Bool.not_eq_true, and_self, and_true, true_and, Nat.reduceLeDiff, Nat.reduceLT, Bool.and_true, Bool.true_and, Bool.and_false, Bool.false_and, isi_t, len_t, List.length_map, leD_i, e]
theorem looking_eval (r : RR) (h : r.sm) : F_is_looking [.val (.tuple (r.fr.map RT.enc)), .val (.bool r.op), .val (.tuple (r.bk.map RT.enc))] = .ok (.bool r.looksM) [.val (.tuple (r.fr.map RT.enc)), .val (.bool r.op), .val (.tuple (r.bk.map RT.enc))] := by
  have s1 := side_eval r.fr
  have s2 := side_eval r.bk
  have hfew := h.few
  have e1 := compL_mapA (vs := [3, 4]) (g := gT [3, 4]) (mb := mCallN F_is_test [none, none] (mCons (mVar 4) (mCons (mVar 3) mNil))) (ρ := [.val (.tuple (r.fr.map RT.enc)), .val (.bool r.op), .val (.tuple (r.bk.map RT.enc)), .no, .no]) (fun p : RT × Nat => .tuple [.int p.2, p.1.enc]) (fun p => .bool (p.1.okM p.2)) (r.fr ++ r.bk).zipIdx (by rw [List.length_zipIdx, List.length_append]; omega) (by
    rintro ⟨t, k⟩ hx
    have ht := List.mem_of_getElem? (List.mem_zipIdx_iff_getElem?.mp hx)
    refine ⟨[.val (.tuple (r.fr.map RT.enc)), .val (.bool r.op), .val (.tuple (r.bk.map RT.enc)), .val (.int k), .val t.enc], [.val (.tuple (r.fr.map RT.enc)), .val (.bool r.op), .val (.tuple (r.bk.map RT.enc)), .val (.int k), .val t.enc], rfl, ?_, rfl, rfl⟩
    have := test_eval t k (h.ts t ht)
    simp only [ev_seq, ev_seq_nx, ev_seq_rt, ev_seq_ex, ev_seq_bk, ev_seq_ct, ev_seq_st, ev_seq_ite, ev_next, ev_ifs, ev_ites, ev_ites_ex, ev_ret, ev_drop, ev_out, ev_out_ex, ev_outA, ev_c, ev_set, ev_own, ev_bind, ev_bind_ex, ev_bindA, ev_op, ev_un, ev_call, ev_ofO, ev_nil, ev_cons, ev_consok, ev_push, ev_tup, ev_lst, ev_not, ev_notb, ev_and, ev_or, ev_if, ev_ite, ev_chain, ev_var, ev_ixO, ev_setIx, ev_augIx, ev_opOL, ev_callO, ev_ref, ev_mut, ev_callF, ev_callN, ev_back, ev_backX, ev_backN, ev_mk0, ev_mkv, ev_mkr, ev_wb0, ev_wbv, ev_wbr, ev_iter, ev_iterA, ev_comp, ev_for, ev_sl, ev_part0, ev_part1, ev_mpart, ev_asg, ev_par, ev_listOf, ev_binL, ev_gN, ev_gT, ev_gA0, ev_gA, ev_noIo0, ev_noIo, ev_wipe0, ev_wipe, ev_compL0, ev_compL, ev_forL0, ev_forL, at2_0, at2_1, ixN2_0, ixN2_1, fnSem, List.length_cons, List.length_nil, List.replicate, List.append_eq, List.cons_append, List.nil_append, List.getElem?_cons_zero, List.getElem?_cons_succ, List.set_cons_zero, List.set_cons_succ, List.take_succ_cons, List.take_zero, isIoAt, lstAt, setL, Nat.reduceAdd, Nat.reduceSub, Option.map_some, Option.bind_some, if_true, if_false, Bool.false_eq_true, ite_true, ite_false, reduceIte, Int.natCast_add, decide_eq_true_eq, decide_true, decide_false, Bool.not_true, Bool.not_false, Bool.not_eq_true, and_self, and_true, true_and, Nat.reduceLeDiff, Nat.reduceLT, Bool.and_true, Bool.true_and, Bool.and_false, Bool.false_and, this])
  have e2 : enumD [.tuple ((r.fr ++ r.bk).map RT.enc)] = some ((r.fr ++ r.bk).zipIdx.map fun p : RT × Nat => .tuple [.int p.2, p.1.enc]) := by
    show some (enumL _) = _
    rw [enumL_map]
  have e3 := allD_map (fun p : RT × Nat => p.1.okM p.2) (r.fr ++ r.bk).zipIdx
  have a1 : addD (.tuple (r.fr.map RT.enc)) (.tuple (r.bk.map RT.enc)) = some (.tuple ((r.fr ++ r.bk).map RT.enc)) := by
    rw [addD_t (by rw [List.length_map, List.length_map]; omega), List.map_append]
  unfold F_is_looking m_is_looking RR.looksM
  by_cases h1 : r.fr.length ≤ 2
  · by_cases h2 : r.bk.length ≤ 2
    · have c : (r.fr.length ≤ 2 ∧ r.bk.length ≤ 2) := ⟨h1, h2⟩
      rw [decide_eq_true h1] at s1
      rw [decide_eq_true h2] at s2
      rw [decide_eq_true c, Bool.true_and]
      cases hop : r.op with
      | true =>
        rw [hop] at e1
        simp only [Bool.not_true, Bool.false_and, Bool.not_false, Bool.true_and]
        simp only [ev_seq, ev_seq_nx, ev_seq_rt, ev_seq_ex, ev_seq_bk, ev_seq_ct, ev_seq_st, ev_seq_ite, ev_next, ev_ifs, ev_ites, ev_ites_ex, ev_ret, ev_drop, ev_out, ev_out_ex, ev_outA, ev_c, ev_set, ev_own, ev_bind, ev_bind_ex, ev_bindA, ev_op, ev_un, ev_call, ev_ofO, ev_nil, ev_cons, ev_consok, ev_push, ev_tup, ev_lst, ev_not, ev_notb, ev_and, ev_or, ev_if, ev_ite, ev_chain, ev_var, ev_ixO, ev_setIx, ev_augIx, ev_opOL, ev_callO, ev_ref, ev_mut, ev_callF, ev_callN, ev_back, ev_backX, ev_backN, ev_mk0, ev_mkv, ev_mkr, ev_wb0, ev_wbv, ev_wbr, ev_iter, ev_iterA, ev_comp, ev_for, ev_sl, ev_part0, ev_part1, ev_mpart, ev_asg, ev_par, ev_listOf, ev_binL, ev_gN, ev_gT, ev_gA0, ev_gA, ev_noIo0, ev_noIo, ev_wipe0, ev_wipe, ev_compL0, ev_compL, ev_forL0, ev_forL, at2_0, at2_1, ixN2_0, ixN2_1, fnSem, List.length_cons, List.length_nil, List.replicate, List.append_eq, List.cons_append, List.nil_append, List.getElem?_cons_zero, List.getElem?_cons_succ, List.set_cons_zero, List.set_cons_succ, List.take_succ_cons, List.take_zero, isIoAt, lstAt, setL, Nat.reduceAdd, Nat.reduceSub, Option.map_some, Option.bind_some, if_true, if_false, Bool.false_eq_true, ite_true, ite_false, reduceIte, Int.natCast_add, decide_eq_true_eq, decide_true, decide_false, Bool.not_true, Bool.not_false, Bool.not_eq_true, and_self, and_true, true_and, Nat.reduceLeDiff, Nat.reduceLT, Bool.and_true, Bool.true_and, Bool.and_false, Bool.false_and, s1, s2, isi_b, a1, e2, e1, e3]
      | false =>
        rw [hop] at e1
        by_cases h3 : 0 < r.bk.length
        · have c3 : (0:Int) < r.bk.length := by omega
          simp only [Bool.not_false, Bool.true_and, decide_eq_true h3, Bool.true_or, Bool.not_true, Bool.false_and]
          simp only [ev_seq, ev_seq_nx, ev_seq_rt, ev_seq_ex, ev_seq_bk, ev_seq_ct, ev_seq_st, ev_seq_ite, ev_next, ev_ifs, ev_ites, ev_ites_ex, ev_ret, ev_drop, ev_out, ev_out_ex, ev_outA, ev_c, ev_set, ev_own, ev_bind, ev_bind_ex, ev_bindA, ev_op, ev_un, ev_call, ev_ofO, ev_nil, ev_cons, ev_consok, ev_push, ev_tup, ev_lst, ev_not, ev_notb, ev_and, ev_or, ev_if, ev_ite, ev_chain, ev_var, ev_ixO, ev_setIx, ev_augIx, ev_opOL, ev_callO, ev_ref, ev_mut, ev_callF, ev_callN, ev_back, ev_backX, ev_backN, ev_mk0, ev_mkv, ev_mkr, ev_wb0, ev_wbv, ev_wbr, ev_iter, ev_iterA, ev_comp, ev_for, ev_sl, ev_part0, ev_part1, ev_mpart, ev_asg, ev_par, ev_listOf, ev_binL, ev_gN, ev_gT, ev_gA0, ev_gA, ev_noIo0, ev_noIo, ev_wipe0, ev_wipe, ev_compL0, ev_compL, ev_forL0, ev_forL, at2_0, at2_1, ixN2_0, ixN2_1, fnSem, List.length_cons, List.length_nil, List.replicate, List.append_eq, List.cons_append, List.nil_append, List.getElem?_cons_zero, List.getElem?_cons_succ, List.set_cons_zero, List.set_cons_succ, List.take_succ_cons, List.take_zero, isIoAt, lstAt, setL, Nat.reduceAdd, Nat.reduceSub, Option.map_some, Option.bind_some, if_true, if_false, Bool.false_eq_true, ite_true, ite_false, reduceIte, Int.natCast_add, decide_eq_true_eq, decide_true, decide_false, Bool.not_true, Bool.not_false, Bool.not_eq_true, and_self, and_true, true_and, Nat.reduceLeDiff, Nat.reduceLT, Bool.and_true, Bool.true_and, Bool.and_false, Bool.false_and, s1, s2, isi_b, len_t, List.length_map, gtD_i, c3]
        · have c3 : ¬ (0:Int) < r.bk.length := by omega
          by_cases h4 : r.fr.length = 0
          · have c4 : (r.fr.length : Int) = 0 := by omega
            simp only [Bool.not_false, Bool.true_and, decide_eq_false h3, decide_eq_true h4, Bool.false_or, Bool.not_true, Bool.false_and]
            simp only [ev_seq, ev_seq_nx, ev_seq_rt, ev_seq_ex, ev_seq_bk, ev_seq_ct, ev_seq_st, ev_seq_ite, ev_next, ev_ifs, ev_ites, ev_ites_ex, ev_ret, ev_drop, ev_out, ev_out_ex, ev_outA, ev_c, ev_set, ev_own, ev_bind, ev_bind_ex, ev_bindA, ev_op, ev_un, ev_call, ev_ofO, ev_nil, ev_cons, ev_consok, ev_push, ev_tup, ev_lst, ev_not, ev_notb, ev_and, ev_or, ev_if, ev_ite, ev_chain, ev_var, ev_ixO, ev_setIx, ev_augIx, ev_opOL, ev_callO, ev_ref, ev_mut, ev_callF, ev_callN, ev_back, ev_backX, ev_backN, ev_mk0, ev_mkv, ev_mkr, ev_wb0, ev_wbv, ev_wbr, ev_iter, ev_iterA, ev_comp, ev_for, ev_sl, ev_part0, ev_part1, ev_mpart, ev_asg, ev_par, ev_listOf, ev_binL, ev_gN, ev_gT, ev_gA0, ev_gA, ev_noIo0, ev_noIo, ev_wipe0, ev_wipe, ev_compL0, ev_compL, ev_forL0, ev_forL, at2_0, at2_1, ixN2_0, ixN2_1, fnSem, List.length_cons, List.length_nil, List.replicate, List.append_eq, List.cons_append, List.nil_append, List.getElem?_cons_zero, List.getElem?_cons_succ, List.set_cons_zero, List.set_cons_succ, List.take_succ_cons, List.take_zero, isIoAt, lstAt, setL, Nat.reduceAdd, Nat.reduceSub, Option.map_some, Option.bind_some, if_true, if_false, Bool.false_eq_true, ite_true, ite_false, reduceIte, Int.natCast_add, decide_eq_true_eq, decide_true, decide_false, Bool.not_true, Bool.not_false, Bool.not_eq_true, and_self, and_true, true_and, Nat.reduceLeDiff, Nat.reduceLT, Bool.and_true, Bool.true_and, Bool.and_false, Bool.false_and, s1, s2, isi_b, len_t, List.length_map, gtD_i, c3, eqD_int, c4]
          · have c4 : ¬ (r.fr.length : Int) = 0 := by omega
            simp only [Bool.not_false, Bool.true_and, decide_eq_false h3, decide_eq_false h4, Bool.false_or, Bool.or_false, Bool.not_false, Bool.true_and]
            simp only [ev_seq, ev_seq_nx, ev_seq_rt, ev_seq_ex, ev_seq_bk, ev_seq_ct, ev_seq_st, ev_seq_ite, ev_next, ev_ifs, ev_ites, ev_ites_ex, ev_ret, ev_drop, ev_out, ev_out_ex, ev_outA, ev_c, ev_set, ev_own, ev_bind, ev_bind_ex, ev_bindA, ev_op, ev_un, ev_call, ev_ofO, ev_nil, ev_cons, ev_consok, ev_push, ev_tup, ev_lst, ev_not, ev_notb, ev_and, ev_or, ev_if, ev_ite, ev_chain, ev_var, ev_ixO, ev_setIx, ev_augIx, ev_opOL, ev_callO, ev_ref, ev_mut, ev_callF, ev_callN, ev_back, ev_backX, ev_backN, ev_mk0, ev_mkv, ev_mkr, ev_wb0, ev_wbv, ev_wbr, ev_iter, ev_iterA, ev_comp, ev_for, ev_sl, ev_part0, ev_part1, ev_mpart, ev_asg, ev_par, ev_listOf, ev_binL, ev_gN, ev_gT, ev_gA0, ev_gA, ev_noIo0, ev_noIo, ev_wipe0, ev_wipe, ev_compL0, ev_compL, ev_forL0, ev_forL, at2_0, at2_1, ixN2_0, ixN2_1, fnSem, List.length_cons, List.length_nil, List.replicate, List.append_eq, List.cons_append, List.nil_append, List.getElem?_cons_zero, List.getElem?_cons_succ, List.set_cons_zero, List.set_cons_succ, List.take_succ_cons, List.take_zero, isIoAt, lstAt, setL, Nat.reduceAdd, Nat.reduceSub, Option.map_some, Option.bind_some, if_true, if_false, Bool.false_eq_true, ite_true, ite_false, reduceIte, Int.natCast_add, decide_eq_true_eq, decide_true, decide_false, Bool.not_true, Bool.not_false, Bool.not_eq_true, and_self, and_true, true_and, Nat.reduceLeDiff, Nat.reduceLT, Bool.and_true, Bool.true_and, Bool.and_false, Bool.false_and, s1, s2, isi_b, len_t, List.length_map, gtD_i, c3, eqD_int, c4, a1, e2, e1, e3]
    · have c : ¬ (r.fr.length ≤ 2 ∧ r.bk.length ≤ 2) := fun q => h2 q.2
      rw [decide_eq_true h1] at s1
      rw [decide_eq_false h2] at s2
      rw [decide_eq_false c, Bool.false_and]
      simp only [ev_seq, ev_seq_nx, ev_seq_rt, ev_seq_ex, ev_seq_bk, ev_seq_ct, ev_seq_st, ev_seq_ite, ev_next, ev_ifs, ev_ites, ev_ites_ex, ev_ret, ev_drop, ev_out, ev_out_ex, ev_outA, ev_c, ev_set, ev_own, ev_bind, ev_bind_ex, ev_bindA, ev_op, ev_un, ev_call, ev_ofO, ev_nil, ev_cons, ev_consok, ev_push, ev_tup, ev_lst, ev_not, ev_notb, ev_and, ev_or, ev_if, ev_ite, ev_chain, ev_var, ev_ixO, ev_setIx, ev_augIx, ev_opOL, ev_callO, ev_ref, ev_mut, ev_callF, ev_callN, ev_back, ev_backX, ev_backN, ev_mk0, ev_mkv, ev_mkr, ev_wb0, ev_wbv, ev_wbr, ev_iter, ev_iterA, ev_comp, ev_for, ev_sl, ev_part0, ev_part1, ev_mpart, ev_asg, ev_par, ev_listOf, ev_binL, ev_gN, ev_gT, ev_gA0, ev_gA, ev_noIo0, ev_noIo, ev_wipe0, ev_wipe, ev_compL0, ev_compL, ev_forL0, ev_forL, at2_0, at2_1, ixN2_0, ixN2_1, fnSem, List.length_cons, List.length_nil, List.replicate, List.append_eq, List.cons_append, List.nil_append, List.getElem?_cons_zero, List.getElem?_cons_succ, List.set_cons_zero, List.set_cons_succ, List.take_succ_cons, List.take_zero, isIoAt, lstAt, setL, Nat.reduceAdd, Nat.reduceSub, Option.map_some, Option.bind_some, if_true, if_false, Bool.false_eq_true, ite_true, ite_false, reduceIte, Int.natCast_add, decide_eq_true_eq, decide_true, decide_false, Bool.not_true, Bool.not_false, Bool.not_eq_true, and_self, and_true, true_and, Nat.reduceLeDiff, Nat.reduceLT, Bool.and_true, Bool.true_and, Bool.and_false, Bool.false_and, s1, s2]
  · have c : ¬ (r.fr.length ≤ 2 ∧ r.bk.length ≤ 2) := fun q => h1 q.1
    rw [decide_eq_false h1] at s1
    rw [decide_eq_false c, Bool.false_and]
    simp only [ev_seq, ev_seq_nx, ev_seq_rt, ev_seq_ex, ev_seq_bk, ev_seq_ct, ev_seq_st, ev_seq_ite, ev_next, ev_ifs, ev_ites, ev_ites_ex, ev_ret, ev_drop, ev_out, ev_out_ex, ev_outA, ev_c, ev_set, ev_own, ev_bind, ev_bind_ex, ev_bindA, ev_op, ev_un, ev_call, ev_ofO, ev_nil, ev_cons, ev_consok, ev_push, ev_tup, ev_lst, ev_not, ev_notb, ev_and, ev_or, ev_if, ev_ite, ev_chain, ev_var, ev_ixO, ev_setIx, ev_augIx, ev_opOL, ev_callO, ev_ref, ev_mut, ev_callF, ev_callN, ev_back, ev_backX, ev_backN, ev_mk0, ev_mkv, ev_mkr, ev_wb0, ev_wbv, ev_wbr, ev_iter, ev_iterA, ev_comp, ev_for, ev_sl, ev_part0, ev_part1, ev_mpart, ev_asg, ev_par, ev_listOf, ev_binL, ev_gN, ev_gT, ev_gA0, ev_gA, ev_noIo0, ev_noIo, ev_wipe0, ev_wipe, ev_compL0, ev_compL, ev_forL0, ev_forL, at2_0, at2_1, ixN2_0, ixN2_1, fnSem, List.length_cons, List.length_nil, List.replicate, List.append_eq, List.cons_append, List.nil_append, List.getElem?_cons_zero, List.getElem?_cons_succ, List.set_cons_zero, List.set_cons_succ, List.take_succ_cons, List.take_zero, isIoAt, lstAt, setL, Nat.reduceAdd, Nat.reduceSub, Option.map_some, Option.bind_some, if_true, if_false, Bool.false_eq_true, ite_true, ite_false, reduceIte, Int.natCast_add, decide_eq_true_eq, decide_true, decide_false, Bool.not_true, Bool.not_false, Bool.not_eq_true, and_self, and_true, true_and, Nat.reduceLeDiff, Nat.reduceLT, Bool.and_true, Bool.true_and, Bool.and_false, Bool.false_and, s1]
def restRD (d : Dt) : Bool := PyData.eqv ((ixD d (.int 0)).getD .none) (.str "rest")
theorem restRD_enc (i : RI) : restRD i.enc = i.isRest := by cases i <;> rfl
theorem restR_ev (i : RI) : ∃ x, ixD i.enc (.int 0) = some x ∧ eqD x (.str "rest") = some (.bool i.isRest) := by cases i <;> exact ⟨_, rfl, rfl⟩
theorem making_eval (r : RR) (h : r.sm) : F_is_making [.val (.tuple (r.mak.map RI.enc)), .val (.int ((r.fr.length + r.bk.length : Nat) : Int)), .val (.bool r.op)] = .ok (.bool r.makesM) [.val (.tuple (r.mak.map RI.enc)), .val (.int ((r.fr.length + r.bk.length : Nat) : Int)), .val (.bool r.op)] := by
  have hfew := h.few2
  generalize hn : r.fr.length + r.bk.length = n
  have e1 := compL_mapA (vs := [4]) (g := gN 4) (mb := mCallN F_is_item [none, none, none] (mCons (mVar 4) (mCons (mVar 1) (mCons (mVar 2) mNil)))) (ρ := [.val (.tuple (r.mak.map RI.enc)), .val (.int n), .val (.bool r.op), .no, .no]) RI.enc (fun i => .bool (i.okM n r.op)) r.mak (by omega) (by
    intro i hi
    refine ⟨_, [.val (.tuple (r.mak.map RI.enc)), .val (.int n), .val (.bool r.op), .no, .val i.enc], rfl, ?_, rfl, rfl⟩
    have := item_eval i n r.op (h.is i hi)
    simp only [ev_seq, ev_seq_nx, ev_seq_rt, ev_seq_ex, ev_seq_bk, ev_seq_ct, ev_seq_st, ev_seq_ite, ev_next, ev_ifs, ev_ites, ev_ites_ex, ev_ret, ev_drop, ev_out, ev_out_ex, ev_outA, ev_c, ev_set, ev_own, ev_bind, ev_bind_ex, ev_bindA, ev_op, ev_un, ev_call, ev_ofO, ev_nil, ev_cons, ev_consok, ev_push, ev_tup, ev_lst, ev_not, ev_notb, ev_and, ev_or, ev_if, ev_ite, ev_chain, ev_var, ev_ixO, ev_setIx, ev_augIx, ev_opOL, ev_callO, ev_ref, ev_mut, ev_callF, ev_callN, ev_back, ev_backX, ev_backN, ev_mk0, ev_mkv, ev_mkr, ev_wb0, ev_wbv, ev_wbr, ev_iter, ev_iterA, ev_comp, ev_for, ev_sl, ev_part0, ev_part1, ev_mpart, ev_asg, ev_par, ev_listOf, ev_binL, ev_gN, ev_gT, ev_gA0, ev_gA, ev_noIo0, ev_noIo, ev_wipe0, ev_wipe, ev_compL0, ev_compL, ev_forL0, ev_forL, at2_0, at2_1, ixN2_0, ixN2_1, fnSem, List.length_cons, List.length_nil, List.replicate, List.append_eq, List.cons_append, List.nil_append, List.getElem?_cons_zero, List.getElem?_cons_succ, List.set_cons_zero, List.set_cons_succ, List.take_succ_cons, List.take_zero, isIoAt, lstAt, setL, Nat.reduceAdd, Nat.reduceSub, Option.map_some, Option.bind_some, if_true, if_false, Bool.false_eq_true, ite_true, ite_false, reduceIte, Int.natCast_add, decide_eq_true_eq, decide_true, decide_false, Bool.not_true, Bool.not_false, Bool.not_eq_true, and_self, and_true, true_and, Nat.reduceLeDiff, Nat.reduceLT, Bool.and_true, Bool.true_and, Bool.and_false, Bool.false_and, this])
  have e2 := compL_fm (vs := [4]) (g := gN 4) (mc := mOp eqD (mOp ixD (mVar 4) (mC (.int 0))) (mC (.str "rest"))) (mb := mVar 4) (ρ := [.val (.tuple (r.mak.map RI.enc)), .val (.int n), .val (.bool r.op), .no, .no]) restRD id (r.mak.map RI.enc) [] (by rw [List.length_map]; simp; omega) (by
    intro d hd
    obtain ⟨i, hi, rfl⟩ := List.mem_map.mp hd
    obtain ⟨x, hx, hx2⟩ := restR_ev i
    refine ⟨[.val (.tuple (r.mak.map RI.enc)), .val (.int n), .val (.bool r.op), .no, .val i.enc], [.val (.tuple (r.mak.map RI.enc)), .val (.int n), .val (.bool r.op), .no, .val i.enc], rfl, ?_, fun _ => ⟨rfl, rfl⟩, fun _ => ⟨_, rfl, rfl, rfl⟩⟩
    rw [restRD_enc]
    simp only [ev_seq, ev_seq_nx, ev_seq_rt, ev_seq_ex, ev_seq_bk, ev_seq_ct, ev_seq_st, ev_seq_ite, ev_next, ev_ifs, ev_ites, ev_ites_ex, ev_ret, ev_drop, ev_out, ev_out_ex, ev_outA, ev_c, ev_set, ev_own, ev_bind, ev_bind_ex, ev_bindA, ev_op, ev_un, ev_call, ev_ofO, ev_nil, ev_cons, ev_consok, ev_push, ev_tup, ev_lst, ev_not, ev_notb, ev_and, ev_or, ev_if, ev_ite, ev_chain, ev_var, ev_ixO, ev_setIx, ev_augIx, ev_opOL, ev_callO, ev_ref, ev_mut, ev_callF, ev_callN, ev_back, ev_backX, ev_backN, ev_mk0, ev_mkv, ev_mkr, ev_wb0, ev_wbv, ev_wbr, ev_iter, ev_iterA, ev_comp, ev_for, ev_sl, ev_part0, ev_part1, ev_mpart, ev_asg, ev_par, ev_listOf, ev_binL, ev_gN, ev_gT, ev_gA0, ev_gA, ev_noIo0, ev_noIo, ev_wipe0, ev_wipe, ev_compL0, ev_compL, ev_forL0, ev_forL, at2_0, at2_1, ixN2_0, ixN2_1, fnSem, List.length_cons, List.length_nil, List.replicate, List.append_eq, List.cons_append, List.nil_append, List.getElem?_cons_zero, List.getElem?_cons_succ, List.set_cons_zero, List.set_cons_succ, List.take_succ_cons, List.take_zero, isIoAt, lstAt, setL, Nat.reduceAdd, Nat.reduceSub, Option.map_some, Option.bind_some, if_true, if_false, Bool.false_eq_true, ite_true, ite_false, reduceIte, Int.natCast_add, decide_eq_true_eq, decide_true, decide_false, Bool.not_true, Bool.not_false, Bool.not_eq_true, and_self, and_true, true_and, Nat.reduceLeDiff, Nat.reduceLT, Bool.and_true, Bool.true_and, Bool.and_false, Bool.false_and, hx, hx2])
  rw [List.map_id, List.filter_map, show restRD ∘ RI.enc = RI.isRest from funext restRD_enc, List.nil_append] at e2
  have e3 := allD_map (RI.okM n r.op) r.mak
  unfold F_is_making m_is_making RR.makesM
  rw [hn]
  by_cases h1 : (1:Int) ≤ r.mak.length
  · by_cases h2 : (r.mak.length:Int) ≤ 4
    · have c : (1 ≤ r.mak.length ∧ r.mak.length ≤ 4) := ⟨by omega, by omega⟩
      rw [decide_eq_true c, Bool.true_and]
      cases hall : r.mak.all (RI.okM n r.op) with
      | false =>
        have hall' : (r.mak.all fun i => RI.okM n r.op i) = false := hall
        rw [hall'] at e3
        rw [Bool.false_and]
        simp only [ev_seq, ev_seq_nx, ev_seq_rt, ev_seq_ex, ev_seq_bk, ev_seq_ct, ev_seq_st, ev_seq_ite, ev_next, ev_ifs, ev_ites, ev_ites_ex, ev_ret, ev_drop, ev_out, ev_out_ex, ev_outA, ev_c, ev_set, ev_own, ev_bind, ev_bind_ex, ev_bindA, ev_op, ev_un, ev_call, ev_ofO, ev_nil, ev_cons, ev_consok, ev_push, ev_tup, ev_lst, ev_not, ev_notb, ev_and, ev_or, ev_if, ev_ite, ev_chain, ev_var, ev_ixO, ev_setIx, ev_augIx, ev_opOL, ev_callO, ev_ref, ev_mut, ev_callF, ev_callN, ev_back, ev_backX, ev_backN, ev_mk0, ev_mkv, ev_mkr, ev_wb0, ev_wbv, ev_wbr, ev_iter, ev_iterA, ev_comp, ev_for, ev_sl, ev_part0, ev_part1, ev_mpart, ev_asg, ev_par, ev_listOf, ev_binL, ev_gN, ev_gT, ev_gA0, ev_gA, ev_noIo0, ev_noIo, ev_wipe0, ev_wipe, ev_compL0, ev_compL, ev_forL0, ev_forL, at2_0, at2_1, ixN2_0, ixN2_1, fnSem, List.length_cons, List.length_nil, List.replicate, List.append_eq, List.cons_append, List.nil_append, List.getElem?_cons_zero, List.getElem?_cons_succ, List.set_cons_zero, List.set_cons_succ, List.take_succ_cons, List.take_zero, isIoAt, lstAt, setL, Nat.reduceAdd, Nat.reduceSub, Option.map_some, Option.bind_some, if_true, if_false, Bool.false_eq_true, ite_true, ite_false, reduceIte, Int.natCast_add, decide_eq_true_eq, decide_true, decide_false, Bool.not_true, Bool.not_false, Bool.not_eq_true, and_self, and_true, true_and, Nat.reduceLeDiff, Nat.reduceLT, Bool.and_true, Bool.true_and, Bool.and_false, Bool.false_and, isi_t, len_t, List.length_map, leD_i, h1, h2, seqD_t, e1, e3]
      | true =>
        have hall' : (r.mak.all fun i => RI.okM n r.op i) = true := hall
        rw [hall'] at e3
        rw [Bool.true_and]
        have d1 : decide (((r.mak.filter RI.isRest).length:Int) ≤ 1) = decide ((r.mak.filter RI.isRest).length ≤ 1) := by
          by_cases q : (r.mak.filter RI.isRest).length ≤ 1
          · rw [decide_eq_true q, decide_eq_true (by omega)]
          · rw [decide_eq_false q, decide_eq_false (by omega)]
        have d2 : decide (((r.mak.filter RI.isRest).length:Int) < r.mak.length) = decide ((r.mak.filter RI.isRest).length < r.mak.length) := by
          by_cases q : (r.mak.filter RI.isRest).length < r.mak.length
          · rw [decide_eq_true q, decide_eq_true (by omega)]
          · rw [decide_eq_false q, decide_eq_false (by omega)]
        by_cases q : (r.mak.filter RI.isRest).length ≤ 1
        · rw [decide_eq_true q] at d1 ⊢
          rw [Bool.true_and]
          simp only [ev_seq, ev_seq_nx, ev_seq_rt, ev_seq_ex, ev_seq_bk, ev_seq_ct, ev_seq_st, ev_seq_ite, ev_next, ev_ifs, ev_ites, ev_ites_ex, ev_ret, ev_drop, ev_out, ev_out_ex, ev_outA, ev_c, ev_set, ev_own, ev_bind, ev_bind_ex, ev_bindA, ev_op, ev_un, ev_call, ev_ofO, ev_nil, ev_cons, ev_consok, ev_push, ev_tup, ev_lst, ev_not, ev_notb, ev_and, ev_or, ev_if, ev_ite, ev_chain, ev_var, ev_ixO, ev_setIx, ev_augIx, ev_opOL, ev_callO, ev_ref, ev_mut, ev_callF, ev_callN, ev_back, ev_backX, ev_backN, ev_mk0, ev_mkv, ev_mkr, ev_wb0, ev_wbv, ev_wbr, ev_iter, ev_iterA, ev_comp, ev_for, ev_sl, ev_part0, ev_part1, ev_mpart, ev_asg, ev_par, ev_listOf, ev_binL, ev_gN, ev_gT, ev_gA0, ev_gA, ev_noIo0, ev_noIo, ev_wipe0, ev_wipe, ev_compL0, ev_compL, ev_forL0, ev_forL, at2_0, at2_1, ixN2_0, ixN2_1, fnSem, List.length_cons, List.length_nil, List.replicate, List.append_eq, List.cons_append, List.nil_append, List.getElem?_cons_zero, List.getElem?_cons_succ, List.set_cons_zero, List.set_cons_succ, List.take_succ_cons, List.take_zero, isIoAt, lstAt, setL, Nat.reduceAdd, Nat.reduceSub, Option.map_some, Option.bind_some, if_true, if_false, Bool.false_eq_true, ite_true, ite_false, reduceIte, Int.natCast_add, decide_eq_true_eq, decide_true, decide_false, Bool.not_true, Bool.not_false, Bool.not_eq_true, and_self, and_true, true_and, Nat.reduceLeDiff, Nat.reduceLT, Bool.and_true, Bool.true_and, Bool.and_false, Bool.false_and, isi_t, len_t, len_l, List.length_map, leD_i, ltD_i, h1, h2, seqD_t, e1, e3, e2, d1, d2]
        · rw [decide_eq_false q] at d1 ⊢
          rw [Bool.false_and]
          simp only [ev_seq, ev_seq_nx, ev_seq_rt, ev_seq_ex, ev_seq_bk, ev_seq_ct, ev_seq_st, ev_seq_ite, ev_next, ev_ifs, ev_ites, ev_ites_ex, ev_ret, ev_drop, ev_out, ev_out_ex, ev_outA, ev_c, ev_set, ev_own, ev_bind, ev_bind_ex, ev_bindA, ev_op, ev_un, ev_call, ev_ofO, ev_nil, ev_cons, ev_consok, ev_push, ev_tup, ev_lst, ev_not, ev_notb, ev_and, ev_or, ev_if, ev_ite, ev_chain, ev_var, ev_ixO, ev_setIx, ev_augIx, ev_opOL, ev_callO, ev_ref, ev_mut, ev_callF, ev_callN, ev_back, ev_backX, ev_backN, ev_mk0, ev_mkv, ev_mkr, ev_wb0, ev_wbv, ev_wbr, ev_iter, ev_iterA, ev_comp, ev_for, ev_sl, ev_part0, ev_part1, ev_mpart, ev_asg, ev_par, ev_listOf, ev_binL, ev_gN, ev_gT, ev_gA0, ev_gA, ev_noIo0, ev_noIo, ev_wipe0, ev_wipe, ev_compL0, ev_compL, ev_forL0, ev_forL, at2_0, at2_1, ixN2_0, ixN2_1, fnSem, List.length_cons, List.length_nil, List.replicate, List.append_eq, List.cons_append, List.nil_append, List.getElem?_cons_zero, List.getElem?_cons_succ, List.set_cons_zero, List.set_cons_succ, List.take_succ_cons, List.take_zero, isIoAt, lstAt, setL, Nat.reduceAdd, Nat.reduceSub, Option.map_some, Option.bind_some, if_true, if_false, Bool.false_eq_true, ite_true, ite_false, reduceIte, Int.natCast_add, decide_eq_true_eq, decide_true, decide_false, Bool.not_true, Bool.not_false, Bool.not_eq_true, and_self, and_true, true_and, Nat.reduceLeDiff, Nat.reduceLT, Bool.and_true, Bool.true_and, Bool.and_false, Bool.false_and, isi_t, len_t, len_l, List.length_map, leD_i, ltD_i, h1, h2, seqD_t, e1, e3, e2, d1]
    · have c : ¬ (1 ≤ r.mak.length ∧ r.mak.length ≤ 4) := by omega
      rw [decide_eq_false c, Bool.false_and]
      simp only [ev_seq, ev_seq_nx, ev_seq_rt, ev_seq_ex, ev_seq_bk, ev_seq_ct, ev_seq_st, ev_seq_ite, ev_next, ev_ifs, ev_ites, ev_ites_ex, ev_ret, ev_drop, ev_out, ev_out_ex, ev_outA, ev_c, ev_set, ev_own, ev_bind, ev_bind_ex, ev_bindA, ev_op, ev_un, ev_call, ev_ofO, ev_nil, ev_cons, ev_consok, ev_push, ev_tup, ev_lst, ev_not, ev_notb, ev_and, ev_or, ev_if, ev_ite, ev_chain, ev_var, ev_ixO, ev_setIx, ev_augIx, ev_opOL, ev_callO, ev_ref, ev_mut, ev_callF, ev_callN, ev_back, ev_backX, ev_backN, ev_mk0, ev_mkv, ev_mkr, ev_wb0, ev_wbv, ev_wbr, ev_iter, ev_iterA, ev_comp, ev_for, ev_sl, ev_part0, ev_part1, ev_mpart, ev_asg, ev_par, ev_listOf, ev_binL, ev_gN, ev_gT, ev_gA0, ev_gA, ev_noIo0, ev_noIo, ev_wipe0, ev_wipe, ev_compL0, ev_compL, ev_forL0, ev_forL, at2_0, at2_1, ixN2_0, ixN2_1, fnSem, List.length_cons, List.length_nil, List.replicate, List.append_eq, List.cons_append, List.nil_append, List.getElem?_cons_zero, List.getElem?_cons_succ, List.set_cons_zero, List.set_cons_succ, List.take_succ_cons, List.take_zero, isIoAt, lstAt, setL, Nat.reduceAdd, Nat.reduceSub, Option.map_some, Option.bind_some, if_true, if_false, Bool.false_eq_true, ite_true, ite_false, reduceIte, Int.natCast_add, decide_eq_true_eq, decide_true, decide_false, Bool.not_true, Bool.not_false, Bool.not_eq_true, and_self, and_true, true_and, Nat.reduceLeDiff, Nat.reduceLT, Bool.and_true, Bool.true_and, Bool.and_false, Bool.false_and, isi_t, len_t, List.length_map, leD_i, h1, h2]
  · have c : ¬ (1 ≤ r.mak.length ∧ r.mak.length ≤ 4) := by omega
    rw [decide_eq_false c, Bool.false_and]
    simp only [ev_seq, ev_seq_nx, ev_seq_rt, ev_seq_ex, ev_seq_bk, ev_seq_ct, ev_seq_st, ev_seq_ite, ev_next, ev_ifs, ev_ites, ev_ites_ex, ev_ret, ev_drop, ev_out, ev_out_ex, ev_outA, ev_c, ev_set, ev_own, ev_bind, ev_bind_ex, ev_bindA, ev_op, ev_un, ev_call, ev_ofO, ev_nil, ev_cons, ev_consok, ev_push, ev_tup, ev_lst, ev_not, ev_notb, ev_and, ev_or, ev_if, ev_ite, ev_chain, ev_var, ev_ixO, ev_setIx, ev_augIx, ev_opOL, ev_callO, ev_ref, ev_mut, ev_callF, ev_callN, ev_back, ev_backX, ev_backN, ev_mk0, ev_mkv, ev_mkr, ev_wb0, ev_wbv, ev_wbr, ev_iter, ev_iterA, ev_comp, ev_for, ev_sl, ev_part0, ev_part1, ev_mpart, ev_asg, ev_par, ev_listOf, ev_binL, ev_gN, ev_gT, ev_gA0, ev_gA, ev_noIo0, ev_noIo, ev_wipe0, ev_wipe, ev_compL0, ev_compL, ev_forL0, ev_forL, at2_0, at2_1, ixN2_0, ixN2_1, fnSem, List.length_cons, List.length_nil, List.replicate, List.append_eq, List.cons_append, List.nil_append, List.getElem?_cons_zero, List.getElem?_cons_succ, List.set_cons_zero, List.set_cons_succ, List.take_succ_cons, List.take_zero, isIoAt, lstAt, setL, Nat.reduceAdd, Nat.reduceSub, Option.map_some, Option.bind_some, if_true, if_false, Bool.false_eq_true, ite_true, ite_false, reduceIte, Int.natCast_add, decide_eq_true_eq, decide_true, decide_false, Bool.not_true, Bool.not_false, Bool.not_eq_true, and_self, and_true, true_and, Nat.reduceLeDiff, Nat.reduceLT, Bool.and_true, Bool.true_and, Bool.and_false, Bool.false_and, isi_t, len_t, List.length_map, leD_i, h1]
theorem rule_eval (r : RR) (h : r.sm) : F_is_rule [.val r.enc] = .ok (.bool r.okM) [.val r.enc] := by
  have e1 := looking_eval r h
  have e2 := making_eval r h
  have s5 : neD (.int (4:Nat)) (.int 4) = some (.bool false) := by rfl
  rw [Int.natCast_add] at e2
  unfold F_is_rule m_is_rule RR.enc RR.okM
  cases hl : r.looksM with
  | true =>
    rw [hl] at e1
    rw [Bool.true_and]
    simp only [ev_seq, ev_seq_nx, ev_seq_rt, ev_seq_ex, ev_seq_bk, ev_seq_ct, ev_seq_st, ev_seq_ite, ev_next, ev_ifs, ev_ites, ev_ites_ex, ev_ret, ev_drop, ev_out, ev_out_ex, ev_outA, ev_c, ev_set, ev_own, ev_bind, ev_bind_ex, ev_bindA, ev_op, ev_un, ev_call, ev_ofO, ev_nil, ev_cons, ev_consok, ev_push, ev_tup, ev_lst, ev_not, ev_notb, ev_and, ev_or, ev_if, ev_ite, ev_chain, ev_var, ev_ixO, ev_setIx, ev_augIx, ev_opOL, ev_callO, ev_ref, ev_mut, ev_callF, ev_callN, ev_back, ev_backX, ev_backN, ev_mk0, ev_mkv, ev_mkr, ev_wb0, ev_wbv, ev_wbr, ev_iter, ev_iterA, ev_comp, ev_for, ev_sl, ev_part0, ev_part1, ev_mpart, ev_asg, ev_par, ev_listOf, ev_binL, ev_gN, ev_gT, ev_gA0, ev_gA, ev_noIo0, ev_noIo, ev_wipe0, ev_wipe, ev_compL0, ev_compL, ev_forL0, ev_forL, at2_0, at2_1, ixN2_0, ixN2_1, fnSem, List.length_cons, List.length_nil, List.replicate, List.append_eq, List.cons_append, List.nil_append, List.getElem?_cons_zero, List.getElem?_cons_succ, List.set_cons_zero, List.set_cons_succ, List.take_succ_cons, List.take_zero, isIoAt, lstAt, setL, Nat.reduceAdd, Nat.reduceSub, Option.map_some, Option.bind_some, if_true, if_false, Bool.false_eq_true, ite_true, ite_false, reduceIte, Int.natCast_add, decide_eq_true_eq, decide_true, decide_false, Bool.not_true, Bool.not_false, Bool.not_eq_true, and_self, and_true, true_and, Nat.reduceLeDiff, Nat.reduceLT, Bool.and_true, Bool.true_and, Bool.and_false, Bool.false_and, isi_t, len_t, s5, e1, List.length_map, addD_i, e2]
  | false =>
    rw [hl] at e1
    rw [Bool.false_and]
    simp only [ev_seq, ev_seq_nx, ev_seq_rt, ev_seq_ex, ev_seq_bk, ev_seq_ct, ev_seq_st, ev_seq_ite, ev_next, ev_ifs, ev_ites, ev_ites_ex, ev_ret, ev_drop, ev_out, ev_out_ex, ev_outA, ev_c, ev_set, ev_own, ev_bind, ev_bind_ex, ev_bindA, ev_op, ev_un, ev_call, ev_ofO, ev_nil, ev_cons, ev_consok, ev_push, ev_tup, ev_lst, ev_not, ev_notb, ev_and, ev_or, ev_if, ev_ite, ev_chain, ev_var, ev_ixO, ev_setIx, ev_augIx, ev_opOL, ev_callO, ev_ref, ev_mut, ev_callF, ev_callN, ev_back, ev_backX, ev_backN, ev_mk0, ev_mkv, ev_mkr, ev_wb0, ev_wbv, ev_wbr, ev_iter, ev_iterA, ev_comp, ev_for, ev_sl, ev_part0, ev_part1, ev_mpart, ev_asg, ev_par, ev_listOf, ev_binL, ev_gN, ev_gT, ev_gA0, ev_gA, ev_noIo0, ev_noIo, ev_wipe0, ev_wipe, ev_compL0, ev_compL, ev_forL0, ev_forL, at2_0, at2_1, ixN2_0, ixN2_1, fnSem, List.length_cons, List.length_nil, List.replicate, List.append_eq, List.cons_append, List.nil_append, List.getElem?_cons_zero, List.getElem?_cons_succ, List.set_cons_zero, List.set_cons_succ, List.take_succ_cons, List.take_zero, isIoAt, lstAt, setL, Nat.reduceAdd, Nat.reduceSub, Option.map_some, Option.bind_some, if_true, if_false, Bool.false_eq_true, ite_true, ite_false, reduceIte, Int.natCast_add, decide_eq_true_eq, decide_true, decide_false, Bool.not_true, Bool.not_false, Bool.not_eq_true, and_self, and_true, true_and, Nat.reduceLeDiff, Nat.reduceLT, Bool.and_true, Bool.true_and, Bool.and_false, Bool.false_and, isi_t, len_t, s5, e1]
end NS

set_option Elab.async false
set_option linter.all false
set_option autoImplicit false
set_option maxRecDepth 100000
set_option maxHeartbeats 4000000
/-! rules written. -/
namespace NS
open PySem PySem.Spec PyProof.Rows L2
open TL (tl)
def numT (pre : Str) (i : Int) : Str := Str.empty ++ pre ++ (toString i : Str)
def textT : RT → Str
  | .is w => w
  | .any => "*"
  | .non ws => "!" ++ Txt.join "," ws
  | .like i => numT "=" i
def textI : RI → Str
  | .word w => w
  | .field i => numT "$" i
  | .rest => ".."
def partsM (r : RR) : List Str := r.fr.map textT ++ (if r.op = true then [(".." : Str)] else []) ++ r.bk.map textT ++ [(">" : Str)] ++ r.mak.map textI
def writtenM (r : RR) : Str := Txt.join " " (partsM r)
/-- lengths -/
theorem len_app (a b : Str) : (a ++ b).length = a.length + b.length := by
  rw [TL.len_tl, TL.tl_append, List.length_append, ← TL.len_tl, ← TL.len_tl]
theorem joinL_len (S : List Nat) : ∀ ps : List (List Nat), (TL.joinL S ps).length ≤ (ps.map List.length).sum + ps.length * S.length
  | [] => by simp [TL.joinL]
  | [p] => by simp [TL.joinL]
  | p :: q :: r => by
    have ih := joinL_len S (q :: r)
    show (p ++ (S ++ TL.joinL S (q :: r))).length ≤ _
    rw [List.length_append, List.length_append, List.map_cons, List.sum_cons, List.length_cons, Nat.succ_mul]
    omega
theorem join_len (a : Str) (xs : List Str) : (Txt.join a xs).length ≤ (xs.map (·.length)).sum + xs.length * a.length := by
  rw [TL.len_tl, TL.join_eq, TL.tl_join]
  have := joinL_len (tl a) (xs.map tl)
  rw [List.map_map, List.length_map] at this
  have e : xs.map (List.length ∘ tl) = xs.map (·.length) := List.map_congr_left fun x _ => (TL.len_tl x).symm
  rw [e, ← TL.len_tl] at this
  exact this
theorem sum_le {α : Type} (f : α → Nat) (B : Nat) : ∀ xs : List α, (∀ x ∈ xs, f x ≤ B) → (xs.map f).sum ≤ xs.length * B
  | [], _ => by simp
  | x :: xs, h => by
    have h1 := h x (List.mem_cons_self ..)
    have h2 := sum_le f B xs fun y m => h y (List.mem_cons_of_mem _ m)
    rw [List.map_cons, List.sum_cons, List.length_cons, Nat.succ_mul]
    omega
theorem small_int {i : Int} {n : Nat} (h : belowM i n = true) (hn : n ≤ 4) : i = 0 ∨ i = 1 ∨ i = 2 ∨ i = 3 := by
  have h := of_decide_eq_true h
  omega
theorem fmt_ok (pre : Str) (h : pre = "=" ∨ pre = "$") {i : Int} (hi : i = 0 ∨ i = 1 ∨ i = 2 ∨ i = 3) : fmtD pre (.int i) = some (.str (numT pre i)) ∧ (numT pre i).length ≤ 10 ∧ strIntD [.int i] = some (.str (toString i)) ∧ (toString i : Str).length ≤ 10 := by
  rcases h with rfl | rfl <;> rcases hi with rfl | rfl | rfl | rfl <;> exact ⟨by kernel_rfl, by decide +kernel, by kernel_rfl, by decide +kernel⟩
theorem barredM_bd {ws : List Str} (h : barredM ws = true) : 1 ≤ ws.length ∧ ws.length ≤ 3 ∧ ∀ w ∈ ws, wordM w = true := by
  unfold barredM at h
  rw [Bool.and_eq_true, Bool.and_eq_true] at h
  have h1 := of_decide_eq_true h.1
  exact ⟨h1.1, h1.2, fun w hw => List.all_eq_true.mp h.2.1 w hw⟩
theorem join_words {ws : List Str} (h : ws.length ≤ 3) (hw : ∀ w ∈ ws, wordM w = true) : (ws.map (·.length)).sum + ws.length * (Str.ofString ",").length ≤ 30 := by
  have h1 := sum_le (·.length) 6 ws fun w m => (wordM_len (hw w m)).2
  have h2 : (Str.ofString ",").length = 1 := by rfl
  rw [h2]
  omega
theorem join_ev (a : Str) {xs : List Str} (h : (xs.map (·.length)).sum + xs.length * a.length ≤ 10000) (d : Dt) (hd : itemsD d = some (xs.map .str)) : joinF a d = some (.str (Txt.join a xs)) := by
  unfold joinF
  rw [hd]
  dsimp only
  rw [strsD_map]
  dsimp only
  rw [if_pos h]
theorem add_str {a b : Str} (h : a.length + b.length ≤ 10000) : addD (.str a) (.str b) = some (.str (a ++ b)) := by
  show (if _ then _ else _) = _
  rw [if_pos h]
theorem len_bang : (Str.ofString "!").length = 1 := by rfl
theorem text_of_test_ok (t : RT) {n : Nat} (hn : n ≤ 4) (h : t.okM n = true) : F_text_of_test [.val t.enc] = .ok (.str (textT t)) [.val t.enc] ∧ (textT t).length ≤ 40 := by
  unfold F_text_of_test m_text_of_test
  cases t with
  | is w =>
    refine ⟨?_, by have := wordM_len h; show w.length ≤ 40; omega⟩
    unfold RT.enc
    simp only [ev_seq, ev_seq_nx, ev_seq_rt, ev_seq_ex, ev_seq_bk, ev_seq_ct, ev_seq_st, ev_seq_ite, ev_next, ev_ifs, ev_ites, ev_ites_ex, ev_ret, ev_drop, ev_out, ev_out_ex, ev_outA, ev_c, ev_set, ev_own, ev_bind, ev_bind_ex, ev_bindA, ev_op, ev_un, ev_call, ev_ofO, ev_nil, ev_cons, ev_consok, ev_push, ev_tup, ev_lst, ev_not, ev_notb, ev_and, ev_or, ev_if, ev_ite, ev_chain, ev_var, ev_ixO, ev_setIx, ev_augIx, ev_opOL, ev_callO, ev_ref, ev_mut, ev_callF, ev_callN, ev_back, ev_backX, ev_backN, ev_mk0, ev_mkv, ev_mkr, ev_wb0, ev_wbv, ev_wbr, ev_iter, ev_iterA, ev_comp, ev_for, ev_sl, ev_part0, ev_part1, ev_mpart, ev_asg, ev_par, ev_listOf, ev_binL, ev_gN, ev_gT, ev_gA0, ev_gA, ev_noIo0, ev_noIo, ev_wipe0, ev_wipe, ev_compL0, ev_compL, ev_forL0, ev_forL, at2_0, at2_1, ixN2_0, ixN2_1, fnSem, List.length_cons, List.length_nil, List.replicate, List.append_eq, List.cons_append, List.nil_append, List.getElem?_cons_zero, List.getElem?_cons_succ, List.set_cons_zero, List.set_cons_succ, List.take_succ_cons, List.take_zero, isIoAt, lstAt, setL, Nat.reduceAdd, Nat.reduceSub, Option.map_some, Option.bind_some, if_true, if_false, Bool.false_eq_true, ite_true, ite_false, reduceIte, Int.natCast_add, decide_eq_true_eq, decide_true, decide_false, Bool.not_true, Bool.not_false, Bool.not_eq_true, and_self, and_true, true_and, Nat.reduceLeDiff, Nat.reduceLT, Bool.and_true, Bool.true_and, Bool.and_false, Bool.false_and, ixD_t, at2_0, at2_1, k_is_is]
    rfl
  | any =>
    refine ⟨by rfl, by decide +kernel⟩
  | non ws =>
    obtain ⟨h1, h2, h3⟩ := barredM_bd h
    have h4 := join_words h2 h3
    have h5 := join_len "," ws
    have e1 : joinF "," (tupS ws) = some (.str (Txt.join "," ws)) := join_ev "," (by omega) _ rfl
    have e2 : addD (.str "!") (.str (Txt.join "," ws)) = some (.str ("!" ++ Txt.join "," ws)) := add_str (by rw [len_bang]; omega)
    refine ⟨?_, by show ("!" ++ Txt.join "," ws : Str).length ≤ 40; rw [len_app, len_bang]; omega⟩
    unfold RT.enc
    have s1 : ∀ (a b : Ev → R) (ρ : Ev) (x : Str) (ρ1 : Ev) (e : Dt) (ρ2 : Ev), a ρ = .ok (.str x) ρ1 → b ρ1 = .ok e ρ2 → mSM joinF a b ρ = R.ofO (joinF x e) ρ2 := fun a b ρ x ρ1 e ρ2 q1 q2 => by
      unfold mSM
      rw [q1]
      show (b ρ1).bind _ = _
      rw [q2]
      rfl
    simp only [ev_seq, ev_seq_nx, ev_seq_rt, ev_seq_ex, ev_seq_bk, ev_seq_ct, ev_seq_st, ev_seq_ite, ev_next, ev_ifs, ev_ites, ev_ites_ex, ev_ret, ev_drop, ev_out, ev_out_ex, ev_outA, ev_c, ev_set, ev_own, ev_bind, ev_bind_ex, ev_bindA, ev_op, ev_un, ev_call, ev_ofO, ev_nil, ev_cons, ev_consok, ev_push, ev_tup, ev_lst, ev_not, ev_notb, ev_and, ev_or, ev_if, ev_ite, ev_chain, ev_var, ev_ixO, ev_setIx, ev_augIx, ev_opOL, ev_callO, ev_ref, ev_mut, ev_callF, ev_callN, ev_back, ev_backX, ev_backN, ev_mk0, ev_mkv, ev_mkr, ev_wb0, ev_wbv, ev_wbr, ev_iter, ev_iterA, ev_comp, ev_for, ev_sl, ev_part0, ev_part1, ev_mpart, ev_asg, ev_par, ev_listOf, ev_binL, ev_gN, ev_gT, ev_gA0, ev_gA, ev_noIo0, ev_noIo, ev_wipe0, ev_wipe, ev_compL0, ev_compL, ev_forL0, ev_forL, at2_0, at2_1, ixN2_0, ixN2_1, fnSem, List.length_cons, List.length_nil, List.replicate, List.append_eq, List.cons_append, List.nil_append, List.getElem?_cons_zero, List.getElem?_cons_succ, List.set_cons_zero, List.set_cons_succ, List.take_succ_cons, List.take_zero, isIoAt, lstAt, setL, Nat.reduceAdd, Nat.reduceSub, Option.map_some, Option.bind_some, if_true, if_false, Bool.false_eq_true, ite_true, ite_false, reduceIte, Int.natCast_add, decide_eq_true_eq, decide_true, decide_false, Bool.not_true, Bool.not_false, Bool.not_eq_true, and_self, and_true, true_and, Nat.reduceLeDiff, Nat.reduceLT, Bool.and_true, Bool.true_and, Bool.and_false, Bool.false_and, ixD_t, at2_0, at2_1, k_non_is, k_non_any, k_non_non, mSM, e1, e2]
    rfl
  | like i =>
    have hi := small_int h hn
    obtain ⟨f1, f2, -, -⟩ := fmt_ok "=" (.inl rfl) hi
    refine ⟨?_, by show (numT "=" i).length ≤ 40; omega⟩
    unfold RT.enc
    simp only [ev_seq, ev_seq_nx, ev_seq_rt, ev_seq_ex, ev_seq_bk, ev_seq_ct, ev_seq_st, ev_seq_ite, ev_next, ev_ifs, ev_ites, ev_ites_ex, ev_ret, ev_drop, ev_out, ev_out_ex, ev_outA, ev_c, ev_set, ev_own, ev_bind, ev_bind_ex, ev_bindA, ev_op, ev_un, ev_call, ev_ofO, ev_nil, ev_cons, ev_consok, ev_push, ev_tup, ev_lst, ev_not, ev_notb, ev_and, ev_or, ev_if, ev_ite, ev_chain, ev_var, ev_ixO, ev_setIx, ev_augIx, ev_opOL, ev_callO, ev_ref, ev_mut, ev_callF, ev_callN, ev_back, ev_backX, ev_backN, ev_mk0, ev_mkv, ev_mkr, ev_wb0, ev_wbv, ev_wbr, ev_iter, ev_iterA, ev_comp, ev_for, ev_sl, ev_part0, ev_part1, ev_mpart, ev_asg, ev_par, ev_listOf, ev_binL, ev_gN, ev_gT, ev_gA0, ev_gA, ev_noIo0, ev_noIo, ev_wipe0, ev_wipe, ev_compL0, ev_compL, ev_forL0, ev_forL, at2_0, at2_1, ixN2_0, ixN2_1, fnSem, List.length_cons, List.length_nil, List.replicate, List.append_eq, List.cons_append, List.nil_append, List.getElem?_cons_zero, List.getElem?_cons_succ, List.set_cons_zero, List.set_cons_succ, List.take_succ_cons, List.take_zero, isIoAt, lstAt, setL, Nat.reduceAdd, Nat.reduceSub, Option.map_some, Option.bind_some, if_true, if_false, Bool.false_eq_true, ite_true, ite_false, reduceIte, Int.natCast_add, decide_eq_true_eq, decide_true, decide_false, Bool.not_true, Bool.not_false, Bool.not_eq_true, and_self, and_true, true_and, Nat.reduceLeDiff, Nat.reduceLT, Bool.and_true, Bool.true_and, Bool.and_false, Bool.false_and, ixD_t, at2_0, at2_1, k_lk_is, k_like_any, k_lk_non, f1]
    rfl
theorem text_of_item_ok (t : RI) {n : Nat} {op : Bool} (hn : n ≤ 4) (h : t.okM n op = true) : F_text_of_item [.val t.enc] = .ok (.str (textI t)) [.val t.enc] ∧ (textI t).length ≤ 40 := by
  unfold F_text_of_item m_text_of_item
  cases t with
  | word w =>
    refine ⟨?_, by have := wordM_len h; show w.length ≤ 40; omega⟩
    unfold RI.enc
    simp only [ev_seq, ev_seq_nx, ev_seq_rt, ev_seq_ex, ev_seq_bk, ev_seq_ct, ev_seq_st, ev_seq_ite, ev_next, ev_ifs, ev_ites, ev_ites_ex, ev_ret, ev_drop, ev_out, ev_out_ex, ev_outA, ev_c, ev_set, ev_own, ev_bind, ev_bind_ex, ev_bindA, ev_op, ev_un, ev_call, ev_ofO, ev_nil, ev_cons, ev_consok, ev_push, ev_tup, ev_lst, ev_not, ev_notb, ev_and, ev_or, ev_if, ev_ite, ev_chain, ev_var, ev_ixO, ev_setIx, ev_augIx, ev_opOL, ev_callO, ev_ref, ev_mut, ev_callF, ev_callN, ev_back, ev_backX, ev_backN, ev_mk0, ev_mkv, ev_mkr, ev_wb0, ev_wbv, ev_wbr, ev_iter, ev_iterA, ev_comp, ev_for, ev_sl, ev_part0, ev_part1, ev_mpart, ev_asg, ev_par, ev_listOf, ev_binL, ev_gN, ev_gT, ev_gA0, ev_gA, ev_noIo0, ev_noIo, ev_wipe0, ev_wipe, ev_compL0, ev_compL, ev_forL0, ev_forL, at2_0, at2_1, ixN2_0, ixN2_1, fnSem, List.length_cons, List.length_nil, List.replicate, List.append_eq, List.cons_append, List.nil_append, List.getElem?_cons_zero, List.getElem?_cons_succ, List.set_cons_zero, List.set_cons_succ, List.take_succ_cons, List.take_zero, isIoAt, lstAt, setL, Nat.reduceAdd, Nat.reduceSub, Option.map_some, Option.bind_some, if_true, if_false, Bool.false_eq_true, ite_true, ite_false, reduceIte, Int.natCast_add, decide_eq_true_eq, decide_true, decide_false, Bool.not_true, Bool.not_false, Bool.not_eq_true, and_self, and_true, true_and, Nat.reduceLeDiff, Nat.reduceLT, Bool.and_true, Bool.true_and, Bool.and_false, Bool.false_and, ixD_t, at2_0, at2_1, k_w_w]
    rfl
  | rest =>
    refine ⟨by rfl, by decide +kernel⟩
  | field i =>
    have hi := small_int h hn
    obtain ⟨f1, f2, -, -⟩ := fmt_ok "$" (.inr rfl) hi
    refine ⟨?_, by show (numT "$" i).length ≤ 40; omega⟩
    unfold RI.enc
    simp only [ev_seq, ev_seq_nx, ev_seq_rt, ev_seq_ex, ev_seq_bk, ev_seq_ct, ev_seq_st, ev_seq_ite, ev_next, ev_ifs, ev_ites, ev_ites_ex, ev_ret, ev_drop, ev_out, ev_out_ex, ev_outA, ev_c, ev_set, ev_own, ev_bind, ev_bind_ex, ev_bindA, ev_op, ev_un, ev_call, ev_ofO, ev_nil, ev_cons, ev_consok, ev_push, ev_tup, ev_lst, ev_not, ev_notb, ev_and, ev_or, ev_if, ev_ite, ev_chain, ev_var, ev_ixO, ev_setIx, ev_augIx, ev_opOL, ev_callO, ev_ref, ev_mut, ev_callF, ev_callN, ev_back, ev_backX, ev_backN, ev_mk0, ev_mkv, ev_mkr, ev_wb0, ev_wbv, ev_wbr, ev_iter, ev_iterA, ev_comp, ev_for, ev_sl, ev_part0, ev_part1, ev_mpart, ev_asg, ev_par, ev_listOf, ev_binL, ev_gN, ev_gT, ev_gA0, ev_gA, ev_noIo0, ev_noIo, ev_wipe0, ev_wipe, ev_compL0, ev_compL, ev_forL0, ev_forL, at2_0, at2_1, ixN2_0, ixN2_1, fnSem, List.length_cons, List.length_nil, List.replicate, List.append_eq, List.cons_append, List.nil_append, List.getElem?_cons_zero, List.getElem?_cons_succ, List.set_cons_zero, List.set_cons_succ, List.take_succ_cons, List.take_zero, isIoAt, lstAt, setL, Nat.reduceAdd, Nat.reduceSub, Option.map_some, Option.bind_some, if_true, if_false, Bool.false_eq_true, ite_true, ite_false, reduceIte, Int.natCast_add, decide_eq_true_eq, decide_true, decide_false, Bool.not_true, Bool.not_false, Bool.not_eq_true, and_self, and_true, true_and, Nat.reduceLeDiff, Nat.reduceLT, Bool.and_true, Bool.true_and, Bool.and_false, Bool.false_and, ixD_t, at2_0, at2_1, k_f_w, k_f_f, f1]
    rfl
/-- what is a rule is small -/
structure RR.fine (r : RR) : Prop where
  ts : ∀ t ∈ r.fr ++ r.bk, ∃ n, n ≤ 4 ∧ t.okM n = true
  is : ∀ t ∈ r.mak, ∃ n op, n ≤ 4 ∧ t.okM n op = true
  fr : r.fr.length ≤ 2
  bk : r.bk.length ≤ 2
  mk1 : 1 ≤ r.mak.length
  mk4 : r.mak.length ≤ 4
  cl : r.op = false → r.bk = [] ∧ r.fr ≠ []
theorem RR.okM_fine {r : RR} (h : r.okM = true) : r.fine := by
  unfold RR.okM RR.looksM RR.makesM at h
  simp only [Bool.and_eq_true, decide_eq_true_eq] at h
  obtain ⟨⟨⟨a1, a2⟩, a3, a4⟩, ⟨b1, b2⟩, b3, b4⟩ := h
  refine ⟨fun t ht => ?_, fun t ht => ?_, a1, a2, b1, b2, fun ho => ?_⟩
  · obtain ⟨k, hk, hkt⟩ := List.mem_iff_getElem.mp ht
    have hk' := hk
    rw [List.length_append] at hk'
    have := List.all_eq_true.mp a4 (t, k) (List.mem_zipIdx_iff_getElem?.mpr (by rw [List.getElem?_eq_getElem hk, hkt]))
    exact ⟨k, by omega, this⟩
  · exact ⟨_, _, by omega, List.all_eq_true.mp b3 t ht⟩
  · rw [ho] at a3
    simp only [Bool.not_false, Bool.true_and, Bool.not_eq_true', Bool.or_eq_false_iff, decide_eq_false_iff_not] at a3
    exact ⟨List.eq_nil_of_length_eq_zero (by omega), fun e => a3.2 (by rw [e]; rfl)⟩
theorem parts_bd {r : RR} (h : r.fine) : (partsM r).length ≤ 10 ∧ ∀ p ∈ partsM r, p.length ≤ 40 := by
  have h1 := h.fr
  have h2 := h.bk
  have h3 := h.mk4
  unfold partsM
  refine ⟨?_, fun p hp => ?_⟩
  · simp only [List.length_append, List.length_map, List.length_cons, List.length_nil]
    have : (if r.op = true then [(".." : Str)] else []).length ≤ 1 := by split <;> simp
    omega
  · simp only [List.mem_append] at hp
    rcases hp with (((hp | hp) | hp) | hp) | hp
    · obtain ⟨t, ht, rfl⟩ := List.mem_map.mp hp
      obtain ⟨n, hn, ho⟩ := h.ts t (List.mem_append_left _ ht)
      exact (text_of_test_ok t hn ho).2
    · split at hp
      · rw [List.mem_singleton] at hp; subst hp; decide +kernel
      · cases hp
    · obtain ⟨t, ht, rfl⟩ := List.mem_map.mp hp
      obtain ⟨n, hn, ho⟩ := h.ts t (List.mem_append_right _ ht)
      exact (text_of_test_ok t hn ho).2
    · rw [List.mem_singleton] at hp; subst hp; decide +kernel
    · obtain ⟨t, ht, rfl⟩ := List.mem_map.mp hp
      obtain ⟨n, op, hn, ho⟩ := h.is t ht
      exact (text_of_item_ok t hn ho).2
theorem sp_len : (Str.ofString " ").length = 1 := by rfl
theorem parts_sum {r : RR} (h : r.fine) : ((partsM r).map (·.length)).sum + (partsM r).length * (Str.ofString " ").length ≤ 410 := by
  obtain ⟨h1, h2⟩ := parts_bd h
  have := sum_le (·.length) 40 (partsM r) h2
  rw [sp_len]
  have h3 : (partsM r).length * 40 ≤ 10 * 40 := Nat.mul_le_mul_right _ h1
  omega
theorem written_len {r : RR} (h : r.fine) : (writtenM r).length ≤ 410 := Nat.le_trans (join_len _ _) (parts_sum h)
theorem written_ok (r : RR) (h : r.fine) : F_written_rule [.val r.enc] = .ok (.str (writtenM r)) [.val r.enc] := by
  have hf := h.fr
  have hb := h.bk
  have hm := h.mk4
  have c1 := compL_mapA (vs := [6]) (g := gN 6) (mb := mCallN F_text_of_test [none] (mCons (mVar 6) mNil)) (ρ := [.val r.enc, .val (.tuple (r.fr.map RT.enc)), .val (.bool r.op), .val (.tuple (r.bk.map RT.enc)), .val (.tuple (r.mak.map RI.enc)), .no, .no, .no]) RT.enc (fun t => .str (textT t)) r.fr (by omega) (by
    intro t ht
    refine ⟨_, [.val r.enc, .val (.tuple (r.fr.map RT.enc)), .val (.bool r.op), .val (.tuple (r.bk.map RT.enc)), .val (.tuple (r.mak.map RI.enc)), .no, .val t.enc, .no], rfl, ?_, rfl, rfl⟩
    obtain ⟨n, hn, ho⟩ := h.ts t (List.mem_append_left _ ht)
    have := (text_of_test_ok t hn ho).1
    simp only [ev_seq, ev_seq_nx, ev_seq_rt, ev_seq_ex, ev_seq_bk, ev_seq_ct, ev_seq_st, ev_seq_ite, ev_next, ev_ifs, ev_ites, ev_ites_ex, ev_ret, ev_drop, ev_out, ev_out_ex, ev_outA, ev_c, ev_set, ev_own, ev_bind, ev_bind_ex, ev_bindA, ev_op, ev_un, ev_call, ev_ofO, ev_nil, ev_cons, ev_consok, ev_push, ev_tup, ev_lst, ev_not, ev_notb, ev_and, ev_or, ev_if, ev_ite, ev_chain, ev_var, ev_ixO, ev_setIx, ev_augIx, ev_opOL, ev_callO, ev_ref, ev_mut, ev_callF, ev_callN, ev_back, ev_backX, ev_backN, ev_mk0, ev_mkv, ev_mkr, ev_wb0, ev_wbv, ev_wbr, ev_iter, ev_iterA, ev_comp, ev_for, ev_sl, ev_part0, ev_part1, ev_mpart, ev_asg, ev_par, ev_listOf, ev_binL, ev_gN, ev_gT, ev_gA0, ev_gA, ev_noIo0, ev_noIo, ev_wipe0, ev_wipe, ev_compL0, ev_compL, ev_forL0, ev_forL, at2_0, at2_1, ixN2_0, ixN2_1, fnSem, List.length_cons, List.length_nil, List.replicate, List.append_eq, List.cons_append, List.nil_append, List.getElem?_cons_zero, List.getElem?_cons_succ, List.set_cons_zero, List.set_cons_succ, List.take_succ_cons, List.take_zero, isIoAt, lstAt, setL, Nat.reduceAdd, Nat.reduceSub, Option.map_some, Option.bind_some, if_true, if_false, Bool.false_eq_true, ite_true, ite_false, reduceIte, Int.natCast_add, decide_eq_true_eq, decide_true, decide_false, Bool.not_true, Bool.not_false, Bool.not_eq_true, and_self, and_true, true_and, Nat.reduceLeDiff, Nat.reduceLT, Bool.and_true, Bool.true_and, Bool.and_false, Bool.false_and, this])
  have c2 : ∀ xs : List Dt, compL [6] (gN 6) (mC (.bool true)) (mCallN F_text_of_test [none] (mCons (mVar 6) mNil)) (r.bk.map RT.enc) [.val r.enc, .val (.tuple (r.fr.map RT.enc)), .val (.bool r.op), .val (.tuple (r.bk.map RT.enc)), .val (.tuple (r.mak.map RI.enc)), .own xs, .no, .no] [] = .ok (r.bk.map fun t => .str (textT t)) [.val r.enc, .val (.tuple (r.fr.map RT.enc)), .val (.bool r.op), .val (.tuple (r.bk.map RT.enc)), .val (.tuple (r.mak.map RI.enc)), .own xs, .no, .no] := fun xs => compL_mapA RT.enc (fun t => .str (textT t)) r.bk (by omega) (by
    intro t ht
    refine ⟨_, [.val r.enc, .val (.tuple (r.fr.map RT.enc)), .val (.bool r.op), .val (.tuple (r.bk.map RT.enc)), .val (.tuple (r.mak.map RI.enc)), .own xs, .val t.enc, .no], rfl, ?_, rfl, rfl⟩
    obtain ⟨n, hn, ho⟩ := h.ts t (List.mem_append_right _ ht)
    have := (text_of_test_ok t hn ho).1
    simp only [ev_seq, ev_seq_nx, ev_seq_rt, ev_seq_ex, ev_seq_bk, ev_seq_ct, ev_seq_st, ev_seq_ite, ev_next, ev_ifs, ev_ites, ev_ites_ex, ev_ret, ev_drop, ev_out, ev_out_ex, ev_outA, ev_c, ev_set, ev_own, ev_bind, ev_bind_ex, ev_bindA, ev_op, ev_un, ev_call, ev_ofO, ev_nil, ev_cons, ev_consok, ev_push, ev_tup, ev_lst, ev_not, ev_notb, ev_and, ev_or, ev_if, ev_ite, ev_chain, ev_var, ev_ixO, ev_setIx, ev_augIx, ev_opOL, ev_callO, ev_ref, ev_mut, ev_callF, ev_callN, ev_back, ev_backX, ev_backN, ev_mk0, ev_mkv, ev_mkr, ev_wb0, ev_wbv, ev_wbr, ev_iter, ev_iterA, ev_comp, ev_for, ev_sl, ev_part0, ev_part1, ev_mpart, ev_asg, ev_par, ev_listOf, ev_binL, ev_gN, ev_gT, ev_gA0, ev_gA, ev_noIo0, ev_noIo, ev_wipe0, ev_wipe, ev_compL0, ev_compL, ev_forL0, ev_forL, at2_0, at2_1, ixN2_0, ixN2_1, fnSem, List.length_cons, List.length_nil, List.replicate, List.append_eq, List.cons_append, List.nil_append, List.getElem?_cons_zero, List.getElem?_cons_succ, List.set_cons_zero, List.set_cons_succ, List.take_succ_cons, List.take_zero, isIoAt, lstAt, setL, Nat.reduceAdd, Nat.reduceSub, Option.map_some, Option.bind_some, if_true, if_false, Bool.false_eq_true, ite_true, ite_false, reduceIte, Int.natCast_add, decide_eq_true_eq, decide_true, decide_false, Bool.not_true, Bool.not_false, Bool.not_eq_true, and_self, and_true, true_and, Nat.reduceLeDiff, Nat.reduceLT, Bool.and_true, Bool.true_and, Bool.and_false, Bool.false_and, this])
  have c3 : ∀ xs : List Dt, compL [7] (gN 7) (mC (.bool true)) (mCallN F_text_of_item [none] (mCons (mVar 7) mNil)) (r.mak.map RI.enc) [.val r.enc, .val (.tuple (r.fr.map RT.enc)), .val (.bool r.op), .val (.tuple (r.bk.map RT.enc)), .val (.tuple (r.mak.map RI.enc)), .own xs, .no, .no] [] = .ok (r.mak.map fun t => .str (textI t)) [.val r.enc, .val (.tuple (r.fr.map RT.enc)), .val (.bool r.op), .val (.tuple (r.bk.map RT.enc)), .val (.tuple (r.mak.map RI.enc)), .own xs, .no, .no] := fun xs => compL_mapA RI.enc (fun t => .str (textI t)) r.mak (by omega) (by
    intro t ht
    refine ⟨_, [.val r.enc, .val (.tuple (r.fr.map RT.enc)), .val (.bool r.op), .val (.tuple (r.bk.map RT.enc)), .val (.tuple (r.mak.map RI.enc)), .own xs, .no, .val t.enc], rfl, ?_, rfl, rfl⟩
    obtain ⟨n, op, hn, ho⟩ := h.is t ht
    have := (text_of_item_ok t hn ho).1
    simp only [ev_seq, ev_seq_nx, ev_seq_rt, ev_seq_ex, ev_seq_bk, ev_seq_ct, ev_seq_st, ev_seq_ite, ev_next, ev_ifs, ev_ites, ev_ites_ex, ev_ret, ev_drop, ev_out, ev_out_ex, ev_outA, ev_c, ev_set, ev_own, ev_bind, ev_bind_ex, ev_bindA, ev_op, ev_un, ev_call, ev_ofO, ev_nil, ev_cons, ev_consok, ev_push, ev_tup, ev_lst, ev_not, ev_notb, ev_and, ev_or, ev_if, ev_ite, ev_chain, ev_var, ev_ixO, ev_setIx, ev_augIx, ev_opOL, ev_callO, ev_ref, ev_mut, ev_callF, ev_callN, ev_back, ev_backX, ev_backN, ev_mk0, ev_mkv, ev_mkr, ev_wb0, ev_wbv, ev_wbr, ev_iter, ev_iterA, ev_comp, ev_for, ev_sl, ev_part0, ev_part1, ev_mpart, ev_asg, ev_par, ev_listOf, ev_binL, ev_gN, ev_gT, ev_gA0, ev_gA, ev_noIo0, ev_noIo, ev_wipe0, ev_wipe, ev_compL0, ev_compL, ev_forL0, ev_forL, at2_0, at2_1, ixN2_0, ixN2_1, fnSem, List.length_cons, List.length_nil, List.replicate, List.append_eq, List.cons_append, List.nil_append, List.getElem?_cons_zero, List.getElem?_cons_succ, List.set_cons_zero, List.set_cons_succ, List.take_succ_cons, List.take_zero, isIoAt, lstAt, setL, Nat.reduceAdd, Nat.reduceSub, Option.map_some, Option.bind_some, if_true, if_false, Bool.false_eq_true, ite_true, ite_false, reduceIte, Int.natCast_add, decide_eq_true_eq, decide_true, decide_false, Bool.not_true, Bool.not_false, Bool.not_eq_true, and_self, and_true, true_and, Nat.reduceLeDiff, Nat.reduceLT, Bool.and_true, Bool.true_and, Bool.and_false, Bool.false_and, this])
  have e2 : gT [1, 2, 3, 4] r.enc [.val r.enc, .no, .no, .no, .no, .no, .no, .no] = some [.val r.enc, .val (.tuple (r.fr.map RT.enc)), .val (.bool r.op), .val (.tuple (r.bk.map RT.enc)), .val (.tuple (r.mak.map RI.enc)), .no, .no, .no] := rfl
  have e3 : mAsgG (gT [1, 2, 3, 4]) (mVar 0) [.val r.enc, .no, .no, .no, .no, .no, .no, .no] = .nx [.val r.enc, .val (.tuple (r.fr.map RT.enc)), .val (.bool r.op), .val (.tuple (r.bk.map RT.enc)), .val (.tuple (r.mak.map RI.enc)), .no, .no, .no] := rfl
  have q : ∀ (xs ys : List Dt), xs.length + ys.length ≤ 10000 → extendF xs [.list ys] = some (xs ++ ys) := ext_ok
  have qa : ∀ (xs : List Dt) (d : Dt), xs.length < 10000 → appendF xs [d] = some (xs ++ [d]) := app_ok
  have sq : ∀ xs : List Dt, seqD (.tuple xs) = some xs := fun _ => rfl
  have hp := parts_sum h
  unfold F_written_rule m_written_rule
  cases hop : r.op with
  | true =>
    rw [hop] at c1 c2 c3 e3
    have a1 := qa (r.fr.map fun t => .str (textT t)) (.str "..") (by rw [List.length_map]; omega)
    have a2 := q ((r.fr.map fun t => PyData.str (textT t)) ++ [.str ".."]) (r.bk.map fun t => .str (textT t)) (by simp only [List.length_append, List.length_map, List.length_cons, List.length_nil]; omega)
    have a3 := qa ((r.fr.map fun t => PyData.str (textT t)) ++ [.str ".."] ++ (r.bk.map fun t => .str (textT t))) (.str ">") (by simp only [List.length_append, List.length_map, List.length_cons, List.length_nil]; omega)
    have a4 := q ((r.fr.map fun t => PyData.str (textT t)) ++ [.str ".."] ++ (r.bk.map fun t => .str (textT t)) ++ [.str ">"]) (r.mak.map fun t => .str (textI t)) (by simp only [List.length_append, List.length_map, List.length_cons, List.length_nil]; omega)
    have ep : (r.fr.map fun t => PyData.str (textT t)) ++ [.str ".."] ++ (r.bk.map fun t => .str (textT t)) ++ [.str ">"] ++ (r.mak.map fun t => .str (textI t)) = (partsM r).map .str := by
      unfold partsM
      rw [hop]
      simp only [List.map_append, List.map_map, if_true, List.map_cons, List.map_nil]
      rfl
    have e9 : joinF " " (.list ((partsM r).map .str)) = some (.str (writtenM r)) := join_ev " " (by omega) _ rfl
    simp only [fnSem, List.length_cons, List.length_nil, if_true, Nat.reduceAdd, Nat.reduceSub, List.replicate, List.cons_append, List.nil_append, ev_seq, e3, ev_seq_nx]
    simp only [ev_seq, ev_seq_nx, ev_seq_rt, ev_seq_ex, ev_seq_bk, ev_seq_ct, ev_seq_st, ev_seq_ite, ev_next, ev_ifs, ev_ites, ev_ites_ex, ev_ret, ev_drop, ev_out, ev_out_ex, ev_outA, ev_c, ev_set, ev_own, ev_bind, ev_bind_ex, ev_bindA, ev_op, ev_un, ev_call, ev_ofO, ev_nil, ev_cons, ev_consok, ev_push, ev_tup, ev_lst, ev_not, ev_notb, ev_and, ev_or, ev_if, ev_ite, ev_chain, ev_var, ev_ixO, ev_setIx, ev_augIx, ev_opOL, ev_callO, ev_ref, ev_mut, ev_callF, ev_callN, ev_back, ev_backX, ev_backN, ev_mk0, ev_mkv, ev_mkr, ev_wb0, ev_wbv, ev_wbr, ev_iter, ev_iterA, ev_comp, ev_for, ev_sl, ev_part0, ev_part1, ev_mpart, ev_asg, ev_par, ev_listOf, ev_binL, ev_gN, ev_gT, ev_gA0, ev_gA, ev_noIo0, ev_noIo, ev_wipe0, ev_wipe, ev_compL0, ev_compL, ev_forL0, ev_forL, at2_0, at2_1, ixN2_0, ixN2_1, fnSem, List.length_cons, List.length_nil, List.replicate, List.append_eq, List.cons_append, List.nil_append, List.getElem?_cons_zero, List.getElem?_cons_succ, List.set_cons_zero, List.set_cons_succ, List.take_succ_cons, List.take_zero, isIoAt, lstAt, setL, Nat.reduceAdd, Nat.reduceSub, Option.map_some, Option.bind_some, if_true, if_false, Bool.false_eq_true, ite_true, ite_false, reduceIte, Int.natCast_add, decide_eq_true_eq, decide_true, decide_false, Bool.not_true, Bool.not_false, Bool.not_eq_true, and_self, and_true, true_and, Nat.reduceLeDiff, Nat.reduceLT, Bool.and_true, Bool.true_and, Bool.and_false, Bool.false_and, sq, c1, a1, c2, a2, a3, c3, a4, mSM]
    rw [ep]
    simp only [ev_seq, ev_seq_nx, ev_seq_rt, ev_seq_ex, ev_seq_bk, ev_seq_ct, ev_seq_st, ev_seq_ite, ev_next, ev_ifs, ev_ites, ev_ites_ex, ev_ret, ev_drop, ev_out, ev_out_ex, ev_outA, ev_c, ev_set, ev_own, ev_bind, ev_bind_ex, ev_bindA, ev_op, ev_un, ev_call, ev_ofO, ev_nil, ev_cons, ev_consok, ev_push, ev_tup, ev_lst, ev_not, ev_notb, ev_and, ev_or, ev_if, ev_ite, ev_chain, ev_var, ev_ixO, ev_setIx, ev_augIx, ev_opOL, ev_callO, ev_ref, ev_mut, ev_callF, ev_callN, ev_back, ev_backX, ev_backN, ev_mk0, ev_mkv, ev_mkr, ev_wb0, ev_wbv, ev_wbr, ev_iter, ev_iterA, ev_comp, ev_for, ev_sl, ev_part0, ev_part1, ev_mpart, ev_asg, ev_par, ev_listOf, ev_binL, ev_gN, ev_gT, ev_gA0, ev_gA, ev_noIo0, ev_noIo, ev_wipe0, ev_wipe, ev_compL0, ev_compL, ev_forL0, ev_forL, at2_0, at2_1, ixN2_0, ixN2_1, fnSem, List.length_cons, List.length_nil, List.replicate, List.append_eq, List.cons_append, List.nil_append, List.getElem?_cons_zero, List.getElem?_cons_succ, List.set_cons_zero, List.set_cons_succ, List.take_succ_cons, List.take_zero, isIoAt, lstAt, setL, Nat.reduceAdd, Nat.reduceSub, Option.map_some, Option.bind_some, if_true, if_false, Bool.false_eq_true, ite_true, ite_false, reduceIte, Int.natCast_add, decide_eq_true_eq, decide_true, decide_false, Bool.not_true, Bool.not_false, Bool.not_eq_true, and_self, and_true, true_and, Nat.reduceLeDiff, Nat.reduceLT, Bool.and_true, Bool.true_and, Bool.and_false, Bool.false_and, e9]
  | false =>
    rw [hop] at c1 c2 c3 e3
    have a2 := q (r.fr.map fun t => PyData.str (textT t)) (r.bk.map fun t => .str (textT t)) (by simp only [List.length_append, List.length_map, List.length_cons, List.length_nil]; omega)
    have a3 := qa ((r.fr.map fun t => PyData.str (textT t)) ++ (r.bk.map fun t => .str (textT t))) (.str ">") (by simp only [List.length_append, List.length_map, List.length_cons, List.length_nil]; omega)
    have a4 := q ((r.fr.map fun t => PyData.str (textT t)) ++ (r.bk.map fun t => .str (textT t)) ++ [.str ">"]) (r.mak.map fun t => .str (textI t)) (by simp only [List.length_append, List.length_map, List.length_cons, List.length_nil]; omega)
    have ep : (r.fr.map fun t => PyData.str (textT t)) ++ (r.bk.map fun t => .str (textT t)) ++ [.str ">"] ++ (r.mak.map fun t => .str (textI t)) = (partsM r).map .str := by
      unfold partsM
      rw [hop]
      simp only [List.map_append, List.map_map, Bool.false_eq_true, if_false, List.append_nil, List.map_cons, List.map_nil]
      rfl
    have e9 : joinF " " (.list ((partsM r).map .str)) = some (.str (writtenM r)) := join_ev " " (by omega) _ rfl
    simp only [fnSem, List.length_cons, List.length_nil, if_true, Nat.reduceAdd, Nat.reduceSub, List.replicate, List.cons_append, List.nil_append, ev_seq, e3, ev_seq_nx]
    simp only [ev_seq, ev_seq_nx, ev_seq_rt, ev_seq_ex, ev_seq_bk, ev_seq_ct, ev_seq_st, ev_seq_ite, ev_next, ev_ifs, ev_ites, ev_ites_ex, ev_ret, ev_drop, ev_out, ev_out_ex, ev_outA, ev_c, ev_set, ev_own, ev_bind, ev_bind_ex, ev_bindA, ev_op, ev_un, ev_call, ev_ofO, ev_nil, ev_cons, ev_consok, ev_push, ev_tup, ev_lst, ev_not, ev_notb, ev_and, ev_or, ev_if, ev_ite, ev_chain, ev_var, ev_ixO, ev_setIx, ev_augIx, ev_opOL, ev_callO, ev_ref, ev_mut, ev_callF, ev_callN, ev_back, ev_backX, ev_backN, ev_mk0, ev_mkv, ev_mkr, ev_wb0, ev_wbv, ev_wbr, ev_iter, ev_iterA, ev_comp, ev_for, ev_sl, ev_part0, ev_part1, ev_mpart, ev_asg, ev_par, ev_listOf, ev_binL, ev_gN, ev_gT, ev_gA0, ev_gA, ev_noIo0, ev_noIo, ev_wipe0, ev_wipe, ev_compL0, ev_compL, ev_forL0, ev_forL, at2_0, at2_1, ixN2_0, ixN2_1, fnSem, List.length_cons, List.length_nil, List.replicate, List.append_eq, List.cons_append, List.nil_append, List.getElem?_cons_zero, List.getElem?_cons_succ, List.set_cons_zero, List.set_cons_succ, List.take_succ_cons, List.take_zero, isIoAt, lstAt, setL, Nat.reduceAdd, Nat.reduceSub, Option.map_some, Option.bind_some, if_true, if_false, Bool.false_eq_true, ite_true, ite_false, reduceIte, Int.natCast_add, decide_eq_true_eq, decide_true, decide_false, Bool.not_true, Bool.not_false, Bool.not_eq_true, and_self, and_true, true_and, Nat.reduceLeDiff, Nat.reduceLT, Bool.and_true, Bool.true_and, Bool.and_false, Bool.false_and, sq, c1, c2, a2, a3, c3, a4, mSM]
    rw [ep]
    simp only [ev_seq, ev_seq_nx, ev_seq_rt, ev_seq_ex, ev_seq_bk, ev_seq_ct, ev_seq_st, ev_seq_ite, ev_next, ev_ifs, ev_ites, ev_ites_ex, ev_ret, ev_drop, ev_out, ev_out_ex, ev_outA, ev_c, ev_set, ev_own, ev_bind, ev_bind_ex, ev_bindA, ev_op, ev_un, ev_call, ev_ofO, ev_nil, ev_cons, ev_consok, ev_push, ev_tup, ev_lst, ev_not, ev_notb, ev_and, ev_or, ev_if, ev_ite, ev_chain, ev_var, ev_ixO, ev_setIx, ev_augIx, ev_opOL, ev_callO, ev_ref, ev_mut, ev_callF, ev_callN, ev_back, ev_backX, ev_backN, ev_mk0, ev_mkv, ev_mkr, ev_wb0, ev_wbv, ev_wbr, ev_iter, ev_iterA, ev_comp, ev_for, ev_sl, ev_part0, ev_part1, ev_mpart, ev_asg, ev_par, ev_listOf, ev_binL, ev_gN, ev_gT, ev_gA0, ev_gA, ev_noIo0, ev_noIo, ev_wipe0, ev_wipe, ev_compL0, ev_compL, ev_forL0, ev_forL, at2_0, at2_1, ixN2_0, ixN2_1, fnSem, List.length_cons, List.length_nil, List.replicate, List.append_eq, List.cons_append, List.nil_append, List.getElem?_cons_zero, List.getElem?_cons_succ, List.set_cons_zero, List.set_cons_succ, List.take_succ_cons, List.take_zero, isIoAt, lstAt, setL, Nat.reduceAdd, Nat.reduceSub, Option.map_some, Option.bind_some, if_true, if_false, Bool.false_eq_true, ite_true, ite_false, reduceIte, Int.natCast_add, decide_eq_true_eq, decide_true, decide_false, Bool.not_true, Bool.not_false, Bool.not_eq_true, and_self, and_true, true_and, Nat.reduceLeDiff, Nat.reduceLT, Bool.and_true, Bool.true_and, Bool.and_false, Bool.false_and, e9]
/-! the law's own writing -/
theorem in_is : inD (.str "is") (.tuple [.str "is", .str "word"]) = some (.bool true) := by rfl
theorem in_word : inD (.str "word") (.tuple [.str "is", .str "word"]) = some (.bool true) := by rfl
theorem in_any : inD (.str "any") (.tuple [.str "is", .str "word"]) = some (.bool false) := by rfl
theorem in_non : inD (.str "none") (.tuple [.str "is", .str "word"]) = some (.bool false) := by rfl
theorem in_like : inD (.str "like") (.tuple [.str "is", .str "word"]) = some (.bool false) := by rfl
theorem in_rest : inD (.str "rest") (.tuple [.str "is", .str "word"]) = some (.bool false) := by rfl
theorem in_field : inD (.str "field") (.tuple [.str "is", .str "word"]) = some (.bool false) := by rfl
theorem k_f_non : eqD (.str "field") (.str "none") = some (.bool false) := by rfl
theorem join_one (x : Str) : Txt.join "" [x] = x := by
  refine TL.ext_tl ?_
  rw [TL.join_eq, TL.tl_join]
  rfl
theorem empty_app (x : Str) : Str.empty ++ x = x := by
  refine TL.ext_tl ?_
  rw [TL.tl_append]
  rfl
theorem num_str (pre : Str) (i : Int) : numT pre i = pre ++ (toString i : Str) := by unfold numT; rw [empty_app]
theorem lit_like : litD [("any", "*"), ("rest", ".."), ("like", "="), ("field", "$")] (.str "like") = some (.str "=") := by rfl
theorem lit_field : litD [("any", "*"), ("rest", ".."), ("like", "="), ("field", "$")] (.str "field") = some (.str "$") := by rfl
theorem part_num (kind pre : Str) (i : Int) (hpre : pre.length = 1) (hk : eqD (.str kind) (.str "none") = some (.bool false)) (hin : inD (.str kind) (.tuple [.str "is", .str "word"]) = some (.bool false)) (hl : litD [("any", "*"), ("rest", ".."), ("like", "="), ("field", "$")] (.str kind) = some (.str pre)) (hs : strIntD [.int i] = some (.str (toString i))) (hlen : (toString i : Str).length ≤ 10) :
    F_law_part [.val (.tuple [.str kind, .int i])] = .ok (.str (pre ++ (toString i : Str))) [.val (.tuple [.str kind, .int i])] := by
  have s1 : slD (.tuple [.str kind, .int i]) (some 1) none = some (.tuple [.int i]) := rfl
  have s2 : seqD (.tuple [.int i]) = some [.int i] := rfl
  have e1 : joinF "" (.list [.str (toString i : Str)]) = some (.str (toString i : Str)) := by
    have := join_ev "" (xs := [(toString i : Str)]) (by simp only [List.map_cons, List.map_nil, List.sum_cons, List.sum_nil, List.length_cons, List.length_nil]; have : (Str.ofString "").length = 0 := by rfl
                                                        rw [this]; omega) (.list [.str (toString i : Str)]) rfl
    rw [join_one] at this
    exact this
  have e2 : addD (.str pre) (.str (toString i : Str)) = some (.str (pre ++ (toString i : Str))) := add_str (by omega)
  unfold F_law_part m_law_part
  simp only [ev_seq, ev_seq_nx, ev_seq_rt, ev_seq_ex, ev_seq_bk, ev_seq_ct, ev_seq_st, ev_seq_ite, ev_next, ev_ifs, ev_ites, ev_ites_ex, ev_ret, ev_drop, ev_out, ev_out_ex, ev_outA, ev_c, ev_set, ev_own, ev_bind, ev_bind_ex, ev_bindA, ev_op, ev_un, ev_call, ev_ofO, ev_nil, ev_cons, ev_consok, ev_push, ev_tup, ev_lst, ev_not, ev_notb, ev_and, ev_or, ev_if, ev_ite, ev_chain, ev_var, ev_ixO, ev_setIx, ev_augIx, ev_opOL, ev_callO, ev_ref, ev_mut, ev_callF, ev_callN, ev_back, ev_backX, ev_backN, ev_mk0, ev_mkv, ev_mkr, ev_wb0, ev_wbv, ev_wbr, ev_iter, ev_iterA, ev_comp, ev_for, ev_sl, ev_part0, ev_part1, ev_mpart, ev_asg, ev_par, ev_listOf, ev_binL, ev_gN, ev_gT, ev_gA0, ev_gA, ev_noIo0, ev_noIo, ev_wipe0, ev_wipe, ev_compL0, ev_compL, ev_forL0, ev_forL, at2_0, at2_1, ixN2_0, ixN2_1, fnSem, List.length_cons, List.length_nil, List.replicate, List.append_eq, List.cons_append, List.nil_append, List.getElem?_cons_zero, List.getElem?_cons_succ, List.set_cons_zero, List.set_cons_succ, List.take_succ_cons, List.take_zero, isIoAt, lstAt, setL, Nat.reduceAdd, Nat.reduceSub, Option.map_some, Option.bind_some, if_true, if_false, Bool.false_eq_true, ite_true, ite_false, reduceIte, Int.natCast_add, decide_eq_true_eq, decide_true, decide_false, Bool.not_true, Bool.not_false, Bool.not_eq_true, and_self, and_true, true_and, Nat.reduceLeDiff, Nat.reduceLT, Bool.and_true, Bool.true_and, Bool.and_false, Bool.false_and, ixD_t, at2_0, hin, hk, hl, s1, s2, hs, mSM, e1, e2]
theorem law_part_t (t : RT) {n : Nat} (hn : n ≤ 4) (h : t.okM n = true) : F_law_part [.val t.enc] = .ok (.str (textT t)) [.val t.enc] := by
  cases t with
  | is w =>
    unfold F_law_part m_law_part RT.enc
    simp only [ev_seq, ev_seq_nx, ev_seq_rt, ev_seq_ex, ev_seq_bk, ev_seq_ct, ev_seq_st, ev_seq_ite, ev_next, ev_ifs, ev_ites, ev_ites_ex, ev_ret, ev_drop, ev_out, ev_out_ex, ev_outA, ev_c, ev_set, ev_own, ev_bind, ev_bind_ex, ev_bindA, ev_op, ev_un, ev_call, ev_ofO, ev_nil, ev_cons, ev_consok, ev_push, ev_tup, ev_lst, ev_not, ev_notb, ev_and, ev_or, ev_if, ev_ite, ev_chain, ev_var, ev_ixO, ev_setIx, ev_augIx, ev_opOL, ev_callO, ev_ref, ev_mut, ev_callF, ev_callN, ev_back, ev_backX, ev_backN, ev_mk0, ev_mkv, ev_mkr, ev_wb0, ev_wbv, ev_wbr, ev_iter, ev_iterA, ev_comp, ev_for, ev_sl, ev_part0, ev_part1, ev_mpart, ev_asg, ev_par, ev_listOf, ev_binL, ev_gN, ev_gT, ev_gA0, ev_gA, ev_noIo0, ev_noIo, ev_wipe0, ev_wipe, ev_compL0, ev_compL, ev_forL0, ev_forL, at2_0, at2_1, ixN2_0, ixN2_1, fnSem, List.length_cons, List.length_nil, List.replicate, List.append_eq, List.cons_append, List.nil_append, List.getElem?_cons_zero, List.getElem?_cons_succ, List.set_cons_zero, List.set_cons_succ, List.take_succ_cons, List.take_zero, isIoAt, lstAt, setL, Nat.reduceAdd, Nat.reduceSub, Option.map_some, Option.bind_some, if_true, if_false, Bool.false_eq_true, ite_true, ite_false, reduceIte, Int.natCast_add, decide_eq_true_eq, decide_true, decide_false, Bool.not_true, Bool.not_false, Bool.not_eq_true, and_self, and_true, true_and, Nat.reduceLeDiff, Nat.reduceLT, Bool.and_true, Bool.true_and, Bool.and_false, Bool.false_and, ixD_t, at2_0, at2_1, in_is]
    rfl
  | any => rfl
  | non ws =>
    obtain ⟨h1, h2, h3⟩ := barredM_bd h
    have h4 := join_words h2 h3
    have h5 := join_len "," ws
    have e1 : joinF "," (tupS ws) = some (.str (Txt.join "," ws)) := join_ev "," (by omega) _ rfl
    have e2 : addD (.str "!") (.str (Txt.join "," ws)) = some (.str ("!" ++ Txt.join "," ws)) := add_str (by rw [len_bang]; omega)
    unfold F_law_part m_law_part RT.enc
    simp only [ev_seq, ev_seq_nx, ev_seq_rt, ev_seq_ex, ev_seq_bk, ev_seq_ct, ev_seq_st, ev_seq_ite, ev_next, ev_ifs, ev_ites, ev_ites_ex, ev_ret, ev_drop, ev_out, ev_out_ex, ev_outA, ev_c, ev_set, ev_own, ev_bind, ev_bind_ex, ev_bindA, ev_op, ev_un, ev_call, ev_ofO, ev_nil, ev_cons, ev_consok, ev_push, ev_tup, ev_lst, ev_not, ev_notb, ev_and, ev_or, ev_if, ev_ite, ev_chain, ev_var, ev_ixO, ev_setIx, ev_augIx, ev_opOL, ev_callO, ev_ref, ev_mut, ev_callF, ev_callN, ev_back, ev_backX, ev_backN, ev_mk0, ev_mkv, ev_mkr, ev_wb0, ev_wbv, ev_wbr, ev_iter, ev_iterA, ev_comp, ev_for, ev_sl, ev_part0, ev_part1, ev_mpart, ev_asg, ev_par, ev_listOf, ev_binL, ev_gN, ev_gT, ev_gA0, ev_gA, ev_noIo0, ev_noIo, ev_wipe0, ev_wipe, ev_compL0, ev_compL, ev_forL0, ev_forL, at2_0, at2_1, ixN2_0, ixN2_1, fnSem, List.length_cons, List.length_nil, List.replicate, List.append_eq, List.cons_append, List.nil_append, List.getElem?_cons_zero, List.getElem?_cons_succ, List.set_cons_zero, List.set_cons_succ, List.take_succ_cons, List.take_zero, isIoAt, lstAt, setL, Nat.reduceAdd, Nat.reduceSub, Option.map_some, Option.bind_some, if_true, if_false, Bool.false_eq_true, ite_true, ite_false, reduceIte, Int.natCast_add, decide_eq_true_eq, decide_true, decide_false, Bool.not_true, Bool.not_false, Bool.not_eq_true, and_self, and_true, true_and, Nat.reduceLeDiff, Nat.reduceLT, Bool.and_true, Bool.true_and, Bool.and_false, Bool.false_and, ixD_t, at2_0, at2_1, in_non, k_non_non, mSM, e1, e2]
    rfl
  | like i =>
    have hi := small_int h hn
    obtain ⟨-, -, f3, f4⟩ := fmt_ok "=" (.inl rfl) hi
    show F_law_part [.val (.tuple [.str "like", .int i])] = .ok (.str (numT "=" i)) _
    rw [num_str]
    exact part_num "like" "=" i (by rfl) k_lk_non in_like lit_like f3 f4
theorem law_part_i (t : RI) {n : Nat} {op : Bool} (hn : n ≤ 4) (h : t.okM n op = true) : F_law_part [.val t.enc] = .ok (.str (textI t)) [.val t.enc] := by
  cases t with
  | word w =>
    unfold F_law_part m_law_part RI.enc
    simp only [ev_seq, ev_seq_nx, ev_seq_rt, ev_seq_ex, ev_seq_bk, ev_seq_ct, ev_seq_st, ev_seq_ite, ev_next, ev_ifs, ev_ites, ev_ites_ex, ev_ret, ev_drop, ev_out, ev_out_ex, ev_outA, ev_c, ev_set, ev_own, ev_bind, ev_bind_ex, ev_bindA, ev_op, ev_un, ev_call, ev_ofO, ev_nil, ev_cons, ev_consok, ev_push, ev_tup, ev_lst, ev_not, ev_notb, ev_and, ev_or, ev_if, ev_ite, ev_chain, ev_var, ev_ixO, ev_setIx, ev_augIx, ev_opOL, ev_callO, ev_ref, ev_mut, ev_callF, ev_callN, ev_back, ev_backX, ev_backN, ev_mk0, ev_mkv, ev_mkr, ev_wb0, ev_wbv, ev_wbr, ev_iter, ev_iterA, ev_comp, ev_for, ev_sl, ev_part0, ev_part1, ev_mpart, ev_asg, ev_par, ev_listOf, ev_binL, ev_gN, ev_gT, ev_gA0, ev_gA, ev_noIo0, ev_noIo, ev_wipe0, ev_wipe, ev_compL0, ev_compL, ev_forL0, ev_forL, at2_0, at2_1, ixN2_0, ixN2_1, fnSem, List.length_cons, List.length_nil, List.replicate, List.append_eq, List.cons_append, List.nil_append, List.getElem?_cons_zero, List.getElem?_cons_succ, List.set_cons_zero, List.set_cons_succ, List.take_succ_cons, List.take_zero, isIoAt, lstAt, setL, Nat.reduceAdd, Nat.reduceSub, Option.map_some, Option.bind_some, if_true, if_false, Bool.false_eq_true, ite_true, ite_false, reduceIte, Int.natCast_add, decide_eq_true_eq, decide_true, decide_false, Bool.not_true, Bool.not_false, Bool.not_eq_true, and_self, and_true, true_and, Nat.reduceLeDiff, Nat.reduceLT, Bool.and_true, Bool.true_and, Bool.and_false, Bool.false_and, ixD_t, at2_0, at2_1, in_word]
    rfl
  | rest => rfl
  | field i =>
    have hi := small_int h hn
    obtain ⟨-, -, f3, f4⟩ := fmt_ok "$" (.inr rfl) hi
    show F_law_part [.val (.tuple [.str "field", .int i])] = .ok (.str (numT "$" i)) _
    rw [num_str]
    exact part_num "field" "$" i (by rfl) k_f_non in_field lit_field f3 f4
theorem catL_ok {ma mb : Ev → RA} {ρ ρ1 ρ2 : Ev} {xs ys : List Dt} (h1 : ma ρ = .ok xs ρ1) (h2 : mb ρ1 = .ok ys ρ2) (h : xs.length + ys.length ≤ 10000) : mCatL ma mb ρ = .ok (xs ++ ys) ρ2 := by
  unfold mCatL
  rw [h1]
  dsimp only
  rw [h2]
  dsimp only
  rw [if_pos h]
theorem law_written_ok (r : RR) (h : r.fine) : F_law_written [.val r.enc] = .ok (.str (writtenM r)) [.val r.enc] := by
  have hf := h.fr
  have hb := h.bk
  have hm := h.mk4
  have c1 := compL_mapA (vs := [6]) (g := gN 6) (mb := mCallN F_law_part [none] (mCons (mVar 6) mNil)) (ρ := [.val r.enc, .val (.tuple (r.fr.map RT.enc)), .val (.bool r.op), .val (.tuple (r.bk.map RT.enc)), .val (.tuple (r.mak.map RI.enc)), .no, .no, .no]) RT.enc (fun t => .str (textT t)) r.fr (by omega) (by
    intro t ht
    refine ⟨_, [.val r.enc, .val (.tuple (r.fr.map RT.enc)), .val (.bool r.op), .val (.tuple (r.bk.map RT.enc)), .val (.tuple (r.mak.map RI.enc)), .no, .val t.enc, .no], rfl, ?_, rfl, rfl⟩
    obtain ⟨n, hn, ho⟩ := h.ts t (List.mem_append_left _ ht)
    have := law_part_t t hn ho
    simp only [ev_seq, ev_seq_nx, ev_seq_rt, ev_seq_ex, ev_seq_bk, ev_seq_ct, ev_seq_st, ev_seq_ite, ev_next, ev_ifs, ev_ites, ev_ites_ex, ev_ret, ev_drop, ev_out, ev_out_ex, ev_outA, ev_c, ev_set, ev_own, ev_bind, ev_bind_ex, ev_bindA, ev_op, ev_un, ev_call, ev_ofO, ev_nil, ev_cons, ev_consok, ev_push, ev_tup, ev_lst, ev_not, ev_notb, ev_and, ev_or, ev_if, ev_ite, ev_chain, ev_var, ev_ixO, ev_setIx, ev_augIx, ev_opOL, ev_callO, ev_ref, ev_mut, ev_callF, ev_callN, ev_back, ev_backX, ev_backN, ev_mk0, ev_mkv, ev_mkr, ev_wb0, ev_wbv, ev_wbr, ev_iter, ev_iterA, ev_comp, ev_for, ev_sl, ev_part0, ev_part1, ev_mpart, ev_asg, ev_par, ev_listOf, ev_binL, ev_gN, ev_gT, ev_gA0, ev_gA, ev_noIo0, ev_noIo, ev_wipe0, ev_wipe, ev_compL0, ev_compL, ev_forL0, ev_forL, at2_0, at2_1, ixN2_0, ixN2_1, fnSem, List.length_cons, List.length_nil, List.replicate, List.append_eq, List.cons_append, List.nil_append, List.getElem?_cons_zero, List.getElem?_cons_succ, List.set_cons_zero, List.set_cons_succ, List.take_succ_cons, List.take_zero, isIoAt, lstAt, setL, Nat.reduceAdd, Nat.reduceSub, Option.map_some, Option.bind_some, if_true, if_false, Bool.false_eq_true, ite_true, ite_false, reduceIte, Int.natCast_add, decide_eq_true_eq, decide_true, decide_false, Bool.not_true, Bool.not_false, Bool.not_eq_true, and_self, and_true, true_and, Nat.reduceLeDiff, Nat.reduceLT, Bool.and_true, Bool.true_and, Bool.and_false, Bool.false_and, this])
  have c2 := compL_mapA (vs := [6]) (g := gN 6) (mb := mCallN F_law_part [none] (mCons (mVar 6) mNil)) (ρ := [.val r.enc, .val (.tuple (r.fr.map RT.enc)), .val (.bool r.op), .val (.tuple (r.bk.map RT.enc)), .val (.tuple (r.mak.map RI.enc)), .no, .no, .no]) RT.enc (fun t => .str (textT t)) r.bk (by omega) (by
    intro t ht
    refine ⟨_, [.val r.enc, .val (.tuple (r.fr.map RT.enc)), .val (.bool r.op), .val (.tuple (r.bk.map RT.enc)), .val (.tuple (r.mak.map RI.enc)), .no, .val t.enc, .no], rfl, ?_, rfl, rfl⟩
    obtain ⟨n, hn, ho⟩ := h.ts t (List.mem_append_right _ ht)
    have := law_part_t t hn ho
    simp only [ev_seq, ev_seq_nx, ev_seq_rt, ev_seq_ex, ev_seq_bk, ev_seq_ct, ev_seq_st, ev_seq_ite, ev_next, ev_ifs, ev_ites, ev_ites_ex, ev_ret, ev_drop, ev_out, ev_out_ex, ev_outA, ev_c, ev_set, ev_own, ev_bind, ev_bind_ex, ev_bindA, ev_op, ev_un, ev_call, ev_ofO, ev_nil, ev_cons, ev_consok, ev_push, ev_tup, ev_lst, ev_not, ev_notb, ev_and, ev_or, ev_if, ev_ite, ev_chain, ev_var, ev_ixO, ev_setIx, ev_augIx, ev_opOL, ev_callO, ev_ref, ev_mut, ev_callF, ev_callN, ev_back, ev_backX, ev_backN, ev_mk0, ev_mkv, ev_mkr, ev_wb0, ev_wbv, ev_wbr, ev_iter, ev_iterA, ev_comp, ev_for, ev_sl, ev_part0, ev_part1, ev_mpart, ev_asg, ev_par, ev_listOf, ev_binL, ev_gN, ev_gT, ev_gA0, ev_gA, ev_noIo0, ev_noIo, ev_wipe0, ev_wipe, ev_compL0, ev_compL, ev_forL0, ev_forL, at2_0, at2_1, ixN2_0, ixN2_1, fnSem, List.length_cons, List.length_nil, List.replicate, List.append_eq, List.cons_append, List.nil_append, List.getElem?_cons_zero, List.getElem?_cons_succ, List.set_cons_zero, List.set_cons_succ, List.take_succ_cons, List.take_zero, isIoAt, lstAt, setL, Nat.reduceAdd, Nat.reduceSub, Option.map_some, Option.bind_some, if_true, if_false, Bool.false_eq_true, ite_true, ite_false, reduceIte, Int.natCast_add, decide_eq_true_eq, decide_true, decide_false, Bool.not_true, Bool.not_false, Bool.not_eq_true, and_self, and_true, true_and, Nat.reduceLeDiff, Nat.reduceLT, Bool.and_true, Bool.true_and, Bool.and_false, Bool.false_and, this])
  have c3 : ∀ xs : List Dt, compL [7] (gN 7) (mC (.bool true)) (mCallN F_law_part [none] (mCons (mVar 7) mNil)) (r.mak.map RI.enc) [.val r.enc, .val (.tuple (r.fr.map RT.enc)), .val (.bool r.op), .val (.tuple (r.bk.map RT.enc)), .val (.tuple (r.mak.map RI.enc)), .own xs, .no, .no] [] = .ok (r.mak.map fun t => .str (textI t)) [.val r.enc, .val (.tuple (r.fr.map RT.enc)), .val (.bool r.op), .val (.tuple (r.bk.map RT.enc)), .val (.tuple (r.mak.map RI.enc)), .own xs, .no, .no] := fun xs => compL_mapA RI.enc (fun t => .str (textI t)) r.mak (by omega) (by
    intro t ht
    refine ⟨_, [.val r.enc, .val (.tuple (r.fr.map RT.enc)), .val (.bool r.op), .val (.tuple (r.bk.map RT.enc)), .val (.tuple (r.mak.map RI.enc)), .own xs, .no, .val t.enc], rfl, ?_, rfl, rfl⟩
    obtain ⟨n, op, hn, ho⟩ := h.is t ht
    have := law_part_i t hn ho
    simp only [ev_seq, ev_seq_nx, ev_seq_rt, ev_seq_ex, ev_seq_bk, ev_seq_ct, ev_seq_st, ev_seq_ite, ev_next, ev_ifs, ev_ites, ev_ites_ex, ev_ret, ev_drop, ev_out, ev_out_ex, ev_outA, ev_c, ev_set, ev_own, ev_bind, ev_bind_ex, ev_bindA, ev_op, ev_un, ev_call, ev_ofO, ev_nil, ev_cons, ev_consok, ev_push, ev_tup, ev_lst, ev_not, ev_notb, ev_and, ev_or, ev_if, ev_ite, ev_chain, ev_var, ev_ixO, ev_setIx, ev_augIx, ev_opOL, ev_callO, ev_ref, ev_mut, ev_callF, ev_callN, ev_back, ev_backX, ev_backN, ev_mk0, ev_mkv, ev_mkr, ev_wb0, ev_wbv, ev_wbr, ev_iter, ev_iterA, ev_comp, ev_for, ev_sl, ev_part0, ev_part1, ev_mpart, ev_asg, ev_par, ev_listOf, ev_binL, ev_gN, ev_gT, ev_gA0, ev_gA, ev_noIo0, ev_noIo, ev_wipe0, ev_wipe, ev_compL0, ev_compL, ev_forL0, ev_forL, at2_0, at2_1, ixN2_0, ixN2_1, fnSem, List.length_cons, List.length_nil, List.replicate, List.append_eq, List.cons_append, List.nil_append, List.getElem?_cons_zero, List.getElem?_cons_succ, List.set_cons_zero, List.set_cons_succ, List.take_succ_cons, List.take_zero, isIoAt, lstAt, setL, Nat.reduceAdd, Nat.reduceSub, Option.map_some, Option.bind_some, if_true, if_false, Bool.false_eq_true, ite_true, ite_false, reduceIte, Int.natCast_add, decide_eq_true_eq, decide_true, decide_false, Bool.not_true, Bool.not_false, Bool.not_eq_true, and_self, and_true, true_and, Nat.reduceLeDiff, Nat.reduceLT, Bool.and_true, Bool.true_and, Bool.and_false, Bool.false_and, this])
  have e3 : mAsgG (gT [1, 2, 3, 4]) (mVar 0) [.val r.enc, .no, .no, .no, .no, .no, .no, .no] = .nx [.val r.enc, .val (.tuple (r.fr.map RT.enc)), .val (.bool r.op), .val (.tuple (r.bk.map RT.enc)), .val (.tuple (r.mak.map RI.enc)), .no, .no, .no] := rfl
  have sq : ∀ xs : List Dt, seqD (.tuple xs) = some xs := fun _ => rfl
  have hp := parts_sum h
  have l1 : ∀ (α : Type) (f : α → Dt) (xs : List α), (xs.map f).length = xs.length := fun _ f xs => List.length_map f
  have ep : (r.fr.map fun t => PyData.str (textT t)) ++ (if r.op = true then [PyData.str ".."] else []) ++ (r.bk.map fun t => .str (textT t)) ++ [.str ">"] ++ (r.mak.map fun t => .str (textI t)) = (partsM r).map .str := by
    unfold partsM
    simp only [List.map_append, List.map_map, List.map_cons, List.map_nil]
    cases r.op <;> rfl
  have e9 : joinF " " (.list ((partsM r).map .str)) = some (.str (writtenM r)) := join_ev " " (by omega) _ rfl
  have hop1 : (if r.op = true then [PyData.str ".."] else []).length ≤ 1 := by split <;> simp
  have d1 : (r.fr.map fun t => PyData.str (textT t)).length + (if r.op = true then [PyData.str ".."] else []).length ≤ 10000 := by rw [List.length_map]; omega
  have d2 : ((r.fr.map fun t => PyData.str (textT t)) ++ (if r.op = true then [PyData.str ".."] else [])).length + (r.bk.map fun t => PyData.str (textT t)).length ≤ 10000 := by rw [List.length_append, List.length_map, List.length_map]; omega
  have d3 : ((r.fr.map fun t => PyData.str (textT t)) ++ (if r.op = true then [PyData.str ".."] else []) ++ (r.bk.map fun t => PyData.str (textT t))).length + [PyData.str ">"].length ≤ 10000 := by simp only [List.length_append, List.length_map, List.length_cons, List.length_nil]; omega
  have d4 : ((r.fr.map fun t => PyData.str (textT t)) ++ (if r.op = true then [PyData.str ".."] else []) ++ (r.bk.map fun t => PyData.str (textT t)) ++ [PyData.str ">"]).length + (r.mak.map fun t => PyData.str (textI t)).length ≤ 10000 := by simp only [List.length_append, List.length_map, List.length_cons, List.length_nil]; omega
  have l5 : mOwn 5 (mCatL (mCatL (mComp [6] (mIter seqD (mVar 1)) (gN 6) (mC (.bool true)) (mCallN F_law_part [none] (mCons (mVar 6) mNil))) (mBinL repBF (mCons (mC (.str "..")) mNil) (mVar 2))) (mComp [6] (mIter seqD (mVar 3)) (gN 6) (mC (.bool true)) (mCallN F_law_part [none] (mCons (mVar 6) mNil)))) [.val r.enc, .val (.tuple (r.fr.map RT.enc)), .val (.bool r.op), .val (.tuple (r.bk.map RT.enc)), .val (.tuple (r.mak.map RI.enc)), .no, .no, .no] = .nx [.val r.enc, .val (.tuple (r.fr.map RT.enc)), .val (.bool r.op), .val (.tuple (r.bk.map RT.enc)), .val (.tuple (r.mak.map RI.enc)), .own ((r.fr.map fun t => PyData.str (textT t)) ++ (if r.op = true then [PyData.str ".."] else []) ++ (r.bk.map fun t => PyData.str (textT t))), .no, .no] := by
    have q1 : repBF [.str ".."] (.bool r.op) = some (if r.op = true then [PyData.str ".."] else []) := rfl
    have q := catL_ok (ρ1 := [.val r.enc, .val (.tuple (r.fr.map RT.enc)), .val (.bool r.op), .val (.tuple (r.bk.map RT.enc)), .val (.tuple (r.mak.map RI.enc)), .no, .no, .no]) (ρ2 := [.val r.enc, .val (.tuple (r.fr.map RT.enc)), .val (.bool r.op), .val (.tuple (r.bk.map RT.enc)), .val (.tuple (r.mak.map RI.enc)), .no, .no, .no]) (catL_ok (ma := mComp [6] (mIter seqD (mVar 1)) (gN 6) (mC (.bool true)) (mCallN F_law_part [none] (mCons (mVar 6) mNil))) (mb := mBinL repBF (mCons (mC (.str "..")) mNil) (mVar 2)) (ρ := [.val r.enc, .val (.tuple (r.fr.map RT.enc)), .val (.bool r.op), .val (.tuple (r.bk.map RT.enc)), .val (.tuple (r.mak.map RI.enc)), .no, .no, .no]) (ρ1 := [.val r.enc, .val (.tuple (r.fr.map RT.enc)), .val (.bool r.op), .val (.tuple (r.bk.map RT.enc)), .val (.tuple (r.mak.map RI.enc)), .no, .no, .no]) (ρ2 := [.val r.enc, .val (.tuple (r.fr.map RT.enc)), .val (.bool r.op), .val (.tuple (r.bk.map RT.enc)), .val (.tuple (r.mak.map RI.enc)), .no, .no, .no]) (by simp only [ev_seq, ev_seq_nx, ev_seq_rt, ev_seq_ex, ev_seq_bk, ev_seq_ct, ev_seq_st, ev_seq_ite, ev_next, ev_ifs, ev_ites, ev_ites_ex, ev_ret, ev_drop, ev_out, ev_out_ex, ev_outA, ev_c, ev_set, ev_own, ev_bind, ev_bind_ex, ev_bindA, ev_op, ev_un, ev_call, ev_ofO, ev_nil, ev_cons, ev_consok, ev_push, ev_tup, ev_lst, ev_not, ev_notb, ev_and, ev_or, ev_if, ev_ite, ev_chain, ev_var, ev_ixO, ev_setIx, ev_augIx, ev_opOL, ev_callO, ev_ref, ev_mut, ev_callF, ev_callN, ev_back, ev_backX, ev_backN, ev_mk0, ev_mkv, ev_mkr, ev_wb0, ev_wbv, ev_wbr, ev_iter, ev_iterA, ev_comp, ev_for, ev_sl, ev_part0, ev_part1, ev_mpart, ev_asg, ev_par, ev_listOf, ev_binL, ev_gN, ev_gT, ev_gA0, ev_gA, ev_noIo0, ev_noIo, ev_wipe0, ev_wipe, ev_compL0, ev_compL, ev_forL0, ev_forL, at2_0, at2_1, ixN2_0, ixN2_1, fnSem, List.length_cons, List.length_nil, List.replicate, List.append_eq, List.cons_append, List.nil_append, List.getElem?_cons_zero, List.getElem?_cons_succ, List.set_cons_zero, List.set_cons_succ, List.take_succ_cons, List.take_zero, isIoAt, lstAt, setL, Nat.reduceAdd, Nat.reduceSub, Option.map_some, Option.bind_some, if_true, if_false, Bool.false_eq_true, ite_true, ite_false, reduceIte, Int.natCast_add, decide_eq_true_eq, decide_true, decide_false, Bool.not_true, Bool.not_false, Bool.not_eq_true, and_self, and_true, true_and, Nat.reduceLeDiff, Nat.reduceLT, Bool.and_true, Bool.true_and, Bool.and_false, Bool.false_and, sq, c1]) (by simp only [ev_seq, ev_seq_nx, ev_seq_rt, ev_seq_ex, ev_seq_bk, ev_seq_ct, ev_seq_st, ev_seq_ite, ev_next, ev_ifs, ev_ites, ev_ites_ex, ev_ret, ev_drop, ev_out, ev_out_ex, ev_outA, ev_c, ev_set, ev_own, ev_bind, ev_bind_ex, ev_bindA, ev_op, ev_un, ev_call, ev_ofO, ev_nil, ev_cons, ev_consok, ev_push, ev_tup, ev_lst, ev_not, ev_notb, ev_and, ev_or, ev_if, ev_ite, ev_chain, ev_var, ev_ixO, ev_setIx, ev_augIx, ev_opOL, ev_callO, ev_ref, ev_mut, ev_callF, ev_callN, ev_back, ev_backX, ev_backN, ev_mk0, ev_mkv, ev_mkr, ev_wb0, ev_wbv, ev_wbr, ev_iter, ev_iterA, ev_comp, ev_for, ev_sl, ev_part0, ev_part1, ev_mpart, ev_asg, ev_par, ev_listOf, ev_binL, ev_gN, ev_gT, ev_gA0, ev_gA, ev_noIo0, ev_noIo, ev_wipe0, ev_wipe, ev_compL0, ev_compL, ev_forL0, ev_forL, at2_0, at2_1, ixN2_0, ixN2_1, fnSem, List.length_cons, List.length_nil, List.replicate, List.append_eq, List.cons_append, List.nil_append, List.getElem?_cons_zero, List.getElem?_cons_succ, List.set_cons_zero, List.set_cons_succ, List.take_succ_cons, List.take_zero, isIoAt, lstAt, setL, Nat.reduceAdd, Nat.reduceSub, Option.map_some, Option.bind_some, if_true, if_false, Bool.false_eq_true, ite_true, ite_false, reduceIte, Int.natCast_add, decide_eq_true_eq, decide_true, decide_false, Bool.not_true, Bool.not_false, Bool.not_eq_true, and_self, and_true, true_and, Nat.reduceLeDiff, Nat.reduceLT, Bool.and_true, Bool.true_and, Bool.and_false, Bool.false_and, q1]) d1) (mb := mComp [6] (mIter seqD (mVar 3)) (gN 6) (mC (.bool true)) (mCallN F_law_part [none] (mCons (mVar 6) mNil))) (by simp only [ev_seq, ev_seq_nx, ev_seq_rt, ev_seq_ex, ev_seq_bk, ev_seq_ct, ev_seq_st, ev_seq_ite, ev_next, ev_ifs, ev_ites, ev_ites_ex, ev_ret, ev_drop, ev_out, ev_out_ex, ev_outA, ev_c, ev_set, ev_own, ev_bind, ev_bind_ex, ev_bindA, ev_op, ev_un, ev_call, ev_ofO, ev_nil, ev_cons, ev_consok, ev_push, ev_tup, ev_lst, ev_not, ev_notb, ev_and, ev_or, ev_if, ev_ite, ev_chain, ev_var, ev_ixO, ev_setIx, ev_augIx, ev_opOL, ev_callO, ev_ref, ev_mut, ev_callF, ev_callN, ev_back, ev_backX, ev_backN, ev_mk0, ev_mkv, ev_mkr, ev_wb0, ev_wbv, ev_wbr, ev_iter, ev_iterA, ev_comp, ev_for, ev_sl, ev_part0, ev_part1, ev_mpart, ev_asg, ev_par, ev_listOf, ev_binL, ev_gN, ev_gT, ev_gA0, ev_gA, ev_noIo0, ev_noIo, ev_wipe0, ev_wipe, ev_compL0, ev_compL, ev_forL0, ev_forL, at2_0, at2_1, ixN2_0, ixN2_1, fnSem, List.length_cons, List.length_nil, List.replicate, List.append_eq, List.cons_append, List.nil_append, List.getElem?_cons_zero, List.getElem?_cons_succ, List.set_cons_zero, List.set_cons_succ, List.take_succ_cons, List.take_zero, isIoAt, lstAt, setL, Nat.reduceAdd, Nat.reduceSub, Option.map_some, Option.bind_some, if_true, if_false, Bool.false_eq_true, ite_true, ite_false, reduceIte, Int.natCast_add, decide_eq_true_eq, decide_true, decide_false, Bool.not_true, Bool.not_false, Bool.not_eq_true, and_self, and_true, true_and, Nat.reduceLeDiff, Nat.reduceLT, Bool.and_true, Bool.true_and, Bool.and_false, Bool.false_and, sq, c2]) d2
    simp only [ev_seq, ev_seq_nx, ev_seq_rt, ev_seq_ex, ev_seq_bk, ev_seq_ct, ev_seq_st, ev_seq_ite, ev_next, ev_ifs, ev_ites, ev_ites_ex, ev_ret, ev_drop, ev_out, ev_out_ex, ev_outA, ev_c, ev_set, ev_own, ev_bind, ev_bind_ex, ev_bindA, ev_op, ev_un, ev_call, ev_ofO, ev_nil, ev_cons, ev_consok, ev_push, ev_tup, ev_lst, ev_not, ev_notb, ev_and, ev_or, ev_if, ev_ite, ev_chain, ev_var, ev_ixO, ev_setIx, ev_augIx, ev_opOL, ev_callO, ev_ref, ev_mut, ev_callF, ev_callN, ev_back, ev_backX, ev_backN, ev_mk0, ev_mkv, ev_mkr, ev_wb0, ev_wbv, ev_wbr, ev_iter, ev_iterA, ev_comp, ev_for, ev_sl, ev_part0, ev_part1, ev_mpart, ev_asg, ev_par, ev_listOf, ev_binL, ev_gN, ev_gT, ev_gA0, ev_gA, ev_noIo0, ev_noIo, ev_wipe0, ev_wipe, ev_compL0, ev_compL, ev_forL0, ev_forL, at2_0, at2_1, ixN2_0, ixN2_1, fnSem, List.length_cons, List.length_nil, List.replicate, List.append_eq, List.cons_append, List.nil_append, List.getElem?_cons_zero, List.getElem?_cons_succ, List.set_cons_zero, List.set_cons_succ, List.take_succ_cons, List.take_zero, isIoAt, lstAt, setL, Nat.reduceAdd, Nat.reduceSub, Option.map_some, Option.bind_some, if_true, if_false, Bool.false_eq_true, ite_true, ite_false, reduceIte, Int.natCast_add, decide_eq_true_eq, decide_true, decide_false, Bool.not_true, Bool.not_false, Bool.not_eq_true, and_self, and_true, true_and, Nat.reduceLeDiff, Nat.reduceLT, Bool.and_true, Bool.true_and, Bool.and_false, Bool.false_and, q]
  have l6 : (mSM joinF (mC (.str " ")) (mLst (mCatL (mCatO 5 (mCons (mC (.str ">")) mNil)) (mComp [7] (mIter seqD (mVar 4)) (gN 7) (mC (.bool true)) (mCallN F_law_part [none] (mCons (mVar 7) mNil)))))) [.val r.enc, .val (.tuple (r.fr.map RT.enc)), .val (.bool r.op), .val (.tuple (r.bk.map RT.enc)), .val (.tuple (r.mak.map RI.enc)), .own ((r.fr.map fun t => PyData.str (textT t)) ++ (if r.op = true then [PyData.str ".."] else []) ++ (r.bk.map fun t => PyData.str (textT t))), .no, .no] = .ok (.str (writtenM r)) [.val r.enc, .val (.tuple (r.fr.map RT.enc)), .val (.bool r.op), .val (.tuple (r.bk.map RT.enc)), .val (.tuple (r.mak.map RI.enc)), .own ((r.fr.map fun t => PyData.str (textT t)) ++ (if r.op = true then [PyData.str ".."] else []) ++ (r.bk.map fun t => PyData.str (textT t))), .no, .no] := by
    have q2 : mCatO 5 (mCons (mC (.str ">")) mNil) [.val r.enc, .val (.tuple (r.fr.map RT.enc)), .val (.bool r.op), .val (.tuple (r.bk.map RT.enc)), .val (.tuple (r.mak.map RI.enc)), .own ((r.fr.map fun t => PyData.str (textT t)) ++ (if r.op = true then [PyData.str ".."] else []) ++ (r.bk.map fun t => PyData.str (textT t))), .no, .no] = .ok ((r.fr.map fun t => PyData.str (textT t)) ++ (if r.op = true then [PyData.str ".."] else []) ++ (r.bk.map fun t => PyData.str (textT t)) ++ [PyData.str ">"]) [.val r.enc, .val (.tuple (r.fr.map RT.enc)), .val (.bool r.op), .val (.tuple (r.bk.map RT.enc)), .val (.tuple (r.mak.map RI.enc)), .own ((r.fr.map fun t => PyData.str (textT t)) ++ (if r.op = true then [PyData.str ".."] else []) ++ (r.bk.map fun t => PyData.str (textT t))), .no, .no] := if_pos d3
    have q3 := catL_ok (ρ2 := [.val r.enc, .val (.tuple (r.fr.map RT.enc)), .val (.bool r.op), .val (.tuple (r.bk.map RT.enc)), .val (.tuple (r.mak.map RI.enc)), .own ((r.fr.map fun t => PyData.str (textT t)) ++ (if r.op = true then [PyData.str ".."] else []) ++ (r.bk.map fun t => PyData.str (textT t))), .no, .no]) q2 (mb := mComp [7] (mIter seqD (mVar 4)) (gN 7) (mC (.bool true)) (mCallN F_law_part [none] (mCons (mVar 7) mNil))) (by simp only [ev_seq, ev_seq_nx, ev_seq_rt, ev_seq_ex, ev_seq_bk, ev_seq_ct, ev_seq_st, ev_seq_ite, ev_next, ev_ifs, ev_ites, ev_ites_ex, ev_ret, ev_drop, ev_out, ev_out_ex, ev_outA, ev_c, ev_set, ev_own, ev_bind, ev_bind_ex, ev_bindA, ev_op, ev_un, ev_call, ev_ofO, ev_nil, ev_cons, ev_consok, ev_push, ev_tup, ev_lst, ev_not, ev_notb, ev_and, ev_or, ev_if, ev_ite, ev_chain, ev_var, ev_ixO, ev_setIx, ev_augIx, ev_opOL, ev_callO, ev_ref, ev_mut, ev_callF, ev_callN, ev_back, ev_backX, ev_backN, ev_mk0, ev_mkv, ev_mkr, ev_wb0, ev_wbv, ev_wbr, ev_iter, ev_iterA, ev_comp, ev_for, ev_sl, ev_part0, ev_part1, ev_mpart, ev_asg, ev_par, ev_listOf, ev_binL, ev_gN, ev_gT, ev_gA0, ev_gA, ev_noIo0, ev_noIo, ev_wipe0, ev_wipe, ev_compL0, ev_compL, ev_forL0, ev_forL, at2_0, at2_1, ixN2_0, ixN2_1, fnSem, List.length_cons, List.length_nil, List.replicate, List.append_eq, List.cons_append, List.nil_append, List.getElem?_cons_zero, List.getElem?_cons_succ, List.set_cons_zero, List.set_cons_succ, List.take_succ_cons, List.take_zero, isIoAt, lstAt, setL, Nat.reduceAdd, Nat.reduceSub, Option.map_some, Option.bind_some, if_true, if_false, Bool.false_eq_true, ite_true, ite_false, reduceIte, Int.natCast_add, decide_eq_true_eq, decide_true, decide_false, Bool.not_true, Bool.not_false, Bool.not_eq_true, and_self, and_true, true_and, Nat.reduceLeDiff, Nat.reduceLT, Bool.and_true, Bool.true_and, Bool.and_false, Bool.false_and, sq, c3]) d4
    rw [ep] at q3
    simp only [ev_seq, ev_seq_nx, ev_seq_rt, ev_seq_ex, ev_seq_bk, ev_seq_ct, ev_seq_st, ev_seq_ite, ev_next, ev_ifs, ev_ites, ev_ites_ex, ev_ret, ev_drop, ev_out, ev_out_ex, ev_outA, ev_c, ev_set, ev_own, ev_bind, ev_bind_ex, ev_bindA, ev_op, ev_un, ev_call, ev_ofO, ev_nil, ev_cons, ev_consok, ev_push, ev_tup, ev_lst, ev_not, ev_notb, ev_and, ev_or, ev_if, ev_ite, ev_chain, ev_var, ev_ixO, ev_setIx, ev_augIx, ev_opOL, ev_callO, ev_ref, ev_mut, ev_callF, ev_callN, ev_back, ev_backX, ev_backN, ev_mk0, ev_mkv, ev_mkr, ev_wb0, ev_wbv, ev_wbr, ev_iter, ev_iterA, ev_comp, ev_for, ev_sl, ev_part0, ev_part1, ev_mpart, ev_asg, ev_par, ev_listOf, ev_binL, ev_gN, ev_gT, ev_gA0, ev_gA, ev_noIo0, ev_noIo, ev_wipe0, ev_wipe, ev_compL0, ev_compL, ev_forL0, ev_forL, at2_0, at2_1, ixN2_0, ixN2_1, fnSem, List.length_cons, List.length_nil, List.replicate, List.append_eq, List.cons_append, List.nil_append, List.getElem?_cons_zero, List.getElem?_cons_succ, List.set_cons_zero, List.set_cons_succ, List.take_succ_cons, List.take_zero, isIoAt, lstAt, setL, Nat.reduceAdd, Nat.reduceSub, Option.map_some, Option.bind_some, if_true, if_false, Bool.false_eq_true, ite_true, ite_false, reduceIte, Int.natCast_add, decide_eq_true_eq, decide_true, decide_false, Bool.not_true, Bool.not_false, Bool.not_eq_true, and_self, and_true, true_and, Nat.reduceLeDiff, Nat.reduceLT, Bool.and_true, Bool.true_and, Bool.and_false, Bool.false_and, mSM, q3, e9]
  unfold F_law_written m_law_written
  simp only [fnSem, List.length_cons, List.length_nil, if_true, Nat.reduceAdd, Nat.reduceSub, List.replicate, List.cons_append, List.nil_append, ev_seq, e3, ev_seq_nx, l5, ev_ret, l6]
  rfl
end NS

set_option Elab.async false
set_option linter.all false
set_option autoImplicit false
set_option maxRecDepth 100000
set_option maxHeartbeats 1000000
/-! rules read. -/
namespace NS
open PySem PySem.Spec PyProof.Rows L2
open TL (tl spl)
def behind (p : Str) : Str := cutS p (some 1) none
def testOf (p : Str) : RT := if p = "*" then .any else if Txt.startswith p "!" = true then .non (Txt.split (behind p) ",") else if Txt.startswith p "=" = true then .like (Txt.find "0123456789" (behind p)) else .is p
def itemOf (p : Str) : RI := if p = ".." then .rest else if Txt.startswith p "$" = true then .field (Txt.find "0123456789" (behind p)) else .word p
def placeOf (ps : List Str) : Nat := if (".." : Str) ∈ ps then (ps.findIdx? fun y : Str => decide (y = "..")).getD 0 else ps.length
def ruleOf (t : Str) : RR :=
  ⟨((Txt.split (Txt.partition t " > ").1 " ").take (placeOf (Txt.split (Txt.partition t " > ").1 " "))).map testOf, decide ((".." : Str) ∈ Txt.split (Txt.partition t " > ").1 " "),
    ((Txt.split (Txt.partition t " > ").1 " ").drop (placeOf (Txt.split (Txt.partition t " > ").1 " ") + 1)).map testOf, (Txt.split (Txt.partition t " > ").2.2 " ").map itemOf⟩
theorem spl_bd (S : List Nat) : ∀ (l : List Nat) (k : Nat) (acc : List Nat), (spl S k acc l).length ≤ l.length + 1 ∧ ∀ p ∈ spl S k acc l, p.length ≤ acc.length + l.length
  | [], k, acc => by
    rw [TL.spl_nil]
    exact ⟨by simp, fun p hp => by rw [List.mem_singleton] at hp; subst hp; simp⟩
  | c :: r, 0, acc => by
    cases h : TL.pre S (c :: r) with
    | true =>
      rw [TL.spl_hit h]
      obtain ⟨h1, h2⟩ := spl_bd S r (S.length - 1) []
      refine ⟨by rw [List.length_cons, List.length_cons]; omega, fun p hp => ?_⟩
      rcases List.mem_cons.mp hp with rfl | hp
      · omega
      · have := h2 p hp; rw [List.length_cons]; simp only [List.length_nil] at this; omega
    | false =>
      rw [TL.spl_miss h]
      obtain ⟨h1, h2⟩ := spl_bd S r 0 (acc ++ [c])
      refine ⟨by rw [List.length_cons]; omega, fun p hp => ?_⟩
      have := h2 p hp
      rw [List.length_append, List.length_cons, List.length_nil] at this
      rw [List.length_cons]
      omega
  | c :: r, k + 1, acc => by
    obtain ⟨h1, h2⟩ := spl_bd S r k acc
    refine ⟨?_, fun p hp => ?_⟩
    · show (spl S k acc r).length ≤ _
      rw [List.length_cons]
      omega
    · have hp : p ∈ spl S k acc r := hp
      have := h2 p hp
      rw [List.length_cons]
      omega
theorem split_bd (x y : Str) (hy : tl y ≠ []) (hk : y.cps.all (· < 256) = true) : (Txt.split x y).length ≤ x.length + 1 ∧ ∀ p ∈ Txt.split x y, p.length ≤ x.length := by
  have e := TL.split_spl x y hy (TL.kind_ok hk)
  obtain ⟨h1, h2⟩ := spl_bd (tl y) (tl x) 0 []
  rw [← e] at h1 h2
  rw [List.length_map, ← TL.len_tl] at h1
  refine ⟨h1, fun p hp => ?_⟩
  have := h2 (tl p) (List.mem_map.mpr ⟨p, hp, rfl⟩)
  rw [List.length_nil, ← TL.len_tl, ← TL.len_tl] at this
  omega
theorem par_bd (S : List Nat) : ∀ (l acc a b : List Nat), TL.par S acc l = some (a, b) → a.length ≤ acc.length + l.length ∧ b.length ≤ l.length
  | [], _, _, _, h => by cases h
  | c :: r, acc, a, b, h => by
    cases hp : TL.pre S (c :: r) with
    | true =>
      rw [TL.par_hit hp] at h
      cases h
      refine ⟨by omega, ?_⟩
      rw [List.length_drop]
      omega
    | false =>
      rw [TL.par_miss hp] at h
      have := par_bd S r (acc ++ [c]) a b h
      rw [List.length_append, List.length_cons, List.length_nil] at this
      rw [List.length_cons]
      omega
theorem part_bd (x y : Str) (hy : tl y ≠ []) : (Txt.partition x y).1.length ≤ x.length ∧ (Txt.partition x y).2.2.length ≤ x.length := by
  rw [TL.partition_par x y hy]
  cases h : TL.par (tl y) [] (tl x) with
  | none =>
    refine ⟨Nat.le_refl _, ?_⟩
    show Str.empty.length ≤ _
    have : Str.empty.length = 0 := by rfl
    omega
  | some p =>
    obtain ⟨a, b⟩ := p
    have := par_bd (tl y) (tl x) [] a b h
    rw [TL.len_tl x]
    refine ⟨?_, ?_⟩
    · show (⟨a.toArray⟩ : Str).length ≤ _
      rw [TL.len_tl, TL.tl_mk]
      simpa using this.1
    · show (⟨b.toArray⟩ : Str).length ≤ _
      rw [TL.len_tl, TL.tl_mk]
      exact this.2
theorem comma_ok : tl (Str.ofString ",") ≠ [] ∧ (Str.ofString ",").cps.all (· < 256) = true ∧ ((Str.ofString ",").length == 0) = false := ⟨by decide +kernel, by decide +kernel, by decide +kernel⟩
theorem blank_ok : tl (Str.ofString " ") ≠ [] ∧ (Str.ofString " ").cps.all (· < 256) = true ∧ ((Str.ofString " ").length == 0) = false := ⟨by decide +kernel, by decide +kernel, by decide +kernel⟩
theorem arrow_ok : tl (Str.ofString " > ") ≠ [] ∧ ((Str.ofString " > ").length == 0) = false := ⟨by decide +kernel, by decide +kernel⟩
theorem nl_ok : tl (Str.ofString "\n") ≠ [] ∧ (Str.ofString "\n").cps.all (· < 256) = true ∧ ((Str.ofString "\n").length == 0) = false := ⟨by decide +kernel, by decide +kernel, by decide +kernel⟩
theorem sl_behind {p : Str} (h : p.length ≤ 10000) : slD (.str p) (some 1) none = some (.str (behind p)) := by
  show (if _ then _ else _) = _
  rw [if_pos h]
  rfl
theorem behind_len (p : Str) : (behind p).length ≤ p.length := cutS_length p _ _
theorem split_ev {x y : Str} (h : x.length ≤ 10000) (hy : (y.length == 0) = false) : splitF x (.str y) = some (.list ((Txt.split x y).map .str)) := by
  show (if _ then _ else _) = _
  rw [if_pos ⟨hy, h⟩]
theorem test_of_ok (p : Str) (h : p.length ≤ 10000) : F_test_of [.val (.str p)] = .ok (testOf p).enc [.val (.str p)] := by
  unfold F_test_of m_test_of testOf
  by_cases h1 : p = "*"
  · rw [if_pos h1]
    have e1 : eqD (.str p) (.str "*") = some (.bool true) := by rw [eqD_str, decide_eq_true h1]
    simp only [ev_seq, ev_seq_nx, ev_seq_rt, ev_seq_ex, ev_seq_bk, ev_seq_ct, ev_seq_st, ev_seq_ite, ev_next, ev_ifs, ev_ites, ev_ites_ex, ev_ret, ev_drop, ev_out, ev_out_ex, ev_outA, ev_c, ev_set, ev_own, ev_bind, ev_bind_ex, ev_bindA, ev_op, ev_un, ev_call, ev_ofO, ev_nil, ev_cons, ev_consok, ev_push, ev_tup, ev_lst, ev_not, ev_notb, ev_and, ev_or, ev_if, ev_ite, ev_chain, ev_var, ev_ixO, ev_setIx, ev_augIx, ev_opOL, ev_callO, ev_ref, ev_mut, ev_callF, ev_callN, ev_back, ev_backX, ev_backN, ev_mk0, ev_mkv, ev_mkr, ev_wb0, ev_wbv, ev_wbr, ev_iter, ev_iterA, ev_comp, ev_for, ev_sl, ev_part0, ev_part1, ev_mpart, ev_asg, ev_par, ev_listOf, ev_binL, ev_gN, ev_gT, ev_gA0, ev_gA, ev_noIo0, ev_noIo, ev_wipe0, ev_wipe, ev_compL0, ev_compL, ev_forL0, ev_forL, at2_0, at2_1, ixN2_0, ixN2_1, fnSem, List.length_cons, List.length_nil, List.replicate, List.append_eq, List.cons_append, List.nil_append, List.getElem?_cons_zero, List.getElem?_cons_succ, List.set_cons_zero, List.set_cons_succ, List.take_succ_cons, List.take_zero, isIoAt, lstAt, setL, Nat.reduceAdd, Nat.reduceSub, Option.map_some, Option.bind_some, if_true, if_false, Bool.false_eq_true, ite_true, ite_false, reduceIte, Int.natCast_add, decide_eq_true_eq, decide_true, decide_false, Bool.not_true, Bool.not_false, Bool.not_eq_true, and_self, and_true, true_and, Nat.reduceLeDiff, Nat.reduceLT, Bool.and_true, Bool.true_and, Bool.and_false, Bool.false_and, e1]
    rfl
  · rw [if_neg h1]
    have e1 : eqD (.str p) (.str "*") = some (.bool false) := by rw [eqD_str, decide_eq_false h1]
    cases h2 : Txt.startswith p "!" with
    | true =>
      have e2 : startsF p (.str "!") = some (.bool true) := by show some (PyData.bool _) = _; rw [h2]
      have e3 := sl_behind h
      have e4 := split_ev (x := behind p) (y := ",") (Nat.le_trans (behind_len p) h) comma_ok.2.2
      simp only [ev_seq, ev_seq_nx, ev_seq_rt, ev_seq_ex, ev_seq_bk, ev_seq_ct, ev_seq_st, ev_seq_ite, ev_next, ev_ifs, ev_ites, ev_ites_ex, ev_ret, ev_drop, ev_out, ev_out_ex, ev_outA, ev_c, ev_set, ev_own, ev_bind, ev_bind_ex, ev_bindA, ev_op, ev_un, ev_call, ev_ofO, ev_nil, ev_cons, ev_consok, ev_push, ev_tup, ev_lst, ev_not, ev_notb, ev_and, ev_or, ev_if, ev_ite, ev_chain, ev_var, ev_ixO, ev_setIx, ev_augIx, ev_opOL, ev_callO, ev_ref, ev_mut, ev_callF, ev_callN, ev_back, ev_backX, ev_backN, ev_mk0, ev_mkv, ev_mkr, ev_wb0, ev_wbv, ev_wbr, ev_iter, ev_iterA, ev_comp, ev_for, ev_sl, ev_part0, ev_part1, ev_mpart, ev_asg, ev_par, ev_listOf, ev_binL, ev_gN, ev_gT, ev_gA0, ev_gA, ev_noIo0, ev_noIo, ev_wipe0, ev_wipe, ev_compL0, ev_compL, ev_forL0, ev_forL, at2_0, at2_1, ixN2_0, ixN2_1, fnSem, List.length_cons, List.length_nil, List.replicate, List.append_eq, List.cons_append, List.nil_append, List.getElem?_cons_zero, List.getElem?_cons_succ, List.set_cons_zero, List.set_cons_succ, List.take_succ_cons, List.take_zero, isIoAt, lstAt, setL, Nat.reduceAdd, Nat.reduceSub, Option.map_some, Option.bind_some, if_true, if_false, Bool.false_eq_true, ite_true, ite_false, reduceIte, Int.natCast_add, decide_eq_true_eq, decide_true, decide_false, Bool.not_true, Bool.not_false, Bool.not_eq_true, and_self, and_true, true_and, Nat.reduceLeDiff, Nat.reduceLT, Bool.and_true, Bool.true_and, Bool.and_false, Bool.false_and, e1, mSM, e2, e3, e4, tupleD_l]
      rfl
    | false =>
      have e2 : startsF p (.str "!") = some (.bool false) := by show some (PyData.bool _) = _; rw [h2]
      rw [if_neg Bool.false_ne_true]
      cases h3 : Txt.startswith p "=" with
      | true =>
        have e3 : startsF p (.str "=") = some (.bool true) := by show some (PyData.bool _) = _; rw [h3]
        have e4 := sl_behind h
        have e5 : findF "0123456789" (.str (behind p)) = some (.int (Txt.find "0123456789" (behind p))) := rfl
        simp only [ev_seq, ev_seq_nx, ev_seq_rt, ev_seq_ex, ev_seq_bk, ev_seq_ct, ev_seq_st, ev_seq_ite, ev_next, ev_ifs, ev_ites, ev_ites_ex, ev_ret, ev_drop, ev_out, ev_out_ex, ev_outA, ev_c, ev_set, ev_own, ev_bind, ev_bind_ex, ev_bindA, ev_op, ev_un, ev_call, ev_ofO, ev_nil, ev_cons, ev_consok, ev_push, ev_tup, ev_lst, ev_not, ev_notb, ev_and, ev_or, ev_if, ev_ite, ev_chain, ev_var, ev_ixO, ev_setIx, ev_augIx, ev_opOL, ev_callO, ev_ref, ev_mut, ev_callF, ev_callN, ev_back, ev_backX, ev_backN, ev_mk0, ev_mkv, ev_mkr, ev_wb0, ev_wbv, ev_wbr, ev_iter, ev_iterA, ev_comp, ev_for, ev_sl, ev_part0, ev_part1, ev_mpart, ev_asg, ev_par, ev_listOf, ev_binL, ev_gN, ev_gT, ev_gA0, ev_gA, ev_noIo0, ev_noIo, ev_wipe0, ev_wipe, ev_compL0, ev_compL, ev_forL0, ev_forL, at2_0, at2_1, ixN2_0, ixN2_1, fnSem, List.length_cons, List.length_nil, List.replicate, List.append_eq, List.cons_append, List.nil_append, List.getElem?_cons_zero, List.getElem?_cons_succ, List.set_cons_zero, List.set_cons_succ, List.take_succ_cons, List.take_zero, isIoAt, lstAt, setL, Nat.reduceAdd, Nat.reduceSub, Option.map_some, Option.bind_some, if_true, if_false, Bool.false_eq_true, ite_true, ite_false, reduceIte, Int.natCast_add, decide_eq_true_eq, decide_true, decide_false, Bool.not_true, Bool.not_false, Bool.not_eq_true, and_self, and_true, true_and, Nat.reduceLeDiff, Nat.reduceLT, Bool.and_true, Bool.true_and, Bool.and_false, Bool.false_and, e1, mSM, e2, e3, e4, e5]
        rfl
      | false =>
        have e3 : startsF p (.str "=") = some (.bool false) := by show some (PyData.bool _) = _; rw [h3]
        rw [if_neg Bool.false_ne_true]
        simp only [ev_seq, ev_seq_nx, ev_seq_rt, ev_seq_ex, ev_seq_bk, ev_seq_ct, ev_seq_st, ev_seq_ite, ev_next, ev_ifs, ev_ites, ev_ites_ex, ev_ret, ev_drop, ev_out, ev_out_ex, ev_outA, ev_c, ev_set, ev_own, ev_bind, ev_bind_ex, ev_bindA, ev_op, ev_un, ev_call, ev_ofO, ev_nil, ev_cons, ev_consok, ev_push, ev_tup, ev_lst, ev_not, ev_notb, ev_and, ev_or, ev_if, ev_ite, ev_chain, ev_var, ev_ixO, ev_setIx, ev_augIx, ev_opOL, ev_callO, ev_ref, ev_mut, ev_callF, ev_callN, ev_back, ev_backX, ev_backN, ev_mk0, ev_mkv, ev_mkr, ev_wb0, ev_wbv, ev_wbr, ev_iter, ev_iterA, ev_comp, ev_for, ev_sl, ev_part0, ev_part1, ev_mpart, ev_asg, ev_par, ev_listOf, ev_binL, ev_gN, ev_gT, ev_gA0, ev_gA, ev_noIo0, ev_noIo, ev_wipe0, ev_wipe, ev_compL0, ev_compL, ev_forL0, ev_forL, at2_0, at2_1, ixN2_0, ixN2_1, fnSem, List.length_cons, List.length_nil, List.replicate, List.append_eq, List.cons_append, List.nil_append, List.getElem?_cons_zero, List.getElem?_cons_succ, List.set_cons_zero, List.set_cons_succ, List.take_succ_cons, List.take_zero, isIoAt, lstAt, setL, Nat.reduceAdd, Nat.reduceSub, Option.map_some, Option.bind_some, if_true, if_false, Bool.false_eq_true, ite_true, ite_false, reduceIte, Int.natCast_add, decide_eq_true_eq, decide_true, decide_false, Bool.not_true, Bool.not_false, Bool.not_eq_true, and_self, and_true, true_and, Nat.reduceLeDiff, Nat.reduceLT, Bool.and_true, Bool.true_and, Bool.and_false, Bool.false_and, e1, mSM, e2, e3]
        rfl
theorem item_of_ok (p : Str) (h : p.length ≤ 10000) : F_item_of [.val (.str p)] = .ok (itemOf p).enc [.val (.str p)] := by
  unfold F_item_of m_item_of itemOf
  by_cases h1 : p = ".."
  · rw [if_pos h1]
    have e1 : eqD (.str p) (.str "..") = some (.bool true) := by rw [eqD_str, decide_eq_true h1]
    simp only [ev_seq, ev_seq_nx, ev_seq_rt, ev_seq_ex, ev_seq_bk, ev_seq_ct, ev_seq_st, ev_seq_ite, ev_next, ev_ifs, ev_ites, ev_ites_ex, ev_ret, ev_drop, ev_out, ev_out_ex, ev_outA, ev_c, ev_set, ev_own, ev_bind, ev_bind_ex, ev_bindA, ev_op, ev_un, ev_call, ev_ofO, ev_nil, ev_cons, ev_consok, ev_push, ev_tup, ev_lst, ev_not, ev_notb, ev_and, ev_or, ev_if, ev_ite, ev_chain, ev_var, ev_ixO, ev_setIx, ev_augIx, ev_opOL, ev_callO, ev_ref, ev_mut, ev_callF, ev_callN, ev_back, ev_backX, ev_backN, ev_mk0, ev_mkv, ev_mkr, ev_wb0, ev_wbv, ev_wbr, ev_iter, ev_iterA, ev_comp, ev_for, ev_sl, ev_part0, ev_part1, ev_mpart, ev_asg, ev_par, ev_listOf, ev_binL, ev_gN, ev_gT, ev_gA0, ev_gA, ev_noIo0, ev_noIo, ev_wipe0, ev_wipe, ev_compL0, ev_compL, ev_forL0, ev_forL, at2_0, at2_1, ixN2_0, ixN2_1, fnSem, List.length_cons, List.length_nil, List.replicate, List.append_eq, List.cons_append, List.nil_append, List.getElem?_cons_zero, List.getElem?_cons_succ, List.set_cons_zero, List.set_cons_succ, List.take_succ_cons, List.take_zero, isIoAt, lstAt, setL, Nat.reduceAdd, Nat.reduceSub, Option.map_some, Option.bind_some, if_true, if_false, Bool.false_eq_true, ite_true, ite_false, reduceIte, Int.natCast_add, decide_eq_true_eq, decide_true, decide_false, Bool.not_true, Bool.not_false, Bool.not_eq_true, and_self, and_true, true_and, Nat.reduceLeDiff, Nat.reduceLT, Bool.and_true, Bool.true_and, Bool.and_false, Bool.false_and, e1]
    rfl
  · rw [if_neg h1]
    have e1 : eqD (.str p) (.str "..") = some (.bool false) := by rw [eqD_str, decide_eq_false h1]
    cases h3 : Txt.startswith p "$" with
    | true =>
      have e3 : startsF p (.str "$") = some (.bool true) := by show some (PyData.bool _) = _; rw [h3]
      have e4 := sl_behind h
      have e5 : findF "0123456789" (.str (behind p)) = some (.int (Txt.find "0123456789" (behind p))) := rfl
      simp only [ev_seq, ev_seq_nx, ev_seq_rt, ev_seq_ex, ev_seq_bk, ev_seq_ct, ev_seq_st, ev_seq_ite, ev_next, ev_ifs, ev_ites, ev_ites_ex, ev_ret, ev_drop, ev_out, ev_out_ex, ev_outA, ev_c, ev_set, ev_own, ev_bind, ev_bind_ex, ev_bindA, ev_op, ev_un, ev_call, ev_ofO, ev_nil, ev_cons, ev_consok, ev_push, ev_tup, ev_lst, ev_not, ev_notb, ev_and, ev_or, ev_if, ev_ite, ev_chain, ev_var, ev_ixO, ev_setIx, ev_augIx, ev_opOL, ev_callO, ev_ref, ev_mut, ev_callF, ev_callN, ev_back, ev_backX, ev_backN, ev_mk0, ev_mkv, ev_mkr, ev_wb0, ev_wbv, ev_wbr, ev_iter, ev_iterA, ev_comp, ev_for, ev_sl, ev_part0, ev_part1, ev_mpart, ev_asg, ev_par, ev_listOf, ev_binL, ev_gN, ev_gT, ev_gA0, ev_gA, ev_noIo0, ev_noIo, ev_wipe0, ev_wipe, ev_compL0, ev_compL, ev_forL0, ev_forL, at2_0, at2_1, ixN2_0, ixN2_1, fnSem, List.length_cons, List.length_nil, List.replicate, List.append_eq, List.cons_append, List.nil_append, List.getElem?_cons_zero, List.getElem?_cons_succ, List.set_cons_zero, List.set_cons_succ, List.take_succ_cons, List.take_zero, isIoAt, lstAt, setL, Nat.reduceAdd, Nat.reduceSub, Option.map_some, Option.bind_some, if_true, if_false, Bool.false_eq_true, ite_true, ite_false, reduceIte, Int.natCast_add, decide_eq_true_eq, decide_true, decide_false, Bool.not_true, Bool.not_false, Bool.not_eq_true, and_self, and_true, true_and, Nat.reduceLeDiff, Nat.reduceLT, Bool.and_true, Bool.true_and, Bool.and_false, Bool.false_and, e1, mSM, e3, e4, e5]
      rfl
    | false =>
      have e3 : startsF p (.str "$") = some (.bool false) := by show some (PyData.bool _) = _; rw [h3]
      rw [if_neg Bool.false_ne_true]
      simp only [ev_seq, ev_seq_nx, ev_seq_rt, ev_seq_ex, ev_seq_bk, ev_seq_ct, ev_seq_st, ev_seq_ite, ev_next, ev_ifs, ev_ites, ev_ites_ex, ev_ret, ev_drop, ev_out, ev_out_ex, ev_outA, ev_c, ev_set, ev_own, ev_bind, ev_bind_ex, ev_bindA, ev_op, ev_un, ev_call, ev_ofO, ev_nil, ev_cons, ev_consok, ev_push, ev_tup, ev_lst, ev_not, ev_notb, ev_and, ev_or, ev_if, ev_ite, ev_chain, ev_var, ev_ixO, ev_setIx, ev_augIx, ev_opOL, ev_callO, ev_ref, ev_mut, ev_callF, ev_callN, ev_back, ev_backX, ev_backN, ev_mk0, ev_mkv, ev_mkr, ev_wb0, ev_wbv, ev_wbr, ev_iter, ev_iterA, ev_comp, ev_for, ev_sl, ev_part0, ev_part1, ev_mpart, ev_asg, ev_par, ev_listOf, ev_binL, ev_gN, ev_gT, ev_gA0, ev_gA, ev_noIo0, ev_noIo, ev_wipe0, ev_wipe, ev_compL0, ev_compL, ev_forL0, ev_forL, at2_0, at2_1, ixN2_0, ixN2_1, fnSem, List.length_cons, List.length_nil, List.replicate, List.append_eq, List.cons_append, List.nil_append, List.getElem?_cons_zero, List.getElem?_cons_succ, List.set_cons_zero, List.set_cons_succ, List.take_succ_cons, List.take_zero, isIoAt, lstAt, setL, Nat.reduceAdd, Nat.reduceSub, Option.map_some, Option.bind_some, if_true, if_false, Bool.false_eq_true, ite_true, ite_false, reduceIte, Int.natCast_add, decide_eq_true_eq, decide_true, decide_false, Bool.not_true, Bool.not_false, Bool.not_eq_true, and_self, and_true, true_and, Nat.reduceLeDiff, Nat.reduceLT, Bool.and_true, Bool.true_and, Bool.and_false, Bool.false_and, e1, mSM, e3]
      rfl
theorem plain_strs (ys : List Str) : PyData.plainAll (ys.map PyData.str) = true := plainA_str id ys
theorem in_lstS (x : Str) (ys : List Str) : inD (.str x) (.list (ys.map .str)) = some (.bool (decide (x ∈ ys))) := by
  have h := in_tupS x ys
  unfold inD at h ⊢
  have e1 : inOk (.str x) (.list (ys.map .str)) = true := by
    unfold inOk
    have hp := plain_strs ys
    have hd := depthA_str id ys
    simp only [id] at hd
    have e : (ys.map fun x => PyData.str x) = ys.map PyData.str := rfl
    rw [e] at hd
    simp only [PyData.plain, PyData.depth, hp, hd, Bool.true_and]
    rfl
  rw [if_pos e1]
  split at h
  · exact h
  · cases h
theorem place_strs (x : Str) : ∀ ys : List Str, SeqAt.dataPlace (ys.map PyData.str) (.str x) = ys.findIdx? fun y => decide (y = x) := by
  intro ys
  unfold SeqAt.dataPlace
  rw [List.findIdx?_map]
  congr 1
theorem look_strs (x : Str) (ys : List Str) (h : ys.length ≤ 10000) : lookOk (ys.map PyData.str) (.str x) = true := by
  unfold lookOk
  have hp := plain_strs ys
  have hd := depthA_str id ys
  simp only [id] at hd
  have e : (ys.map fun x => PyData.str x) = ys.map PyData.str := rfl
  rw [e] at hd
  rw [hp, hd, List.length_map]
  simp only [PyData.plain, PyData.depth, Bool.true_and, Nat.min_self, decide_eq_true h, Bool.and_true]
  try rfl
theorem placeOf_ev {ys : List Str} (h : ys.length ≤ 10000) (hm : (".." : Str) ∈ ys) : idxF (ys.map .str) [.str ".."] = some (.int (placeOf ys : Nat)) := by
  show (if lookOk (ys.map PyData.str) (.str "..") = true then (SeqAt.dataPlace (ys.map PyData.str) (.str "..")).map (fun j => PyData.int (j : Nat)) else none) = _
  rw [if_pos (look_strs ".." ys h), place_strs]
  unfold placeOf
  rw [if_pos hm]
  have hs : (ys.findIdx? fun y : Str => decide (y = "..")).isSome = true := by
    rw [List.findIdx?_isSome]
    exact List.any_eq_true.mpr ⟨_, hm, by simp⟩
  cases hf : ys.findIdx? (fun y : Str => decide (y = "..")) with
  | none => rw [hf] at hs; cases hs
  | some j => rfl
theorem rule_of_ok (t : Str) (h : t.length ≤ 4000) : F_rule_of [.val (.str t)] = .ok (ruleOf t).enc [.val (.str t)] := by
  obtain ⟨q1, q2⟩ := part_bd t " > " arrow_ok.1
  obtain ⟨b1, b2⟩ := split_bd (Txt.partition t " > ").1 " " blank_ok.1 blank_ok.2.1
  obtain ⟨b3, b4⟩ := split_bd (Txt.partition t " > ").2.2 " " blank_ok.1 blank_ok.2.1
  have e1 : partF t (.str " > ") = some (.tuple [.str (Txt.partition t " > ").1, .str (Txt.partition t " > ").2.1, .str (Txt.partition t " > ").2.2]) := by
    show (if _ then _ else _) = _
    rw [if_pos ⟨arrow_ok.2, by omega⟩]
  unfold ruleOf RR.enc
  generalize hA : (Txt.partition t " > ").1 = A at *
  generalize hB : (Txt.partition t " > ").2.1 = B at *
  generalize hC : (Txt.partition t " > ").2.2 = C at *
  have e2 := split_ev (x := A) (y := " ") (by omega) blank_ok.2.2
  have e3 := split_ev (x := C) (y := " ") (by omega) blank_ok.2.2
  generalize hP : Txt.split A " " = ps at *
  generalize hM : Txt.split C " " = ms at *
  have e4 := in_lstS ".." ps
  have e5 : lenTD [.list (ps.map PyData.str)] = some (.int ps.length) := by show some (PyData.int _) = _; rw [List.length_map]
  have sT : ∀ k : Nat, slD (.list (ps.map PyData.str)) none (some (k:Int)) = some (.list ((ps.take k).map .str)) := fun k => by
    show some (PyData.list _) = _
    rw [cut_take, List.map_take]
  have sD : ∀ k : Nat, slD (.list (ps.map PyData.str)) (some ((k:Int) + 1)) none = some (.list ((ps.drop (k + 1)).map .str)) := fun k => by
    have : (k:Int) + 1 = ((k + 1 : Nat) : Int) := by omega
    rw [this]
    show some (PyData.list _) = _
    rw [cut_drop, List.map_drop]
  have sq : ∀ xs : List Dt, seqD (.list xs) = some xs := fun _ => rfl
  have cT : ∀ (qs : List Str) (s5 s6 s7 s8 : Sl), (∀ p ∈ qs, p ∈ ps) → qs.length ≤ ps.length → compL [9] (gN 9) (mC (.bool true)) (mCallN F_test_of [none] (mCons (mVar 9) mNil)) (qs.map .str) [.val (.str t), .val (.str A), .val (.str B), .val (.str C), .val (.list (ps.map .str)), s5, s6, s7, s8, .no] [] = .ok (qs.map fun p => (testOf p).enc) [.val (.str t), .val (.str A), .val (.str B), .val (.str C), .val (.list (ps.map .str)), s5, s6, s7, s8, .no] := fun qs s5 s6 s7 s8 hq hl => compL_mapA PyData.str (fun p => (testOf p).enc) qs (by omega) (by
    intro p hp
    refine ⟨_, [.val (.str t), .val (.str A), .val (.str B), .val (.str C), .val (.list (ps.map .str)), s5, s6, s7, s8, .val (.str p)], rfl, ?_, rfl, rfl⟩
    have := test_of_ok p (by have := b2 p (hq p hp); omega)
    simp only [ev_seq, ev_seq_nx, ev_seq_rt, ev_seq_ex, ev_seq_bk, ev_seq_ct, ev_seq_st, ev_seq_ite, ev_next, ev_ifs, ev_ites, ev_ites_ex, ev_ret, ev_drop, ev_out, ev_out_ex, ev_outA, ev_c, ev_set, ev_own, ev_bind, ev_bind_ex, ev_bindA, ev_op, ev_un, ev_call, ev_ofO, ev_nil, ev_cons, ev_consok, ev_push, ev_tup, ev_lst, ev_not, ev_notb, ev_and, ev_or, ev_if, ev_ite, ev_chain, ev_var, ev_ixO, ev_setIx, ev_augIx, ev_opOL, ev_callO, ev_ref, ev_mut, ev_callF, ev_callN, ev_back, ev_backX, ev_backN, ev_mk0, ev_mkv, ev_mkr, ev_wb0, ev_wbv, ev_wbr, ev_iter, ev_iterA, ev_comp, ev_for, ev_sl, ev_part0, ev_part1, ev_mpart, ev_asg, ev_par, ev_listOf, ev_binL, ev_gN, ev_gT, ev_gA0, ev_gA, ev_noIo0, ev_noIo, ev_wipe0, ev_wipe, ev_compL0, ev_compL, ev_forL0, ev_forL, at2_0, at2_1, ixN2_0, ixN2_1, fnSem, List.length_cons, List.length_nil, List.replicate, List.append_eq, List.cons_append, List.nil_append, List.getElem?_cons_zero, List.getElem?_cons_succ, List.set_cons_zero, List.set_cons_succ, List.take_succ_cons, List.take_zero, isIoAt, lstAt, setL, Nat.reduceAdd, Nat.reduceSub, Option.map_some, Option.bind_some, if_true, if_false, Bool.false_eq_true, ite_true, ite_false, reduceIte, Int.natCast_add, decide_eq_true_eq, decide_true, decide_false, Bool.not_true, Bool.not_false, Bool.not_eq_true, and_self, and_true, true_and, Nat.reduceLeDiff, Nat.reduceLT, Bool.and_true, Bool.true_and, Bool.and_false, Bool.false_and, this])
  have cI : ∀ (s5 s6 s7 s8 : Sl), compL [9] (gN 9) (mC (.bool true)) (mCallN F_item_of [none] (mCons (mVar 9) mNil)) (ms.map .str) [.val (.str t), .val (.str A), .val (.str B), .val (.str C), .val (.list (ps.map .str)), s5, s6, s7, s8, .no] [] = .ok (ms.map fun p => (itemOf p).enc) [.val (.str t), .val (.str A), .val (.str B), .val (.str C), .val (.list (ps.map .str)), s5, s6, s7, s8, .no] := fun s5 s6 s7 s8 => compL_mapA PyData.str (fun p => (itemOf p).enc) ms (by omega) (by
    intro p hp
    refine ⟨_, [.val (.str t), .val (.str A), .val (.str B), .val (.str C), .val (.list (ps.map .str)), s5, s6, s7, s8, .val (.str p)], rfl, ?_, rfl, rfl⟩
    have := item_of_ok p (by have := b4 p hp; omega)
    simp only [ev_seq, ev_seq_nx, ev_seq_rt, ev_seq_ex, ev_seq_bk, ev_seq_ct, ev_seq_st, ev_seq_ite, ev_next, ev_ifs, ev_ites, ev_ites_ex, ev_ret, ev_drop, ev_out, ev_out_ex, ev_outA, ev_c, ev_set, ev_own, ev_bind, ev_bind_ex, ev_bindA, ev_op, ev_un, ev_call, ev_ofO, ev_nil, ev_cons, ev_consok, ev_push, ev_tup, ev_lst, ev_not, ev_notb, ev_and, ev_or, ev_if, ev_ite, ev_chain, ev_var, ev_ixO, ev_setIx, ev_augIx, ev_opOL, ev_callO, ev_ref, ev_mut, ev_callF, ev_callN, ev_back, ev_backX, ev_backN, ev_mk0, ev_mkv, ev_mkr, ev_wb0, ev_wbv, ev_wbr, ev_iter, ev_iterA, ev_comp, ev_for, ev_sl, ev_part0, ev_part1, ev_mpart, ev_asg, ev_par, ev_listOf, ev_binL, ev_gN, ev_gT, ev_gA0, ev_gA, ev_noIo0, ev_noIo, ev_wipe0, ev_wipe, ev_compL0, ev_compL, ev_forL0, ev_forL, at2_0, at2_1, ixN2_0, ixN2_1, fnSem, List.length_cons, List.length_nil, List.replicate, List.append_eq, List.cons_append, List.nil_append, List.getElem?_cons_zero, List.getElem?_cons_succ, List.set_cons_zero, List.set_cons_succ, List.take_succ_cons, List.take_zero, isIoAt, lstAt, setL, Nat.reduceAdd, Nat.reduceSub, Option.map_some, Option.bind_some, if_true, if_false, Bool.false_eq_true, ite_true, ite_false, reduceIte, Int.natCast_add, decide_eq_true_eq, decide_true, decide_false, Bool.not_true, Bool.not_false, Bool.not_eq_true, and_self, and_true, true_and, Nat.reduceLeDiff, Nat.reduceLT, Bool.and_true, Bool.true_and, Bool.and_false, Bool.false_and, this])
  have m1 : ∀ qs : List Str, (qs.map testOf).map RT.enc = qs.map fun p => (testOf p).enc := fun qs => by rw [List.map_map]; rfl
  have m2 : (ms.map itemOf).map RI.enc = ms.map fun p => (itemOf p).enc := by rw [List.map_map]; rfl
  have c1 := fun s5 s6 s7 s8 => cT (ps.take (placeOf ps)) s5 s6 s7 s8 (fun p hp => List.mem_of_mem_take hp) (by rw [List.length_take]; omega)
  have c2 := fun s5 s6 s7 s8 => cT (ps.drop (placeOf ps + 1)) s5 s6 s7 s8 (fun p hp => List.mem_of_mem_drop hp) (by rw [List.length_drop]; omega)
  have sT' := sT (placeOf ps)
  have sD' := sD (placeOf ps)
  simp only [m1, m2]
  unfold F_rule_of m_rule_of
  by_cases hm : (".." : Str) ∈ ps
  · have e6 := placeOf_ev (by omega) hm
    rw [decide_eq_true hm] at e4 ⊢
    simp only [ev_seq, ev_seq_nx, ev_seq_rt, ev_seq_ex, ev_seq_bk, ev_seq_ct, ev_seq_st, ev_seq_ite, ev_next, ev_ifs, ev_ites, ev_ites_ex, ev_ret, ev_drop, ev_out, ev_out_ex, ev_outA, ev_c, ev_set, ev_own, ev_bind, ev_bind_ex, ev_bindA, ev_op, ev_un, ev_call, ev_ofO, ev_nil, ev_cons, ev_consok, ev_push, ev_tup, ev_lst, ev_not, ev_notb, ev_and, ev_or, ev_if, ev_ite, ev_chain, ev_var, ev_ixO, ev_setIx, ev_augIx, ev_opOL, ev_callO, ev_ref, ev_mut, ev_callF, ev_callN, ev_back, ev_backX, ev_backN, ev_mk0, ev_mkv, ev_mkr, ev_wb0, ev_wbv, ev_wbr, ev_iter, ev_iterA, ev_comp, ev_for, ev_sl, ev_part0, ev_part1, ev_mpart, ev_asg, ev_par, ev_listOf, ev_binL, ev_gN, ev_gT, ev_gA0, ev_gA, ev_noIo0, ev_noIo, ev_wipe0, ev_wipe, ev_compL0, ev_compL, ev_forL0, ev_forL, at2_0, at2_1, ixN2_0, ixN2_1, fnSem, List.length_cons, List.length_nil, List.replicate, List.append_eq, List.cons_append, List.nil_append, List.getElem?_cons_zero, List.getElem?_cons_succ, List.set_cons_zero, List.set_cons_succ, List.take_succ_cons, List.take_zero, isIoAt, lstAt, setL, Nat.reduceAdd, Nat.reduceSub, Option.map_some, Option.bind_some, if_true, if_false, Bool.false_eq_true, ite_true, ite_false, reduceIte, Int.natCast_add, decide_eq_true_eq, decide_true, decide_false, Bool.not_true, Bool.not_false, Bool.not_eq_true, and_self, and_true, true_and, Nat.reduceLeDiff, Nat.reduceLT, Bool.and_true, Bool.true_and, Bool.and_false, Bool.false_and, mSM, e1, e2, e4, mDM, e6, sT', sq, c1, tupleD_l, addD_i, sD', c2, e3, cI]
  · have e6 : (ps.length : Int) = (placeOf ps : Nat) := by unfold placeOf; rw [if_neg hm]
    rw [e6] at e5
    rw [decide_eq_false hm] at e4 ⊢
    simp only [ev_seq, ev_seq_nx, ev_seq_rt, ev_seq_ex, ev_seq_bk, ev_seq_ct, ev_seq_st, ev_seq_ite, ev_next, ev_ifs, ev_ites, ev_ites_ex, ev_ret, ev_drop, ev_out, ev_out_ex, ev_outA, ev_c, ev_set, ev_own, ev_bind, ev_bind_ex, ev_bindA, ev_op, ev_un, ev_call, ev_ofO, ev_nil, ev_cons, ev_consok, ev_push, ev_tup, ev_lst, ev_not, ev_notb, ev_and, ev_or, ev_if, ev_ite, ev_chain, ev_var, ev_ixO, ev_setIx, ev_augIx, ev_opOL, ev_callO, ev_ref, ev_mut, ev_callF, ev_callN, ev_back, ev_backX, ev_backN, ev_mk0, ev_mkv, ev_mkr, ev_wb0, ev_wbv, ev_wbr, ev_iter, ev_iterA, ev_comp, ev_for, ev_sl, ev_part0, ev_part1, ev_mpart, ev_asg, ev_par, ev_listOf, ev_binL, ev_gN, ev_gT, ev_gA0, ev_gA, ev_noIo0, ev_noIo, ev_wipe0, ev_wipe, ev_compL0, ev_compL, ev_forL0, ev_forL, at2_0, at2_1, ixN2_0, ixN2_1, fnSem, List.length_cons, List.length_nil, List.replicate, List.append_eq, List.cons_append, List.nil_append, List.getElem?_cons_zero, List.getElem?_cons_succ, List.set_cons_zero, List.set_cons_succ, List.take_succ_cons, List.take_zero, isIoAt, lstAt, setL, Nat.reduceAdd, Nat.reduceSub, Option.map_some, Option.bind_some, if_true, if_false, Bool.false_eq_true, ite_true, ite_false, reduceIte, Int.natCast_add, decide_eq_true_eq, decide_true, decide_false, Bool.not_true, Bool.not_false, Bool.not_eq_true, and_self, and_true, true_and, Nat.reduceLeDiff, Nat.reduceLT, Bool.and_true, Bool.true_and, Bool.and_false, Bool.false_and, mSM, e1, e2, e4, mDM, e5, sT', sq, c1, tupleD_l, addD_i, sD', c2, e3, cI]
end NS

set_option Elab.async false
set_option linter.all false
set_option autoImplicit false
set_option maxRecDepth 100000
set_option maxHeartbeats 1000000
/-! reading: what comes of it; what was written is read back. -/
namespace NS
open PySem PySem.Spec PyProof.Rows L2
open TL (tl spl)
theorem testOf_sm {p : Str} (h : p.length ≤ 4000) : (testOf p).sm := by
  unfold testOf
  split
  · trivial
  · split
    · obtain ⟨b1, b2⟩ := split_bd (behind p) "," comma_ok.1 comma_ok.2.1
      have hb := behind_len p
      exact ⟨by omega, fun w hw => by have := b2 w hw; omega⟩
    · split
      · trivial
      · show p.length ≤ 10000
        omega
theorem itemOf_sm {p : Str} (h : p.length ≤ 4000) : (itemOf p).sm := by
  unfold itemOf
  split
  · trivial
  · split
    · trivial
    · show p.length ≤ 10000
      omega
theorem ruleOf_sm {t : Str} (h : t.length ≤ 4000) : (ruleOf t).sm := by
  obtain ⟨q1, q2⟩ := part_bd t " > " arrow_ok.1
  obtain ⟨b1, b2⟩ := split_bd (Txt.partition t " > ").1 " " blank_ok.1 blank_ok.2.1
  obtain ⟨b3, b4⟩ := split_bd (Txt.partition t " > ").2.2 " " blank_ok.1 blank_ok.2.1
  unfold ruleOf
  refine ⟨fun u hu => ?_, fun u hu => ?_, ?_, ?_⟩
  · rcases List.mem_append.mp hu with hu | hu
    · obtain ⟨p, hp, rfl⟩ := List.mem_map.mp hu
      exact testOf_sm (by have := b2 p (List.mem_of_mem_take hp); omega)
    · obtain ⟨p, hp, rfl⟩ := List.mem_map.mp hu
      exact testOf_sm (by have := b2 p (List.mem_of_mem_drop hp); omega)
  · obtain ⟨p, hp, rfl⟩ := List.mem_map.mp hu
    exact itemOf_sm (by have := b4 p hp; omega)
  · simp only [List.length_map, List.length_take, List.length_drop]
    omega
  · simp only [List.length_map]
    omega
theorem read_rule_yes {t : Str} (h : t.length ≤ 4000) (h1 : (ruleOf t).okM = true) (h2 : writtenM (ruleOf t) = t) : F_read_rule [.val (.str t)] = .ok (ruleOf t).enc [.val (.str t)] := by
  have e1 := rule_of_ok t h
  have e2 := rule_eval (ruleOf t) (ruleOf_sm h)
  rw [h1] at e2
  have e3 := written_ok (ruleOf t) (RR.okM_fine h1)
  rw [h2] at e3
  have e4 : neD (.str t) (.str t) = some (.bool false) := by rw [neD_str]; simp
  unfold F_read_rule m_read_rule
  simp only [ev_seq, ev_seq_nx, ev_seq_rt, ev_seq_ex, ev_seq_bk, ev_seq_ct, ev_seq_st, ev_seq_ite, ev_next, ev_ifs, ev_ites, ev_ites_ex, ev_ret, ev_drop, ev_out, ev_out_ex, ev_outA, ev_c, ev_set, ev_own, ev_bind, ev_bind_ex, ev_bindA, ev_op, ev_un, ev_call, ev_ofO, ev_nil, ev_cons, ev_consok, ev_push, ev_tup, ev_lst, ev_not, ev_notb, ev_and, ev_or, ev_if, ev_ite, ev_chain, ev_var, ev_ixO, ev_setIx, ev_augIx, ev_opOL, ev_callO, ev_ref, ev_mut, ev_callF, ev_callN, ev_back, ev_backX, ev_backN, ev_mk0, ev_mkv, ev_mkr, ev_wb0, ev_wbv, ev_wbr, ev_iter, ev_iterA, ev_comp, ev_for, ev_sl, ev_part0, ev_part1, ev_mpart, ev_asg, ev_par, ev_listOf, ev_binL, ev_gN, ev_gT, ev_gA0, ev_gA, ev_noIo0, ev_noIo, ev_wipe0, ev_wipe, ev_compL0, ev_compL, ev_forL0, ev_forL, at2_0, at2_1, ixN2_0, ixN2_1, fnSem, List.length_cons, List.length_nil, List.replicate, List.append_eq, List.cons_append, List.nil_append, List.getElem?_cons_zero, List.getElem?_cons_succ, List.set_cons_zero, List.set_cons_succ, List.take_succ_cons, List.take_zero, isIoAt, lstAt, setL, Nat.reduceAdd, Nat.reduceSub, Option.map_some, Option.bind_some, if_true, if_false, Bool.false_eq_true, ite_true, ite_false, reduceIte, Int.natCast_add, decide_eq_true_eq, decide_true, decide_false, Bool.not_true, Bool.not_false, Bool.not_eq_true, and_self, and_true, true_and, Nat.reduceLeDiff, Nat.reduceLT, Bool.and_true, Bool.true_and, Bool.and_false, Bool.false_and, isi_s, e1, e2, e3, e4]
theorem read_rule_no {t : Str} (h : t.length ≤ 4000) (h1 : ¬ ((ruleOf t).okM = true ∧ writtenM (ruleOf t) = t)) : F_read_rule [.val (.str t)] = .exc ⟨"NoText", none⟩ [.val (.str t)] := by
  have e1 := rule_of_ok t h
  have e2 := rule_eval (ruleOf t) (ruleOf_sm h)
  unfold F_read_rule m_read_rule
  cases ho : (ruleOf t).okM with
  | false =>
    rw [ho] at e2
    simp only [ev_seq, ev_seq_nx, ev_seq_rt, ev_seq_ex, ev_seq_bk, ev_seq_ct, ev_seq_st, ev_seq_ite, ev_next, ev_ifs, ev_ites, ev_ites_ex, ev_ret, ev_drop, ev_out, ev_out_ex, ev_outA, ev_c, ev_set, ev_own, ev_bind, ev_bind_ex, ev_bindA, ev_op, ev_un, ev_call, ev_ofO, ev_nil, ev_cons, ev_consok, ev_push, ev_tup, ev_lst, ev_not, ev_notb, ev_and, ev_or, ev_if, ev_ite, ev_chain, ev_var, ev_ixO, ev_setIx, ev_augIx, ev_opOL, ev_callO, ev_ref, ev_mut, ev_callF, ev_callN, ev_back, ev_backX, ev_backN, ev_mk0, ev_mkv, ev_mkr, ev_wb0, ev_wbv, ev_wbr, ev_iter, ev_iterA, ev_comp, ev_for, ev_sl, ev_part0, ev_part1, ev_mpart, ev_asg, ev_par, ev_listOf, ev_binL, ev_gN, ev_gT, ev_gA0, ev_gA, ev_noIo0, ev_noIo, ev_wipe0, ev_wipe, ev_compL0, ev_compL, ev_forL0, ev_forL, at2_0, at2_1, ixN2_0, ixN2_1, fnSem, List.length_cons, List.length_nil, List.replicate, List.append_eq, List.cons_append, List.nil_append, List.getElem?_cons_zero, List.getElem?_cons_succ, List.set_cons_zero, List.set_cons_succ, List.take_succ_cons, List.take_zero, isIoAt, lstAt, setL, Nat.reduceAdd, Nat.reduceSub, Option.map_some, Option.bind_some, if_true, if_false, Bool.false_eq_true, ite_true, ite_false, reduceIte, Int.natCast_add, decide_eq_true_eq, decide_true, decide_false, Bool.not_true, Bool.not_false, Bool.not_eq_true, and_self, and_true, true_and, Nat.reduceLeDiff, Nat.reduceLT, Bool.and_true, Bool.true_and, Bool.and_false, Bool.false_and, isi_s, e1, e2]
  | true =>
    rw [ho] at e2
    have e3 := written_ok (ruleOf t) (RR.okM_fine ho)
    have hne : ¬ writtenM (ruleOf t) = t := fun e => h1 ⟨ho, e⟩
    have e4 : neD (.str (writtenM (ruleOf t))) (.str t) = some (.bool true) := by rw [neD_str]; simp [hne]
    simp only [ev_seq, ev_seq_nx, ev_seq_rt, ev_seq_ex, ev_seq_bk, ev_seq_ct, ev_seq_st, ev_seq_ite, ev_next, ev_ifs, ev_ites, ev_ites_ex, ev_ret, ev_drop, ev_out, ev_out_ex, ev_outA, ev_c, ev_set, ev_own, ev_bind, ev_bind_ex, ev_bindA, ev_op, ev_un, ev_call, ev_ofO, ev_nil, ev_cons, ev_consok, ev_push, ev_tup, ev_lst, ev_not, ev_notb, ev_and, ev_or, ev_if, ev_ite, ev_chain, ev_var, ev_ixO, ev_setIx, ev_augIx, ev_opOL, ev_callO, ev_ref, ev_mut, ev_callF, ev_callN, ev_back, ev_backX, ev_backN, ev_mk0, ev_mkv, ev_mkr, ev_wb0, ev_wbv, ev_wbr, ev_iter, ev_iterA, ev_comp, ev_for, ev_sl, ev_part0, ev_part1, ev_mpart, ev_asg, ev_par, ev_listOf, ev_binL, ev_gN, ev_gT, ev_gA0, ev_gA, ev_noIo0, ev_noIo, ev_wipe0, ev_wipe, ev_compL0, ev_compL, ev_forL0, ev_forL, at2_0, at2_1, ixN2_0, ixN2_1, fnSem, List.length_cons, List.length_nil, List.replicate, List.append_eq, List.cons_append, List.nil_append, List.getElem?_cons_zero, List.getElem?_cons_succ, List.set_cons_zero, List.set_cons_succ, List.take_succ_cons, List.take_zero, isIoAt, lstAt, setL, Nat.reduceAdd, Nat.reduceSub, Option.map_some, Option.bind_some, if_true, if_false, Bool.false_eq_true, ite_true, ite_false, reduceIte, Int.natCast_add, decide_eq_true_eq, decide_true, decide_false, Bool.not_true, Bool.not_false, Bool.not_eq_true, and_self, and_true, true_and, Nat.reduceLeDiff, Nat.reduceLT, Bool.and_true, Bool.true_and, Bool.and_false, Bool.false_and, isi_s, e1, e2, e3, e4]
/-- scripts -/
def scriptM (rs : List RR) : Str := Txt.join "" (rs.map fun r => writtenM r ++ "\n")
def tRR (rs : List RR) : Dt := .tuple (rs.map RR.enc)
def sokM (rs : List RR) : Bool := decide (rs.length ≤ 4) && rs.all RR.okM
theorem script_eval (rs : List RR) (hl : rs.length ≤ 5000) (h : ∀ r ∈ rs, r.sm) : F_is_script [.val (tRR rs)] = .ok (.bool (sokM rs)) [.val (tRR rs)] := by
  unfold F_is_script m_is_script tRR sokM
  by_cases hc : rs.length ≤ 4
  · have c1 : ¬ (4:Int) < rs.length := by omega
    have e1 := compL_mapA (vs := [1]) (g := gN 1) (mb := mCallN F_is_rule [none] (mCons (mVar 1) mNil)) (ρ := [.val (.tuple (rs.map RR.enc)), .no]) RR.enc (fun r => .bool r.okM) rs (by omega) (by
      intro r hr
      refine ⟨_, [.val (.tuple (rs.map RR.enc)), .val r.enc], rfl, ?_, rfl, rfl⟩
      have := rule_eval r (h r hr)
      simp only [ev_seq, ev_seq_nx, ev_seq_rt, ev_seq_ex, ev_seq_bk, ev_seq_ct, ev_seq_st, ev_seq_ite, ev_next, ev_ifs, ev_ites, ev_ites_ex, ev_ret, ev_drop, ev_out, ev_out_ex, ev_outA, ev_c, ev_set, ev_own, ev_bind, ev_bind_ex, ev_bindA, ev_op, ev_un, ev_call, ev_ofO, ev_nil, ev_cons, ev_consok, ev_push, ev_tup, ev_lst, ev_not, ev_notb, ev_and, ev_or, ev_if, ev_ite, ev_chain, ev_var, ev_ixO, ev_setIx, ev_augIx, ev_opOL, ev_callO, ev_ref, ev_mut, ev_callF, ev_callN, ev_back, ev_backX, ev_backN, ev_mk0, ev_mkv, ev_mkr, ev_wb0, ev_wbv, ev_wbr, ev_iter, ev_iterA, ev_comp, ev_for, ev_sl, ev_part0, ev_part1, ev_mpart, ev_asg, ev_par, ev_listOf, ev_binL, ev_gN, ev_gT, ev_gA0, ev_gA, ev_noIo0, ev_noIo, ev_wipe0, ev_wipe, ev_compL0, ev_compL, ev_forL0, ev_forL, at2_0, at2_1, ixN2_0, ixN2_1, fnSem, List.length_cons, List.length_nil, List.replicate, List.append_eq, List.cons_append, List.nil_append, List.getElem?_cons_zero, List.getElem?_cons_succ, List.set_cons_zero, List.set_cons_succ, List.take_succ_cons, List.take_zero, isIoAt, lstAt, setL, Nat.reduceAdd, Nat.reduceSub, Option.map_some, Option.bind_some, if_true, if_false, Bool.false_eq_true, ite_true, ite_false, reduceIte, Int.natCast_add, decide_eq_true_eq, decide_true, decide_false, Bool.not_true, Bool.not_false, Bool.not_eq_true, and_self, and_true, true_and, Nat.reduceLeDiff, Nat.reduceLT, Bool.and_true, Bool.true_and, Bool.and_false, Bool.false_and, this])
    have e2 := allD_map RR.okM rs
    rw [decide_eq_true hc, Bool.true_and]
    simp only [ev_seq, ev_seq_nx, ev_seq_rt, ev_seq_ex, ev_seq_bk, ev_seq_ct, ev_seq_st, ev_seq_ite, ev_next, ev_ifs, ev_ites, ev_ites_ex, ev_ret, ev_drop, ev_out, ev_out_ex, ev_outA, ev_c, ev_set, ev_own, ev_bind, ev_bind_ex, ev_bindA, ev_op, ev_un, ev_call, ev_ofO, ev_nil, ev_cons, ev_consok, ev_push, ev_tup, ev_lst, ev_not, ev_notb, ev_and, ev_or, ev_if, ev_ite, ev_chain, ev_var, ev_ixO, ev_setIx, ev_augIx, ev_opOL, ev_callO, ev_ref, ev_mut, ev_callF, ev_callN, ev_back, ev_backX, ev_backN, ev_mk0, ev_mkv, ev_mkr, ev_wb0, ev_wbv, ev_wbr, ev_iter, ev_iterA, ev_comp, ev_for, ev_sl, ev_part0, ev_part1, ev_mpart, ev_asg, ev_par, ev_listOf, ev_binL, ev_gN, ev_gT, ev_gA0, ev_gA, ev_noIo0, ev_noIo, ev_wipe0, ev_wipe, ev_compL0, ev_compL, ev_forL0, ev_forL, at2_0, at2_1, ixN2_0, ixN2_1, fnSem, List.length_cons, List.length_nil, List.replicate, List.append_eq, List.cons_append, List.nil_append, List.getElem?_cons_zero, List.getElem?_cons_succ, List.set_cons_zero, List.set_cons_succ, List.take_succ_cons, List.take_zero, isIoAt, lstAt, setL, Nat.reduceAdd, Nat.reduceSub, Option.map_some, Option.bind_some, if_true, if_false, Bool.false_eq_true, ite_true, ite_false, reduceIte, Int.natCast_add, decide_eq_true_eq, decide_true, decide_false, Bool.not_true, Bool.not_false, Bool.not_eq_true, and_self, and_true, true_and, Nat.reduceLeDiff, Nat.reduceLT, Bool.and_true, Bool.true_and, Bool.and_false, Bool.false_and, isi_t, len_t, List.length_map, gtD_i, c1, seqD_t, e1, e2]
  · have c1 : (4:Int) < rs.length := by omega
    rw [decide_eq_false hc, Bool.false_and]
    simp only [ev_seq, ev_seq_nx, ev_seq_rt, ev_seq_ex, ev_seq_bk, ev_seq_ct, ev_seq_st, ev_seq_ite, ev_next, ev_ifs, ev_ites, ev_ites_ex, ev_ret, ev_drop, ev_out, ev_out_ex, ev_outA, ev_c, ev_set, ev_own, ev_bind, ev_bind_ex, ev_bindA, ev_op, ev_un, ev_call, ev_ofO, ev_nil, ev_cons, ev_consok, ev_push, ev_tup, ev_lst, ev_not, ev_notb, ev_and, ev_or, ev_if, ev_ite, ev_chain, ev_var, ev_ixO, ev_setIx, ev_augIx, ev_opOL, ev_callO, ev_ref, ev_mut, ev_callF, ev_callN, ev_back, ev_backX, ev_backN, ev_mk0, ev_mkv, ev_mkr, ev_wb0, ev_wbv, ev_wbr, ev_iter, ev_iterA, ev_comp, ev_for, ev_sl, ev_part0, ev_part1, ev_mpart, ev_asg, ev_par, ev_listOf, ev_binL, ev_gN, ev_gT, ev_gA0, ev_gA, ev_noIo0, ev_noIo, ev_wipe0, ev_wipe, ev_compL0, ev_compL, ev_forL0, ev_forL, at2_0, at2_1, ixN2_0, ixN2_1, fnSem, List.length_cons, List.length_nil, List.replicate, List.append_eq, List.cons_append, List.nil_append, List.getElem?_cons_zero, List.getElem?_cons_succ, List.set_cons_zero, List.set_cons_succ, List.take_succ_cons, List.take_zero, isIoAt, lstAt, setL, Nat.reduceAdd, Nat.reduceSub, Option.map_some, Option.bind_some, if_true, if_false, Bool.false_eq_true, ite_true, ite_false, reduceIte, Int.natCast_add, decide_eq_true_eq, decide_true, decide_false, Bool.not_true, Bool.not_false, Bool.not_eq_true, and_self, and_true, true_and, Nat.reduceLeDiff, Nat.reduceLT, Bool.and_true, Bool.true_and, Bool.and_false, Bool.false_and, isi_t, len_t, List.length_map, gtD_i, c1]
theorem nl_len : (Str.ofString "\n").length = 1 := by rfl
theorem em_len : (Str.ofString "").length = 0 := by rfl
theorem script_sum {rs : List RR} (hl : rs.length ≤ 4) (h : ∀ r ∈ rs, r.fine) : ((rs.map fun r => writtenM r ++ "\n").map (·.length)).sum + (rs.map fun r => writtenM r ++ "\n").length * (Str.ofString "").length ≤ 1650 := by
  have h1 := sum_le (·.length) 411 (rs.map fun r => writtenM r ++ "\n") (fun x hx => by
    obtain ⟨r, hr, rfl⟩ := List.mem_map.mp hx
    have := written_len (h r hr)
    show (writtenM r ++ "\n" : Str).length ≤ 411
    rw [len_app, nl_len]
    omega)
  rw [em_len]
  rw [List.length_map] at h1
  have : rs.length * 411 ≤ 4 * 411 := Nat.mul_le_mul_right _ hl
  omega
theorem lines_ok (F : List Sl → FR) (rs : List RR) (hl : rs.length ≤ 4) (h : ∀ r ∈ rs, r.fine) (hF : ∀ r ∈ rs, F [.val r.enc] = .ok (.str (writtenM r)) [.val r.enc]) :
    fnSem 2 1 (mRet (mSM joinF (mC (.str "")) (mLst (mComp [1] (mIter seqD (mVar 0)) (gN 1) (mC (.bool true)) (mOp addD (mCallN F [none] (mCons (mVar 1) mNil)) (mC (.str "\n"))))))) [.val (tRR rs)] = .ok (.str (scriptM rs)) [.val (tRR rs)] := by
  have e1 := compL_mapA (vs := [1]) (g := gN 1) (mb := mOp addD (mCallN F [none] (mCons (mVar 1) mNil)) (mC (.str "\n"))) (ρ := [.val (tRR rs), .no]) RR.enc (fun r => .str (writtenM r ++ "\n")) rs (by omega) (by
    intro r hr
    refine ⟨_, [.val (tRR rs), .val r.enc], rfl, ?_, rfl, rfl⟩
    have q1 := hF r hr
    have q2 : addD (.str (writtenM r)) (.str "\n") = some (.str (writtenM r ++ "\n")) := add_str (by have := written_len (h r hr); rw [nl_len]; omega)
    simp only [ev_seq, ev_seq_nx, ev_seq_rt, ev_seq_ex, ev_seq_bk, ev_seq_ct, ev_seq_st, ev_seq_ite, ev_next, ev_ifs, ev_ites, ev_ites_ex, ev_ret, ev_drop, ev_out, ev_out_ex, ev_outA, ev_c, ev_set, ev_own, ev_bind, ev_bind_ex, ev_bindA, ev_op, ev_un, ev_call, ev_ofO, ev_nil, ev_cons, ev_consok, ev_push, ev_tup, ev_lst, ev_not, ev_notb, ev_and, ev_or, ev_if, ev_ite, ev_chain, ev_var, ev_ixO, ev_setIx, ev_augIx, ev_opOL, ev_callO, ev_ref, ev_mut, ev_callF, ev_callN, ev_back, ev_backX, ev_backN, ev_mk0, ev_mkv, ev_mkr, ev_wb0, ev_wbv, ev_wbr, ev_iter, ev_iterA, ev_comp, ev_for, ev_sl, ev_part0, ev_part1, ev_mpart, ev_asg, ev_par, ev_listOf, ev_binL, ev_gN, ev_gT, ev_gA0, ev_gA, ev_noIo0, ev_noIo, ev_wipe0, ev_wipe, ev_compL0, ev_compL, ev_forL0, ev_forL, at2_0, at2_1, ixN2_0, ixN2_1, fnSem, List.length_cons, List.length_nil, List.replicate, List.append_eq, List.cons_append, List.nil_append, List.getElem?_cons_zero, List.getElem?_cons_succ, List.set_cons_zero, List.set_cons_succ, List.take_succ_cons, List.take_zero, isIoAt, lstAt, setL, Nat.reduceAdd, Nat.reduceSub, Option.map_some, Option.bind_some, if_true, if_false, Bool.false_eq_true, ite_true, ite_false, reduceIte, Int.natCast_add, decide_eq_true_eq, decide_true, decide_false, Bool.not_true, Bool.not_false, Bool.not_eq_true, and_self, and_true, true_and, Nat.reduceLeDiff, Nat.reduceLT, Bool.and_true, Bool.true_and, Bool.and_false, Bool.false_and, q1, q2])
  have e2 : (rs.map fun r => PyData.str (writtenM r ++ "\n")) = (rs.map fun r => writtenM r ++ "\n").map .str := by rw [List.map_map]; rfl
  rw [e2] at e1
  have e3 : joinF "" (.list ((rs.map fun r => writtenM r ++ "\n").map .str)) = some (.str (scriptM rs)) := join_ev "" (by have := script_sum hl h; omega) _ rfl
  have e4 : seqD (tRR rs) = some (rs.map RR.enc) := rfl
  simp only [ev_seq, ev_seq_nx, ev_seq_rt, ev_seq_ex, ev_seq_bk, ev_seq_ct, ev_seq_st, ev_seq_ite, ev_next, ev_ifs, ev_ites, ev_ites_ex, ev_ret, ev_drop, ev_out, ev_out_ex, ev_outA, ev_c, ev_set, ev_own, ev_bind, ev_bind_ex, ev_bindA, ev_op, ev_un, ev_call, ev_ofO, ev_nil, ev_cons, ev_consok, ev_push, ev_tup, ev_lst, ev_not, ev_notb, ev_and, ev_or, ev_if, ev_ite, ev_chain, ev_var, ev_ixO, ev_setIx, ev_augIx, ev_opOL, ev_callO, ev_ref, ev_mut, ev_callF, ev_callN, ev_back, ev_backX, ev_backN, ev_mk0, ev_mkv, ev_mkr, ev_wb0, ev_wbv, ev_wbr, ev_iter, ev_iterA, ev_comp, ev_for, ev_sl, ev_part0, ev_part1, ev_mpart, ev_asg, ev_par, ev_listOf, ev_binL, ev_gN, ev_gT, ev_gA0, ev_gA, ev_noIo0, ev_noIo, ev_wipe0, ev_wipe, ev_compL0, ev_compL, ev_forL0, ev_forL, at2_0, at2_1, ixN2_0, ixN2_1, fnSem, List.length_cons, List.length_nil, List.replicate, List.append_eq, List.cons_append, List.nil_append, List.getElem?_cons_zero, List.getElem?_cons_succ, List.set_cons_zero, List.set_cons_succ, List.take_succ_cons, List.take_zero, isIoAt, lstAt, setL, Nat.reduceAdd, Nat.reduceSub, Option.map_some, Option.bind_some, if_true, if_false, Bool.false_eq_true, ite_true, ite_false, reduceIte, Int.natCast_add, decide_eq_true_eq, decide_true, decide_false, Bool.not_true, Bool.not_false, Bool.not_eq_true, and_self, and_true, true_and, Nat.reduceLeDiff, Nat.reduceLT, Bool.and_true, Bool.true_and, Bool.and_false, Bool.false_and, mSM, e4, e1, e3]
theorem written_script_ok (rs : List RR) (hl : rs.length ≤ 4) (h : ∀ r ∈ rs, r.fine) : F_written_script [.val (tRR rs)] = .ok (.str (scriptM rs)) [.val (tRR rs)] := lines_ok F_written_rule rs hl h fun r hr => written_ok r (h r hr)
theorem law_lines_ok (rs : List RR) (hl : rs.length ≤ 4) (h : ∀ r ∈ rs, r.fine) : F_law_lines [.val (tRR rs)] = .ok (.str (scriptM rs)) [.val (tRR rs)] := lines_ok F_law_written rs hl h fun r hr => law_written_ok r (h r hr)
def rulesOf (t : Str) : List RR := ((Txt.split t "\n").take ((Txt.split t "\n").length - 1)).map ruleOf
theorem sokM_fine {rs : List RR} (h : sokM rs = true) : rs.length ≤ 4 ∧ ∀ r ∈ rs, r.fine := by
  unfold sokM at h
  rw [Bool.and_eq_true] at h
  exact ⟨of_decide_eq_true h.1, fun r hr => RR.okM_fine (List.all_eq_true.mp h.2 r hr)⟩
theorem read_script_ev {t : Str} (h : t.length ≤ 4000) : F_read_script [.val (.str t)] = if sokM (rulesOf t) = true ∧ scriptM (rulesOf t) = t then .ok (tRR (rulesOf t)) [.val (.str t)] else .exc ⟨"NoText", none⟩ [.val (.str t)] := by
  obtain ⟨b1, b2⟩ := split_bd t "\n" nl_ok.1 nl_ok.2.1
  have e1 := split_ev (x := t) (y := "\n") (by omega) nl_ok.2.2
  have hpos : 1 ≤ (Txt.split t "\n").length := by
    have := TL.split_spl t "\n" nl_ok.1 (TL.kind_ok nl_ok.2.1)
    have l := congrArg List.length this
    rw [List.length_map] at l
    rw [l]
    generalize tl t = l0
    have key : ∀ (l : List Nat) (k : Nat) (acc : List Nat), 1 ≤ (spl (tl (Str.ofString "\n")) k acc l).length := by
      intro l
      induction l with
      | nil => intro k acc; rw [TL.spl_nil]; simp
      | cons c r ih =>
        intro k acc
        cases k with
        | zero =>
          cases hp : TL.pre (tl (Str.ofString "\n")) (c :: r) with
          | true => rw [TL.spl_hit hp]; simp
          | false => rw [TL.spl_miss hp]; exact ih _ _
        | succ k => exact ih k acc
    exact key _ _ _
  unfold rulesOf
  generalize Txt.split t "\n" = ls at *
  have e2 : slD (.list (ls.map PyData.str)) none (some (-1)) = some (.list ((ls.take (ls.length - 1)).map .str)) := by
    show some (PyData.list (cutD _ none (some (-1)))) = _
    have : cutD (ls.map PyData.str) none (some (-1)) = (ls.map PyData.str).take (ls.length - 1) := by
      unfold cutD HT.sIx
      rw [List.length_map]
      have e : ((-1 : Int) + (ls.length : Int)).toNat = ls.length - 1 := by omega
      simp only [show ((-1 : Int) < 0) from by decide, if_true, e, List.drop_zero, Nat.sub_zero]
    rw [this, List.map_take]
  have hlen : (ls.take (ls.length - 1)).length ≤ 4001 := by rw [List.length_take]; omega
  have hmem : ∀ p ∈ ls.take (ls.length - 1), p.length ≤ 4000 := fun p hp => by have := b2 p (List.mem_of_mem_take hp); omega
  generalize ls.take (ls.length - 1) = qs at *
  have e3 := compL_mapA (vs := [2]) (g := gN 2) (mb := mCallN F_rule_of [none] (mCons (mVar 2) mNil)) (ρ := [.val (.str t), .no, .no]) PyData.str (fun p => (ruleOf p).enc) qs (by omega) (by
    intro p hp
    refine ⟨_, [.val (.str t), .no, .val (.str p)], rfl, ?_, rfl, rfl⟩
    have := rule_of_ok p (hmem p hp)
    simp only [ev_seq, ev_seq_nx, ev_seq_rt, ev_seq_ex, ev_seq_bk, ev_seq_ct, ev_seq_st, ev_seq_ite, ev_next, ev_ifs, ev_ites, ev_ites_ex, ev_ret, ev_drop, ev_out, ev_out_ex, ev_outA, ev_c, ev_set, ev_own, ev_bind, ev_bind_ex, ev_bindA, ev_op, ev_un, ev_call, ev_ofO, ev_nil, ev_cons, ev_consok, ev_push, ev_tup, ev_lst, ev_not, ev_notb, ev_and, ev_or, ev_if, ev_ite, ev_chain, ev_var, ev_ixO, ev_setIx, ev_augIx, ev_opOL, ev_callO, ev_ref, ev_mut, ev_callF, ev_callN, ev_back, ev_backX, ev_backN, ev_mk0, ev_mkv, ev_mkr, ev_wb0, ev_wbv, ev_wbr, ev_iter, ev_iterA, ev_comp, ev_for, ev_sl, ev_part0, ev_part1, ev_mpart, ev_asg, ev_par, ev_listOf, ev_binL, ev_gN, ev_gT, ev_gA0, ev_gA, ev_noIo0, ev_noIo, ev_wipe0, ev_wipe, ev_compL0, ev_compL, ev_forL0, ev_forL, at2_0, at2_1, ixN2_0, ixN2_1, fnSem, List.length_cons, List.length_nil, List.replicate, List.append_eq, List.cons_append, List.nil_append, List.getElem?_cons_zero, List.getElem?_cons_succ, List.set_cons_zero, List.set_cons_succ, List.take_succ_cons, List.take_zero, isIoAt, lstAt, setL, Nat.reduceAdd, Nat.reduceSub, Option.map_some, Option.bind_some, if_true, if_false, Bool.false_eq_true, ite_true, ite_false, reduceIte, Int.natCast_add, decide_eq_true_eq, decide_true, decide_false, Bool.not_true, Bool.not_false, Bool.not_eq_true, and_self, and_true, true_and, Nat.reduceLeDiff, Nat.reduceLT, Bool.and_true, Bool.true_and, Bool.and_false, Bool.false_and, this])
  have e4 : (PyData.tuple (qs.map fun p => (ruleOf p).enc)) = tRR (qs.map ruleOf) := by unfold tRR; rw [List.map_map]; rfl
  have e5 := script_eval (qs.map ruleOf) (by rw [List.length_map]; omega) (fun r hr => by
    obtain ⟨p, hp, rfl⟩ := List.mem_map.mp hr
    exact ruleOf_sm (hmem p hp))
  have sq : ∀ xs : List Dt, seqD (.list xs) = some xs := fun _ => rfl
  have n1 : negD (.int 1) = some (.int (-1)) := rfl
  generalize qs.map ruleOf = rs at *
  unfold F_read_script m_read_script
  cases ho : sokM rs with
  | false =>
    rw [ho] at e5
    rw [if_neg (fun q => Bool.false_ne_true q.1)]
    simp only [ev_seq, ev_seq_nx, ev_seq_rt, ev_seq_ex, ev_seq_bk, ev_seq_ct, ev_seq_st, ev_seq_ite, ev_next, ev_ifs, ev_ites, ev_ites_ex, ev_ret, ev_drop, ev_out, ev_out_ex, ev_outA, ev_c, ev_set, ev_own, ev_bind, ev_bind_ex, ev_bindA, ev_op, ev_un, ev_call, ev_ofO, ev_nil, ev_cons, ev_consok, ev_push, ev_tup, ev_lst, ev_not, ev_notb, ev_and, ev_or, ev_if, ev_ite, ev_chain, ev_var, ev_ixO, ev_setIx, ev_augIx, ev_opOL, ev_callO, ev_ref, ev_mut, ev_callF, ev_callN, ev_back, ev_backX, ev_backN, ev_mk0, ev_mkv, ev_mkr, ev_wb0, ev_wbv, ev_wbr, ev_iter, ev_iterA, ev_comp, ev_for, ev_sl, ev_part0, ev_part1, ev_mpart, ev_asg, ev_par, ev_listOf, ev_binL, ev_gN, ev_gT, ev_gA0, ev_gA, ev_noIo0, ev_noIo, ev_wipe0, ev_wipe, ev_compL0, ev_compL, ev_forL0, ev_forL, at2_0, at2_1, ixN2_0, ixN2_1, fnSem, List.length_cons, List.length_nil, List.replicate, List.append_eq, List.cons_append, List.nil_append, List.getElem?_cons_zero, List.getElem?_cons_succ, List.set_cons_zero, List.set_cons_succ, List.take_succ_cons, List.take_zero, isIoAt, lstAt, setL, Nat.reduceAdd, Nat.reduceSub, Option.map_some, Option.bind_some, if_true, if_false, Bool.false_eq_true, ite_true, ite_false, reduceIte, Int.natCast_add, decide_eq_true_eq, decide_true, decide_false, Bool.not_true, Bool.not_false, Bool.not_eq_true, and_self, and_true, true_and, Nat.reduceLeDiff, Nat.reduceLT, Bool.and_true, Bool.true_and, Bool.and_false, Bool.false_and, isi_s, mSM, e1, n1, e2, sq, e3, tupleD_l, e4, e5]
  | true =>
    rw [ho] at e5
    obtain ⟨f1, f2⟩ := sokM_fine ho
    have e6 := written_script_ok rs f1 f2
    by_cases hs : scriptM rs = t
    · rw [if_pos ⟨rfl, hs⟩]
      rw [hs] at e6
      have e7 : neD (.str t) (.str t) = some (.bool false) := by rw [neD_str]; simp
      simp only [ev_seq, ev_seq_nx, ev_seq_rt, ev_seq_ex, ev_seq_bk, ev_seq_ct, ev_seq_st, ev_seq_ite, ev_next, ev_ifs, ev_ites, ev_ites_ex, ev_ret, ev_drop, ev_out, ev_out_ex, ev_outA, ev_c, ev_set, ev_own, ev_bind, ev_bind_ex, ev_bindA, ev_op, ev_un, ev_call, ev_ofO, ev_nil, ev_cons, ev_consok, ev_push, ev_tup, ev_lst, ev_not, ev_notb, ev_and, ev_or, ev_if, ev_ite, ev_chain, ev_var, ev_ixO, ev_setIx, ev_augIx, ev_opOL, ev_callO, ev_ref, ev_mut, ev_callF, ev_callN, ev_back, ev_backX, ev_backN, ev_mk0, ev_mkv, ev_mkr, ev_wb0, ev_wbv, ev_wbr, ev_iter, ev_iterA, ev_comp, ev_for, ev_sl, ev_part0, ev_part1, ev_mpart, ev_asg, ev_par, ev_listOf, ev_binL, ev_gN, ev_gT, ev_gA0, ev_gA, ev_noIo0, ev_noIo, ev_wipe0, ev_wipe, ev_compL0, ev_compL, ev_forL0, ev_forL, at2_0, at2_1, ixN2_0, ixN2_1, fnSem, List.length_cons, List.length_nil, List.replicate, List.append_eq, List.cons_append, List.nil_append, List.getElem?_cons_zero, List.getElem?_cons_succ, List.set_cons_zero, List.set_cons_succ, List.take_succ_cons, List.take_zero, isIoAt, lstAt, setL, Nat.reduceAdd, Nat.reduceSub, Option.map_some, Option.bind_some, if_true, if_false, Bool.false_eq_true, ite_true, ite_false, reduceIte, Int.natCast_add, decide_eq_true_eq, decide_true, decide_false, Bool.not_true, Bool.not_false, Bool.not_eq_true, and_self, and_true, true_and, Nat.reduceLeDiff, Nat.reduceLT, Bool.and_true, Bool.true_and, Bool.and_false, Bool.false_and, isi_s, mSM, e1, n1, e2, sq, e3, tupleD_l, e4, e5, e6, e7]
    · rw [if_neg (fun q => hs q.2)]
      have e7 : neD (.str (scriptM rs)) (.str t) = some (.bool true) := by rw [neD_str]; simp [hs]
      simp only [ev_seq, ev_seq_nx, ev_seq_rt, ev_seq_ex, ev_seq_bk, ev_seq_ct, ev_seq_st, ev_seq_ite, ev_next, ev_ifs, ev_ites, ev_ites_ex, ev_ret, ev_drop, ev_out, ev_out_ex, ev_outA, ev_c, ev_set, ev_own, ev_bind, ev_bind_ex, ev_bindA, ev_op, ev_un, ev_call, ev_ofO, ev_nil, ev_cons, ev_consok, ev_push, ev_tup, ev_lst, ev_not, ev_notb, ev_and, ev_or, ev_if, ev_ite, ev_chain, ev_var, ev_ixO, ev_setIx, ev_augIx, ev_opOL, ev_callO, ev_ref, ev_mut, ev_callF, ev_callN, ev_back, ev_backX, ev_backN, ev_mk0, ev_mkv, ev_mkr, ev_wb0, ev_wbv, ev_wbr, ev_iter, ev_iterA, ev_comp, ev_for, ev_sl, ev_part0, ev_part1, ev_mpart, ev_asg, ev_par, ev_listOf, ev_binL, ev_gN, ev_gT, ev_gA0, ev_gA, ev_noIo0, ev_noIo, ev_wipe0, ev_wipe, ev_compL0, ev_compL, ev_forL0, ev_forL, at2_0, at2_1, ixN2_0, ixN2_1, fnSem, List.length_cons, List.length_nil, List.replicate, List.append_eq, List.cons_append, List.nil_append, List.getElem?_cons_zero, List.getElem?_cons_succ, List.set_cons_zero, List.set_cons_succ, List.take_succ_cons, List.take_zero, isIoAt, lstAt, setL, Nat.reduceAdd, Nat.reduceSub, Option.map_some, Option.bind_some, if_true, if_false, Bool.false_eq_true, ite_true, ite_false, reduceIte, Int.natCast_add, decide_eq_true_eq, decide_true, decide_false, Bool.not_true, Bool.not_false, Bool.not_eq_true, and_self, and_true, true_and, Nat.reduceLeDiff, Nat.reduceLT, Bool.and_true, Bool.true_and, Bool.and_false, Bool.false_and, isi_s, mSM, e1, n1, e2, sq, e3, tupleD_l, e4, e5, e6, e7]
end NS

set_option Elab.async false
set_option linter.all false
set_option autoImplicit false
set_option maxRecDepth 100000
set_option maxHeartbeats 4000000
/-! what is drawn is written and read back. -/
namespace NS
open PySem PySem.Spec PyProof.Rows L2
open TL (tl spl joinL)
/-- no line feed, no blank, no > -/
def Cln (p : Str) : Prop := ∀ c ∈ tl p, c ≠ 10 ∧ c ≠ 32 ∧ c ≠ 62
/-- no dot either -/
def Cln2 (p : Str) : Prop := ∀ c ∈ tl p, c ≠ 10 ∧ c ≠ 32 ∧ c ≠ 62 ∧ c ≠ 46
theorem Cln2.c {p : Str} (h : Cln2 p) : Cln p := fun c hc => ⟨(h c hc).1, (h c hc).2.1, (h c hc).2.2.1⟩
theorem cln_word {w : Str} (h : wordM w = true) : Cln2 w := fun c hc => by
  have := wordM_signs h c hc
  omega
theorem mem_joinL {S : List Nat} {c : Nat} : ∀ {ps : List (List Nat)}, c ∈ joinL S ps → c ∈ S ∨ ∃ p ∈ ps, c ∈ p
  | [], h => by cases h
  | [p], h => .inr ⟨p, List.mem_cons_self .., h⟩
  | p :: q :: r, h => by
    have h : c ∈ p ++ (S ++ joinL S (q :: r)) := h
    rcases List.mem_append.mp h with h | h
    · exact .inr ⟨p, List.mem_cons_self .., h⟩
    · rcases List.mem_append.mp h with h | h
      · exact .inl h
      · rcases mem_joinL h with h | ⟨p', h1, h2⟩
        · exact .inl h
        · exact .inr ⟨p', List.mem_cons_of_mem _ h1, h2⟩
theorem tl_Join (a : Str) (xs : List Str) : tl (Txt.join a xs) = joinL (tl a) (xs.map tl) := by rw [TL.join_eq, TL.tl_join]
theorem tl_comma : tl (Str.ofString ",") = [44] := by rfl
theorem tl_blank : tl (Str.ofString " ") = [32] := by rfl
theorem tl_arrow : tl (Str.ofString " > ") = [32, 62, 32] := by rfl
theorem tl_gt : tl (Str.ofString ">") = [62] := by rfl
theorem tl_nl : tl (Str.ofString "\n") = [10] := by rfl
theorem tl_bang : tl (Str.ofString "!") = [33] := by rfl
theorem tl_star : tl (Str.ofString "*") = [42] := by rfl
theorem tl_dots : tl (Str.ofString "..") = [46, 46] := by rfl
theorem tl_em : tl (Str.ofString "") = [] := by rfl
theorem tl_nums {pre : Str} (h : pre = "=" ∨ pre = "$") {i : Int} (hi : i = 0 ∨ i = 1 ∨ i = 2 ∨ i = 3) : ∃ c, tl (numT pre i) = [if pre = "=" then 61 else 36, c] ∧ 48 ≤ c ∧ c ≤ 51 := by
  rcases h with rfl | rfl <;> rcases hi with rfl | rfl | rfl | rfl
  · exact ⟨48, by kernel_rfl, by decide, by decide⟩
  · exact ⟨49, by kernel_rfl, by decide, by decide⟩
  · exact ⟨50, by kernel_rfl, by decide, by decide⟩
  · exact ⟨51, by kernel_rfl, by decide, by decide⟩
  · exact ⟨48, by kernel_rfl, by decide, by decide⟩
  · exact ⟨49, by kernel_rfl, by decide, by decide⟩
  · exact ⟨50, by kernel_rfl, by decide, by decide⟩
  · exact ⟨51, by kernel_rfl, by decide, by decide⟩
theorem cln_test {t : RT} {n : Nat} (hn : n ≤ 4) (h : t.okM n = true) : Cln2 (textT t) := by
  cases t with
  | is w => exact cln_word h
  | any => intro c hc; have hc : c ∈ tl (Str.ofString "*") := hc; rw [tl_star, List.mem_singleton] at hc; omega
  | non ws =>
    obtain ⟨h1, h2, h3⟩ := barredM_bd h
    intro c hc
    have hc : c ∈ tl (Str.ofString "!" ++ Txt.join (Str.ofString ",") ws) := hc
    rw [TL.tl_append, tl_bang, tl_Join, tl_comma] at hc
    rcases List.mem_append.mp hc with hc | hc
    · rw [List.mem_singleton] at hc; omega
    · rcases mem_joinL hc with hc | ⟨p, hp, hc⟩
      · rw [List.mem_singleton] at hc; omega
      · obtain ⟨w, hw, rfl⟩ := List.mem_map.mp hp
        exact cln_word (h3 w hw) c hc
  | like i =>
    obtain ⟨d, h1, h2, h3⟩ := tl_nums (.inl rfl) (small_int h hn)
    intro c hc
    have hc : c ∈ tl (numT "=" i) := hc
    rw [h1] at hc
    simp only [if_true, List.mem_cons, List.not_mem_nil, or_false] at hc
    omega
theorem cln_item {t : RI} {n : Nat} {op : Bool} (hn : n ≤ 4) (h : t.okM n op = true) : Cln (textI t) := by
  cases t with
  | word w => exact (cln_word h).c
  | rest => intro c hc; have hc : c ∈ tl (Str.ofString "..") := hc; rw [tl_dots] at hc; simp only [List.mem_cons, List.not_mem_nil, or_false] at hc; omega
  | field i =>
    obtain ⟨d, h1, h2, h3⟩ := tl_nums (.inr rfl) (small_int h hn)
    intro c hc
    have hc : c ∈ tl (numT "$" i) := hc
    rw [h1] at hc
    have hne : ¬ ("$" : Str) = "=" := by decide +kernel
    simp only [hne, if_false, List.mem_cons, List.not_mem_nil, or_false] at hc
    omega
/-- ahead of the arrow, behind it -/
def frontM (r : RR) : List Str := r.fr.map textT ++ (if r.op = true then [(".." : Str)] else []) ++ r.bk.map textT
def backM (r : RR) : List Str := r.mak.map textI
theorem parts_eq (r : RR) : partsM r = frontM r ++ (">" : Str) :: backM r := by
  unfold partsM frontM backM
  simp
theorem front_cln {r : RR} (h : r.fine) : ∀ p ∈ frontM r, Cln p := fun p hp => by
  unfold frontM at hp
  simp only [List.mem_append] at hp
  rcases hp with (hp | hp) | hp
  · obtain ⟨t, ht, rfl⟩ := List.mem_map.mp hp
    obtain ⟨n, hn, ho⟩ := h.ts t (List.mem_append_left _ ht)
    exact (cln_test hn ho).c
  · split at hp
    · rw [List.mem_singleton] at hp
      subst hp
      intro c hc
      rw [tl_dots] at hc; simp only [List.mem_cons, List.not_mem_nil, or_false] at hc; omega
    · cases hp
  · obtain ⟨t, ht, rfl⟩ := List.mem_map.mp hp
    obtain ⟨n, hn, ho⟩ := h.ts t (List.mem_append_right _ ht)
    exact (cln_test hn ho).c
theorem back_cln {r : RR} (h : r.fine) : ∀ p ∈ backM r, Cln p := fun p hp => by
  obtain ⟨t, ht, rfl⟩ := List.mem_map.mp hp
  obtain ⟨n, op, hn, ho⟩ := h.is t ht
  exact cln_item hn ho
theorem front_ne {r : RR} (h : r.fine) : frontM r ≠ [] := by
  unfold frontM
  intro e
  simp only [List.append_eq_nil_iff, List.map_eq_nil_iff] at e
  cases ho : r.op with
  | true => rw [ho] at e; exact absurd e.1.2 (by simp)
  | false => exact (h.cl ho).2 e.1.1
theorem back_ne {r : RR} (h : r.fine) : backM r ≠ [] := by
  unfold backM
  intro e
  have := h.mk1
  rw [List.map_eq_nil_iff.mp e] at this
  simp at this
theorem joinL_app (S : List Nat) : ∀ (ps qs : List (List Nat)), ps ≠ [] → qs ≠ [] → joinL S (ps ++ qs) = joinL S ps ++ (S ++ joinL S qs)
  | [], _, h, _ => absurd rfl h
  | [p], [], _, h => absurd rfl h
  | [p], q :: qs, _, _ => rfl
  | p :: p2 :: ps, qs, _, h => by
    have ih := joinL_app S (p2 :: ps) qs (by simp) h
    show p ++ (S ++ joinL S (p2 :: ps ++ qs)) = (p ++ (S ++ joinL S (p2 :: ps))) ++ (S ++ joinL S qs)
    rw [ih]
    simp only [List.append_assoc]
theorem written_tl {r : RR} (h : r.fine) : tl (writtenM r) = tl (Txt.join " " (frontM r)) ++ ([32, 62, 32] ++ tl (Txt.join " " (backM r))) := by
  unfold writtenM
  rw [parts_eq, tl_Join, tl_Join, tl_Join, List.map_append, List.map_cons, joinL_app _ _ _ (by simpa using front_ne h) (by simp), tl_gt, tl_blank]
  have : ∀ qs : List (List Nat), qs ≠ [] → joinL [32] ([62] :: qs) = 62 :: 32 :: joinL [32] qs := fun qs hq => by
    cases qs with
    | nil => exact absurd rfl hq
    | cons q r => rfl
  rw [this _ (by simpa using back_ne h)]
  rfl
theorem join_cln {ps : List Str} (h : ∀ p ∈ ps, Cln p) : ∀ c ∈ tl (Txt.join " " ps), c ≠ 10 ∧ c ≠ 62 := fun c hc => by
  rw [tl_Join, tl_blank] at hc
  rcases mem_joinL hc with hc | ⟨p, hp, hc⟩
  · rw [List.mem_singleton] at hc; omega
  · obtain ⟨w, hw, rfl⟩ := List.mem_map.mp hp
    have := h w hw c hc
    omega
theorem written_nl {r : RR} (h : r.fine) : 10 ∉ tl (writtenM r) := fun hc => by
  rw [written_tl h] at hc
  rcases List.mem_append.mp hc with hc | hc
  · exact (join_cln (front_cln h) _ hc).1 rfl
  · rcases List.mem_append.mp hc with hc | hc
    · simp at hc
    · exact (join_cln (back_cln h) _ hc).1 rfl
theorem written_part {r : RR} (h : r.fine) : Txt.partition (writtenM r) " > " = (Txt.join " " (frontM r), (" > " : Str), Txt.join " " (backM r)) := by
  rw [TL.partition_par _ _ arrow_ok.1, written_tl h, tl_arrow]
  have hA := join_cln (front_cln h)
  rw [TL.par_part (S := [32, 62, 32]) (by simp) (fun i hi => ?_)]
  · show ((⟨([] ++ tl (Txt.join " " (frontM r))).toArray⟩ : Str), _, (⟨(tl (Txt.join " " (backM r))).toArray⟩ : Str)) = _
    rw [List.nil_append, TL.mk_tl, TL.mk_tl]
  · generalize tl (Txt.join " " (frontM r)) = A at *
    generalize tl (Txt.join " " (backM r)) = B at *
    cases hp : TL.pre [32, 62, 32] ((A ++ ([32, 62, 32] ++ B)).drop i) with
    | false => rfl
    | true =>
      exfalso
      unfold TL.pre at hp
      have hp := eq_of_beq hp
      have h1 := congrArg (fun l => l[1]?) hp
      simp only [List.length_cons, List.length_nil, List.getElem?_take, List.getElem?_drop] at h1
      have h1 : (A ++ ([32, 62, 32] ++ B))[i + 1]? = some 62 := by simpa using h1
      by_cases hc : i + 1 < A.length
      · rw [List.getElem?_append_left hc] at h1
        exact (hA 62 (List.mem_of_getElem? h1)).2 rfl
      · have : i + 1 = A.length := by omega
        rw [List.getElem?_append_right (by omega), this, Nat.sub_self] at h1
        simp at h1
theorem split_parts {ps : List Str} (hne : ps ≠ []) (h : ∀ p ∈ ps, Cln p) : Txt.split (Txt.join " " ps) " " = ps :=
  TL.split_join (s := 32) (S := []) tl_blank blank_ok.2.1 hne fun p hp hc => (h p hp 32 hc).2.1 rfl
theorem cln2_ne {p : Str} (h : Cln2 p) : ¬ p = ".." := fun e => by
  subst e
  have := h 46 (by rw [tl_dots]; simp)
  exact this.2.2.2 rfl
theorem find_first {α : Type} (q : α → Bool) : ∀ (xs : List α) (y : α) (zs : List α), (∀ x ∈ xs, q x = false) → q y = true → (xs ++ y :: zs).findIdx? q = some xs.length
  | [], y, zs, _, h => by rw [List.nil_append, List.findIdx?_cons, h]; rfl
  | x :: xs, y, zs, h1, h2 => by
    rw [List.cons_append, List.findIdx?_cons, h1 x (List.mem_cons_self ..), find_first q xs y zs (fun z m => h1 z (List.mem_cons_of_mem _ m)) h2]
    rfl
theorem ruleOf_written {r : RR} (h : r.fine) : ruleOf (writtenM r) = ⟨r.fr.map fun t => testOf (textT t), r.op, r.bk.map fun t => testOf (textT t), r.mak.map fun t => itemOf (textI t)⟩ := by
  have cf : ∀ t ∈ r.fr, Cln2 (textT t) := fun t ht => by
    obtain ⟨n, hn, ho⟩ := h.ts t (List.mem_append_left _ ht)
    exact cln_test hn ho
  have cb : ∀ t ∈ r.bk, Cln2 (textT t) := fun t ht => by
    obtain ⟨n, hn, ho⟩ := h.ts t (List.mem_append_right _ ht)
    exact cln_test hn ho
  unfold ruleOf
  rw [written_part h]
  dsimp only
  rw [split_parts (front_ne h) (front_cln h), split_parts (back_ne h) (back_cln h)]
  have hin : ((".." : Str) ∈ frontM r) ↔ r.op = true := by
    unfold frontM
    simp only [List.mem_append, List.mem_map]
    constructor
    · rintro ((⟨t, ht, e⟩ | e) | ⟨t, ht, e⟩)
      · exact absurd e (cln2_ne (cf t ht))
      · by_cases ho : r.op = true
        · exact ho
        · rw [if_neg ho] at e; cases e
      · exact absurd e (cln2_ne (cb t ht))
    · intro ho
      rw [if_pos ho]
      exact .inl (.inr (List.mem_singleton.mpr rfl))
  have hplace : placeOf (frontM r) = r.fr.length := by
    unfold placeOf
    by_cases ho : r.op = true
    · rw [if_pos (hin.mpr ho)]
      unfold frontM
      rw [if_pos ho, List.append_assoc, List.singleton_append, find_first _ _ _ _ (fun p hp => ?_) (by simp)]
      · simp
      · obtain ⟨t, ht, rfl⟩ := List.mem_map.mp hp
        exact decide_eq_false (cln2_ne (cf t ht))
    · rw [if_neg (fun q => ho (hin.mp q))]
      unfold frontM
      have ho' : r.op = false := by simpa using ho
      rw [if_neg ho, (h.cl ho').1]
      simp
  rw [hplace]
  have htake : (frontM r).take r.fr.length = r.fr.map textT := by
    unfold frontM
    rw [List.append_assoc]
    exact List.take_left' (List.length_map _)
  have hdrop : (frontM r).drop (r.fr.length + 1) = r.bk.map textT := by
    unfold frontM
    by_cases ho : r.op = true
    · rw [if_pos ho]
      refine List.drop_left' ?_
      simp
    · have ho' : r.op = false := by simpa using ho
      rw [if_neg ho, (h.cl ho').1]
      simp
  rw [htake, hdrop]
  have hop : decide ((".." : Str) ∈ frontM r) = r.op := by
    cases ho : r.op with
    | true => exact decide_eq_true (hin.mpr ho)
    | false => exact decide_eq_false (fun q => by have := hin.mp q; rw [ho] at this; cases this)
  rw [hop]
  unfold backM
  simp only [List.map_map]
  rfl
/-- drawn tests and items -/
theorem testOf_drawn {k : Nat} {t : Tst} (h : TIn k t) (hk : k ≤ 4) : testOf (textT t.raw) = t.raw := by
  cases h with
  | isA => kernel_rfl
  | isB => kernel_rfl
  | any => kernel_rfl
  | nonA => kernel_rfl
  | nonB => kernel_rfl
  | @like j hj =>
    have : j = 0 ∨ j = 1 ∨ j = 2 ∨ j = 3 := by omega
    rcases this with rfl | rfl | rfl | rfl <;> kernel_rfl
theorem itemOf_drawn {n : Nat} {i : Itm} (h : IIn n i) (hn : n ≤ 4) : itemOf (textI i.raw) = i.raw := by
  cases h with
  | a => kernel_rfl
  | b => kernel_rfl
  | c => kernel_rfl
  | @f j hj =>
    have : j = 0 ∨ j = 1 ∨ j = 2 ∨ j = 3 := by omega
    rcases this with rfl | rfl | rfl | rfl <;> kernel_rfl
theorem itemOf_rest : itemOf (textI (Itm.raw .rest)) = Itm.raw .rest := by kernel_rfl
theorem raw_sm {r : Rul} (h : RIn r) : r.raw.sm := by
  have hf := h.fr
  have hb := h.bk
  have hm := h.fine.many
  obtain ⟨its, h1, h2, h3, h4⟩ := h.items
  refine ⟨fun t ht => ?_, fun t ht => ?_, by unfold Rul.raw; simp only [List.length_map]; omega, by unfold Rul.raw; simp only [List.length_map]; omega⟩
  · unfold Rul.raw at ht
    rw [← List.map_append] at ht
    obtain ⟨u, hu, rfl⟩ := List.mem_map.mp ht
    obtain ⟨k, hk, hkt⟩ := List.mem_iff_getElem.mp hu
    have := h.ts k u (by rw [← hkt]; exact List.getElem?_eq_getElem hk)
    cases this with
    | isA => exact (by decide +kernel : (Str.ofString "a").length ≤ 10000)
    | isB => exact (by decide +kernel : (Str.ofString "b").length ≤ 10000)
    | any => trivial
    | nonA => exact ⟨by decide, by decide +kernel⟩
    | nonB => exact ⟨by decide, by decide +kernel⟩
    | like _ => trivial
  · unfold Rul.raw at ht
    obtain ⟨u, hu, rfl⟩ := List.mem_map.mp ht
    have key : ∀ i ∈ its, i.raw.sm := fun i hi => by
      have := h3 i hi
      cases this with
      | a => exact (by decide +kernel : (Str.ofString "a").length ≤ 10000)
      | b => exact (by decide +kernel : (Str.ofString "b").length ≤ 10000)
      | c => exact (by decide +kernel : (Str.ofString "c").length ≤ 10000)
      | f _ => trivial
    rcases h4 with h4 | ⟨_, j, h4⟩
    · exact key u (h4 ▸ hu)
    · rw [h4] at hu
      rcases List.mem_append.mp hu with hu | hu
      · exact key u (List.mem_of_mem_take hu)
      · rcases List.mem_cons.mp hu with rfl | hu
        · trivial
        · exact key u (List.mem_of_mem_drop hu)
theorem raw_okM {r : Rul} (h : RIn r) : r.raw.okM = true := by
  have e1 := isrule_ok r h
  have e2 := rule_eval r.raw (raw_sm h)
  rw [raw_enc, e1] at e2
  injection e2 with e3
  injection e3 with e4
  exact e4.symm
theorem raw_fine {r : Rul} (h : RIn r) : r.raw.fine := RR.okM_fine (raw_okM h)
theorem ruleOf_drawn {r : Rul} (h : RIn r) : ruleOf (writtenM r.raw) = r.raw := by
  have hf := h.fr
  have hb := h.bk
  obtain ⟨its, h1, h2, h3, h4⟩ := h.items
  rw [ruleOf_written (raw_fine h)]
  have ht : ∀ t ∈ r.fr ++ r.bk, testOf (textT t.raw) = t.raw := fun t ht => by
    obtain ⟨k, hk, hkt⟩ := List.mem_iff_getElem.mp ht
    have hk' := hk
    rw [List.length_append] at hk'
    exact testOf_drawn (h.ts k t (by rw [← hkt]; exact List.getElem?_eq_getElem hk)) (by omega)
  have hi : ∀ i ∈ r.making, itemOf (textI i.raw) = i.raw := fun i hi => by
    rw [List.length_append] at h3
    rcases h4 with h4 | ⟨_, j, h4⟩
    · exact itemOf_drawn (h3 i (h4 ▸ hi)) (by omega)
    · rw [h4] at hi
      rcases List.mem_append.mp hi with hi | hi
      · exact itemOf_drawn (h3 i (List.mem_of_mem_take hi)) (by omega)
      · rcases List.mem_cons.mp hi with rfl | hi
        · exact itemOf_rest
        · exact itemOf_drawn (h3 i (List.mem_of_mem_drop hi)) (by omega)
  unfold Rul.raw
  simp only [List.map_map]
  congr 1
  · exact List.map_congr_left fun t m => ht t (List.mem_append_left _ m)
  · exact List.map_congr_left fun t m => ht t (List.mem_append_right _ m)
  · exact List.map_congr_left fun t m => hi t m
/-- scripts -/
theorem joinL_nil : ∀ ps : List (List Nat), joinL [] ps = ps.flatten
  | [] => rfl
  | [p] => by simp [joinL]
  | p :: q :: r => by
    show p ++ ([] ++ joinL [] (q :: r)) = _
    rw [joinL_nil (q :: r)]
    rfl
theorem spl_lines : ∀ ws : List (List Nat), (∀ w ∈ ws, 10 ∉ w) → spl [10] 0 [] (ws.map (· ++ [10])).flatten = ws ++ [[]]
  | [], _ => rfl
  | w :: ws, h => by
    rw [List.map_cons, List.flatten_cons, List.append_assoc, TL.spl_part1 (s := 10) (S := []) (h w (List.mem_cons_self ..)), spl_lines ws fun u m => h u (List.mem_cons_of_mem _ m)]
    rfl
theorem split_lines {ws : List Str} (h : ∀ w ∈ ws, 10 ∉ tl w) : Txt.split (Txt.join "" (ws.map (· ++ "\n"))) "\n" = ws ++ [("" : Str)] := by
  refine TL.map_tl_inj ?_
  rw [TL.split_spl _ _ nl_ok.1 (TL.kind_ok nl_ok.2.1), tl_Join, tl_em, joinL_nil, tl_nl, List.map_map]
  have e : ws.map (tl ∘ (· ++ (Str.ofString "\n"))) = (ws.map tl).map (· ++ [10]) := by
    rw [List.map_map]
    refine List.map_congr_left fun w _ => ?_
    show tl (w ++ Str.ofString "\n") = tl w ++ [10]
    rw [TL.tl_append, tl_nl]
  rw [e, spl_lines _ (fun w hw => by
    obtain ⟨u, hu, rfl⟩ := List.mem_map.mp hw
    exact h u hu), List.map_append]
  rfl
theorem rulesOf_drawn {rs : List Rul} (h : ∀ r ∈ rs, RIn r) : rulesOf (scriptM (rs.map Rul.raw)) = rs.map Rul.raw := by
  unfold rulesOf scriptM
  have e1 : (rs.map Rul.raw).map (fun r => writtenM r ++ ("\n" : Str)) = (rs.map fun r => writtenM r.raw).map (· ++ ("\n" : Str)) := by rw [List.map_map, List.map_map]; rfl
  rw [e1, split_lines (fun w hw => by
    obtain ⟨r, hr, rfl⟩ := List.mem_map.mp hw
    exact written_nl (raw_fine (h r hr)))]
  have e2 : ((rs.map fun r => writtenM r.raw) ++ [("" : Str)]).take (((rs.map fun r => writtenM r.raw) ++ [("" : Str)]).length - 1) = rs.map fun r => writtenM r.raw := by
    rw [List.length_append, List.length_cons, List.length_nil, Nat.add_sub_cancel]
    exact List.take_left' rfl
  rw [e2, List.map_map]
  exact List.map_congr_left fun r hr => ruleOf_drawn (h r hr)
end NS

set_option Elab.async false
set_option linter.all false
set_option autoImplicit false
set_option maxRecDepth 100000
set_option maxHeartbeats 4000000
/-! equality of data. -/
namespace NS
open PySem PySem.Spec PyProof.Rows L2
mutual
theorem eqv_refl : ∀ d : PyData, d.plain = true → PyData.eqv d d = true
  | .none, _ => rfl
  | .bool b, _ => by simp [PyData.eqv]
  | .int i, _ => by simp [PyData.eqv]
  | .str x, _ => by simp [PyData.eqv]
  | .list xs, h => by
    rw [PyData.plain] at h
    rw [PyData.eqv]
    exact eqvAll_refl xs h
  | .tuple xs, h => by
    rw [PyData.plain] at h
    rw [PyData.eqv]
    exact eqvAll_refl xs h
  | .dict _, h => by cases h
theorem eqvAll_refl : ∀ ds : List PyData, PyData.plainAll ds = true → PyData.eqvAll ds ds = true
  | [], _ => rfl
  | d :: ds, h => by
    rw [PyData.plainAll, Bool.and_eq_true] at h
    rw [PyData.eqvAll, eqv_refl d h.1, eqvAll_refl ds h.2]
    rfl
end
theorem depthAll_le : ∀ (ds : List PyData) (n : Nat), (∀ d ∈ ds, d.depth ≤ n) → PyData.depthAll ds ≤ n
  | [], n, _ => by rw [PyData.depthAll]; omega
  | d :: ds, n, h => by
    have h1 := h d (List.mem_cons_self ..)
    have h2 := depthAll_le ds n fun e m => h e (List.mem_cons_of_mem _ m)
    rw [PyData.depthAll]
    omega
theorem plainAll_map {α : Type} (f : α → Dt) (xs : List α) (h : ∀ x ∈ xs, (f x).plain = true) : PyData.plainAll (xs.map f) = true := by
  induction xs with
  | nil => rfl
  | cons x xs ih =>
    rw [List.map_cons, PyData.plainAll, h x (List.mem_cons_self ..), ih fun y m => h y (List.mem_cons_of_mem _ m)]
    rfl
/-- plain and not deep -/
def Easy (n : Nat) (d : Dt) : Prop := d.plain = true ∧ d.depth ≤ n
theorem easy_tup {n : Nat} {ds : List Dt} (h : ∀ d ∈ ds, Easy n d) : Easy (n + 1) (.tuple ds) := by
  refine ⟨?_, ?_⟩
  · rw [PyData.plain]
    have := plainAll_map id ds (fun d m => (h d m).1)
    rwa [List.map_id] at this
  · rw [PyData.depth]
    have := depthAll_le ds n fun d m => (h d m).2
    omega
theorem easy_lst {n : Nat} {ds : List Dt} (h : ∀ d ∈ ds, Easy n d) : Easy (n + 1) (.list ds) := by
  refine ⟨?_, ?_⟩
  · rw [PyData.plain]
    have := plainAll_map id ds (fun d m => (h d m).1)
    rwa [List.map_id] at this
  · rw [PyData.depth]
    have := depthAll_le ds n fun d m => (h d m).2
    omega
theorem easy_str {n : Nat} (x : Str) : Easy n (.str x) := ⟨rfl, by rw [PyData.depth]; omega⟩
theorem easy_int {n : Nat} (x : Int) : Easy n (.int x) := ⟨rfl, by rw [PyData.depth]; omega⟩
theorem easy_bool {n : Nat} (x : Bool) : Easy n (.bool x) := ⟨rfl, by rw [PyData.depth]; omega⟩
theorem Easy.up {n m : Nat} {d : Dt} (h : Easy n d) (hm : n ≤ m) : Easy m d := ⟨h.1, Nat.le_trans h.2 hm⟩
theorem easy_tupS (xs : List Str) : Easy 1 (tupS xs) := ⟨plain_tupS xs, by rw [depth_tupS]; omega⟩
theorem easy_rt (t : RT) : Easy 2 t.enc := by
  cases t with
  | is w => exact (easy_tup (n := 0) (by intro d hd; simp only [List.mem_cons, List.not_mem_nil, or_false] at hd; rcases hd with rfl | rfl <;> exact easy_str _)).up (by omega)
  | any => exact (easy_tup (n := 0) (by intro d hd; simp only [List.mem_cons, List.not_mem_nil, or_false] at hd; subst hd; exact easy_str _)).up (by omega)
  | non ws => exact easy_tup (n := 1) (by intro d hd; simp only [List.mem_cons, List.not_mem_nil, or_false] at hd; rcases hd with rfl | rfl; exact easy_str _; exact easy_tupS ws)
  | like i => exact (easy_tup (n := 0) (by intro d hd; simp only [List.mem_cons, List.not_mem_nil, or_false] at hd; rcases hd with rfl | rfl; exact easy_str _; exact easy_int _)).up (by omega)
theorem easy_ri (t : RI) : Easy 2 t.enc := by
  cases t with
  | word w => exact (easy_tup (n := 0) (by intro d hd; simp only [List.mem_cons, List.not_mem_nil, or_false] at hd; rcases hd with rfl | rfl <;> exact easy_str _)).up (by omega)
  | rest => exact (easy_tup (n := 0) (by intro d hd; simp only [List.mem_cons, List.not_mem_nil, or_false] at hd; subst hd; exact easy_str _)).up (by omega)
  | field i => exact (easy_tup (n := 0) (by intro d hd; simp only [List.mem_cons, List.not_mem_nil, or_false] at hd; rcases hd with rfl | rfl; exact easy_str _; exact easy_int _)).up (by omega)
theorem easy_rr (r : RR) : Easy 4 r.enc := by
  unfold RR.enc
  refine easy_tup fun d hd => ?_
  simp only [List.mem_cons, List.not_mem_nil, or_false] at hd
  rcases hd with rfl | rfl | rfl | rfl
  · exact easy_tup fun d hd => by obtain ⟨t, _, rfl⟩ := List.mem_map.mp hd; exact easy_rt t
  · exact easy_bool _
  · exact easy_tup fun d hd => by obtain ⟨t, _, rfl⟩ := List.mem_map.mp hd; exact easy_rt t
  · exact easy_tup fun d hd => by obtain ⟨t, _, rfl⟩ := List.mem_map.mp hd; exact easy_ri t
theorem easy_rrs (rs : List RR) : Easy 5 (tRR rs) := easy_tup fun d hd => by obtain ⟨t, _, rfl⟩ := List.mem_map.mp hd; exact easy_rr t
theorem easy_rul (r : Rul) : Easy 4 r.enc := raw_enc r ▸ easy_rr r.raw
theorem easy_ref (k : Int) : Easy 1 (.tuple [.str "refused", .int k]) := easy_tup (n := 0) (by intro d hd; simp only [List.mem_cons, List.not_mem_nil, or_false] at hd; rcases hd with rfl | rfl; exact easy_str _; exact easy_int _)
theorem ne_self {n : Nat} {d : Dt} (h : Easy n d) (hn : n ≤ 60) : neD d d = some (.bool false) := by
  unfold neD eqOk
  have : decide (min d.depth d.depth ≤ 60) = true := decide_eq_true (by have := h.2; omega)
  rw [h.1, this]
  simp only [Bool.and_self, if_true, eqv_refl d h.1, Bool.not_true]
theorem eq_self {n : Nat} {d : Dt} (h : Easy n d) (hn : n ≤ 60) : eqD d d = some (.bool true) := by
  unfold eqD eqOk
  have : decide (min d.depth d.depth ≤ 60) = true := decide_eq_true (by have := h.2; omega)
  rw [h.1, this]
  simp only [Bool.and_self, if_true, eqv_refl d h.1]
theorem ne_no {n m : Nat} {d e : Dt} (h : Easy n d) (h' : Easy m e) (hn : n ≤ 60) (hv : PyData.eqv d e = false) : neD d e = some (.bool true) := by
  unfold neD eqOk
  have : decide (min d.depth e.depth ≤ 60) = true := decide_eq_true (by have := h.2; omega)
  rw [h.1, h'.1, this]
  simp only [Bool.and_self, if_true, hv, Bool.not_false]
theorem rr_ref (r : RR) (k : Int) : neD r.enc (.tuple [.str "refused", .int k]) = some (.bool true) := by
  refine ne_no (easy_rr r) (easy_ref k) (by omega) ?_
  unfold RR.enc
  rw [PyData.eqv, PyData.eqvAll, PyData.eqv]
  rfl
theorem rrs_ref (rs : List RR) (k : Int) : neD (tRR rs) (.tuple [.str "refused", .int k]) = some (.bool true) := by
  refine ne_no (easy_rrs rs) (easy_ref k) (by omega) ?_
  unfold tRR
  cases rs with
  | nil => rw [List.map_nil, PyData.eqv, PyData.eqvAll]
  | cons r rs =>
    rw [List.map_cons, PyData.eqv, PyData.eqvAll]
    unfold RR.enc
    rw [PyData.eqv]
    rfl
end NS

set_option Elab.async false
set_option linter.all false
set_option autoImplicit false
set_option maxRecDepth 100000
set_option maxHeartbeats 4000000
namespace NS
open PySem PySem.Spec PyProof.Rows L2
def Es8 : List Str := ["NoRule", "NoScript", "NoText"]
def Ts8 : List Str := ["NoName", "NoRule", "NoScript", "NoFolder", "Clash", "NoOrder", "Lost", "Ringed", "NoNumber", "NoRow", "NoWord", "Taken", "NotThere", "Full", "TooLong", "NoDeed", "NoText"]
def G_law_which8 : Str → Option Dt := whichG Es8 (fun e => some (.tuple [.str "refused", .int (Ts8.idxOf e)]))
def m_law_ask_k18 : Ev → Out := (mTry 2 (subsE Es8) (mRet (mCallIx [F_rule_text, F_script_text, F_read_rule, F_read_script] [none] (mVar 0) (mCons (mVar 1) mNil))) (mpW G_law_which8))
def F_law_ask_k18 : List Sl → FR := fnSem 3 2 m_law_ask_k18
def m_law_k18 : Ev → Out := (mSeq (mOwn 1 (mCons (mC (.int 0)) (mCons (mC (.int 0)) mNil)))
  (mSeq (mSet 2 (mCallF F_rule_text [none] (mCons (mOp ixD (mCallF F_law_script [none, some 1, none, none] (mCons (mVar 0) (mRef 1 (mCons (mC (.int 1)) (mCons (mC (.int 2)) mNil))))) (mC (.int 0))) mNil)))
  (mSeq (mOwn 3 (mCons (mC .none) (mCons (mC (.str "")) (mCons (mC (.str ">")) (mCons (mC (.str "> a")) (mCons (mC (.str "a >")) (mCons (mC (.str "a  > b")) (mCons (mC (.str "a > b ")) (mCons (mC (.str " a > b")) (mCons (mC (.str "a >  b")) (mCons (mC (.str "a b")) (mCons (mC (.str "a > b > c")) mNil))))))))))))
  (mSeq (mMut 3 extendF (mCons (mLst (mCons (mC (.str "a>b")) (mCons (mC (.str "A > b")) (mCons (mC (.str "abcdefg > b")) (mCons (mC (.str "a > B")) (mCons (mC (.str "a b c > d")) mNil)))))) mNil))
  (mSeq (mMut 3 extendF (mCons (mLst (mCons (mC (.str ".. a b c > d")) (mCons (mC (.str "a .. b .. c > d")) (mCons (mC (.str "=0 > a")) (mCons (mC (.str "a =1 > b")) (mCons (mC (.str "a =2 > b")) (mCons (mC (.str "* =a > b")) mNil))))))) mNil))
  (mSeq (mMut 3 extendF (mCons (mLst (mCons (mC (.str "* = > b")) (mCons (mC (.str "! > b")) (mCons (mC (.str "!b,a > c")) (mCons (mC (.str "!a,a > c")) (mCons (mC (.str "!a,b,c,d > e")) mNil)))))) mNil))
  (mSeq (mMut 3 extendF (mCons (mLst (mCons (mC (.str "!a, > b")) (mCons (mC (.str "!A > b")) (mCons (mC (.str "** > b")) (mCons (mC (.str "a > $1")) (mCons (mC (.str "a > $")) (mCons (mC (.str "a > $a")) (mCons (mC (.str "a > $00")) (mCons (mC (.str "a > ..")) mNil))))))))) mNil))
  (mSeq (mMut 3 extendF (mCons (mLst (mCons (mC (.str ".. > ..")) (mCons (mC (.str ".. > a .. ..")) (mCons (mC (.str ".. > a a a a a")) (mCons (mC (.str "a > a ..")) (mCons (mC (.str "1 > b")) mNil)))))) mNil))
  (mSeq (mMut 3 extendF (mCons (mLst (mCons (mC (.str "=0 .. > a")) (mCons (mOp addD (mVar 2) (mC (.str "\n"))) (mCons (mOp addD (mVar 2) (mC (.str " "))) (mCons (mC (.int 5)) (mCons (mLst (mCons (mVar 2) mNil)) (mCons (mC (.str "a >= b")) (mCons (mC (.str ". > a")) (mCons (mC (.str "... > a")) mNil))))))))) mNil))
  (mSeq (mFor (mIter seqD (mLst (mCatO 3 (mCons (mC (.str "a > *")) (mCons (mC (.str "a > =0")) (mCons (mC (.str "a > !a")) mNil)))))) (gN 4) (mSeq (mIfS (mOp neD (mCallF F_law_ask_k18 [none, none] (mCons (mC (.int 2)) (mCons (mVar 4) mNil))) (mTup (mCons (mC (.str "refused")) (mCons (mC (.int 16)) mNil)))) (mRet (mC (.bool false))) mNext)
  (mSeq (mIfS (mAnd (mOp notInD (mVar 4) (mTup (mCons (mC (.str "")) (mCons (mOp addD (mVar 2) (mC (.str "\n"))) mNil)))) (mOp neD (mCallF F_law_ask_k18 [none, none] (mCons (mC (.int 3)) (mCons (mVar 4) mNil))) (mTup (mCons (mC (.str "refused")) (mCons (mC (.int 16)) mNil))))) (mRet (mC (.bool false))) mNext)
  (mIfS (mAnd (mUn (isiD "str") (mVar 4)) (mAnd (mOp neD (mVar 4) (mOp addD (mVar 2) (mC (.str "\n")))) (mOp neD (mCallF F_law_ask_k18 [none, none] (mCons (mC (.int 3)) (mCons (mOp addD (mVar 4) (mC (.str "\n"))) mNil))) (mTup (mCons (mC (.str "refused")) (mCons (mC (.int 16)) mNil)))))) (mRet (mC (.bool false))) mNext))))
  (mSeq (mIfS (mOr (mOp neD (mCallF F_law_ask_k18 [none, none] (mCons (mC (.int 3)) (mCons (mC (.str "")) mNil))) (mTup mNil)) (mOp neD (mCallF F_law_ask_k18 [none, none] (mCons (mC (.int 3)) (mCons (mOp mulSD (mOp addD (mVar 2) (mC (.str "\n"))) (mC (.int 5))) mNil))) (mTup (mCons (mC (.str "refused")) (mCons (mC (.int 16)) mNil))))) (mRet (mC (.bool false))) mNext)
  (mSeq (mIfS (mOp neD (mCall lenTD (mCons (mCallF F_law_ask_k18 [none, none] (mCons (mC (.int 3)) (mCons (mOp mulSD (mOp addD (mVar 2) (mC (.str "\n"))) (mC (.int 4))) mNil))) mNil)) (mC (.int 4))) (mRet (mC (.bool false))) mNext)
  (mSeq (mFor (mIter seqD (mTup (mCons (mC .none) (mCons (mTup mNil) (mCons (mC (.str "a > b")) (mCons (mTup (mCons (mTup (mCons (mC (.str "any")) mNil)) mNil)) (mCons (mLst (mCons (mVar 2) mNil)) mNil))))))) (gN 5) (mIfS (mOr (mOp neD (mCallF F_law_ask_k18 [none, none] (mCons (mC (.int 0)) (mCons (mVar 5) mNil))) (mTup (mCons (mC (.str "refused")) (mCons (mC (.int 1)) mNil)))) (mAnd (mOp neD (mVar 5) (mTup mNil)) (mOp neD (mCallF F_law_ask_k18 [none, none] (mCons (mC (.int 1)) (mCons (mVar 5) mNil))) (mTup (mCons (mC (.str "refused")) (mCons (mC (.int 2)) mNil)))))) (mRet (mC (.bool false))) mNext))
  (mSeq (mSet 4 (mC (.str "!a,abcdef,z =0 .. abcdef =2 > .. $3 abcdef $0")))
  (mSeq (mIfS (mOr (mOp eqD (mCallF F_law_ask_k18 [none, none] (mCons (mC (.int 2)) (mCons (mVar 4) mNil))) (mTup (mCons (mC (.str "refused")) (mCons (mC (.int 16)) mNil)))) (mOp neD (mCallF F_rule_text [none] (mCons (mCallF F_law_ask_k18 [none, none] (mCons (mC (.int 2)) (mCons (mVar 4) mNil))) mNil)) (mVar 4))) (mRet (mC (.bool false))) mNext)
  (mRet (mOp eqD (mCallF F_law_ask_k18 [none, none] (mCons (mC (.int 1)) (mCons (mTup mNil) mNil))) (mC (.str "")))))))))))))))))))
def F_law_k18 : List Sl → FR := fnSem 6 1 m_law_k18
end NS

set_option Elab.async false
set_option linter.all false
set_option autoImplicit false
set_option maxRecDepth 100000
set_option maxHeartbeats 4000000
namespace NS
open PySem PySem.Spec PyProof.Rows L2
def topS (i : Nat) : Stmt := PySem.Challenge.pw_namescripts_k18_whole_texts_refused.main.body.getD i (.Pass ⟨0, 0, 0, 0⟩)
structure Glb (K : PySem.W.Frag) (mg : Str → Option Value) : Prop where
  n_ValueError : mg "ValueError" = none
  n_all : mg "all" = none
  n_bool : mg "bool" = none
  n_enumerate : mg "enumerate" = none
  n_int : mg "int" = none
  n_isinstance : mg "isinstance" = none
  n_len : mg "len" = none
  n_range : mg "range" = none
  n_str : mg "str" = none
  n_tuple : mg "tuple" = none
  c_MOST_LETTERS : ∃ t, mg "MOST_LETTERS" = some (.int 6 t)
  c_MOST_TESTS : ∃ t, mg "MOST_TESTS" = some (.int 2 t)
  c_MOST_BARRED : ∃ t, mg "MOST_BARRED" = some (.int 3 t)
  c_MOST_ITEMS : ∃ t, mg "MOST_ITEMS" = some (.int 4 t)
  c_MOST_RULES : ∃ t, mg "MOST_RULES" = some (.int 4 t)
  s_FIGURES : ∃ t, mg "FIGURES" = some (.str "0123456789" t)
  s_REST : ∃ t, mg "REST" = some (.str ".." t)
  x_NoRule : ExcK K mg "NoRule"
  x_NoScript : ExcK K mg "NoScript"
  x_NoText : ExcK K mg "NoText"
  ef : ExF K mg Es8 Ts8 "TurnError"
section
variable {P : Program} {w : World} {K : PySem.W.Frag} {mg : Str → Option Value} {base : Heap} {f : Addr} {fd : FuncData}
abbrev s_is_word : Stmt := topS 21
theorem ok_is_word (Fu : FunD K "is_word" "is_word" (defArgs s_is_word) (defBody s_is_word) (defScope s_is_word) [] [] f fd) (G : Glb K mg)  : FnOk P w K mg base (L2N.CX P w) 1 f fd ["thing"] (spF K mg F_is_word) := by
  have S : FnScope ["thing", "letter"] ["thing"] (defScope s_is_word) := ⟨rfl, rfl, rfl, by decide +kernel, rfl, by decide +kernel, by decide +kernel⟩
  refine @fn_ok P w K mg base "is_word" "is_word" (defArgs s_is_word) (defBody s_is_word) (defScope s_is_word) f fd ["thing", "letter"] ["thing"] 0 m_is_word Fu S (by decide) ?_
  intro cdv A outer s H E hr tk po
  exact (JB.cons (JS.if (JW.pt (JW.or (JT.not (JT.val (JE.isinst kitT_str G.n_isinstance G.n_str (by decide +kernel) (JE.var 0)))) (JW.or1 (JT.not (JT.chain op_le op_intBS op_le op_intBS JE.int (JE.callB call_len call_lenS G.n_len (by decide +kernel) (JA.cons (JE.var 0) JA.nil)) (JE.globI G.c_MOST_LETTERS)))))) (JB.one (JS.ret JE.bl)) JB.nil)
    (JB.one (JS.ret (JE.callB (cr_all rfl) allS G.n_all (by decide +kernel) (JA.cons (JE.ofL (JL.comp (own := [("letter", 1)]) rfl S.nd (JI.seq (JE.var 0)) (by exact blkOk_by (N := ["thing", "letter"]) (sc := defScope s_is_word) (own := [("letter", 1)]) (by decide +kernel)) (fun _ _ _ _ _ => (JG.name 1 S.nd)) (fun _ _ _ _ _ => JTs.nil) (fun _ _ _ _ _ => (JE.chain op_le_str op_strLeS op_le_str op_strLeS JE.str (JE.var 1) JE.str)))) JA.nil)))))
abbrev s_is_rising : Stmt := topS 22
theorem ok_is_rising (Fu : FunD K "is_rising" "is_rising" (defArgs s_is_rising) (defBody s_is_rising) (defScope s_is_rising) [] [] f fd) (G : Glb K mg)  : FnOk P w K mg base (L2N.CX P w) 1 f fd ["things"] (spF K mg F_is_rising) := by
  have S : FnScope ["things", "at"] ["things"] (defScope s_is_rising) := ⟨rfl, rfl, rfl, by decide +kernel, rfl, by decide +kernel, by decide +kernel⟩
  refine @fn_ok P w K mg base "is_rising" "is_rising" (defArgs s_is_rising) (defBody s_is_rising) (defScope s_is_rising) f fd ["things", "at"] ["things"] 0 m_is_rising Fu S (by decide) ?_
  intro cdv A outer s H E hr tk po
  exact (JB.one (JS.ret (JE.callB (cr_all rfl) allS G.n_all (by decide +kernel) (JA.cons (JE.ofL (JL.comp (own := [("at", 1)]) rfl S.nd (JI.range G.n_range (JA.cons (JE.op op_sub op_subS (JE.callB call_len call_lenS G.n_len (by decide +kernel) (JA.cons (JE.var 0) JA.nil)) JE.int) JA.nil)) (by exact blkOk_by (N := ["things", "at"]) (sc := defScope s_is_rising) (own := [("at", 1)]) (by decide +kernel)) (fun _ _ _ _ _ => (JG.name 1 S.nd)) (fun _ _ _ _ _ => JTs.nil) (fun _ _ _ _ _ => (JE.cmp (op_ltP hr.units) op_ltPS (JE.ix (JE.var 0) (JE.var 1)) (JE.ix (JE.var 0) (JE.op (op_add.or (op_catA.or op_add_str)) op_addS (JE.var 1) JE.int)) (nomark _))))) JA.nil))))
abbrev s_is_number_below : Stmt := topS 28
theorem ok_is_number_below (Fu : FunD K "is_number_below" "is_number_below" (defArgs s_is_number_below) (defBody s_is_number_below) (defScope s_is_number_below) [] [] f fd) (G : Glb K mg)  : FnOk P w K mg base (L2N.CX P w) 1 f fd ["thing", "limit"] (spF K mg F_is_number_below) := by
  have S : FnScope ["thing", "limit"] ["thing", "limit"] (defScope s_is_number_below) := ⟨rfl, rfl, rfl, by decide +kernel, rfl, by decide +kernel, by decide +kernel⟩
  refine @fn_ok P w K mg base "is_number_below" "is_number_below" (defArgs s_is_number_below) (defBody s_is_number_below) (defScope s_is_number_below) f fd ["thing", "limit"] ["thing", "limit"] 0 m_is_number_below Fu S (by decide) ?_
  intro cdv A outer s H E hr tk po
  exact (JB.cons (JS.if (JW.pt (JW.or (JT.not (JT.val (JE.isinst kitT_int G.n_isinstance G.n_int (by decide +kernel) (JE.var 0)))) (JW.or1 (JT.val (JE.isinst kitT_bool G.n_isinstance G.n_bool (by decide +kernel) (JE.var 0)))))) (JB.one (JS.ret JE.bl)) JB.nil)
    (JB.one (JS.ret (JE.chain op_le op_intBS op_lt op_intBS JE.int (JE.var 0) (JE.var 1)))))
abbrev s_has_kind : Stmt := topS 29
theorem ok_has_kind (Fu : FunD K "has_kind" "has_kind" (defArgs s_has_kind) (defBody s_has_kind) (defScope s_has_kind) [] [] f fd) (G : Glb K mg)  : FnOk P w K mg base (L2N.CX P w) 1 f fd ["thing"] (spF K mg F_has_kind) := by
  have S : FnScope ["thing"] ["thing"] (defScope s_has_kind) := ⟨rfl, rfl, rfl, by decide +kernel, rfl, by decide +kernel, by decide +kernel⟩
  refine @fn_ok P w K mg base "has_kind" "has_kind" (defArgs s_has_kind) (defBody s_has_kind) (defScope s_has_kind) f fd ["thing"] ["thing"] 0 m_has_kind Fu S (by decide) ?_
  intro cdv A outer s H E hr tk po
  exact (JB.one (JS.ret (JE.and (JE.isinst kitT_tuple G.n_isinstance G.n_tuple (by decide +kernel) (JE.var 0)) (JE.and (JE.cmp op_gt op_intBS (JE.callB call_len call_lenS G.n_len (by decide +kernel) (JA.cons (JE.var 0) JA.nil)) JE.int (nomark _)) (JE.one (JE.isinst kitT_str G.n_isinstance G.n_str (by decide +kernel) (JE.ix (JE.var 0) JE.int)))))))
abbrev s_is_barred : Stmt := topS 30
theorem ok_is_barred (Fu : FunD K "is_barred" "is_barred" (defArgs s_is_barred) (defBody s_is_barred) (defScope s_is_barred) [] [] f fd) (G : Glb K mg) (G_is_word : Cal P w K mg base 1 "is_word" ["thing"] F_is_word) (G_is_rising : Cal P w K mg base 1 "is_rising" ["things"] F_is_rising) : FnOk P w K mg base (L2N.CX P w) 2 f fd ["thing"] (spF K mg F_is_barred) := by
  have S : FnScope ["thing", "word"] ["thing"] (defScope s_is_barred) := ⟨rfl, rfl, rfl, by decide +kernel, rfl, by decide +kernel, by decide +kernel⟩
  refine @fn_ok P w K mg base "is_barred" "is_barred" (defArgs s_is_barred) (defBody s_is_barred) (defScope s_is_barred) f fd ["thing", "word"] ["thing"] 1 m_is_barred Fu S (by decide) ?_
  intro cdv A outer s H E hr tk po
  exact (JB.cons (JS.if (JW.pt (JW.or (JT.not (JT.val (JE.isinst kitT_tuple G.n_isinstance G.n_tuple (by decide +kernel) (JE.var 0)))) (JW.or1 (JT.not (JT.chain op_le op_intBS op_le op_intBS JE.int (JE.callB call_len call_lenS G.n_len (by decide +kernel) (JA.cons (JE.var 0) JA.nil)) (JE.globI G.c_MOST_BARRED)))))) (JB.one (JS.ret JE.bl)) JB.nil)
    (JB.one (JS.ret (JE.and (JE.callB (cr_all rfl) allS G.n_all (by decide +kernel) (JA.cons (JE.ofL (JL.comp (own := [("word", 1)]) rfl S.nd (JI.seq (JE.var 0)) (by exact blkOk_by (N := ["thing", "word"]) (sc := defScope s_is_barred) (own := [("word", 1)]) (by decide +kernel)) (fun _ _ _ _ _ => (JG.name 1 S.nd)) (fun _ _ _ _ _ => JTs.nil) (fun _ _ _ _ _ => (JE.callCN G_is_word hr (JR.cons (JE.var 1) JR.nil))))) JA.nil)) (JE.one (JE.callC G_is_rising hr tk (JR.cons (JE.var 0) JR.nil)))))))
abbrev s_is_test : Stmt := topS 31
theorem ok_is_test (Fu : FunD K "is_test" "is_test" (defArgs s_is_test) (defBody s_is_test) (defScope s_is_test) [] [] f fd) (G : Glb K mg) (G_is_word : Cal P w K mg base 1 "is_word" ["thing"] F_is_word) (G_is_number_below : Cal P w K mg base 1 "is_number_below" ["thing", "limit"] F_is_number_below) (G_has_kind : Cal P w K mg base 1 "has_kind" ["thing"] F_has_kind) (G_is_barred : Cal P w K mg base 2 "is_barred" ["thing"] F_is_barred) : FnOk P w K mg base (L2N.CX P w) 3 f fd ["thing", "number"] (spF K mg F_is_test) := by
  have S : FnScope ["thing", "number", "kind"] ["thing", "number"] (defScope s_is_test) := ⟨rfl, rfl, rfl, by decide +kernel, rfl, by decide +kernel, by decide +kernel⟩
  refine @fn_ok P w K mg base "is_test" "is_test" (defArgs s_is_test) (defBody s_is_test) (defScope s_is_test) f fd ["thing", "number", "kind"] ["thing", "number"] 2 m_is_test Fu S (by decide) ?_
  intro cdv A outer s H E hr tk po
  exact (JB.cons (JS.if (JT.not (JT.val (JE.callC G_has_kind hr tk (JR.cons (JE.var 0) JR.nil)))) (JB.one (JS.ret JE.bl)) JB.nil)
    (JB.cons (JS.set 2 S.nd (JE.ix (JE.var 0) JE.int))
    (JB.cons (JS.if (JT.cmp (op_eqP hr.units) op_eqS (JE.var 2) JE.str (nomark _)) (JB.one (JS.ret (JE.cmp (op_eqP hr.units) op_eqS (JE.callB call_len call_lenS G.n_len (by decide +kernel) (JA.cons (JE.var 0) JA.nil)) JE.int (nomark _)))) JB.nil)
    (JB.cons (JS.if (JT.cmp (op_neP hr.units) op_neS (JE.callB call_len call_lenS G.n_len (by decide +kernel) (JA.cons (JE.var 0) JA.nil)) JE.int (nomark _)) (JB.one (JS.ret JE.bl)) JB.nil)
    (JB.cons (JS.if (JT.cmp (op_eqP hr.units) op_eqS (JE.var 2) JE.str (nomark _)) (JB.one (JS.ret (JE.callC G_is_word hr tk (JR.cons (JE.ix (JE.var 0) JE.int) JR.nil)))) JB.nil)
    (JB.cons (JS.if (JT.cmp (op_eqP hr.units) op_eqS (JE.var 2) JE.str (nomark _)) (JB.one (JS.ret (JE.callC G_is_barred hr tk (JR.cons (JE.ix (JE.var 0) JE.int) JR.nil)))) JB.nil)
    (JB.one (JS.ret (JE.and (JE.cmp (op_eqP hr.units) op_eqS (JE.var 2) JE.str (nomark _)) (JE.one (JE.callC G_is_number_below hr tk (JR.cons (JE.ix (JE.var 0) JE.int) (JR.cons (JE.var 1) JR.nil)))))))))))))
abbrev s_is_side : Stmt := topS 32
theorem ok_is_side (Fu : FunD K "is_side" "is_side" (defArgs s_is_side) (defBody s_is_side) (defScope s_is_side) [] [] f fd) (G : Glb K mg)  : FnOk P w K mg base (L2N.CX P w) 1 f fd ["thing"] (spF K mg F_is_side) := by
  have S : FnScope ["thing"] ["thing"] (defScope s_is_side) := ⟨rfl, rfl, rfl, by decide +kernel, rfl, by decide +kernel, by decide +kernel⟩
  refine @fn_ok P w K mg base "is_side" "is_side" (defArgs s_is_side) (defBody s_is_side) (defScope s_is_side) f fd ["thing"] ["thing"] 0 m_is_side Fu S (by decide) ?_
  intro cdv A outer s H E hr tk po
  exact (JB.one (JS.ret (JE.and (JE.isinst kitT_tuple G.n_isinstance G.n_tuple (by decide +kernel) (JE.var 0)) (JE.one (JE.cmp op_le op_intBS (JE.callB call_len call_lenS G.n_len (by decide +kernel) (JA.cons (JE.var 0) JA.nil)) (JE.globI G.c_MOST_TESTS) (nomark _))))))
abbrev s_is_looking : Stmt := topS 33
theorem ok_is_looking (Fu : FunD K "is_looking" "is_looking" (defArgs s_is_looking) (defBody s_is_looking) (defScope s_is_looking) [] [] f fd) (G : Glb K mg) (G_is_test : Cal P w K mg base 3 "is_test" ["thing", "number"] F_is_test) (G_is_side : Cal P w K mg base 1 "is_side" ["thing"] F_is_side) : FnOk P w K mg base (L2N.CX P w) 4 f fd ["fronts", "is_open", "backs"] (spF K mg F_is_looking) := by
  have S : FnScope ["fronts", "is_open", "backs", "number", "test"] ["fronts", "is_open", "backs"] (defScope s_is_looking) := ⟨rfl, rfl, rfl, by decide +kernel, rfl, by decide +kernel, by decide +kernel⟩
  refine @fn_ok P w K mg base "is_looking" "is_looking" (defArgs s_is_looking) (defBody s_is_looking) (defScope s_is_looking) f fd ["fronts", "is_open", "backs", "number", "test"] ["fronts", "is_open", "backs"] 3 m_is_looking Fu S (by decide) ?_
  intro cdv A outer s H E hr tk po
  exact (JB.cons (JS.if (JW.pt (JW.or (JT.not (JT.val (JE.callC G_is_side hr tk (JR.cons (JE.var 0) JR.nil)))) (JW.or (JT.not (JT.val (JE.callC G_is_side hr tk (JR.cons (JE.var 2) JR.nil)))) (JW.or1 (JT.not (JT.val (JE.isinst kitT_bool G.n_isinstance G.n_bool (by decide +kernel) (JE.var 1)))))))) (JB.one (JS.ret JE.bl)) JB.nil)
    (JB.cons (JS.if (JW.pt (JW.and (JT.not (JT.val (JE.var 1))) (JW.and1 (JW.pt (JW.or (JT.cmp op_gt op_intBS (JE.callB call_len call_lenS G.n_len (by decide +kernel) (JA.cons (JE.var 2) JA.nil)) JE.int (nomark _)) (JW.or1 (JT.cmp (op_eqP hr.units) op_eqS (JE.callB call_len call_lenS G.n_len (by decide +kernel) (JA.cons (JE.var 0) JA.nil)) JE.int (nomark _)))))))) (JB.one (JS.ret JE.bl)) JB.nil)
    (JB.one (JS.ret (JE.callB (cr_all rfl) allS G.n_all (by decide +kernel) (JA.cons (JE.ofL (JL.comp (own := [("number", 3), ("test", 4)]) rfl S.nd (JI.enum G.n_enumerate (JA.cons (JE.op (op_add.or (op_catA.or op_add_str)) op_addS (JE.var 0) (JE.var 2)) JA.nil)) (by exact blkOk_by (N := ["fronts", "is_open", "backs", "number", "test"]) (sc := defScope s_is_looking) (own := [("number", 3), ("test", 4)]) (by decide +kernel)) (fun _ _ _ _ _ => (JG.tup rfl (JGs.cons (JG.name 3 S.nd) (JGs.cons (JG.name 4 S.nd) JGs.nil)))) (fun _ _ _ _ _ => JTs.nil) (fun _ _ _ _ _ => (JE.callCN G_is_test hr (JR.cons (JE.var 4) (JR.cons (JE.var 3) JR.nil)))))) JA.nil))))))
abbrev s_is_item : Stmt := topS 34
theorem ok_is_item (Fu : FunD K "is_item" "is_item" (defArgs s_is_item) (defBody s_is_item) (defScope s_is_item) [] [] f fd) (G : Glb K mg) (G_is_word : Cal P w K mg base 1 "is_word" ["thing"] F_is_word) (G_is_number_below : Cal P w K mg base 1 "is_number_below" ["thing", "limit"] F_is_number_below) (G_has_kind : Cal P w K mg base 1 "has_kind" ["thing"] F_has_kind) : FnOk P w K mg base (L2N.CX P w) 2 f fd ["thing", "tests", "is_open"] (spF K mg F_is_item) := by
  have S : FnScope ["thing", "tests", "is_open", "kind"] ["thing", "tests", "is_open"] (defScope s_is_item) := ⟨rfl, rfl, rfl, by decide +kernel, rfl, by decide +kernel, by decide +kernel⟩
  refine @fn_ok P w K mg base "is_item" "is_item" (defArgs s_is_item) (defBody s_is_item) (defScope s_is_item) f fd ["thing", "tests", "is_open", "kind"] ["thing", "tests", "is_open"] 1 m_is_item Fu S (by decide) ?_
  intro cdv A outer s H E hr tk po
  exact (JB.cons (JS.if (JT.not (JT.val (JE.callC G_has_kind hr tk (JR.cons (JE.var 0) JR.nil)))) (JB.one (JS.ret JE.bl)) JB.nil)
    (JB.cons (JS.set 3 S.nd (JE.ix (JE.var 0) JE.int))
    (JB.cons (JS.if (JT.cmp (op_eqP hr.units) op_eqS (JE.var 3) JE.str (nomark _)) (JB.one (JS.ret (JE.and (JE.cmp (op_eqP hr.units) op_eqS (JE.callB call_len call_lenS G.n_len (by decide +kernel) (JA.cons (JE.var 0) JA.nil)) JE.int (nomark _)) (JE.one (JE.var 2))))) JB.nil)
    (JB.cons (JS.if (JT.cmp (op_neP hr.units) op_neS (JE.callB call_len call_lenS G.n_len (by decide +kernel) (JA.cons (JE.var 0) JA.nil)) JE.int (nomark _)) (JB.one (JS.ret JE.bl)) JB.nil)
    (JB.cons (JS.if (JT.cmp (op_eqP hr.units) op_eqS (JE.var 3) JE.str (nomark _)) (JB.one (JS.ret (JE.callC G_is_word hr tk (JR.cons (JE.ix (JE.var 0) JE.int) JR.nil)))) JB.nil)
    (JB.one (JS.ret (JE.and (JE.cmp (op_eqP hr.units) op_eqS (JE.var 3) JE.str (nomark _)) (JE.one (JE.callC G_is_number_below hr tk (JR.cons (JE.ix (JE.var 0) JE.int) (JR.cons (JE.var 1) JR.nil))))))))))))
abbrev s_is_making : Stmt := topS 35
theorem ok_is_making (Fu : FunD K "is_making" "is_making" (defArgs s_is_making) (defBody s_is_making) (defScope s_is_making) [] [] f fd) (G : Glb K mg) (G_is_item : Cal P w K mg base 2 "is_item" ["thing", "tests", "is_open"] F_is_item) : FnOk P w K mg base (L2N.CX P w) 3 f fd ["thing", "tests", "is_open"] (spF K mg F_is_making) := by
  have S : FnScope ["thing", "tests", "is_open", "rests", "item"] ["thing", "tests", "is_open"] (defScope s_is_making) := ⟨rfl, rfl, rfl, by decide +kernel, rfl, by decide +kernel, by decide +kernel⟩
  refine @fn_ok P w K mg base "is_making" "is_making" (defArgs s_is_making) (defBody s_is_making) (defScope s_is_making) f fd ["thing", "tests", "is_open", "rests", "item"] ["thing", "tests", "is_open"] 2 m_is_making Fu S (by decide) ?_
  intro cdv A outer s H E hr tk po
  exact (JB.cons (JS.if (JW.pt (JW.or (JT.not (JT.val (JE.isinst kitT_tuple G.n_isinstance G.n_tuple (by decide +kernel) (JE.var 0)))) (JW.or1 (JT.not (JT.chain op_le op_intBS op_le op_intBS JE.int (JE.callB call_len call_lenS G.n_len (by decide +kernel) (JA.cons (JE.var 0) JA.nil)) (JE.globI G.c_MOST_ITEMS)))))) (JB.one (JS.ret JE.bl)) JB.nil)
    (JB.cons (JS.if (JT.not (JT.val (JE.callB (cr_all rfl) allS G.n_all (by decide +kernel) (JA.cons (JE.ofL (JL.comp (own := [("item", 4)]) rfl S.nd (JI.seq (JE.var 0)) (by exact blkOk_by (N := ["thing", "tests", "is_open", "rests", "item"]) (sc := defScope s_is_making) (own := [("item", 4)]) (by decide +kernel)) (fun _ _ _ _ _ => (JG.name 4 S.nd)) (fun _ _ _ _ _ => JTs.nil) (fun _ _ _ _ _ => (JE.callCN G_is_item hr (JR.cons (JE.var 4) (JR.cons (JE.var 1) (JR.cons (JE.var 2) JR.nil))))))) JA.nil)))) (JB.one (JS.ret JE.bl)) JB.nil)
    (JB.cons (JS.set 3 S.nd (JE.callB call_len call_lenS G.n_len (by decide +kernel) (JA.cons (JE.ofL (JL.comp (own := [("item", 4)]) rfl S.nd (JI.seq (JE.var 0)) (by exact blkOk_by (N := ["thing", "tests", "is_open", "rests", "item"]) (sc := defScope s_is_making) (own := [("item", 4)]) (by decide +kernel)) (fun _ _ _ _ _ => (JG.name 4 S.nd)) (fun _ _ _ _ _ => JTs.one (JT.cmp (op_eqP hr.units) op_eqS (JE.ix (JE.var 4) JE.int) JE.str (nomark _))) (fun _ _ _ _ _ => (JE.var 4)))) JA.nil)))
    (JB.one (JS.ret (JE.and (JE.cmp op_le op_intBS (JE.var 3) JE.int (nomark _)) (JE.one (JE.cmp op_lt op_intBS (JE.var 3) (JE.callB call_len call_lenS G.n_len (by decide +kernel) (JA.cons (JE.var 0) JA.nil)) (nomark _)))))))))
abbrev s_is_rule : Stmt := topS 36
theorem ok_is_rule (Fu : FunD K "is_rule" "is_rule" (defArgs s_is_rule) (defBody s_is_rule) (defScope s_is_rule) [] [] f fd) (G : Glb K mg) (G_is_looking : Cal P w K mg base 4 "is_looking" ["fronts", "is_open", "backs"] F_is_looking) (G_is_making : Cal P w K mg base 3 "is_making" ["thing", "tests", "is_open"] F_is_making) : FnOk P w K mg base (L2N.CX P w) 5 f fd ["thing"] (spF K mg F_is_rule) := by
  have S : FnScope ["thing", "fronts", "is_open", "backs", "making"] ["thing"] (defScope s_is_rule) := ⟨rfl, rfl, rfl, by decide +kernel, rfl, by decide +kernel, by decide +kernel⟩
  refine @fn_ok P w K mg base "is_rule" "is_rule" (defArgs s_is_rule) (defBody s_is_rule) (defScope s_is_rule) f fd ["thing", "fronts", "is_open", "backs", "making"] ["thing"] 4 m_is_rule Fu S (by decide) ?_
  intro cdv A outer s H E hr tk po
  exact (JB.cons (JS.if (JW.pt (JW.or (JT.not (JT.val (JE.isinst kitT_tuple G.n_isinstance G.n_tuple (by decide +kernel) (JE.var 0)))) (JW.or1 (JT.cmp (op_neP hr.units) op_neS (JE.callB call_len call_lenS G.n_len (by decide +kernel) (JA.cons (JE.var 0) JA.nil)) JE.int (nomark _))))) (JB.one (JS.ret JE.bl)) JB.nil)
    (JB.cons (JS.asg (JE.var 0) (JG.tup rfl (JGs.cons (JG.name 1 S.nd) (JGs.cons (JG.name 2 S.nd) (JGs.cons (JG.name 3 S.nd) (JGs.cons (JG.name 4 S.nd) JGs.nil))))))
    (JB.cons (JS.if (JT.not (JT.val (JE.callC G_is_looking hr tk (JR.cons (JE.var 1) (JR.cons (JE.var 2) (JR.cons (JE.var 3) JR.nil)))))) (JB.one (JS.ret JE.bl)) JB.nil)
    (JB.one (JS.ret (JE.callC G_is_making hr tk (JR.cons (JE.var 4) (JR.cons (JE.op (op_add.or (op_catA.or op_add_str)) op_addS (JE.callB call_len call_lenS G.n_len (by decide +kernel) (JA.cons (JE.var 1) JA.nil)) (JE.callB call_len call_lenS G.n_len (by decide +kernel) (JA.cons (JE.var 3) JA.nil))) (JR.cons (JE.var 2) JR.nil)))))))))
abbrev s_is_script : Stmt := topS 37
theorem ok_is_script (Fu : FunD K "is_script" "is_script" (defArgs s_is_script) (defBody s_is_script) (defScope s_is_script) [] [] f fd) (G : Glb K mg) (G_is_rule : Cal P w K mg base 5 "is_rule" ["thing"] F_is_rule) : FnOk P w K mg base (L2N.CX P w) 6 f fd ["thing"] (spF K mg F_is_script) := by
  have S : FnScope ["thing", "rule"] ["thing"] (defScope s_is_script) := ⟨rfl, rfl, rfl, by decide +kernel, rfl, by decide +kernel, by decide +kernel⟩
  refine @fn_ok P w K mg base "is_script" "is_script" (defArgs s_is_script) (defBody s_is_script) (defScope s_is_script) f fd ["thing", "rule"] ["thing"] 5 m_is_script Fu S (by decide) ?_
  intro cdv A outer s H E hr tk po
  exact (JB.cons (JS.if (JW.pt (JW.or (JT.not (JT.val (JE.isinst kitT_tuple G.n_isinstance G.n_tuple (by decide +kernel) (JE.var 0)))) (JW.or1 (JT.cmp op_gt op_intBS (JE.callB call_len call_lenS G.n_len (by decide +kernel) (JA.cons (JE.var 0) JA.nil)) (JE.globI G.c_MOST_RULES) (nomark _))))) (JB.one (JS.ret JE.bl)) JB.nil)
    (JB.one (JS.ret (JE.callB (cr_all rfl) allS G.n_all (by decide +kernel) (JA.cons (JE.ofL (JL.comp (own := [("rule", 1)]) rfl S.nd (JI.seq (JE.var 0)) (by exact blkOk_by (N := ["thing", "rule"]) (sc := defScope s_is_script) (own := [("rule", 1)]) (by decide +kernel)) (fun _ _ _ _ _ => (JG.name 1 S.nd)) (fun _ _ _ _ _ => JTs.nil) (fun _ _ _ _ _ => (JE.callCN G_is_rule hr (JR.cons (JE.var 1) JR.nil))))) JA.nil)))))
abbrev s_need_rule : Stmt := topS 38
theorem ok_need_rule (Fu : FunD K "need_rule" "need_rule" (defArgs s_need_rule) (defBody s_need_rule) (defScope s_need_rule) [] [] f fd) (G : Glb K mg) (G_is_rule : Cal P w K mg base 5 "is_rule" ["thing"] F_is_rule) : FnOk P w K mg base (L2N.CX P w) 6 f fd ["thing"] (spF K mg F_need_rule) := by
  have S : FnScope ["thing"] ["thing"] (defScope s_need_rule) := ⟨rfl, rfl, rfl, by decide +kernel, rfl, by decide +kernel, by decide +kernel⟩
  refine @fn_ok P w K mg base "need_rule" "need_rule" (defArgs s_need_rule) (defBody s_need_rule) (defScope s_need_rule) f fd ["thing"] ["thing"] 5 m_need_rule Fu S (by decide) ?_
  intro cdv A outer s H E hr tk po
  exact (JB.one (JS.if (JT.not (JT.val (JE.callC G_is_rule hr tk (JR.cons (JE.var 0) JR.nil)))) (JB.one (JS.raiseK rfl tk G.x_NoRule)) JB.nil))
abbrev s_need_script : Stmt := topS 39
theorem ok_need_script (Fu : FunD K "need_script" "need_script" (defArgs s_need_script) (defBody s_need_script) (defScope s_need_script) [] [] f fd) (G : Glb K mg) (G_is_script : Cal P w K mg base 6 "is_script" ["thing"] F_is_script) : FnOk P w K mg base (L2N.CX P w) 7 f fd ["thing"] (spF K mg F_need_script) := by
  have S : FnScope ["thing"] ["thing"] (defScope s_need_script) := ⟨rfl, rfl, rfl, by decide +kernel, rfl, by decide +kernel, by decide +kernel⟩
  refine @fn_ok P w K mg base "need_script" "need_script" (defArgs s_need_script) (defBody s_need_script) (defScope s_need_script) f fd ["thing"] ["thing"] 6 m_need_script Fu S (by decide) ?_
  intro cdv A outer s H E hr tk po
  exact (JB.one (JS.if (JT.not (JT.val (JE.callC G_is_script hr tk (JR.cons (JE.var 0) JR.nil)))) (JB.one (JS.raiseK rfl tk G.x_NoScript)) JB.nil))
abbrev s_text_of_test : Stmt := topS 43
theorem ok_text_of_test (Fu : FunD K "text_of_test" "text_of_test" (defArgs s_text_of_test) (defBody s_text_of_test) (defScope s_text_of_test) [] [] f fd) (G : Glb K mg)  : FnOk P w K mg base (L2N.CX P w) 1 f fd ["test"] (spF K mg F_text_of_test) := by
  have S : FnScope ["test", "kind"] ["test"] (defScope s_text_of_test) := ⟨rfl, rfl, rfl, by decide +kernel, rfl, by decide +kernel, by decide +kernel⟩
  refine @fn_ok P w K mg base "text_of_test" "text_of_test" (defArgs s_text_of_test) (defBody s_text_of_test) (defScope s_text_of_test) f fd ["test", "kind"] ["test"] 0 m_text_of_test Fu S (by decide) ?_
  intro cdv A outer s H E hr tk po
  exact (JB.cons (JS.set 1 S.nd (JE.ix (JE.var 0) JE.int))
    (JB.cons (JS.if (JT.cmp (op_eqP hr.units) op_eqS (JE.var 1) JE.str (nomark _)) (JB.one (JS.ret (JE.ix (JE.var 0) JE.int))) JB.nil)
    (JB.cons (JS.if (JT.cmp (op_eqP hr.units) op_eqS (JE.var 1) JE.str (nomark _)) (JB.one (JS.ret JE.str)) JB.nil)
    (JB.cons (JS.if (JT.cmp (op_eqP hr.units) op_eqS (JE.var 1) JE.str (nomark _)) (JB.one (JS.ret (JE.op (op_add.or (op_catA.or op_add_str)) op_addS JE.str (JE.sm PySem.F.slot_str_join PySem.F.type_str_join mt_join joinS JE.str (JE.ix (JE.var 0) JE.int))))) JB.nil)
    (JB.one (JS.ret (JE.fstr (JE.ix (JE.var 0) JE.int))))))))
abbrev s_text_of_item : Stmt := topS 44
theorem ok_text_of_item (Fu : FunD K "text_of_item" "text_of_item" (defArgs s_text_of_item) (defBody s_text_of_item) (defScope s_text_of_item) [] [] f fd) (G : Glb K mg)  : FnOk P w K mg base (L2N.CX P w) 1 f fd ["item"] (spF K mg F_text_of_item) := by
  have S : FnScope ["item"] ["item"] (defScope s_text_of_item) := ⟨rfl, rfl, rfl, by decide +kernel, rfl, by decide +kernel, by decide +kernel⟩
  refine @fn_ok P w K mg base "text_of_item" "text_of_item" (defArgs s_text_of_item) (defBody s_text_of_item) (defScope s_text_of_item) f fd ["item"] ["item"] 0 m_text_of_item Fu S (by decide) ?_
  intro cdv A outer s H E hr tk po
  exact (JB.cons (JS.if (JT.cmp (op_eqP hr.units) op_eqS (JE.ix (JE.var 0) JE.int) JE.str (nomark _)) (JB.one (JS.ret (JE.ix (JE.var 0) JE.int))) JB.nil)
    (JB.cons (JS.if (JT.cmp (op_eqP hr.units) op_eqS (JE.ix (JE.var 0) JE.int) JE.str (nomark _)) (JB.one (JS.ret (JE.fstr (JE.ix (JE.var 0) JE.int)))) JB.nil)
    (JB.one (JS.ret (JE.globS G.s_REST)))))
abbrev s_written_rule : Stmt := topS 45
theorem ok_written_rule (Fu : FunD K "written_rule" "written_rule" (defArgs s_written_rule) (defBody s_written_rule) (defScope s_written_rule) [] [] f fd) (G : Glb K mg) (G_text_of_test : Cal P w K mg base 1 "text_of_test" ["test"] F_text_of_test) (G_text_of_item : Cal P w K mg base 1 "text_of_item" ["item"] F_text_of_item) : FnOk P w K mg base (L2N.CX P w) 2 f fd ["rule"] (spF K mg F_written_rule) := by
  have S : FnScope ["rule", "fronts", "is_open", "backs", "making", "parts", "test", "item"] ["rule"] (defScope s_written_rule) := ⟨rfl, rfl, rfl, by decide +kernel, rfl, by decide +kernel, by decide +kernel⟩
  refine @fn_ok P w K mg base "written_rule" "written_rule" (defArgs s_written_rule) (defBody s_written_rule) (defScope s_written_rule) f fd ["rule", "fronts", "is_open", "backs", "making", "parts", "test", "item"] ["rule"] 1 m_written_rule Fu S (by decide) ?_
  intro cdv A outer s H E hr tk po
  exact (JB.cons (JS.asg (JE.var 0) (JG.tup rfl (JGs.cons (JG.name 1 S.nd) (JGs.cons (JG.name 2 S.nd) (JGs.cons (JG.name 3 S.nd) (JGs.cons (JG.name 4 S.nd) JGs.nil))))))
    (JB.cons (JS.setComp 5 (own := [("test", 6)]) rfl S.nd (JI.seq (JE.var 1)) (by exact blkOk_by (N := ["rule", "fronts", "is_open", "backs", "making", "parts", "test", "item"]) (sc := defScope s_written_rule) (own := [("test", 6)]) (by decide +kernel)) (fun _ _ _ _ _ => (JG.name 6 S.nd)) (fun _ _ _ _ _ => JTs.nil) (fun _ _ _ _ _ => (JE.callCN G_text_of_test hr (JR.cons (JE.var 6) JR.nil))))
    (JB.cons (JS.if (JT.val (JE.var 2)) (JB.one (JS.mut 5 PySem.F.slot_list_append PySem.F.type_list_append mt_append appendS (JA.cons (JE.globS G.s_REST) JA.nil))) JB.nil)
    (JB.cons (JS.mut 5 PySem.F.slot_list_extend PySem.F.type_list_extend mt_extendA extendS (JA.cons (JE.ofL (JL.comp (own := [("test", 6)]) rfl S.nd (JI.seq (JE.var 3)) (by exact blkOk_by (N := ["rule", "fronts", "is_open", "backs", "making", "parts", "test", "item"]) (sc := defScope s_written_rule) (own := [("test", 6)]) (by decide +kernel)) (fun _ _ _ _ _ => (JG.name 6 S.nd)) (fun _ _ _ _ _ => JTs.nil) (fun _ _ _ _ _ => (JE.callCN G_text_of_test hr (JR.cons (JE.var 6) JR.nil))))) JA.nil))
    (JB.cons (JS.mut 5 PySem.F.slot_list_append PySem.F.type_list_append mt_append appendS (JA.cons JE.str JA.nil))
    (JB.cons (JS.mut 5 PySem.F.slot_list_extend PySem.F.type_list_extend mt_extendA extendS (JA.cons (JE.ofL (JL.comp (own := [("item", 7)]) rfl S.nd (JI.seq (JE.var 4)) (by exact blkOk_by (N := ["rule", "fronts", "is_open", "backs", "making", "parts", "test", "item"]) (sc := defScope s_written_rule) (own := [("item", 7)]) (by decide +kernel)) (fun _ _ _ _ _ => (JG.name 7 S.nd)) (fun _ _ _ _ _ => JTs.nil) (fun _ _ _ _ _ => (JE.callCN G_text_of_item hr (JR.cons (JE.var 7) JR.nil))))) JA.nil))
    (JB.one (JS.ret (JE.sm PySem.F.slot_str_join PySem.F.type_str_join mt_join joinS JE.str (JE.var 5))))))))))
abbrev s_written_script : Stmt := topS 46
theorem ok_written_script (Fu : FunD K "written_script" "written_script" (defArgs s_written_script) (defBody s_written_script) (defScope s_written_script) [] [] f fd) (G : Glb K mg) (G_written_rule : Cal P w K mg base 2 "written_rule" ["rule"] F_written_rule) : FnOk P w K mg base (L2N.CX P w) 3 f fd ["script"] (spF K mg F_written_script) := by
  have S : FnScope ["script", "rule"] ["script"] (defScope s_written_script) := ⟨rfl, rfl, rfl, by decide +kernel, rfl, by decide +kernel, by decide +kernel⟩
  refine @fn_ok P w K mg base "written_script" "written_script" (defArgs s_written_script) (defBody s_written_script) (defScope s_written_script) f fd ["script", "rule"] ["script"] 2 m_written_script Fu S (by decide) ?_
  intro cdv A outer s H E hr tk po
  exact (JB.one (JS.ret (JE.sm PySem.F.slot_str_join PySem.F.type_str_join mt_join joinS JE.str (JE.ofL (JL.comp (own := [("rule", 1)]) rfl S.nd (JI.seq (JE.var 0)) (by exact blkOk_by (N := ["script", "rule"]) (sc := defScope s_written_script) (own := [("rule", 1)]) (by decide +kernel)) (fun _ _ _ _ _ => (JG.name 1 S.nd)) (fun _ _ _ _ _ => JTs.nil) (fun _ _ _ _ _ => (JE.op (op_add.or (op_catA.or op_add_str)) op_addS (JE.callCN G_written_rule hr (JR.cons (JE.var 1) JR.nil)) JE.str)))))))
abbrev s_test_of : Stmt := topS 47
theorem ok_test_of (Fu : FunD K "test_of" "test_of" (defArgs s_test_of) (defBody s_test_of) (defScope s_test_of) [] [] f fd) (G : Glb K mg)  : FnOk P w K mg base (L2N.CX P w) 1 f fd ["part"] (spF K mg F_test_of) := by
  have S : FnScope ["part"] ["part"] (defScope s_test_of) := ⟨rfl, rfl, rfl, by decide +kernel, rfl, by decide +kernel, by decide +kernel⟩
  refine @fn_ok P w K mg base "test_of" "test_of" (defArgs s_test_of) (defBody s_test_of) (defScope s_test_of) f fd ["part"] ["part"] 0 m_test_of Fu S (by decide) ?_
  intro cdv A outer s H E hr tk po
  exact (JB.cons (JS.if (JT.cmp (op_eqP hr.units) op_eqS (JE.var 0) JE.str (nomark _)) (JB.one (JS.ret (JE.tup (JA.cons JE.str JA.nil)))) JB.nil)
    (JB.cons (JS.if (JT.val (JE.sm PySem.F.slot_str_startswith PySem.F.type_str_startswith mt_startswith startsS (JE.var 0) JE.str)) (JB.one (JS.ret (JE.tup (JA.cons JE.str (JA.cons (JE.callT call_tuple_of tupleS G.n_tuple (by decide +kernel) (JA.cons (JE.sm PySem.F.slot_str_split PySem.F.type_str_split mt_split splitS (JE.slice (JE.var 0) (JO.at JE.int) JO.no) JE.str) JA.nil)) JA.nil))))) JB.nil)
    (JB.cons (JS.if (JT.val (JE.sm PySem.F.slot_str_startswith PySem.F.type_str_startswith mt_startswith startsS (JE.var 0) JE.str)) (JB.one (JS.ret (JE.tup (JA.cons JE.str (JA.cons (JE.sm PySem.F.slot_str_find PySem.F.type_str_find mt_find findS (JE.globS G.s_FIGURES) (JE.slice (JE.var 0) (JO.at JE.int) JO.no)) JA.nil))))) JB.nil)
    (JB.one (JS.ret (JE.tup (JA.cons JE.str (JA.cons (JE.var 0) JA.nil))))))))
abbrev s_item_of : Stmt := topS 48
theorem ok_item_of (Fu : FunD K "item_of" "item_of" (defArgs s_item_of) (defBody s_item_of) (defScope s_item_of) [] [] f fd) (G : Glb K mg)  : FnOk P w K mg base (L2N.CX P w) 1 f fd ["part"] (spF K mg F_item_of) := by
  have S : FnScope ["part"] ["part"] (defScope s_item_of) := ⟨rfl, rfl, rfl, by decide +kernel, rfl, by decide +kernel, by decide +kernel⟩
  refine @fn_ok P w K mg base "item_of" "item_of" (defArgs s_item_of) (defBody s_item_of) (defScope s_item_of) f fd ["part"] ["part"] 0 m_item_of Fu S (by decide) ?_
  intro cdv A outer s H E hr tk po
  exact (JB.cons (JS.if (JT.cmp (op_eqP hr.units) op_eqS (JE.var 0) (JE.globS G.s_REST) (nomark _)) (JB.one (JS.ret (JE.tup (JA.cons JE.str JA.nil)))) JB.nil)
    (JB.cons (JS.if (JT.val (JE.sm PySem.F.slot_str_startswith PySem.F.type_str_startswith mt_startswith startsS (JE.var 0) JE.str)) (JB.one (JS.ret (JE.tup (JA.cons JE.str (JA.cons (JE.sm PySem.F.slot_str_find PySem.F.type_str_find mt_find findS (JE.globS G.s_FIGURES) (JE.slice (JE.var 0) (JO.at JE.int) JO.no)) JA.nil))))) JB.nil)
    (JB.one (JS.ret (JE.tup (JA.cons JE.str (JA.cons (JE.var 0) JA.nil)))))))
abbrev s_rule_of : Stmt := topS 49
theorem ok_rule_of (Fu : FunD K "rule_of" "rule_of" (defArgs s_rule_of) (defBody s_rule_of) (defScope s_rule_of) [] [] f fd) (G : Glb K mg) (G_test_of : Cal P w K mg base 1 "test_of" ["part"] F_test_of) (G_item_of : Cal P w K mg base 1 "item_of" ["part"] F_item_of) : FnOk P w K mg base (L2N.CX P w) 2 f fd ["line"] (spF K mg F_rule_of) := by
  have S : FnScope ["line", "looking", "_", "making", "parts", "is_open", "at", "fronts", "backs", "part"] ["line"] (defScope s_rule_of) := ⟨rfl, rfl, rfl, by decide +kernel, rfl, by decide +kernel, by decide +kernel⟩
  refine @fn_ok P w K mg base "rule_of" "rule_of" (defArgs s_rule_of) (defBody s_rule_of) (defScope s_rule_of) f fd ["line", "looking", "_", "making", "parts", "is_open", "at", "fronts", "backs", "part"] ["line"] 1 m_rule_of Fu S (by decide) ?_
  intro cdv A outer s H E hr tk po
  exact (JB.cons (JS.asg (JE.sm PySem.F.slot_str_partition PySem.F.type_str_partition mt_partition partS (JE.var 0) JE.str) (JG.tup rfl (JGs.cons (JG.name 1 S.nd) (JGs.cons (JG.name 2 S.nd) (JGs.cons (JG.name 3 S.nd) JGs.nil)))))
    (JB.cons (JS.set 4 S.nd (JE.sm PySem.F.slot_str_split PySem.F.type_str_split mt_split splitS (JE.var 1) JE.str))
    (JB.cons (JS.set 5 S.nd (JE.cmp (op_inP hr.units) op_inS (JE.globS G.s_REST) (JE.var 4) rfl))
    (JB.cons (JS.set 6 S.nd (JE.ifE (JT.val (JE.var 5)) (JE.dm PySem.F.slot_list_index PySem.F.type_list_index (mt_idxD hr.units) idxS (JE.var 4) (JA.cons (JE.globS G.s_REST) JA.nil)) (JE.callB call_len call_lenS G.n_len (by decide +kernel) (JA.cons (JE.var 4) JA.nil))))
    (JB.cons (JS.set 7 S.nd (JE.callT call_tuple_of tupleS G.n_tuple (by decide +kernel) (JA.cons (JE.ofL (JL.comp (own := [("part", 9)]) rfl S.nd (JI.seq (JE.slice (JE.var 4) JO.no (JO.at (JE.var 6)))) (by exact blkOk_by (N := ["line", "looking", "_", "making", "parts", "is_open", "at", "fronts", "backs", "part"]) (sc := defScope s_rule_of) (own := [("part", 9)]) (by decide +kernel)) (fun _ _ _ _ _ => (JG.name 9 S.nd)) (fun _ _ _ _ _ => JTs.nil) (fun _ _ _ _ _ => (JE.callCN G_test_of hr (JR.cons (JE.var 9) JR.nil))))) JA.nil)))
    (JB.cons (JS.set 8 S.nd (JE.callT call_tuple_of tupleS G.n_tuple (by decide +kernel) (JA.cons (JE.ofL (JL.comp (own := [("part", 9)]) rfl S.nd (JI.seq (JE.slice (JE.var 4) (JO.at (JE.op (op_add.or (op_catA.or op_add_str)) op_addS (JE.var 6) JE.int)) JO.no)) (by exact blkOk_by (N := ["line", "looking", "_", "making", "parts", "is_open", "at", "fronts", "backs", "part"]) (sc := defScope s_rule_of) (own := [("part", 9)]) (by decide +kernel)) (fun _ _ _ _ _ => (JG.name 9 S.nd)) (fun _ _ _ _ _ => JTs.nil) (fun _ _ _ _ _ => (JE.callCN G_test_of hr (JR.cons (JE.var 9) JR.nil))))) JA.nil)))
    (JB.one (JS.ret (JE.tup (JA.cons (JE.var 7) (JA.cons (JE.var 5) (JA.cons (JE.var 8) (JA.cons (JE.callT call_tuple_of tupleS G.n_tuple (by decide +kernel) (JA.cons (JE.ofL (JL.comp (own := [("part", 9)]) rfl S.nd (JI.seq (JE.sm PySem.F.slot_str_split PySem.F.type_str_split mt_split splitS (JE.var 3) JE.str)) (by exact blkOk_by (N := ["line", "looking", "_", "making", "parts", "is_open", "at", "fronts", "backs", "part"]) (sc := defScope s_rule_of) (own := [("part", 9)]) (by decide +kernel)) (fun _ _ _ _ _ => (JG.name 9 S.nd)) (fun _ _ _ _ _ => JTs.nil) (fun _ _ _ _ _ => (JE.callCN G_item_of hr (JR.cons (JE.var 9) JR.nil))))) JA.nil)) JA.nil)))))))))))))
abbrev s_rule_text : Stmt := topS 50
theorem ok_rule_text (Fu : FunD K "rule_text" "rule_text" (defArgs s_rule_text) (defBody s_rule_text) (defScope s_rule_text) [] [] f fd) (G : Glb K mg) (G_need_rule : Cal P w K mg base 6 "need_rule" ["thing"] F_need_rule) (G_written_rule : Cal P w K mg base 2 "written_rule" ["rule"] F_written_rule) : FnOk P w K mg base (L2N.CX P w) 7 f fd ["rule"] (spF K mg F_rule_text) := by
  have S : FnScope ["rule"] ["rule"] (defScope s_rule_text) := ⟨rfl, rfl, rfl, by decide +kernel, rfl, by decide +kernel, by decide +kernel⟩
  refine @fn_ok P w K mg base "rule_text" "rule_text" (defArgs s_rule_text) (defBody s_rule_text) (defScope s_rule_text) f fd ["rule"] ["rule"] 6 m_rule_text Fu S (by decide) ?_
  intro cdv A outer s H E hr tk po
  exact (JB.cons (JS.expr (JE.callC G_need_rule hr tk (JR.cons (JE.var 0) JR.nil)))
    (JB.one (JS.ret (JE.callC G_written_rule hr tk (JR.cons (JE.var 0) JR.nil)))))
abbrev s_script_text : Stmt := topS 51
theorem ok_script_text (Fu : FunD K "script_text" "script_text" (defArgs s_script_text) (defBody s_script_text) (defScope s_script_text) [] [] f fd) (G : Glb K mg) (G_need_script : Cal P w K mg base 7 "need_script" ["thing"] F_need_script) (G_written_script : Cal P w K mg base 3 "written_script" ["script"] F_written_script) : FnOk P w K mg base (L2N.CX P w) 8 f fd ["script"] (spF K mg F_script_text) := by
  have S : FnScope ["script"] ["script"] (defScope s_script_text) := ⟨rfl, rfl, rfl, by decide +kernel, rfl, by decide +kernel, by decide +kernel⟩
  refine @fn_ok P w K mg base "script_text" "script_text" (defArgs s_script_text) (defBody s_script_text) (defScope s_script_text) f fd ["script"] ["script"] 7 m_script_text Fu S (by decide) ?_
  intro cdv A outer s H E hr tk po
  exact (JB.cons (JS.expr (JE.callC G_need_script hr tk (JR.cons (JE.var 0) JR.nil)))
    (JB.one (JS.ret (JE.callC G_written_script hr tk (JR.cons (JE.var 0) JR.nil)))))
abbrev s_read_rule : Stmt := topS 52
theorem ok_read_rule (Fu : FunD K "read_rule" "read_rule" (defArgs s_read_rule) (defBody s_read_rule) (defScope s_read_rule) [] [] f fd) (G : Glb K mg) (G_is_rule : Cal P w K mg base 5 "is_rule" ["thing"] F_is_rule) (G_written_rule : Cal P w K mg base 2 "written_rule" ["rule"] F_written_rule) (G_rule_of : Cal P w K mg base 2 "rule_of" ["line"] F_rule_of) : FnOk P w K mg base (L2N.CX P w) 6 f fd ["text"] (spF K mg F_read_rule) := by
  have S : FnScope ["text", "rule"] ["text"] (defScope s_read_rule) := ⟨rfl, rfl, rfl, by decide +kernel, rfl, by decide +kernel, by decide +kernel⟩
  refine @fn_ok P w K mg base "read_rule" "read_rule" (defArgs s_read_rule) (defBody s_read_rule) (defScope s_read_rule) f fd ["text", "rule"] ["text"] 5 m_read_rule Fu S (by decide) ?_
  intro cdv A outer s H E hr tk po
  exact (JB.cons (JS.if (JT.not (JT.val (JE.isinst kitT_str G.n_isinstance G.n_str (by decide +kernel) (JE.var 0)))) (JB.one (JS.raiseK rfl tk G.x_NoText)) JB.nil)
    (JB.cons (JS.set 1 S.nd (JE.callC G_rule_of hr tk (JR.cons (JE.var 0) JR.nil)))
    (JB.cons (JS.if (JW.pt (JW.or (JT.not (JT.val (JE.callC G_is_rule hr tk (JR.cons (JE.var 1) JR.nil)))) (JW.or1 (JT.cmp (op_neP hr.units) op_neS (JE.callC G_written_rule hr tk (JR.cons (JE.var 1) JR.nil)) (JE.var 0) (nomark _))))) (JB.one (JS.raiseK rfl tk G.x_NoText)) JB.nil)
    (JB.one (JS.ret (JE.var 1))))))
abbrev s_read_script : Stmt := topS 53
theorem ok_read_script (Fu : FunD K "read_script" "read_script" (defArgs s_read_script) (defBody s_read_script) (defScope s_read_script) [] [] f fd) (G : Glb K mg) (G_is_script : Cal P w K mg base 6 "is_script" ["thing"] F_is_script) (G_written_script : Cal P w K mg base 3 "written_script" ["script"] F_written_script) (G_rule_of : Cal P w K mg base 2 "rule_of" ["line"] F_rule_of) : FnOk P w K mg base (L2N.CX P w) 7 f fd ["text"] (spF K mg F_read_script) := by
  have S : FnScope ["text", "script", "line"] ["text"] (defScope s_read_script) := ⟨rfl, rfl, rfl, by decide +kernel, rfl, by decide +kernel, by decide +kernel⟩
  refine @fn_ok P w K mg base "read_script" "read_script" (defArgs s_read_script) (defBody s_read_script) (defScope s_read_script) f fd ["text", "script", "line"] ["text"] 6 m_read_script Fu S (by decide) ?_
  intro cdv A outer s H E hr tk po
  exact (JB.cons (JS.if (JT.not (JT.val (JE.isinst kitT_str G.n_isinstance G.n_str (by decide +kernel) (JE.var 0)))) (JB.one (JS.raiseK rfl tk G.x_NoText)) JB.nil)
    (JB.cons (JS.set 1 S.nd (JE.callT call_tuple_of tupleS G.n_tuple (by decide +kernel) (JA.cons (JE.ofL (JL.comp (own := [("line", 2)]) rfl S.nd (JI.seq (JE.slice (JE.sm PySem.F.slot_str_split PySem.F.type_str_split mt_split splitS (JE.var 0) JE.str) JO.no (JO.at (JE.un un_neg un_negS JE.int)))) (by exact blkOk_by (N := ["text", "script", "line"]) (sc := defScope s_read_script) (own := [("line", 2)]) (by decide +kernel)) (fun _ _ _ _ _ => (JG.name 2 S.nd)) (fun _ _ _ _ _ => JTs.nil) (fun _ _ _ _ _ => (JE.callCN G_rule_of hr (JR.cons (JE.var 2) JR.nil))))) JA.nil)))
    (JB.cons (JS.if (JW.pt (JW.or (JT.not (JT.val (JE.callC G_is_script hr tk (JR.cons (JE.var 1) JR.nil)))) (JW.or1 (JT.cmp (op_neP hr.units) op_neS (JE.callC G_written_script hr tk (JR.cons (JE.var 1) JR.nil)) (JE.var 0) (nomark _))))) (JB.one (JS.raiseK rfl tk G.x_NoText)) JB.nil)
    (JB.one (JS.ret (JE.var 1))))))
abbrev s_law_draw : Stmt := topS 55
theorem ok_law_draw (Fu : FunD K "_law_draw" "_law_draw" (defArgs s_law_draw) (defBody s_law_draw) (defScope s_law_draw) [] [] f fd) (G : Glb K mg)  : FnOk P w K mg base (L2N.CX P w) 1 f fd ["_law_script_here", "_law_town", "_law_many"] (spF K mg F_law_draw) := by
  have S : FnScope ["_law_script_here", "_law_town", "_law_many", "_law_one", "_law_at", "_law_mixed"] ["_law_script_here", "_law_town", "_law_many"] (defScope s_law_draw) := ⟨rfl, rfl, rfl, by decide +kernel, rfl, by decide +kernel, by decide +kernel⟩
  refine @fn_ok P w K mg base "_law_draw" "_law_draw" (defArgs s_law_draw) (defBody s_law_draw) (defScope s_law_draw) f fd ["_law_script_here", "_law_town", "_law_many", "_law_one", "_law_at", "_law_mixed"] ["_law_script_here", "_law_town", "_law_many"] 0 m_law_draw Fu S (by decide) ?_
  intro cdv A outer s H E hr tk po
  exact (JB.cons (JS.if (JT.cmp op_gt op_intBS (JE.ixO 1 JE.int) JE.int (nomark _)) (JB.cons (JS.set 3 S.nd (JE.op op_mod op_modS (JE.ixO 1 JE.int) (JE.var 2)))
    (JB.cons (JS.setIx 1 (JE.op op_fdiv op_fdivS (JE.ixO 1 JE.int) (JE.var 2)) JE.int)
    (JB.one (JS.ret (JE.var 3))))) JB.nil)
    (JB.cons (JS.set 4 S.nd (JE.ixO 1 JE.int))
    (JB.cons (JS.augIx 1 JE.int JE.int)
    (JB.cons (JS.if (JT.cmp (op_eqP hr.units) op_eqS (JE.var 0) (JE.ofL (JL.disp JA.nil)) (nomark _)) (JB.one (JS.ret (JE.op op_mod op_modS (JE.var 4) (JE.var 2)))) JB.nil)
    (JB.cons (JS.if (JW.pt (JW.and (JT.cmp op_lt op_intBS (JE.var 4) (JE.callB call_len call_lenS G.n_len (by decide +kernel) (JA.cons (JE.var 0) JA.nil)) (nomark _)) (JW.and1 (JT.cmp op_ge op_intBS (JE.ix (JE.var 0) (JE.var 4)) (JE.op op_pow op_powS JE.int JE.int) (nomark _))))) (JB.cons (JS.setIx 1 (JE.op op_mod op_modS (JE.op op_fdiv op_fdivS (JE.ix (JE.var 0) (JE.var 4)) (JE.var 2)) (JE.op op_mulW op_mulWS (JE.op op_pow op_powS JE.int JE.int) (JE.op op_pow op_powS JE.int JE.int))) JE.int)
    (JB.one (JS.ret (JE.op op_mod op_modS (JE.ix (JE.var 0) (JE.var 4)) (JE.var 2))))) JB.nil)
    (JB.cons (JS.set 5 S.nd (JE.op op_mod op_modS (JE.op (op_add.or (op_catA.or op_add_str)) op_addS (JE.op (op_add.or (op_catA.or op_add_str)) op_addS (JE.op op_mul op_mulS (JE.ix (JE.var 0) (JE.op op_mod op_modS (JE.var 4) (JE.callB call_len call_lenS G.n_len (by decide +kernel) (JA.cons (JE.var 0) JA.nil)))) JE.int) (JE.op op_mul op_mulLS JE.int (JE.var 4))) JE.int) JE.int))
    (JB.one (JS.ret (JE.op op_mod op_modS (JE.op op_mod op_modS (JE.op op_mod op_modS (JE.op op_pow op_powS (JE.var 5) JE.int) JE.int) JE.int) (JE.var 2))))))))))
abbrev s_law_pick : Stmt := topS 56
theorem ok_law_pick (Fu : FunD K "_law_pick" "_law_pick" (defArgs s_law_pick) (defBody s_law_pick) (defScope s_law_pick) [] [] f fd) (G : Glb K mg) (G_law_draw : Cal P w K mg base 1 "_law_draw" ["_law_script_here", "_law_town", "_law_many"] F_law_draw) : FnOk P w K mg base (L2N.CX P w) 2 f fd ["_law_script_here", "_law_town", "_law_some"] (spF K mg F_law_pick) := by
  have S : FnScope ["_law_script_here", "_law_town", "_law_some"] ["_law_script_here", "_law_town", "_law_some"] (defScope s_law_pick) := ⟨rfl, rfl, rfl, by decide +kernel, rfl, by decide +kernel, by decide +kernel⟩
  refine @fn_ok P w K mg base "_law_pick" "_law_pick" (defArgs s_law_pick) (defBody s_law_pick) (defScope s_law_pick) f fd ["_law_script_here", "_law_town", "_law_some"] ["_law_script_here", "_law_town", "_law_some"] 1 m_law_pick Fu S (by decide) ?_
  intro cdv A outer s H E hr tk po
  exact (JB.one (JS.ret (JE.ix (JE.var 2) (JE.callC G_law_draw hr tk (JR.cons (JE.var 0) (JR.ref 1 (JR.cons (JE.callB call_len call_lenS G.n_len (by decide +kernel) (JA.cons (JE.var 2) JA.nil)) JR.nil)))))))
abbrev s_law_test : Stmt := topS 57
theorem ok_law_test (Fu : FunD K "_law_test" "_law_test" (defArgs s_law_test) (defBody s_law_test) (defScope s_law_test) [] [] f fd) (G : Glb K mg) (G_law_draw : Cal P w K mg base 1 "_law_draw" ["_law_script_here", "_law_town", "_law_many"] F_law_draw) (G_law_pick : Cal P w K mg base 2 "_law_pick" ["_law_script_here", "_law_town", "_law_some"] F_law_pick) : FnOk P w K mg base (L2N.CX P w) 3 f fd ["_law_script_here", "_law_town", "_law_number"] (spF K mg F_law_test) := by
  have S : FnScope ["_law_script_here", "_law_town", "_law_number", "_law_some"] ["_law_script_here", "_law_town", "_law_number"] (defScope s_law_test) := ⟨rfl, rfl, rfl, by decide +kernel, rfl, by decide +kernel, by decide +kernel⟩
  refine @fn_ok P w K mg base "_law_test" "_law_test" (defArgs s_law_test) (defBody s_law_test) (defScope s_law_test) f fd ["_law_script_here", "_law_town", "_law_number", "_law_some"] ["_law_script_here", "_law_town", "_law_number"] 2 m_law_test Fu S (by decide) ?_
  intro cdv A outer s H E hr tk po
  exact (JB.cons (JS.own 3 S.nd (JL.disp (JA.cons (JE.tup (JA.cons JE.str (JA.cons JE.str JA.nil))) (JA.cons (JE.tup (JA.cons JE.str (JA.cons JE.str JA.nil))) (JA.cons (JE.tup (JA.cons JE.str JA.nil)) (JA.cons (JE.tup (JA.cons JE.str JA.nil)) (JA.cons (JE.tup (JA.cons JE.str (JA.cons (JE.tup (JA.cons JE.str JA.nil)) JA.nil))) (JA.cons (JE.tup (JA.cons JE.str (JA.cons (JE.tup (JA.cons JE.str (JA.cons JE.str JA.nil))) JA.nil))) JA.nil))))))))
    (JB.cons (JS.if (JT.cmp op_gt op_intBS (JE.var 2) JE.int (nomark _)) (JB.one (JS.mut 3 PySem.F.slot_list_extend PySem.F.type_list_extend mt_extendA extendS (JA.cons (JE.ofL (JL.rep (JL.disp (JA.cons (JE.tup (JA.cons JE.str (JA.cons (JE.callC G_law_draw hr tk (JR.cons (JE.var 0) (JR.ref 1 (JR.cons (JE.var 2) JR.nil)))) JA.nil))) JA.nil)) JE.int)) JA.nil))) JB.nil)
    (JB.one (JS.ret (JE.callC G_law_pick hr tk (JR.cons (JE.var 0) (JR.ref 1 (JR.cons (JE.var 3) JR.nil))))))))
abbrev s_law_rule : Stmt := topS 58
theorem ok_law_rule (Fu : FunD K "_law_rule" "_law_rule" (defArgs s_law_rule) (defBody s_law_rule) (defScope s_law_rule) [] [] f fd) (G : Glb K mg) (G_law_draw : Cal P w K mg base 1 "_law_draw" ["_law_script_here", "_law_town", "_law_many"] F_law_draw) (G_law_pick : Cal P w K mg base 2 "_law_pick" ["_law_script_here", "_law_town", "_law_some"] F_law_pick) (G_law_test : Cal P w K mg base 3 "_law_test" ["_law_script_here", "_law_town", "_law_number"] F_law_test) : FnOk P w K mg base (L2N.CX P w) 4 f fd ["_law_script_here", "_law_town", "_law_side"] (spF K mg F_law_rule) := by
  have S : FnScope ["_law_script_here", "_law_town", "_law_side", "_law_wide", "_law_many", "_law_more", "_law_tests", "_law_items", "_law_k", "_law_field"] ["_law_script_here", "_law_town", "_law_side"] (defScope s_law_rule) := ⟨rfl, rfl, rfl, by decide +kernel, rfl, by decide +kernel, by decide +kernel⟩
  refine @fn_ok P w K mg base "_law_rule" "_law_rule" (defArgs s_law_rule) (defBody s_law_rule) (defScope s_law_rule) f fd ["_law_script_here", "_law_town", "_law_side", "_law_wide", "_law_many", "_law_more", "_law_tests", "_law_items", "_law_k", "_law_field"] ["_law_script_here", "_law_town", "_law_side"] 3 m_law_rule Fu S (by decide) ?_
  intro cdv A outer s H E hr tk po
  exact (JB.cons (JS.set 3 S.nd (JE.cmp op_gt op_intBS (JE.callC G_law_draw hr tk (JR.cons (JE.var 0) (JR.ref 1 (JR.cons JE.int JR.nil)))) JE.int (nomark _)))
    (JB.cons (JS.set 4 S.nd (JE.ifE (JT.val (JE.var 3)) (JE.callC G_law_draw hr tk (JR.cons (JE.var 0) (JR.ref 1 (JR.cons (JE.op (op_add.or (op_catA.or op_add_str)) op_addS (JE.var 2) JE.int) JR.nil)))) (JE.op (op_add.or (op_catA.or op_add_str)) op_addS JE.int (JE.callC G_law_draw hr tk (JR.cons (JE.var 0) (JR.ref 1 (JR.cons JE.int JR.nil)))))))
    (JB.cons (JS.set 5 S.nd (JE.ifE (JT.val (JE.var 3)) (JE.callC G_law_draw hr tk (JR.cons (JE.var 0) (JR.ref 1 (JR.cons (JE.op (op_add.or (op_catA.or op_add_str)) op_addS (JE.var 2) JE.int) JR.nil)))) JE.int))
    (JB.cons (JS.set 6 S.nd (JE.callT call_tuple_of tupleS G.n_tuple (by decide +kernel) (JA.cons (JE.ofL (JL.comp (own := [("_law_k", 8)]) rfl S.nd (JI.range G.n_range (JA.cons (JE.op (op_add.or (op_catA.or op_add_str)) op_addS (JE.var 4) (JE.var 5)) JA.nil)) (by exact blkOk_by (N := ["_law_script_here", "_law_town", "_law_side", "_law_wide", "_law_many", "_law_more", "_law_tests", "_law_items", "_law_k", "_law_field"]) (sc := defScope s_law_rule) (own := [("_law_k", 8)]) (by decide +kernel)) (fun _ _ _ _ _ => (JG.name 8 S.nd)) (fun _ _ _ _ _ => JTs.nil) (fun _ _ _ _ _ => (JE.callCN G_law_test hr (JR.cons (JE.var 0) (JR.ref 1 (JR.cons (JE.var 8) JR.nil))))))) JA.nil)))
    (JB.cons (JS.own 7 S.nd (JL.disp JA.nil))
    (JB.cons (JS.for po rfl (JI.range G.n_range (JA.cons (JE.op (op_add.or (op_catA.or op_add_str)) op_addS JE.int (JE.callC G_law_draw hr tk (JR.cons (JE.var 0) (JR.ref 1 (JR.cons JE.int JR.nil))))) JA.nil)) (JG.name 8 S.nd) (JB.cons (JS.set 9 S.nd (JE.ifE (JT.cmp (op_neP hr.units) op_neS (JE.var 6) (JE.tup JA.nil) (nomark _)) (JE.tup (JA.cons JE.str (JA.cons (JE.callC G_law_draw hr tk (JR.cons (JE.var 0) (JR.ref 1 (JR.cons (JE.op (op_add.or (op_catA.or op_add_str)) op_addS (JE.var 4) (JE.var 5)) JR.nil)))) JA.nil))) (JE.tup (JA.cons JE.str (JA.cons JE.str JA.nil)))))
    (JB.one (JS.mut 7 PySem.F.slot_list_append PySem.F.type_list_append mt_append appendS (JA.cons (JE.callC G_law_pick hr tk (JR.cons (JE.var 0) (JR.ref 1 (JR.cons (JE.ofL (JL.disp (JA.cons (JE.tup (JA.cons JE.str (JA.cons JE.str JA.nil))) (JA.cons (JE.tup (JA.cons JE.str (JA.cons JE.str JA.nil))) (JA.cons (JE.var 9) (JA.cons (JE.var 9) (JA.cons (JE.var 9) (JA.cons (JE.var 9) JA.nil)))))))) JR.nil)))) JA.nil)))))
    (JB.cons (JS.if (JW.pt (JW.and (JT.val (JE.var 3)) (JW.and1 (JT.cmp op_gt op_intBS (JE.callC G_law_draw hr tk (JR.cons (JE.var 0) (JR.ref 1 (JR.cons JE.int JR.nil)))) JE.int (nomark _))))) (JB.one (JS.mut 7 PySem.F.slot_list_insert PySem.F.type_list_insert mt_insertA insertS (JA.cons (JE.callC G_law_draw hr tk (JR.cons (JE.var 0) (JR.ref 1 (JR.cons (JE.op (op_add.or (op_catA.or op_add_str)) op_addS (JE.callBO 7 call_len call_lenS G.n_len (by decide +kernel)) JE.int) JR.nil)))) (JA.cons (JE.tup (JA.cons JE.str JA.nil)) JA.nil)))) JB.nil)
    (JB.one (JS.ret (JE.tup (JA.cons (JE.slice (JE.var 6) JO.no (JO.at (JE.var 4))) (JA.cons (JE.var 3) (JA.cons (JE.slice (JE.var 6) (JO.at (JE.var 4)) JO.no) (JA.cons (JE.callT call_tuple_of tupleS G.n_tuple (by decide +kernel) (JA.cons (JE.var 7) JA.nil)) JA.nil))))))))))))))
abbrev s_law_script : Stmt := topS 59
theorem ok_law_script (Fu : FunD K "_law_script" "_law_script" (defArgs s_law_script) (defBody s_law_script) (defScope s_law_script) [] [] f fd) (G : Glb K mg) (G_law_draw : Cal P w K mg base 1 "_law_draw" ["_law_script_here", "_law_town", "_law_many"] F_law_draw) (G_law_rule : Cal P w K mg base 4 "_law_rule" ["_law_script_here", "_law_town", "_law_side"] F_law_rule) : FnOk P w K mg base (L2N.CX P w) 5 f fd ["_law_script_here", "_law_town", "_law_most", "_law_side"] (spF K mg F_law_script) := by
  have S : FnScope ["_law_script_here", "_law_town", "_law_most", "_law_side", "_law_k"] ["_law_script_here", "_law_town", "_law_most", "_law_side"] (defScope s_law_script) := ⟨rfl, rfl, rfl, by decide +kernel, rfl, by decide +kernel, by decide +kernel⟩
  refine @fn_ok P w K mg base "_law_script" "_law_script" (defArgs s_law_script) (defBody s_law_script) (defScope s_law_script) f fd ["_law_script_here", "_law_town", "_law_most", "_law_side", "_law_k"] ["_law_script_here", "_law_town", "_law_most", "_law_side"] 4 m_law_script Fu S (by decide) ?_
  intro cdv A outer s H E hr tk po
  exact (JB.one (JS.ret (JE.callT call_tuple_of tupleS G.n_tuple (by decide +kernel) (JA.cons (JE.ofL (JL.comp (own := [("_law_k", 4)]) rfl S.nd (JI.range G.n_range (JA.cons (JE.op (op_add.or (op_catA.or op_add_str)) op_addS JE.int (JE.callC G_law_draw hr tk (JR.cons (JE.var 0) (JR.ref 1 (JR.cons (JE.var 2) JR.nil))))) JA.nil)) (by exact blkOk_by (N := ["_law_script_here", "_law_town", "_law_most", "_law_side", "_law_k"]) (sc := defScope s_law_script) (own := [("_law_k", 4)]) (by decide +kernel)) (fun _ _ _ _ _ => (JG.name 4 S.nd)) (fun _ _ _ _ _ => JTs.nil) (fun _ _ _ _ _ => (JE.callCN G_law_rule hr (JR.cons (JE.var 0) (JR.ref 1 (JR.cons (JE.var 3) JR.nil))))))) JA.nil))))
abbrev s_law_name : Stmt := topS 60
theorem ok_law_name (Fu : FunD K "_law_name" "_law_name" (defArgs s_law_name) (defBody s_law_name) (defScope s_law_name) [] [] f fd) (G : Glb K mg) (G_law_draw : Cal P w K mg base 1 "_law_draw" ["_law_script_here", "_law_town", "_law_many"] F_law_draw) (G_law_pick : Cal P w K mg base 2 "_law_pick" ["_law_script_here", "_law_town", "_law_some"] F_law_pick) : FnOk P w K mg base (L2N.CX P w) 3 f fd ["_law_script_here", "_law_town", "_law_most"] (spF K mg F_law_name) := by
  have S : FnScope ["_law_script_here", "_law_town", "_law_most", "_law_k"] ["_law_script_here", "_law_town", "_law_most"] (defScope s_law_name) := ⟨rfl, rfl, rfl, by decide +kernel, rfl, by decide +kernel, by decide +kernel⟩
  refine @fn_ok P w K mg base "_law_name" "_law_name" (defArgs s_law_name) (defBody s_law_name) (defScope s_law_name) f fd ["_law_script_here", "_law_town", "_law_most", "_law_k"] ["_law_script_here", "_law_town", "_law_most"] 2 m_law_name Fu S (by decide) ?_
  intro cdv A outer s H E hr tk po
  exact (JB.one (JS.ret (JE.callT call_tuple_of tupleS G.n_tuple (by decide +kernel) (JA.cons (JE.ofL (JL.comp (own := [("_law_k", 3)]) rfl S.nd (JI.range G.n_range (JA.cons (JE.op (op_add.or (op_catA.or op_add_str)) op_addS JE.int (JE.callC G_law_draw hr tk (JR.cons (JE.var 0) (JR.ref 1 (JR.cons (JE.var 2) JR.nil))))) JA.nil)) (by exact blkOk_by (N := ["_law_script_here", "_law_town", "_law_most", "_law_k"]) (sc := defScope s_law_name) (own := [("_law_k", 3)]) (by decide +kernel)) (fun _ _ _ _ _ => (JG.name 3 S.nd)) (fun _ _ _ _ _ => JTs.nil) (fun _ _ _ _ _ => (JE.callCN G_law_pick hr (JR.cons (JE.var 0) (JR.ref 1 (JR.cons (JE.ofL (JL.disp (JA.cons JE.str (JA.cons JE.str (JA.cons JE.str (JA.cons JE.str JA.nil)))))) JR.nil))))))) JA.nil))))
abbrev s_law_which : Stmt := topS 61
theorem ok_law_which (Fu : FunD K "_law_which" "_law_which" (defArgs s_law_which) (defBody s_law_which) (defScope s_law_which) [] [] f fd) (G : Glb K mg) : FnP P w K mg base (L2N.CX P w) 1 f fd ["_law_e"] (spX K mg G_law_which8) := by
  have S : FnScope ["_law_e", "_law_own"] ["_law_e"] (defScope s_law_which) := ⟨rfl, rfl, rfl, by decide +kernel, rfl, by decide +kernel, by decide +kernel⟩
  refine fn_okX (m := fun a e => m_law_which a e) Fu S (by decide) ?_ ?_
  · intro cdv A outer s H E p e D d hG hot hm z fl hrH
    have hu : (A.deeper (envOfC "_law_which" (defScope s_law_which) s.heap.objs.size f cdv)).units + 64 < cLine := by have := hrH.un; omega
    obtain ⟨D', hD', XD⟩ := G.ef.at_ e (whichG_mem hG).1
    rw [hm] at hD'
    cases hD'
    exact (JB.cons (JS.own 1 S.nd (JL.disp (JA.cons (JE.isEx 0 List.mem_cons_self XD z fl G.n_isinstance) (JA.cons (JE.isEx 0 List.mem_cons_self XD z fl G.n_isinstance) (JA.cons (JE.isEx 0 List.mem_cons_self XD z fl G.n_isinstance) (JA.cons (JE.isEx 0 List.mem_cons_self XD z fl G.n_isinstance) JA.nil))))))
    (JB.cons (JS.mut 1 PySem.F.slot_list_extend PySem.F.type_list_extend mt_extendA extendS (JA.cons (JE.ofL (JL.disp (JA.cons (JE.isEx 0 List.mem_cons_self XD z fl G.n_isinstance) (JA.cons (JE.isEx 0 List.mem_cons_self XD z fl G.n_isinstance) (JA.cons (JE.isEx 0 List.mem_cons_self XD z fl G.n_isinstance) (JA.cons (JE.isEx 0 List.mem_cons_self XD z fl G.n_isinstance) JA.nil)))))) JA.nil))
    (JB.cons (JS.mut 1 PySem.F.slot_list_extend PySem.F.type_list_extend mt_extendA extendS (JA.cons (JE.ofL (JL.disp (JA.cons (JE.isEx 0 List.mem_cons_self XD z fl G.n_isinstance) (JA.cons (JE.isEx 0 List.mem_cons_self XD z fl G.n_isinstance) (JA.cons (JE.isEx 0 List.mem_cons_self XD z fl G.n_isinstance) JA.nil))))) JA.nil))
    (JB.cons (JS.mut 1 PySem.F.slot_list_extend PySem.F.type_list_extend mt_extendA extendS (JA.cons (JE.ofL (JL.disp (JA.cons (JE.isEx 0 List.mem_cons_self XD z fl G.n_isinstance) JA.nil))) JA.nil))
    (JB.cons (JS.mut 1 PySem.F.slot_list_extend PySem.F.type_list_extend mt_extendA extendS (JA.cons (JE.ofL (JL.disp (JA.cons (JE.isEx 0 List.mem_cons_self XD z fl G.n_isinstance) (JA.cons (JE.isEx 0 List.mem_cons_self XD z fl G.n_isinstance) (JA.cons (JE.isEx 0 List.mem_cons_self XD z fl G.n_isinstance) JA.nil))))) JA.nil))
    (JB.cons (JS.mut 1 PySem.F.slot_list_extend PySem.F.type_list_extend mt_extendA extendS (JA.cons (JE.ofL (JL.disp (JA.cons (JE.isEx 0 List.mem_cons_self XD z fl G.n_isinstance) JA.nil))) JA.nil))
    (JB.cons (JS.mut 1 PySem.F.slot_list_append PySem.F.type_list_append mt_append appendS (JA.cons (JE.isEx 0 List.mem_cons_self XD z fl G.n_isinstance) JA.nil))
    (JB.cons (JS.if (JW.pt (JW.or (JT.cmp (op_neP hu) op_neS (JE.meth 1 PySem.F.slot_list_count PySem.F.type_list_count (mt_cntD hu) cntS (JA.cons JE.bl JA.nil)) JE.int (nomark _)) (JW.or1 (JT.not (JT.val (JE.isExV 0 List.mem_cons_self XD z fl G.n_isinstance G.n_ValueError)))))) (JB.one (JS.ret (JE.tup (JA.cons JE.str (JA.cons (JE.un un_neg un_negS JE.int) JA.nil))))) JB.nil)
    (JB.one (JS.ret (JE.tup (JA.cons JE.str (JA.cons (JE.meth 1 PySem.F.slot_list_index PySem.F.type_list_index (mt_idxD hu) idxS (JA.cons JE.bl JA.nil)) JA.nil)))))))))))))
  · intro a e d hG
    obtain ⟨he, hf⟩ := whichG_mem hG
    cases hf
    have hI : ∀ (b : Bool) (ρ : Ev), mIsE 0 a b (Sl.raw a :: ρ) = .ok (.bool b) (Sl.raw a :: ρ) := fun b ρ => by unfold mIsE; simp only [List.getElem?_cons_zero, if_true]
    simp only [Es8, List.mem_cons, List.not_mem_nil, or_false] at he
    have h1 : cntF [.bool (decide (e = "NoName")), .bool (decide (e = "NoRule")), .bool (decide (e = "NoScript")), .bool (decide (e = "NoFolder")), .bool (decide (e = "Clash")), .bool (decide (e = "NoOrder")), .bool (decide (e = "Lost")), .bool (decide (e = "Ringed")), .bool (decide (e = "NoNumber")), .bool (decide (e = "NoRow")), .bool (decide (e = "NoWord")), .bool (decide (e = "Taken")), .bool (decide (e = "NotThere")), .bool (decide (e = "Full")), .bool (decide (e = "TooLong")), .bool (decide (e = "NoDeed")), .bool (decide (e = "NoText"))] [.bool true] = some (.int 1) := by
      rcases he with rfl | rfl | rfl <;> rfl
    have h2 : idxF [.bool (decide (e = "NoName")), .bool (decide (e = "NoRule")), .bool (decide (e = "NoScript")), .bool (decide (e = "NoFolder")), .bool (decide (e = "Clash")), .bool (decide (e = "NoOrder")), .bool (decide (e = "Lost")), .bool (decide (e = "Ringed")), .bool (decide (e = "NoNumber")), .bool (decide (e = "NoRow")), .bool (decide (e = "NoWord")), .bool (decide (e = "Taken")), .bool (decide (e = "NotThere")), .bool (decide (e = "Full")), .bool (decide (e = "TooLong")), .bool (decide (e = "NoDeed")), .bool (decide (e = "NoText"))] [.bool true] = some (.int (Ts8.idxOf e)) := by
      rcases he with rfl | rfl | rfl <;> rfl
    have h3 : neD (.int 1) (.int 1) = some (.bool false) := rfl
    have h5 : (16 < 10000) = True := by simp
    have h4 : ∀ k : Int, isScal (.int k) = true := fun _ => rfl
    unfold m_law_which
    simp only [ev_seq, ev_seq_nx, ev_seq_rt, ev_seq_ex, ev_seq_bk, ev_seq_ct, ev_seq_st, ev_seq_ite, ev_next, ev_ifs, ev_ites, ev_ites_ex, ev_ret, ev_drop, ev_out, ev_out_ex, ev_outA, ev_c, ev_set, ev_own, ev_bind, ev_bind_ex, ev_bindA, ev_op, ev_un, ev_call, ev_ofO, ev_nil, ev_cons, ev_consok, ev_push, ev_tup, ev_lst, ev_not, ev_notb, ev_and, ev_or, ev_if, ev_ite, ev_chain, ev_var, ev_ixO, ev_setIx, ev_augIx, ev_opOL, ev_callO, ev_ref, ev_mut, ev_callF, ev_callN, ev_back, ev_backX, ev_backN, ev_mk0, ev_mkv, ev_mkr, ev_wb0, ev_wbv, ev_wbr, ev_iter, ev_iterA, ev_comp, ev_for, ev_sl, ev_part0, ev_part1, ev_mpart, ev_asg, ev_par, ev_listOf, ev_binL, ev_gN, ev_gT, ev_gA0, ev_gA, ev_noIo0, ev_noIo, ev_wipe0, ev_wipe, ev_compL0, ev_compL, ev_forL0, ev_forL, at2_0, at2_1, ixN2_0, ixN2_1, fnSem, List.length_cons, List.length_nil, List.replicate, List.append_eq, List.cons_append, List.nil_append, List.getElem?_cons_zero, List.getElem?_cons_succ, List.set_cons_zero, List.set_cons_succ, List.take_succ_cons, List.take_zero, isIoAt, lstAt, setL, Nat.reduceAdd, Nat.reduceSub, Option.map_some, Option.bind_some, if_true, if_false, Bool.false_eq_true, ite_true, ite_false, reduceIte, Int.natCast_add, decide_eq_true_eq, decide_true, decide_false, Bool.not_true, Bool.not_false, Bool.not_eq_true, and_self, and_true, true_and, Nat.reduceLeDiff, Nat.reduceLT, Bool.and_true, Bool.true_and, Bool.and_false, Bool.false_and, which_meth, extendF, appendF, hI, h1, h2, h3, h4, h5]
    exact ⟨_, rfl⟩
abbrev s_law_ask_k18 : Stmt := topS 62
theorem ok_law_ask_k18 (Fu : FunD K "_law_ask" "_law_ask" (defArgs s_law_ask_k18) (defBody s_law_ask_k18) (defScope s_law_ask_k18) [] [] f fd) (G : Glb K mg) (G_rule_text : Cal P w K mg base 7 "rule_text" ["rule"] F_rule_text) (G_script_text : Cal P w K mg base 8 "script_text" ["script"] F_script_text) (G_read_rule : Cal P w K mg base 6 "read_rule" ["text"] F_read_rule) (G_read_script : Cal P w K mg base 7 "read_script" ["text"] F_read_script) (G_law_which : CalP P w K mg base 1 "_law_which" ["_law_e"] G_law_which8) : FnOk P w K mg base (L2N.CX P w) 9 f fd ["_law_what", "_law_thing"] (spF K mg F_law_ask_k18) := by
  have S : FnScope ["_law_what", "_law_thing", "_law_e"] ["_law_what", "_law_thing"] (defScope s_law_ask_k18) := ⟨rfl, rfl, rfl, by decide +kernel, rfl, by decide +kernel, by decide +kernel⟩
  refine @fn_ok P w K mg base "_law_ask" "_law_ask" (defArgs s_law_ask_k18) (defBody s_law_ask_k18) (defScope s_law_ask_k18) f fd ["_law_what", "_law_thing", "_law_e"] ["_law_what", "_law_thing"] 8 m_law_ask_k18 Fu S (by decide) ?_
  intro cdv A outer s H E hr tk po
  exact (JB.one (JS.tryWhichC 2 rfl rfl S.nd G.ef tk (fun W1 pn xe tk po => (JB.one (JS.ret (JE.callIxC (FnsC.cons G_rule_text (FnsC.cons G_script_text (FnsC.cons G_read_rule (FnsC.cons G_read_script FnsC.nil)))) hr tk (JE.var 0) (JR.cons (JE.var 1) JR.nil))))) G_law_which hr))
abbrev s_law_k18 : Stmt := topS 63
theorem ok_law_k18 (Fu : FunD K "law" "law" (defArgs s_law_k18) (defBody s_law_k18) (defScope s_law_k18) [] [] f fd) (G : Glb K mg) (G_rule_text : Cal P w K mg base 7 "rule_text" ["rule"] F_rule_text) (G_law_script : Cal P w K mg base 5 "_law_script" ["_law_script_here", "_law_town", "_law_most", "_law_side"] F_law_script) (G_law_ask_k18 : Cal P w K mg base 9 "_law_ask" ["_law_what", "_law_thing"] F_law_ask_k18) : FnOk P w K mg base (L2N.CX P w) 10 f fd ["_law_script_here"] (spF K mg F_law_k18) := by
  have S : FnScope ["_law_script_here", "_law_town", "_law_good", "_law_bad", "_law_text", "_law_one"] ["_law_script_here"] (defScope s_law_k18) := ⟨rfl, rfl, rfl, by decide +kernel, rfl, by decide +kernel, by decide +kernel⟩
  refine @fn_ok P w K mg base "law" "law" (defArgs s_law_k18) (defBody s_law_k18) (defScope s_law_k18) f fd ["_law_script_here", "_law_town", "_law_good", "_law_bad", "_law_text", "_law_one"] ["_law_script_here"] 9 m_law_k18 Fu S (by decide) ?_
  intro cdv A outer s H E hr tk po
  exact (JB.cons (JS.own 1 S.nd (JL.disp (JA.cons JE.int (JA.cons JE.int JA.nil))))
    (JB.cons (JS.set 2 S.nd (JE.callC G_rule_text hr tk (JR.cons (JE.ix (JE.callC G_law_script hr tk (JR.cons (JE.var 0) (JR.ref 1 (JR.cons JE.int (JR.cons JE.int JR.nil))))) JE.int) JR.nil)))
    (JB.cons (JS.own 3 S.nd (JL.disp (JA.cons JE.non (JA.cons JE.str (JA.cons JE.str (JA.cons JE.str (JA.cons JE.str (JA.cons JE.str (JA.cons JE.str (JA.cons JE.str (JA.cons JE.str (JA.cons JE.str (JA.cons JE.str JA.nil)))))))))))))
    (JB.cons (JS.mut 3 PySem.F.slot_list_extend PySem.F.type_list_extend mt_extendA extendS (JA.cons (JE.ofL (JL.disp (JA.cons JE.str (JA.cons JE.str (JA.cons JE.str (JA.cons JE.str (JA.cons JE.str JA.nil))))))) JA.nil))
    (JB.cons (JS.mut 3 PySem.F.slot_list_extend PySem.F.type_list_extend mt_extendA extendS (JA.cons (JE.ofL (JL.disp (JA.cons JE.str (JA.cons JE.str (JA.cons JE.str (JA.cons JE.str (JA.cons JE.str (JA.cons JE.str JA.nil)))))))) JA.nil))
    (JB.cons (JS.mut 3 PySem.F.slot_list_extend PySem.F.type_list_extend mt_extendA extendS (JA.cons (JE.ofL (JL.disp (JA.cons JE.str (JA.cons JE.str (JA.cons JE.str (JA.cons JE.str (JA.cons JE.str JA.nil))))))) JA.nil))
    (JB.cons (JS.mut 3 PySem.F.slot_list_extend PySem.F.type_list_extend mt_extendA extendS (JA.cons (JE.ofL (JL.disp (JA.cons JE.str (JA.cons JE.str (JA.cons JE.str (JA.cons JE.str (JA.cons JE.str (JA.cons JE.str (JA.cons JE.str (JA.cons JE.str JA.nil)))))))))) JA.nil))
    (JB.cons (JS.mut 3 PySem.F.slot_list_extend PySem.F.type_list_extend mt_extendA extendS (JA.cons (JE.ofL (JL.disp (JA.cons JE.str (JA.cons JE.str (JA.cons JE.str (JA.cons JE.str (JA.cons JE.str JA.nil))))))) JA.nil))
    (JB.cons (JS.mut 3 PySem.F.slot_list_extend PySem.F.type_list_extend mt_extendA extendS (JA.cons (JE.ofL (JL.disp (JA.cons JE.str (JA.cons (JE.op (op_add.or (op_catA.or op_add_str)) op_addS (JE.var 2) JE.str) (JA.cons (JE.op (op_add.or (op_catA.or op_add_str)) op_addS (JE.var 2) JE.str) (JA.cons JE.int (JA.cons (JE.ofL (JL.disp (JA.cons (JE.var 2) JA.nil))) (JA.cons JE.str (JA.cons JE.str (JA.cons JE.str JA.nil)))))))))) JA.nil))
    (JB.cons (JS.for po rfl (JI.seq (JE.ofL (JL.catO 3 (JL.disp (JA.cons JE.str (JA.cons JE.str (JA.cons JE.str JA.nil))))))) (JG.name 4 S.nd) (JB.cons (JS.if (JT.cmp (op_neP hr.units) op_neS (JE.callC G_law_ask_k18 hr tk (JR.cons JE.int (JR.cons (JE.var 4) JR.nil))) (JE.tup (JA.cons JE.str (JA.cons JE.int JA.nil))) (nomark _)) (JB.one (JS.ret JE.bl)) JB.nil)
    (JB.cons (JS.if (JW.pt (JW.and (JT.cmp (op_notInP hr.units) op_notInS (JE.var 4) (JE.tup (JA.cons JE.str (JA.cons (JE.op (op_add.or (op_catA.or op_add_str)) op_addS (JE.var 2) JE.str) JA.nil))) rfl) (JW.and1 (JT.cmp (op_neP hr.units) op_neS (JE.callC G_law_ask_k18 hr tk (JR.cons JE.int (JR.cons (JE.var 4) JR.nil))) (JE.tup (JA.cons JE.str (JA.cons JE.int JA.nil))) (nomark _))))) (JB.one (JS.ret JE.bl)) JB.nil)
    (JB.one (JS.if (JW.pt (JW.and (JT.val (JE.isinst kitT_str G.n_isinstance G.n_str (by decide +kernel) (JE.var 4))) (JW.and (JT.cmp (op_neP hr.units) op_neS (JE.var 4) (JE.op (op_add.or (op_catA.or op_add_str)) op_addS (JE.var 2) JE.str) (nomark _)) (JW.and1 (JT.cmp (op_neP hr.units) op_neS (JE.callC G_law_ask_k18 hr tk (JR.cons JE.int (JR.cons (JE.op (op_add.or (op_catA.or op_add_str)) op_addS (JE.var 4) JE.str) JR.nil))) (JE.tup (JA.cons JE.str (JA.cons JE.int JA.nil))) (nomark _)))))) (JB.one (JS.ret JE.bl)) JB.nil)))))
    (JB.cons (JS.if (JW.pt (JW.or (JT.cmp (op_neP hr.units) op_neS (JE.callC G_law_ask_k18 hr tk (JR.cons JE.int (JR.cons JE.str JR.nil))) (JE.tup JA.nil) (nomark _)) (JW.or1 (JT.cmp (op_neP hr.units) op_neS (JE.callC G_law_ask_k18 hr tk (JR.cons JE.int (JR.cons (JE.op op_mul_s op_mulSS (JE.op (op_add.or (op_catA.or op_add_str)) op_addS (JE.var 2) JE.str) JE.int) JR.nil))) (JE.tup (JA.cons JE.str (JA.cons JE.int JA.nil))) (nomark _))))) (JB.one (JS.ret JE.bl)) JB.nil)
    (JB.cons (JS.if (JT.cmp (op_neP hr.units) op_neS (JE.callB call_len call_lenS G.n_len (by decide +kernel) (JA.cons (JE.callC G_law_ask_k18 hr tk (JR.cons JE.int (JR.cons (JE.op op_mul_s op_mulSS (JE.op (op_add.or (op_catA.or op_add_str)) op_addS (JE.var 2) JE.str) JE.int) JR.nil))) JA.nil)) JE.int (nomark _)) (JB.one (JS.ret JE.bl)) JB.nil)
    (JB.cons (JS.for po rfl (JI.seq (JE.tup (JA.cons JE.non (JA.cons (JE.tup JA.nil) (JA.cons JE.str (JA.cons (JE.tup (JA.cons (JE.tup (JA.cons JE.str JA.nil)) JA.nil)) (JA.cons (JE.ofL (JL.disp (JA.cons (JE.var 2) JA.nil))) JA.nil))))))) (JG.name 5 S.nd) (JB.one (JS.if (JW.pt (JW.or (JT.cmp (op_neP hr.units) op_neS (JE.callC G_law_ask_k18 hr tk (JR.cons JE.int (JR.cons (JE.var 5) JR.nil))) (JE.tup (JA.cons JE.str (JA.cons JE.int JA.nil))) (nomark _)) (JW.or1 (JW.pt (JW.and (JT.cmp (op_neP hr.units) op_neS (JE.var 5) (JE.tup JA.nil) (nomark _)) (JW.and1 (JT.cmp (op_neP hr.units) op_neS (JE.callC G_law_ask_k18 hr tk (JR.cons JE.int (JR.cons (JE.var 5) JR.nil))) (JE.tup (JA.cons JE.str (JA.cons JE.int JA.nil))) (nomark _)))))))) (JB.one (JS.ret JE.bl)) JB.nil)))
    (JB.cons (JS.set 4 S.nd JE.str)
    (JB.cons (JS.if (JW.pt (JW.or (JT.cmp (op_eqP hr.units) op_eqS (JE.callC G_law_ask_k18 hr tk (JR.cons JE.int (JR.cons (JE.var 4) JR.nil))) (JE.tup (JA.cons JE.str (JA.cons JE.int JA.nil))) (nomark _)) (JW.or1 (JT.cmp (op_neP hr.units) op_neS (JE.callC G_rule_text hr tk (JR.cons (JE.callC G_law_ask_k18 hr tk (JR.cons JE.int (JR.cons (JE.var 4) JR.nil))) JR.nil)) (JE.var 4) (nomark _))))) (JB.one (JS.ret JE.bl)) JB.nil)
    (JB.one (JS.ret (JE.cmp (op_eqP hr.units) op_eqS (JE.callC G_law_ask_k18 hr tk (JR.cons JE.int (JR.cons (JE.tup JA.nil) JR.nil))) JE.str (nomark _)))))))))))))))))))
end
end NS

set_option Elab.async false
set_option linter.all false
set_option autoImplicit false
set_option maxRecDepth 100000
set_option maxHeartbeats 4000000
namespace NS
open PySem PySem.Spec PyProof.Rows L2
open TL (tl spl joinL)
def refT (k : Int) : Dt := .tuple [.str "refused", .int k]
abbrev fns8 : List (List Sl → FR) := [F_rule_text, F_script_text, F_read_rule, F_read_script]
theorem g_text : G_law_which8 "NoText" = some (refT 16) := by rfl
theorem g_rule : G_law_which8 "NoRule" = some (refT 1) := by rfl
theorem g_script : G_law_which8 "NoScript" = some (refT 2) := by rfl
theorem ask_exc {w : Nat} {Fn : List Sl → FR} (hF : fns8[w]? = some Fn) {x d : Dt} {e : Str} (hx : Fn [.val x] = .exc ⟨e, none⟩ [.val x]) (hG : G_law_which8 e = some d) : F_law_ask_k18 [.val (.int w), .val x] = .ok d [.val (.int w), .val x] := by
  have hs : subsE Es8 e = some true := by unfold subsE; rw [if_pos (whichG_mem hG).1]
  have h1 : mRet (mCallIx fns8 [none] (mVar 0) (mCons (mVar 1) mNil)) [.val (.int w), .val x, .no] = .ex ⟨e, none⟩ [.val (.int w), .val x, .no] := by
    have h0 : (0:Int) ≤ (w:Int) := by omega
    unfold mCallIx
    simp only [ev_seq, ev_seq_nx, ev_seq_rt, ev_seq_ex, ev_seq_bk, ev_seq_ct, ev_seq_st, ev_seq_ite, ev_next, ev_ifs, ev_ites, ev_ites_ex, ev_ret, ev_drop, ev_out, ev_out_ex, ev_outA, ev_c, ev_set, ev_own, ev_bind, ev_bind_ex, ev_bindA, ev_op, ev_un, ev_call, ev_ofO, ev_nil, ev_cons, ev_consok, ev_push, ev_tup, ev_lst, ev_not, ev_notb, ev_and, ev_or, ev_if, ev_ite, ev_chain, ev_var, ev_ixO, ev_setIx, ev_augIx, ev_opOL, ev_callO, ev_ref, ev_mut, ev_callF, ev_callN, ev_back, ev_backX, ev_backN, ev_mk0, ev_mkv, ev_mkr, ev_wb0, ev_wbv, ev_wbr, ev_iter, ev_iterA, ev_comp, ev_for, ev_sl, ev_part0, ev_part1, ev_mpart, ev_asg, ev_par, ev_listOf, ev_binL, ev_gN, ev_gT, ev_gA0, ev_gA, ev_noIo0, ev_noIo, ev_wipe0, ev_wipe, ev_compL0, ev_compL, ev_forL0, ev_forL, at2_0, at2_1, ixN2_0, ixN2_1, fnSem, List.length_cons, List.length_nil, List.replicate, List.append_eq, List.cons_append, List.nil_append, List.getElem?_cons_zero, List.getElem?_cons_succ, List.set_cons_zero, List.set_cons_succ, List.take_succ_cons, List.take_zero, isIoAt, lstAt, setL, Nat.reduceAdd, Nat.reduceSub, Option.map_some, Option.bind_some, if_true, if_false, Bool.false_eq_true, ite_true, ite_false, reduceIte, Int.natCast_add, decide_eq_true_eq, decide_true, decide_false, Bool.not_true, Bool.not_false, Bool.not_eq_true, and_self, and_true, true_and, Nat.reduceLeDiff, Nat.reduceLT, Bool.and_true, Bool.true_and, Bool.and_false, Bool.false_and, Int.toNat_natCast, hF, hx, h0]
  unfold F_law_ask_k18 m_law_ask_k18 mTry
  simp only [fnSem, List.length_cons, List.length_nil, List.replicate, List.cons_append, List.nil_append, h1, hs, Nat.reduceAdd, if_true, Nat.reduceSub, List.getElem?_cons_succ, List.getElem?_cons_zero, Sl.isIo, Bool.false_eq_true, if_false, List.set_cons_succ, List.set_cons_zero, mpW, hG, rtN, List.take_succ_cons, List.take_zero]
theorem ask_ok {w : Nat} {Fn : List Sl → FR} (hF : fns8[w]? = some Fn) {x d : Dt} (hx : Fn [.val x] = .ok d [.val x]) : F_law_ask_k18 [.val (.int w), .val x] = .ok d [.val (.int w), .val x] := by
  have h1 : mRet (mCallIx fns8 [none] (mVar 0) (mCons (mVar 1) mNil)) [.val (.int w), .val x, .no] = .rt d [.val (.int w), .val x, .no] := by
    have h0 : (0:Int) ≤ (w:Int) := by omega
    unfold mCallIx
    simp only [ev_seq, ev_seq_nx, ev_seq_rt, ev_seq_ex, ev_seq_bk, ev_seq_ct, ev_seq_st, ev_seq_ite, ev_next, ev_ifs, ev_ites, ev_ites_ex, ev_ret, ev_drop, ev_out, ev_out_ex, ev_outA, ev_c, ev_set, ev_own, ev_bind, ev_bind_ex, ev_bindA, ev_op, ev_un, ev_call, ev_ofO, ev_nil, ev_cons, ev_consok, ev_push, ev_tup, ev_lst, ev_not, ev_notb, ev_and, ev_or, ev_if, ev_ite, ev_chain, ev_var, ev_ixO, ev_setIx, ev_augIx, ev_opOL, ev_callO, ev_ref, ev_mut, ev_callF, ev_callN, ev_back, ev_backX, ev_backN, ev_mk0, ev_mkv, ev_mkr, ev_wb0, ev_wbv, ev_wbr, ev_iter, ev_iterA, ev_comp, ev_for, ev_sl, ev_part0, ev_part1, ev_mpart, ev_asg, ev_par, ev_listOf, ev_binL, ev_gN, ev_gT, ev_gA0, ev_gA, ev_noIo0, ev_noIo, ev_wipe0, ev_wipe, ev_compL0, ev_compL, ev_forL0, ev_forL, at2_0, at2_1, ixN2_0, ixN2_1, fnSem, List.length_cons, List.length_nil, List.replicate, List.append_eq, List.cons_append, List.nil_append, List.getElem?_cons_zero, List.getElem?_cons_succ, List.set_cons_zero, List.set_cons_succ, List.take_succ_cons, List.take_zero, isIoAt, lstAt, setL, Nat.reduceAdd, Nat.reduceSub, Option.map_some, Option.bind_some, if_true, if_false, Bool.false_eq_true, ite_true, ite_false, reduceIte, Int.natCast_add, decide_eq_true_eq, decide_true, decide_false, Bool.not_true, Bool.not_false, Bool.not_eq_true, and_self, and_true, true_and, Nat.reduceLeDiff, Nat.reduceLT, Bool.and_true, Bool.true_and, Bool.and_false, Bool.false_and, Int.toNat_natCast, hF, hx, h0]
  unfold F_law_ask_k18 m_law_ask_k18 mTry
  simp only [fnSem, List.length_cons, List.length_nil, List.replicate, List.cons_append, List.nil_append, h1, Nat.reduceAdd, if_true, Nat.reduceSub, List.take_succ_cons, List.take_zero]
def NoRd (d : Dt) : Prop := F_read_rule [.val d] = .exc ⟨"NoText", none⟩ [.val d]
def NoRs (d : Dt) : Prop := F_read_script [.val d] = .exc ⟨"NoText", none⟩ [.val d]
/-- texts that are none -/
def badA : List Str := [">", "> a", "a >", "a  > b", "a > b ", " a > b", "a >  b", "a b", "a > b > c", "a>b", "A > b", "abcdefg > b", "a > B", "a b c > d", ".. a b c > d", "a .. b .. c > d", "=0 > a", "a =1 > b", "a =2 > b", "* =a > b"]
def badB : List Str := ["* = > b", "! > b", "!b,a > c", "!a,a > c", "!a,b,c,d > e", "!a, > b", "!A > b", "** > b", "a > $1", "a > $", "a > $a", "a > $00", "a > ..", ".. > ..", ".. > a .. ..", ".. > a a a a a", "a > a ..", "1 > b", "=0 .. > a"]
def badC : List Str := ["a >= b", ". > a", "... > a", "a > *", "a > =0", "a > !a"]
def badX : List Str := badA ++ badB ++ badC
theorem badX_all : (badX.map fun t => (F_read_rule [.val (.str t)], F_read_script [.val (.str t)], F_read_script [.val (.str (t ++ "\n"))])) = badX.map fun t => (.exc ⟨"NoText", none⟩ [.val (.str t)], .exc ⟨"NoText", none⟩ [.val (.str t)], .exc ⟨"NoText", none⟩ [.val (.str (t ++ "\n"))]) := by kernel_rfl
theorem badX_len : badX.all (fun t => decide (t.length ≤ 100)) = true := by decide +kernel
theorem badX_each {t : Str} (h : t ∈ badX) : NoRd (.str t) ∧ NoRs (.str t) ∧ NoRs (.str (t ++ "\n")) ∧ t.length ≤ 100 := by
  have e := badX_all
  have l := of_decide_eq_true (List.all_eq_true.mp badX_len t h)
  obtain ⟨i, hi, rfl⟩ := List.mem_iff_getElem.mp h
  have := congrArg (fun l => l[i]?) e
  simp only [List.getElem?_map, List.getElem?_eq_getElem hi, Option.map_some, Option.some.injEq, Prod.mk.injEq] at this
  exact ⟨this.1, this.2.1, this.2.2, l⟩
theorem empty_rd : NoRd (.str "") ∧ NoRs (.str ("" ++ ("\n" : Str))) ∧ F_read_script [.val (.str "")] = .ok (.tuple []) [.val (.str "")] := ⟨by unfold NoRd; kernel_rfl, by unfold NoRs; kernel_rfl, by kernel_rfl⟩
/-- a text and a line feed, a blank -/
theorem with_nl {t : Str} (h : t.length ≤ 3000) : NoRd (.str (t ++ ("\n" : Str))) := by
  have hl : (t ++ ("\n" : Str)).length ≤ 4000 := by rw [len_app, nl_len]; omega
  refine read_rule_no hl fun hc => ?_
  have := written_nl (RR.okM_fine hc.1)
  rw [hc.2, TL.tl_append, tl_nl] at this
  exact this (List.mem_append_right _ (List.mem_singleton.mpr rfl))
theorem joinL_last (S : List Nat) : ∀ (ps : List (List Nat)) (q : List Nat), ∃ X, joinL S (ps ++ [q]) = X ++ q
  | [], q => ⟨[], rfl⟩
  | [p], q => ⟨p ++ S, by show p ++ (S ++ q) = _; rw [List.append_assoc]⟩
  | p :: p2 :: ps, q => by
    obtain ⟨X, hX⟩ := joinL_last S (p2 :: ps) q
    refine ⟨p ++ (S ++ X), ?_⟩
    show p ++ (S ++ joinL S (p2 :: ps ++ [q])) = _
    rw [hX]
    simp only [List.append_assoc]
theorem item_ne {t : RI} {n : Nat} {op : Bool} (hn : n ≤ 4) (h : t.okM n op = true) : tl (textI t) ≠ [] := by
  cases t with
  | word w =>
    have := (wordM_len h).1
    intro e
    have l := TL.len_tl w
    have e : tl w = [] := e
    rw [e] at l
    simp at l
    omega
  | rest => intro e; have e : tl (Str.ofString "..") = [] := e; rw [tl_dots] at e; cases e
  | field i =>
    obtain ⟨d, h1, -, -⟩ := tl_nums (.inr rfl) (small_int h hn)
    intro e
    have e : tl (numT "$" i) = [] := e
    rw [h1] at e
    cases e
theorem written_last {r : RR} (h : r.fine) : ∀ X, tl (writtenM r) ≠ X ++ [32] := by
  intro X e
  rw [written_tl h] at e
  obtain ⟨qs, q, hq⟩ : ∃ qs q, r.mak = qs ++ [q] := by
    have : r.mak ≠ [] := fun e => by have := h.mk1; rw [e] at this; simp at this
    exact ⟨r.mak.dropLast, r.mak.getLast this, (List.dropLast_concat_getLast this).symm⟩
  obtain ⟨n, op, hn, ho⟩ := h.is q (by rw [hq]; simp)
  have hne := item_ne hn ho
  have hcl := cln_item hn ho
  unfold backM at e
  rw [hq, List.map_append, List.map_cons, List.map_nil, tl_Join, tl_Join, List.map_append, List.map_cons, List.map_nil] at e
  obtain ⟨Y, hY⟩ := joinL_last (tl (Str.ofString " ")) ((qs.map textI).map tl) (tl (textI q))
  rw [hY] at e
  obtain ⟨zs, z, hz⟩ : ∃ zs z, tl (textI q) = zs ++ [z] := ⟨(tl (textI q)).dropLast, (tl (textI q)).getLast hne, (List.dropLast_concat_getLast hne).symm⟩
  have hz32 : z ≠ 32 := (hcl z (by rw [hz]; simp)).2.1
  rw [hz] at e
  have l := congrArg List.getLast? e
  simp only [← List.append_assoc, List.getLast?_append, List.getLast?_singleton, Option.some_or] at l
  exact hz32 (Option.some.inj l)
theorem tl_sp (t : Str) : tl (t ++ (" " : Str)) = tl t ++ [32] := by rw [TL.tl_append, tl_blank]
theorem with_sp {t : Str} (h : t.length ≤ 3000) : NoRd (.str (t ++ (" " : Str))) := by
  have hl : (t ++ (" " : Str)).length ≤ 4000 := by rw [len_app, sp_len]; omega
  refine read_rule_no hl fun hc => ?_
  have := written_last (RR.okM_fine hc.1) (tl t)
  rw [hc.2, tl_sp] at this
  exact this rfl
theorem split_one {t : Str} (h : 10 ∉ tl t) : Txt.split t "
" = [t] := by
  refine TL.map_tl_inj ?_
  rw [TL.split_spl _ _ nl_ok.1 (TL.kind_ok nl_ok.2.1), tl_nl, TL.spl_last1 h]
  rfl
theorem split_oneL {t : Str} (h : 10 ∉ tl t) : Txt.split (t ++ ("
" : Str)) "
" = [t, ("" : Str)] := by
  have := split_lines (ws := [t]) (by intro w hw; rw [List.mem_singleton] at hw; subst hw; exact h)
  rw [List.map_cons, List.map_nil, join_one] at this
  exact this
theorem script_sp {t : Str} (h : t.length ≤ 3000) (hn : 10 ∉ tl t) : NoRs (.str (t ++ (" " : Str))) := by
  have hl : (t ++ (" " : Str)).length ≤ 4000 := by rw [len_app, sp_len]; omega
  have hn' : 10 ∉ tl (t ++ (" " : Str)) := by rw [tl_sp]; intro hm; rcases List.mem_append.mp hm with hm | hm; exact hn hm; simp at hm
  have e := read_script_ev hl
  have e1 : rulesOf (t ++ (" " : Str)) = [] := by unfold rulesOf; rw [split_one hn']; rfl
  rw [e1] at e
  rw [if_neg (fun q => ?_)] at e
  · exact e
  · have q2 := congrArg tl q.2
    rw [tl_sp] at q2
    have : tl (scriptM []) = [] := by kernel_rfl
    rw [this] at q2
    have := congrArg List.length q2
    simp at this
theorem script_spL {t : Str} (h : t.length ≤ 3000) (hn : 10 ∉ tl t) : NoRs (.str (t ++ (" " : Str) ++ ("
" : Str))) := by
  have hl : (t ++ (" " : Str) ++ ("
" : Str)).length ≤ 4000 := by rw [len_app, len_app, sp_len, nl_len]; omega
  have hn' : 10 ∉ tl (t ++ (" " : Str)) := by rw [tl_sp]; intro hm; rcases List.mem_append.mp hm with hm | hm; exact hn hm; simp at hm
  have e := read_script_ev hl
  have e1 : rulesOf (t ++ (" " : Str) ++ ("
" : Str)) = [ruleOf (t ++ (" " : Str))] := by unfold rulesOf; rw [split_oneL hn']; rfl
  rw [e1] at e
  rw [if_neg (fun q => ?_)] at e
  · exact e
  · obtain ⟨-, f⟩ := sokM_fine q.1
    have f := f _ (List.mem_singleton.mpr rfl)
    have q2 := q.2
    have e3 : scriptM [ruleOf (t ++ (" " : Str))] = writtenM (ruleOf (t ++ (" " : Str))) ++ ("
" : Str) := by unfold scriptM; rw [List.map_cons, List.map_nil, join_one]
    rw [e3] at q2
    have q3 := congrArg tl q2
    rw [TL.tl_append, TL.tl_append (t ++ (" " : Str)), tl_nl] at q3
    have q4 := List.append_cancel_right q3
    rw [tl_sp] at q4
    exact written_last f _ q4
/-- several of them -/
theorem times_eq (g : Str) : timesS g 5 = Txt.join "" [g, g, g, g, g] ∧ timesS g 4 = Txt.join "" [g, g, g, g] := by
  refine ⟨TL.ext_tl ?_, TL.ext_tl ?_⟩
  · rw [tl_Join, tl_em, joinL_nil]
    unfold timesS tl
    simp [List.replicate]
  · rw [tl_Join, tl_em, joinL_nil]
    unfold timesS tl
    simp [List.replicate]
theorem fiveM (r : RR) : timesS (writtenM r ++ ("
" : Str)) 5 = scriptM [r, r, r, r, r] := (times_eq _).1
theorem fourM (r : RR) : timesS (writtenM r ++ ("
" : Str)) 4 = scriptM [r, r, r, r] := (times_eq _).2
def preL (g : Str) : List Dt := .none :: .str "" :: (badA.map .str ++ (badB.map .str ++ [.str (g ++ ("\n" : Str)), .str (g ++ (" " : Str)), .int 5, .list [.str g], .str "a >= b", .str ". > a", .str "... > a"]))
def badL (g : Str) : List Dt := .none :: .str "" :: (badA.map .str ++ (badB.map .str ++ (.str (g ++ ("\n" : Str)) :: .str (g ++ (" " : Str)) :: .int 5 :: .list [.str g] :: badC.map .str)))
theorem pre_eq (g : Str) : preL g ++ [.str "a > *", .str "a > =0", .str "a > !a"] = badL g := rfl
theorem pre_len (g : Str) : (preL g).length = 48 := rfl
def b1 : Ev → Out := (mSeq (mIfS (mOp neD (mCallF F_law_ask_k18 [none, none] (mCons (mC (.int 2)) (mCons (mVar 4) mNil))) (mTup (mCons (mC (.str "refused")) (mCons (mC (.int 16)) mNil)))) (mRet (mC (.bool false))) mNext)
  (mSeq (mIfS (mAnd (mOp notInD (mVar 4) (mTup (mCons (mC (.str "")) (mCons (mOp addD (mVar 2) (mC (.str "\n"))) mNil)))) (mOp neD (mCallF F_law_ask_k18 [none, none] (mCons (mC (.int 3)) (mCons (mVar 4) mNil))) (mTup (mCons (mC (.str "refused")) (mCons (mC (.int 16)) mNil))))) (mRet (mC (.bool false))) mNext)
  (mIfS (mAnd (mUn (isiD "str") (mVar 4)) (mAnd (mOp neD (mVar 4) (mOp addD (mVar 2) (mC (.str "\n")))) (mOp neD (mCallF F_law_ask_k18 [none, none] (mCons (mC (.int 3)) (mCons (mOp addD (mVar 4) (mC (.str "\n"))) mNil))) (mTup (mCons (mC (.str "refused")) (mCons (mC (.int 16)) mNil)))))) (mRet (mC (.bool false))) mNext)))
def b2 : Ev → Out := (mIfS (mOr (mOp neD (mCallF F_law_ask_k18 [none, none] (mCons (mC (.int 0)) (mCons (mVar 5) mNil))) (mTup (mCons (mC (.str "refused")) (mCons (mC (.int 1)) mNil)))) (mAnd (mOp neD (mVar 5) (mTup mNil)) (mOp neD (mCallF F_law_ask_k18 [none, none] (mCons (mC (.int 1)) (mCons (mVar 5) mNil))) (mTup (mCons (mC (.str "refused")) (mCons (mC (.int 2)) mNil)))))) (mRet (mC (.bool false))) mNext)
def rest18 : Ev → Out := (mSeq (mFor (mIter seqD (mLst (mCatO 3 (mCons (mC (.str "a > *")) (mCons (mC (.str "a > =0")) (mCons (mC (.str "a > !a")) mNil)))))) (gN 4) b1)
  (mSeq (mIfS (mOr (mOp neD (mCallF F_law_ask_k18 [none, none] (mCons (mC (.int 3)) (mCons (mC (.str "")) mNil))) (mTup mNil)) (mOp neD (mCallF F_law_ask_k18 [none, none] (mCons (mC (.int 3)) (mCons (mOp mulSD (mOp addD (mVar 2) (mC (.str "\n"))) (mC (.int 5))) mNil))) (mTup (mCons (mC (.str "refused")) (mCons (mC (.int 16)) mNil))))) (mRet (mC (.bool false))) mNext)
  (mSeq (mIfS (mOp neD (mCall lenTD (mCons (mCallF F_law_ask_k18 [none, none] (mCons (mC (.int 3)) (mCons (mOp mulSD (mOp addD (mVar 2) (mC (.str "\n"))) (mC (.int 4))) mNil))) mNil)) (mC (.int 4))) (mRet (mC (.bool false))) mNext)
  (mSeq (mFor (mIter seqD (mTup (mCons (mC .none) (mCons (mTup mNil) (mCons (mC (.str "a > b")) (mCons (mTup (mCons (mTup (mCons (mC (.str "any")) mNil)) mNil)) (mCons (mLst (mCons (mVar 2) mNil)) mNil))))))) (gN 5) b2)
  (mSeq (mSet 4 (mC (.str "!a,abcdef,z =0 .. abcdef =2 > .. $3 abcdef $0")))
  (mSeq (mIfS (mOr (mOp eqD (mCallF F_law_ask_k18 [none, none] (mCons (mC (.int 2)) (mCons (mVar 4) mNil))) (mTup (mCons (mC (.str "refused")) (mCons (mC (.int 16)) mNil)))) (mOp neD (mCallF F_rule_text [none] (mCons (mCallF F_law_ask_k18 [none, none] (mCons (mC (.int 2)) (mCons (mVar 4) mNil))) mNil)) (mVar 4))) (mRet (mC (.bool false))) mNext)
  (mRet (mOp eqD (mCallF F_law_ask_k18 [none, none] (mCons (mC (.int 1)) (mCons (mTup mNil) mNil))) (mC (.str ""))))))))))
theorem m_law_k18_eq : m_law_k18 = (mSeq (mOwn 1 (mCons (mC (.int 0)) (mCons (mC (.int 0)) mNil)))
  (mSeq (mSet 2 (mCallF F_rule_text [none] (mCons (mOp ixD (mCallF F_law_script [none, some 1, none, none] (mCons (mVar 0) (mRef 1 (mCons (mC (.int 1)) (mCons (mC (.int 2)) mNil))))) (mC (.int 0))) mNil)))
  (mSeq (mOwn 3 (mCons (mC .none) (mCons (mC (.str "")) (mCons (mC (.str ">")) (mCons (mC (.str "> a")) (mCons (mC (.str "a >")) (mCons (mC (.str "a  > b")) (mCons (mC (.str "a > b ")) (mCons (mC (.str " a > b")) (mCons (mC (.str "a >  b")) (mCons (mC (.str "a b")) (mCons (mC (.str "a > b > c")) mNil))))))))))))
  (mSeq (mMut 3 extendF (mCons (mLst (mCons (mC (.str "a>b")) (mCons (mC (.str "A > b")) (mCons (mC (.str "abcdefg > b")) (mCons (mC (.str "a > B")) (mCons (mC (.str "a b c > d")) mNil)))))) mNil))
  (mSeq (mMut 3 extendF (mCons (mLst (mCons (mC (.str ".. a b c > d")) (mCons (mC (.str "a .. b .. c > d")) (mCons (mC (.str "=0 > a")) (mCons (mC (.str "a =1 > b")) (mCons (mC (.str "a =2 > b")) (mCons (mC (.str "* =a > b")) mNil))))))) mNil))
  (mSeq (mMut 3 extendF (mCons (mLst (mCons (mC (.str "* = > b")) (mCons (mC (.str "! > b")) (mCons (mC (.str "!b,a > c")) (mCons (mC (.str "!a,a > c")) (mCons (mC (.str "!a,b,c,d > e")) mNil)))))) mNil))
  (mSeq (mMut 3 extendF (mCons (mLst (mCons (mC (.str "!a, > b")) (mCons (mC (.str "!A > b")) (mCons (mC (.str "** > b")) (mCons (mC (.str "a > $1")) (mCons (mC (.str "a > $")) (mCons (mC (.str "a > $a")) (mCons (mC (.str "a > $00")) (mCons (mC (.str "a > ..")) mNil))))))))) mNil))
  (mSeq (mMut 3 extendF (mCons (mLst (mCons (mC (.str ".. > ..")) (mCons (mC (.str ".. > a .. ..")) (mCons (mC (.str ".. > a a a a a")) (mCons (mC (.str "a > a ..")) (mCons (mC (.str "1 > b")) mNil)))))) mNil))
  (mSeq (mMut 3 extendF (mCons (mLst (mCons (mC (.str "=0 .. > a")) (mCons (mOp addD (mVar 2) (mC (.str "\n"))) (mCons (mOp addD (mVar 2) (mC (.str " "))) (mCons (mC (.int 5)) (mCons (mLst (mCons (mVar 2) mNil)) (mCons (mC (.str "a >= b")) (mCons (mC (.str ". > a")) (mCons (mC (.str "... > a")) mNil))))))))) mNil))
  rest18))))))))) := rfl
def st8 (ns : List Int) (tw : List Dt) (g : Str) (s3 s4 s5 : Sl) : Ev := [.val (intsD ns), .own tw, .val (.str g), s3, s4, s5]
theorem ref_self (k : Int) : neD (refT k) (refT k) = some (.bool false) := ne_self (easy_ref k) (by omega)
theorem fn0 : fns8[0]? = some F_rule_text := rfl
theorem fn1 : fns8[1]? = some F_script_text := rfl
theorem fn2 : fns8[2]? = some F_read_rule := rfl
theorem fn3 : fns8[3]? = some F_read_script := rfl
theorem two_tup (g : Str) : (PyData.tuple [.str "", .str (g ++ ("\n" : Str))]) = tupS [("" : Str), g ++ ("\n" : Str)] := rfl
theorem b1_ok (ns : List Int) (tw : List Dt) (g : Str) (hg : g.length ≤ 3000) (s3 s5 : Sl) (d : Dt) (h1 : NoRd d) (h2 : ∃ b, notInD d (tupS [("" : Str), g ++ ("\n" : Str)]) = some (.bool b) ∧ (b = true → NoRs d)) (h3 : isiD "str" d = some (.bool false) ∨ ∃ t : Str, d = .str t ∧ t.length ≤ 4000 ∧ (t = g ++ ("\n" : Str) ∨ NoRs (.str (t ++ ("\n" : Str))))) :
    b1 (st8 ns tw g s3 (.val d) s5) = .nx (st8 ns tw g s3 (.val d) s5) := by
  have a1 := ask_exc (w := 2) fn2 h1 g_text
  have r := ref_self 16
  have gl : addD (.str g) (.str "\n") = some (.str (g ++ ("\n" : Str))) := add_str (by rw [nl_len]; omega)
  have q1 : ∀ k : Int, PyData.tuple [.str "refused", .int k] = refT k := fun _ => rfl
  have k2 : ((2:Nat):Int) = 2 := rfl
  have k3 : ((3:Nat):Int) = 3 := rfl
  rw [k2] at a1
  obtain ⟨b, hb, hb2⟩ := h2
  have p2 : (mAnd (mOp notInD (mVar 4) (mTup (mCons (mC (.str "")) (mCons (mOp addD (mVar 2) (mC (.str "\n"))) mNil)))) (mOp neD (mCallF F_law_ask_k18 [none, none] (mCons (mC (.int 3)) (mCons (mVar 4) mNil))) (mTup (mCons (mC (.str "refused")) (mCons (mC (.int 16)) mNil))))) (st8 ns tw g s3 (.val d) s5) = .ok (.bool false) (st8 ns tw g s3 (.val d) s5) := by
    unfold st8
    cases b with
    | false => simp only [ev_seq, ev_seq_nx, ev_seq_rt, ev_seq_ex, ev_seq_bk, ev_seq_ct, ev_seq_st, ev_seq_ite, ev_next, ev_ifs, ev_ites, ev_ites_ex, ev_ret, ev_drop, ev_out, ev_out_ex, ev_outA, ev_c, ev_set, ev_own, ev_bind, ev_bind_ex, ev_bindA, ev_op, ev_un, ev_call, ev_ofO, ev_nil, ev_cons, ev_consok, ev_push, ev_tup, ev_lst, ev_not, ev_notb, ev_and, ev_or, ev_if, ev_ite, ev_chain, ev_var, ev_ixO, ev_setIx, ev_augIx, ev_opOL, ev_callO, ev_ref, ev_mut, ev_callF, ev_callN, ev_back, ev_backX, ev_backN, ev_mk0, ev_mkv, ev_mkr, ev_wb0, ev_wbv, ev_wbr, ev_iter, ev_iterA, ev_comp, ev_for, ev_sl, ev_part0, ev_part1, ev_mpart, ev_asg, ev_par, ev_listOf, ev_binL, ev_gN, ev_gT, ev_gA0, ev_gA, ev_noIo0, ev_noIo, ev_wipe0, ev_wipe, ev_compL0, ev_compL, ev_forL0, ev_forL, at2_0, at2_1, ixN2_0, ixN2_1, fnSem, List.length_cons, List.length_nil, List.replicate, List.append_eq, List.cons_append, List.nil_append, List.getElem?_cons_zero, List.getElem?_cons_succ, List.set_cons_zero, List.set_cons_succ, List.take_succ_cons, List.take_zero, isIoAt, lstAt, setL, Nat.reduceAdd, Nat.reduceSub, Option.map_some, Option.bind_some, if_true, if_false, Bool.false_eq_true, ite_true, ite_false, reduceIte, Int.natCast_add, decide_eq_true_eq, decide_true, decide_false, Bool.not_true, Bool.not_false, Bool.not_eq_true, and_self, and_true, true_and, Nat.reduceLeDiff, Nat.reduceLT, Bool.and_true, Bool.true_and, Bool.and_false, Bool.false_and, gl, two_tup, hb]
    | true =>
      have a3 := ask_exc (w := 3) fn3 (hb2 rfl) g_text
      rw [k3] at a3
      simp only [ev_seq, ev_seq_nx, ev_seq_rt, ev_seq_ex, ev_seq_bk, ev_seq_ct, ev_seq_st, ev_seq_ite, ev_next, ev_ifs, ev_ites, ev_ites_ex, ev_ret, ev_drop, ev_out, ev_out_ex, ev_outA, ev_c, ev_set, ev_own, ev_bind, ev_bind_ex, ev_bindA, ev_op, ev_un, ev_call, ev_ofO, ev_nil, ev_cons, ev_consok, ev_push, ev_tup, ev_lst, ev_not, ev_notb, ev_and, ev_or, ev_if, ev_ite, ev_chain, ev_var, ev_ixO, ev_setIx, ev_augIx, ev_opOL, ev_callO, ev_ref, ev_mut, ev_callF, ev_callN, ev_back, ev_backX, ev_backN, ev_mk0, ev_mkv, ev_mkr, ev_wb0, ev_wbv, ev_wbr, ev_iter, ev_iterA, ev_comp, ev_for, ev_sl, ev_part0, ev_part1, ev_mpart, ev_asg, ev_par, ev_listOf, ev_binL, ev_gN, ev_gT, ev_gA0, ev_gA, ev_noIo0, ev_noIo, ev_wipe0, ev_wipe, ev_compL0, ev_compL, ev_forL0, ev_forL, at2_0, at2_1, ixN2_0, ixN2_1, fnSem, List.length_cons, List.length_nil, List.replicate, List.append_eq, List.cons_append, List.nil_append, List.getElem?_cons_zero, List.getElem?_cons_succ, List.set_cons_zero, List.set_cons_succ, List.take_succ_cons, List.take_zero, isIoAt, lstAt, setL, Nat.reduceAdd, Nat.reduceSub, Option.map_some, Option.bind_some, if_true, if_false, Bool.false_eq_true, ite_true, ite_false, reduceIte, Int.natCast_add, decide_eq_true_eq, decide_true, decide_false, Bool.not_true, Bool.not_false, Bool.not_eq_true, and_self, and_true, true_and, Nat.reduceLeDiff, Nat.reduceLT, Bool.and_true, Bool.true_and, Bool.and_false, Bool.false_and, gl, two_tup, hb, a3, q1, r]
  have p3 : (mAnd (mUn (isiD "str") (mVar 4)) (mAnd (mOp neD (mVar 4) (mOp addD (mVar 2) (mC (.str "\n")))) (mOp neD (mCallF F_law_ask_k18 [none, none] (mCons (mC (.int 3)) (mCons (mOp addD (mVar 4) (mC (.str "\n"))) mNil))) (mTup (mCons (mC (.str "refused")) (mCons (mC (.int 16)) mNil)))))) (st8 ns tw g s3 (.val d) s5) = .ok (.bool false) (st8 ns tw g s3 (.val d) s5) := by
    unfold st8
    rcases h3 with h3 | ⟨t, rfl, ht, h3⟩
    · simp only [ev_seq, ev_seq_nx, ev_seq_rt, ev_seq_ex, ev_seq_bk, ev_seq_ct, ev_seq_st, ev_seq_ite, ev_next, ev_ifs, ev_ites, ev_ites_ex, ev_ret, ev_drop, ev_out, ev_out_ex, ev_outA, ev_c, ev_set, ev_own, ev_bind, ev_bind_ex, ev_bindA, ev_op, ev_un, ev_call, ev_ofO, ev_nil, ev_cons, ev_consok, ev_push, ev_tup, ev_lst, ev_not, ev_notb, ev_and, ev_or, ev_if, ev_ite, ev_chain, ev_var, ev_ixO, ev_setIx, ev_augIx, ev_opOL, ev_callO, ev_ref, ev_mut, ev_callF, ev_callN, ev_back, ev_backX, ev_backN, ev_mk0, ev_mkv, ev_mkr, ev_wb0, ev_wbv, ev_wbr, ev_iter, ev_iterA, ev_comp, ev_for, ev_sl, ev_part0, ev_part1, ev_mpart, ev_asg, ev_par, ev_listOf, ev_binL, ev_gN, ev_gT, ev_gA0, ev_gA, ev_noIo0, ev_noIo, ev_wipe0, ev_wipe, ev_compL0, ev_compL, ev_forL0, ev_forL, at2_0, at2_1, ixN2_0, ixN2_1, fnSem, List.length_cons, List.length_nil, List.replicate, List.append_eq, List.cons_append, List.nil_append, List.getElem?_cons_zero, List.getElem?_cons_succ, List.set_cons_zero, List.set_cons_succ, List.take_succ_cons, List.take_zero, isIoAt, lstAt, setL, Nat.reduceAdd, Nat.reduceSub, Option.map_some, Option.bind_some, if_true, if_false, Bool.false_eq_true, ite_true, ite_false, reduceIte, Int.natCast_add, decide_eq_true_eq, decide_true, decide_false, Bool.not_true, Bool.not_false, Bool.not_eq_true, and_self, and_true, true_and, Nat.reduceLeDiff, Nat.reduceLT, Bool.and_true, Bool.true_and, Bool.and_false, Bool.false_and, h3]
    · by_cases e : t = g ++ ("\n" : Str)
      · have n1 : neD (.str t) (.str (g ++ ("\n" : Str))) = some (.bool false) := by rw [neD_str, decide_eq_true e]; rfl
        simp only [ev_seq, ev_seq_nx, ev_seq_rt, ev_seq_ex, ev_seq_bk, ev_seq_ct, ev_seq_st, ev_seq_ite, ev_next, ev_ifs, ev_ites, ev_ites_ex, ev_ret, ev_drop, ev_out, ev_out_ex, ev_outA, ev_c, ev_set, ev_own, ev_bind, ev_bind_ex, ev_bindA, ev_op, ev_un, ev_call, ev_ofO, ev_nil, ev_cons, ev_consok, ev_push, ev_tup, ev_lst, ev_not, ev_notb, ev_and, ev_or, ev_if, ev_ite, ev_chain, ev_var, ev_ixO, ev_setIx, ev_augIx, ev_opOL, ev_callO, ev_ref, ev_mut, ev_callF, ev_callN, ev_back, ev_backX, ev_backN, ev_mk0, ev_mkv, ev_mkr, ev_wb0, ev_wbv, ev_wbr, ev_iter, ev_iterA, ev_comp, ev_for, ev_sl, ev_part0, ev_part1, ev_mpart, ev_asg, ev_par, ev_listOf, ev_binL, ev_gN, ev_gT, ev_gA0, ev_gA, ev_noIo0, ev_noIo, ev_wipe0, ev_wipe, ev_compL0, ev_compL, ev_forL0, ev_forL, at2_0, at2_1, ixN2_0, ixN2_1, fnSem, List.length_cons, List.length_nil, List.replicate, List.append_eq, List.cons_append, List.nil_append, List.getElem?_cons_zero, List.getElem?_cons_succ, List.set_cons_zero, List.set_cons_succ, List.take_succ_cons, List.take_zero, isIoAt, lstAt, setL, Nat.reduceAdd, Nat.reduceSub, Option.map_some, Option.bind_some, if_true, if_false, Bool.false_eq_true, ite_true, ite_false, reduceIte, Int.natCast_add, decide_eq_true_eq, decide_true, decide_false, Bool.not_true, Bool.not_false, Bool.not_eq_true, and_self, and_true, true_and, Nat.reduceLeDiff, Nat.reduceLT, Bool.and_true, Bool.true_and, Bool.and_false, Bool.false_and, isi_s, gl, n1]
      · have n1 : neD (.str t) (.str (g ++ ("\n" : Str))) = some (.bool true) := by rw [neD_str, decide_eq_false e]; rfl
        have h3 := h3.resolve_left e
        have tl' : addD (.str t) (.str "\n") = some (.str (t ++ ("\n" : Str))) := add_str (by rw [nl_len]; omega)
        have a3 := ask_exc (w := 3) fn3 h3 g_text
        rw [k3] at a3
        simp only [ev_seq, ev_seq_nx, ev_seq_rt, ev_seq_ex, ev_seq_bk, ev_seq_ct, ev_seq_st, ev_seq_ite, ev_next, ev_ifs, ev_ites, ev_ites_ex, ev_ret, ev_drop, ev_out, ev_out_ex, ev_outA, ev_c, ev_set, ev_own, ev_bind, ev_bind_ex, ev_bindA, ev_op, ev_un, ev_call, ev_ofO, ev_nil, ev_cons, ev_consok, ev_push, ev_tup, ev_lst, ev_not, ev_notb, ev_and, ev_or, ev_if, ev_ite, ev_chain, ev_var, ev_ixO, ev_setIx, ev_augIx, ev_opOL, ev_callO, ev_ref, ev_mut, ev_callF, ev_callN, ev_back, ev_backX, ev_backN, ev_mk0, ev_mkv, ev_mkr, ev_wb0, ev_wbv, ev_wbr, ev_iter, ev_iterA, ev_comp, ev_for, ev_sl, ev_part0, ev_part1, ev_mpart, ev_asg, ev_par, ev_listOf, ev_binL, ev_gN, ev_gT, ev_gA0, ev_gA, ev_noIo0, ev_noIo, ev_wipe0, ev_wipe, ev_compL0, ev_compL, ev_forL0, ev_forL, at2_0, at2_1, ixN2_0, ixN2_1, fnSem, List.length_cons, List.length_nil, List.replicate, List.append_eq, List.cons_append, List.nil_append, List.getElem?_cons_zero, List.getElem?_cons_succ, List.set_cons_zero, List.set_cons_succ, List.take_succ_cons, List.take_zero, isIoAt, lstAt, setL, Nat.reduceAdd, Nat.reduceSub, Option.map_some, Option.bind_some, if_true, if_false, Bool.false_eq_true, ite_true, ite_false, reduceIte, Int.natCast_add, decide_eq_true_eq, decide_true, decide_false, Bool.not_true, Bool.not_false, Bool.not_eq_true, and_self, and_true, true_and, Nat.reduceLeDiff, Nat.reduceLT, Bool.and_true, Bool.true_and, Bool.and_false, Bool.false_and, isi_s, gl, n1, tl', a3, q1, r]
  have p1 : (mOp neD (mCallF F_law_ask_k18 [none, none] (mCons (mC (.int 2)) (mCons (mVar 4) mNil))) (mTup (mCons (mC (.str "refused")) (mCons (mC (.int 16)) mNil)))) (st8 ns tw g s3 (.val d) s5) = .ok (.bool false) (st8 ns tw g s3 (.val d) s5) := by
    unfold st8
    simp only [ev_seq, ev_seq_nx, ev_seq_rt, ev_seq_ex, ev_seq_bk, ev_seq_ct, ev_seq_st, ev_seq_ite, ev_next, ev_ifs, ev_ites, ev_ites_ex, ev_ret, ev_drop, ev_out, ev_out_ex, ev_outA, ev_c, ev_set, ev_own, ev_bind, ev_bind_ex, ev_bindA, ev_op, ev_un, ev_call, ev_ofO, ev_nil, ev_cons, ev_consok, ev_push, ev_tup, ev_lst, ev_not, ev_notb, ev_and, ev_or, ev_if, ev_ite, ev_chain, ev_var, ev_ixO, ev_setIx, ev_augIx, ev_opOL, ev_callO, ev_ref, ev_mut, ev_callF, ev_callN, ev_back, ev_backX, ev_backN, ev_mk0, ev_mkv, ev_mkr, ev_wb0, ev_wbv, ev_wbr, ev_iter, ev_iterA, ev_comp, ev_for, ev_sl, ev_part0, ev_part1, ev_mpart, ev_asg, ev_par, ev_listOf, ev_binL, ev_gN, ev_gT, ev_gA0, ev_gA, ev_noIo0, ev_noIo, ev_wipe0, ev_wipe, ev_compL0, ev_compL, ev_forL0, ev_forL, at2_0, at2_1, ixN2_0, ixN2_1, fnSem, List.length_cons, List.length_nil, List.replicate, List.append_eq, List.cons_append, List.nil_append, List.getElem?_cons_zero, List.getElem?_cons_succ, List.set_cons_zero, List.set_cons_succ, List.take_succ_cons, List.take_zero, isIoAt, lstAt, setL, Nat.reduceAdd, Nat.reduceSub, Option.map_some, Option.bind_some, if_true, if_false, Bool.false_eq_true, ite_true, ite_false, reduceIte, Int.natCast_add, decide_eq_true_eq, decide_true, decide_false, Bool.not_true, Bool.not_false, Bool.not_eq_true, and_self, and_true, true_and, Nat.reduceLeDiff, Nat.reduceLT, Bool.and_true, Bool.true_and, Bool.and_false, Bool.false_and, a1, q1, r]
  unfold b1
  simp only [ev_seq, ev_ifs, p1, p2, p3, ev_ites, Bool.false_eq_true, if_false, ev_next, ev_seq_nx]
theorem b2_ok (ns : List Int) (tw : List Dt) (g : Str) (s3 s4 : Sl) (d : Dt) (h1 : NotRule d) (h2 : d = .tuple [] ∨ neD d (.tuple []) = some (.bool true) ∧ NotScript d) : b2 (st8 ns tw g s3 s4 (.val d)) = .nx (st8 ns tw g s3 s4 (.val d)) := by
  have e1 : F_rule_text [.val d] = .exc ⟨"NoRule", none⟩ [.val d] := by
    have q := need_rule_no h1
    unfold F_rule_text m_rule_text
    simp only [ev_seq, ev_seq_nx, ev_seq_rt, ev_seq_ex, ev_seq_bk, ev_seq_ct, ev_seq_st, ev_seq_ite, ev_next, ev_ifs, ev_ites, ev_ites_ex, ev_ret, ev_drop, ev_out, ev_out_ex, ev_outA, ev_c, ev_set, ev_own, ev_bind, ev_bind_ex, ev_bindA, ev_op, ev_un, ev_call, ev_ofO, ev_nil, ev_cons, ev_consok, ev_push, ev_tup, ev_lst, ev_not, ev_notb, ev_and, ev_or, ev_if, ev_ite, ev_chain, ev_var, ev_ixO, ev_setIx, ev_augIx, ev_opOL, ev_callO, ev_ref, ev_mut, ev_callF, ev_callN, ev_back, ev_backX, ev_backN, ev_mk0, ev_mkv, ev_mkr, ev_wb0, ev_wbv, ev_wbr, ev_iter, ev_iterA, ev_comp, ev_for, ev_sl, ev_part0, ev_part1, ev_mpart, ev_asg, ev_par, ev_listOf, ev_binL, ev_gN, ev_gT, ev_gA0, ev_gA, ev_noIo0, ev_noIo, ev_wipe0, ev_wipe, ev_compL0, ev_compL, ev_forL0, ev_forL, at2_0, at2_1, ixN2_0, ixN2_1, fnSem, List.length_cons, List.length_nil, List.replicate, List.append_eq, List.cons_append, List.nil_append, List.getElem?_cons_zero, List.getElem?_cons_succ, List.set_cons_zero, List.set_cons_succ, List.take_succ_cons, List.take_zero, isIoAt, lstAt, setL, Nat.reduceAdd, Nat.reduceSub, Option.map_some, Option.bind_some, if_true, if_false, Bool.false_eq_true, ite_true, ite_false, reduceIte, Int.natCast_add, decide_eq_true_eq, decide_true, decide_false, Bool.not_true, Bool.not_false, Bool.not_eq_true, and_self, and_true, true_and, Nat.reduceLeDiff, Nat.reduceLT, Bool.and_true, Bool.true_and, Bool.and_false, Bool.false_and, q]
  have a1 := ask_exc (w := 0) fn0 e1 g_rule
  have r1 := ref_self 1
  have r2 := ref_self 2
  have q1 : ∀ k : Int, PyData.tuple [.str "refused", .int k] = refT k := fun _ => rfl
  have k0 : ((0:Nat):Int) = 0 := rfl
  have k1 : ((1:Nat):Int) = 1 := rfl
  rw [k0] at a1
  unfold b2 st8
  rcases h2 with rfl | ⟨n1, h2⟩
  · have n1 : neD (.tuple []) (.tuple []) = some (.bool false) := by rfl
    simp only [ev_seq, ev_seq_nx, ev_seq_rt, ev_seq_ex, ev_seq_bk, ev_seq_ct, ev_seq_st, ev_seq_ite, ev_next, ev_ifs, ev_ites, ev_ites_ex, ev_ret, ev_drop, ev_out, ev_out_ex, ev_outA, ev_c, ev_set, ev_own, ev_bind, ev_bind_ex, ev_bindA, ev_op, ev_un, ev_call, ev_ofO, ev_nil, ev_cons, ev_consok, ev_push, ev_tup, ev_lst, ev_not, ev_notb, ev_and, ev_or, ev_if, ev_ite, ev_chain, ev_var, ev_ixO, ev_setIx, ev_augIx, ev_opOL, ev_callO, ev_ref, ev_mut, ev_callF, ev_callN, ev_back, ev_backX, ev_backN, ev_mk0, ev_mkv, ev_mkr, ev_wb0, ev_wbv, ev_wbr, ev_iter, ev_iterA, ev_comp, ev_for, ev_sl, ev_part0, ev_part1, ev_mpart, ev_asg, ev_par, ev_listOf, ev_binL, ev_gN, ev_gT, ev_gA0, ev_gA, ev_noIo0, ev_noIo, ev_wipe0, ev_wipe, ev_compL0, ev_compL, ev_forL0, ev_forL, at2_0, at2_1, ixN2_0, ixN2_1, fnSem, List.length_cons, List.length_nil, List.replicate, List.append_eq, List.cons_append, List.nil_append, List.getElem?_cons_zero, List.getElem?_cons_succ, List.set_cons_zero, List.set_cons_succ, List.take_succ_cons, List.take_zero, isIoAt, lstAt, setL, Nat.reduceAdd, Nat.reduceSub, Option.map_some, Option.bind_some, if_true, if_false, Bool.false_eq_true, ite_true, ite_false, reduceIte, Int.natCast_add, decide_eq_true_eq, decide_true, decide_false, Bool.not_true, Bool.not_false, Bool.not_eq_true, and_self, and_true, true_and, Nat.reduceLeDiff, Nat.reduceLT, Bool.and_true, Bool.true_and, Bool.and_false, Bool.false_and, a1, q1, r1, n1]
  · have e2 : F_script_text [.val d] = .exc ⟨"NoScript", none⟩ [.val d] := by
      have q := need_script_no h2
      unfold F_script_text m_script_text
      simp only [ev_seq, ev_seq_nx, ev_seq_rt, ev_seq_ex, ev_seq_bk, ev_seq_ct, ev_seq_st, ev_seq_ite, ev_next, ev_ifs, ev_ites, ev_ites_ex, ev_ret, ev_drop, ev_out, ev_out_ex, ev_outA, ev_c, ev_set, ev_own, ev_bind, ev_bind_ex, ev_bindA, ev_op, ev_un, ev_call, ev_ofO, ev_nil, ev_cons, ev_consok, ev_push, ev_tup, ev_lst, ev_not, ev_notb, ev_and, ev_or, ev_if, ev_ite, ev_chain, ev_var, ev_ixO, ev_setIx, ev_augIx, ev_opOL, ev_callO, ev_ref, ev_mut, ev_callF, ev_callN, ev_back, ev_backX, ev_backN, ev_mk0, ev_mkv, ev_mkr, ev_wb0, ev_wbv, ev_wbr, ev_iter, ev_iterA, ev_comp, ev_for, ev_sl, ev_part0, ev_part1, ev_mpart, ev_asg, ev_par, ev_listOf, ev_binL, ev_gN, ev_gT, ev_gA0, ev_gA, ev_noIo0, ev_noIo, ev_wipe0, ev_wipe, ev_compL0, ev_compL, ev_forL0, ev_forL, at2_0, at2_1, ixN2_0, ixN2_1, fnSem, List.length_cons, List.length_nil, List.replicate, List.append_eq, List.cons_append, List.nil_append, List.getElem?_cons_zero, List.getElem?_cons_succ, List.set_cons_zero, List.set_cons_succ, List.take_succ_cons, List.take_zero, isIoAt, lstAt, setL, Nat.reduceAdd, Nat.reduceSub, Option.map_some, Option.bind_some, if_true, if_false, Bool.false_eq_true, ite_true, ite_false, reduceIte, Int.natCast_add, decide_eq_true_eq, decide_true, decide_false, Bool.not_true, Bool.not_false, Bool.not_eq_true, and_self, and_true, true_and, Nat.reduceLeDiff, Nat.reduceLT, Bool.and_true, Bool.true_and, Bool.and_false, Bool.false_and, q]
    have a2 := ask_exc (w := 1) fn1 e2 g_script
    rw [k1] at a2
    simp only [ev_seq, ev_seq_nx, ev_seq_rt, ev_seq_ex, ev_seq_bk, ev_seq_ct, ev_seq_st, ev_seq_ite, ev_next, ev_ifs, ev_ites, ev_ites_ex, ev_ret, ev_drop, ev_out, ev_out_ex, ev_outA, ev_c, ev_set, ev_own, ev_bind, ev_bind_ex, ev_bindA, ev_op, ev_un, ev_call, ev_ofO, ev_nil, ev_cons, ev_consok, ev_push, ev_tup, ev_lst, ev_not, ev_notb, ev_and, ev_or, ev_if, ev_ite, ev_chain, ev_var, ev_ixO, ev_setIx, ev_augIx, ev_opOL, ev_callO, ev_ref, ev_mut, ev_callF, ev_callN, ev_back, ev_backX, ev_backN, ev_mk0, ev_mkv, ev_mkr, ev_wb0, ev_wbv, ev_wbr, ev_iter, ev_iterA, ev_comp, ev_for, ev_sl, ev_part0, ev_part1, ev_mpart, ev_asg, ev_par, ev_listOf, ev_binL, ev_gN, ev_gT, ev_gA0, ev_gA, ev_noIo0, ev_noIo, ev_wipe0, ev_wipe, ev_compL0, ev_compL, ev_forL0, ev_forL, at2_0, at2_1, ixN2_0, ixN2_1, fnSem, List.length_cons, List.length_nil, List.replicate, List.append_eq, List.cons_append, List.nil_append, List.getElem?_cons_zero, List.getElem?_cons_succ, List.set_cons_zero, List.set_cons_succ, List.take_succ_cons, List.take_zero, isIoAt, lstAt, setL, Nat.reduceAdd, Nat.reduceSub, Option.map_some, Option.bind_some, if_true, if_false, Bool.false_eq_true, ite_true, ite_false, reduceIte, Int.natCast_add, decide_eq_true_eq, decide_true, decide_false, Bool.not_true, Bool.not_false, Bool.not_eq_true, and_self, and_true, true_and, Nat.reduceLeDiff, Nat.reduceLT, Bool.and_true, Bool.true_and, Bool.and_false, Bool.false_and, a1, q1, r1, n1, a2, r2]
def GT : Str := "!a,abcdef,z =0 .. abcdef =2 > .. $3 abcdef $0"
def GD : Dt := .tuple [.tuple [.tuple [.str "none", .tuple [.str "a", .str "abcdef", .str "z"]], .tuple [.str "like", .int 0]], .bool true, .tuple [.tuple [.str "is", .str "abcdef"], .tuple [.str "like", .int 2]], .tuple [.tuple [.str "rest"], .tuple [.str "field", .int 3], .tuple [.str "word", .str "abcdef"], .tuple [.str "field", .int 0]]]
theorem great_rd : F_read_rule [.val (.str GT)] = .ok GD [.val (.str GT)] := by kernel_rfl
theorem great_wr : F_rule_text [.val GD] = .ok (.str GT) [.val GD] := by kernel_rfl
theorem great_ne : eqD GD (refT 16) = some (.bool false) := by kernel_rfl
theorem none_wr : F_script_text [.val (.tuple [])] = .ok (.str "") [.val (.tuple [])] := by kernel_rfl
theorem many_len {g : Str} (h : g.length ≤ 500) : (timesS g 5).length ≤ 10000 ∧ (timesS g 4).length ≤ 10000 := by
  rw [(times_eq g).1, (times_eq g).2]
  have h1 := join_len "" [g, g, g, g, g]
  have h2 := join_len "" [g, g, g, g]
  simp only [em_len, List.map_cons, List.map_nil, List.sum_cons, List.sum_nil, Nat.mul_zero, Nat.add_zero] at h1 h2
  omega
theorem law_true (ns : List Int) (h : ns.length ≤ 63) : ∃ ss, F_law_k18 [.val (.list (ns.map .int))] = .ok (.bool true) ss := by
  obtain ⟨rs, tw1, e1, h1, h2, ht1, hpos⟩ := script_ok ns (tw := twn 0 0) ⟨0, 0, rfl, by omega, by omega⟩ 1 (by omega) (by omega)
  obtain ⟨r0, rfl⟩ : ∃ r0, rs = [r0] := by
    cases rs with
    | nil => simp at hpos
    | cons a b => cases b with
      | nil => exact ⟨a, rfl⟩
      | cons c d => simp at h1
  have R0 := h2 r0 (List.mem_cons_self ..)
  have f0 := raw_fine R0
  obtain ⟨g, hg⟩ : ∃ g, g = writtenM r0.raw := ⟨_, rfl⟩
  have gl : g.length ≤ 410 := hg ▸ written_len f0
  have gn : 10 ∉ tl g := hg ▸ written_nl f0
  have f1 : F_rule_text [.val r0.enc] = .ok (.str g) [.val r0.enc] := by
    have q1 := need_rule_ok (isrule_ok r0 R0)
    have q2 := written_ok r0.raw f0
    rw [raw_enc, ← hg] at q2
    unfold F_rule_text m_rule_text
    simp only [ev_seq, ev_seq_nx, ev_seq_rt, ev_seq_ex, ev_seq_bk, ev_seq_ct, ev_seq_st, ev_seq_ite, ev_next, ev_ifs, ev_ites, ev_ites_ex, ev_ret, ev_drop, ev_out, ev_out_ex, ev_outA, ev_c, ev_set, ev_own, ev_bind, ev_bind_ex, ev_bindA, ev_op, ev_un, ev_call, ev_ofO, ev_nil, ev_cons, ev_consok, ev_push, ev_tup, ev_lst, ev_not, ev_notb, ev_and, ev_or, ev_if, ev_ite, ev_chain, ev_var, ev_ixO, ev_setIx, ev_augIx, ev_opOL, ev_callO, ev_ref, ev_mut, ev_callF, ev_callN, ev_back, ev_backX, ev_backN, ev_mk0, ev_mkv, ev_mkr, ev_wb0, ev_wbv, ev_wbr, ev_iter, ev_iterA, ev_comp, ev_for, ev_sl, ev_part0, ev_part1, ev_mpart, ev_asg, ev_par, ev_listOf, ev_binL, ev_gN, ev_gT, ev_gA0, ev_gA, ev_noIo0, ev_noIo, ev_wipe0, ev_wipe, ev_compL0, ev_compL, ev_forL0, ev_forL, at2_0, at2_1, ixN2_0, ixN2_1, fnSem, List.length_cons, List.length_nil, List.replicate, List.append_eq, List.cons_append, List.nil_append, List.getElem?_cons_zero, List.getElem?_cons_succ, List.set_cons_zero, List.set_cons_succ, List.take_succ_cons, List.take_zero, isIoAt, lstAt, setL, Nat.reduceAdd, Nat.reduceSub, Option.map_some, Option.bind_some, if_true, if_false, Bool.false_eq_true, ite_true, ite_false, reduceIte, Int.natCast_add, decide_eq_true_eq, decide_true, decide_false, Bool.not_true, Bool.not_false, Bool.not_eq_true, and_self, and_true, true_and, Nat.reduceLeDiff, Nat.reduceLT, Bool.and_true, Bool.true_and, Bool.and_false, Bool.false_and, q1, q2]
  have a1 : addD (.str g) (.str "\n") = some (.str (g ++ ("\n" : Str))) := add_str (by rw [nl_len]; omega)
  have a2 : addD (.str g) (.str " ") = some (.str (g ++ (" " : Str))) := add_str (by rw [sp_len]; omega)
  have sne : ("" : Str) ≠ g ++ ("\n" : Str) := fun e => by
    have := congrArg tl e
    rw [TL.tl_append, tl_nl, tl_em] at this
    have := congrArg List.length this
    simp at this
  -- the first loop
  obtain ⟨ρ1, l1, s4, hs4, rfl⟩ := forL_each (g := gN 4) (b := b1) (fun ρ => ∃ s, (s = .no ∨ ∃ d, s = .val d) ∧ ρ = st8 ns tw1 g (.own (preL g)) s .no) (badL g) (st8 ns tw1 g (.own (preL g)) .no .no) ⟨.no, .inl rfl, rfl⟩ (by
    rintro d hd ρ ⟨s, hs, rfl⟩
    have ground : ∀ t ∈ badX, b1 (st8 ns tw1 g (.own (preL g)) (.val (.str t)) .no) = .nx (st8 ns tw1 g (.own (preL g)) (.val (.str t)) .no) := fun t ht => by
      obtain ⟨k1, k2, k3, k4⟩ := badX_each ht
      exact b1_ok ns tw1 g (by omega) _ _ _ k1 ⟨_, notIn_tupS t _, fun _ => k2⟩ (.inr ⟨t, rfl, by omega, .inr k3⟩)
    have key : b1 (st8 ns tw1 g (.own (preL g)) (.val d) .no) = .nx (st8 ns tw1 g (.own (preL g)) (.val d) .no) := by
      unfold badL at hd
      simp only [List.mem_cons, List.mem_append, List.mem_map] at hd
      rcases hd with rfl | rfl | ⟨t, ht, rfl⟩ | ⟨t, ht, rfl⟩ | rfl | rfl | rfl | rfl | ⟨t, ht, rfl⟩
      · exact b1_ok ns tw1 g (by omega) _ _ _ (by rfl) ⟨true, by rfl, fun _ => by rfl⟩ (.inl (by rfl))
      · refine b1_ok ns tw1 g (by omega) _ _ _ empty_rd.1 ⟨false, ?_, fun e => by cases e⟩ (.inr ⟨"", rfl, by decide +kernel, .inr empty_rd.2.1⟩)
        rw [notIn_tupS]
        simp
      · exact ground t (List.mem_append_left _ (List.mem_append_left _ ht))
      · exact ground t (List.mem_append_left _ (List.mem_append_right _ ht))
      · refine b1_ok ns tw1 g (by omega) _ _ _ (with_nl (by omega)) ⟨false, ?_, fun e => by cases e⟩ (.inr ⟨_, rfl, by rw [len_app, nl_len]; omega, .inl rfl⟩)
        rw [notIn_tupS]
        simp
      · exact b1_ok ns tw1 g (by omega) _ _ _ (with_sp (by omega)) ⟨_, notIn_tupS _ _, fun _ => script_sp (by omega) gn⟩ (.inr ⟨_, rfl, by rw [len_app, sp_len]; omega, .inr (script_spL (by omega) gn)⟩)
      · exact b1_ok ns tw1 g (by omega) _ _ _ (by rfl) ⟨true, by rfl, fun _ => by rfl⟩ (.inl (by rfl))
      · exact b1_ok ns tw1 g (by omega) _ _ _ (by rfl) ⟨true, by rfl, fun _ => by rfl⟩ (.inl (by rfl))
      · exact ground t (List.mem_append_right _ ht)
    refine ⟨st8 ns tw1 g (.own (preL g)) (.val d) .no, _, ?_, key, .val d, .inr ⟨_, rfl⟩, rfl⟩
    rcases hs with rfl | ⟨d', rfl⟩ <;> rfl)
  let K2 : List Dt := [.none, .tuple [], .str "a > b", .tuple [.tuple [.str "any"]], .list [.str g]]
  obtain ⟨ρ2, l2, s5, hs5, rfl⟩ := forL_each (g := gN 5) (b := b2) (fun ρ => ∃ s, (s = .no ∨ ∃ d, s = .val d) ∧ ρ = st8 ns tw1 g (.own (preL g)) s4 s) K2 (st8 ns tw1 g (.own (preL g)) s4 .no) ⟨.no, .inl rfl, rfl⟩ (by
    rintro d hd ρ ⟨s, hs, rfl⟩
    have key : b2 (st8 ns tw1 g (.own (preL g)) s4 (.val d)) = .nx (st8 ns tw1 g (.own (preL g)) s4 (.val d)) := by
      simp only [K2, List.mem_cons, List.not_mem_nil, or_false] at hd
      rcases hd with rfl | rfl | rfl | rfl | rfl
      · exact b2_ok ns tw1 g _ _ _ (by rfl) (.inr ⟨by rfl, by rfl⟩)
      · exact b2_ok ns tw1 g _ _ _ (by rfl) (.inl rfl)
      · exact b2_ok ns tw1 g _ _ _ (by rfl) (.inr ⟨by rfl, by rfl⟩)
      · exact b2_ok ns tw1 g _ _ _ (by rfl) (.inr ⟨by rfl, by rfl⟩)
      · exact b2_ok ns tw1 g _ _ _ (by rfl) (.inr ⟨by rfl, by rfl⟩)
    refine ⟨st8 ns tw1 g (.own (preL g)) s4 (.val d), _, ?_, key, .val d, .inr ⟨_, rfl⟩, rfl⟩
    rcases hs with rfl | ⟨d', rfl⟩ <;> rfl)
  have q5 : NoRs (.str (timesS (g ++ ("\n" : Str)) 5)) := by
    have hl := (many_len (g := g ++ ("\n" : Str)) (by rw [len_app, nl_len]; omega)).1
    have e5 : timesS (g ++ ("\n" : Str)) 5 = scriptM ([r0, r0, r0, r0, r0].map Rul.raw) := by rw [hg]; exact fiveM r0.raw
    have hr : ∀ r ∈ [r0, r0, r0, r0, r0], RIn r := fun r hr => by simp only [List.mem_cons, List.not_mem_nil, or_false, or_self] at hr; exact hr ▸ R0
    have hlen : (scriptM ([r0, r0, r0, r0, r0].map Rul.raw)).length ≤ 4000 := by
      have := join_len "" (([r0, r0, r0, r0, r0].map Rul.raw).map fun r => writtenM r ++ ("\n" : Str))
      have wl := written_len f0
      simp only [em_len, List.map_cons, List.map_nil, List.sum_cons, List.sum_nil, Nat.mul_zero, Nat.add_zero, len_app, nl_len] at this
      unfold scriptM
      simp only [List.map_cons, List.map_nil]
      omega
    have e := read_script_ev hlen
    rw [rulesOf_drawn hr, if_neg (fun q => by have := q.1; unfold sokM at this; simp at this)] at e
    unfold NoRs
    rw [e5]
    exact e
  have q4 : ∃ D, F_read_script [.val (.str (timesS (g ++ ("\n" : Str)) 4))] = .ok D [.val (.str (timesS (g ++ ("\n" : Str)) 4))] ∧ lenTD [D] = some (.int 4) := by
    have e4 : timesS (g ++ ("\n" : Str)) 4 = scriptM ([r0, r0, r0, r0].map Rul.raw) := by rw [hg]; exact fourM r0.raw
    have hr : ∀ r ∈ [r0, r0, r0, r0], RIn r := fun r hr => by simp only [List.mem_cons, List.not_mem_nil, or_false, or_self] at hr; exact hr ▸ R0
    have hlen : (scriptM ([r0, r0, r0, r0].map Rul.raw)).length ≤ 4000 := by
      have := join_len "" (([r0, r0, r0, r0].map Rul.raw).map fun r => writtenM r ++ ("\n" : Str))
      have wl := written_len f0
      simp only [em_len, List.map_cons, List.map_nil, List.sum_cons, List.sum_nil, Nat.mul_zero, Nat.add_zero, len_app, nl_len] at this
      unfold scriptM
      simp only [List.map_cons, List.map_nil]
      omega
    have e := read_script_ev hlen
    have hok : sokM ([r0, r0, r0, r0].map Rul.raw) = true := by
      unfold sokM
      simp only [List.map_cons, List.map_nil, List.all_cons, List.all_nil, raw_okM R0, List.length_cons, List.length_nil]
      rfl
    rw [rulesOf_drawn hr, if_pos ⟨hok, rfl⟩] at e
    rw [e4]
    exact ⟨_, e, rfl⟩
  obtain ⟨D4, q4, q4l⟩ := q4
  have m5 : mulSD (.str (g ++ ("\n" : Str))) (.int 5) = some (.str (timesS (g ++ ("\n" : Str)) 5)) := if_pos ⟨by omega, by omega, by rw [len_app, nl_len]; omega, by rw [len_app, nl_len]; omega, (many_len (by rw [len_app, nl_len]; omega)).1⟩
  have m4 : mulSD (.str (g ++ ("\n" : Str))) (.int 4) = some (.str (timesS (g ++ ("\n" : Str)) 4)) := if_pos ⟨by omega, by omega, by rw [len_app, nl_len]; omega, by rw [len_app, nl_len]; omega, (many_len (by rw [len_app, nl_len]; omega)).2⟩
  have x1 := ask_ok (w := 3) fn3 empty_rd.2.2
  have x2 := ask_exc (w := 3) fn3 q5 g_text
  have x3 := ask_ok (w := 3) fn3 q4
  have x4 := ask_ok (w := 2) fn2 great_rd
  have x5 := ask_ok (w := 1) fn1 none_wr
  have k1 : ((1:Nat):Int) = 1 := rfl
  have k2 : ((2:Nat):Int) = 2 := rfl
  have k3 : ((3:Nat):Int) = 3 := rfl
  rw [k3] at x1 x2 x3
  rw [k2] at x4
  rw [k1] at x5
  have n0 : neD (.tuple []) (.tuple []) = some (.bool false) := by rfl
  have n4 : neD (.int 4) (.int 4) = some (.bool false) := by rfl
  have nG : neD (.str GT) (.str GT) = some (.bool false) := by rw [neD_str]; simp
  have eE : eqD (.str "") (.str "") = some (.bool true) := by rw [eqD_str]; simp
  have r16 := ref_self 16
  have q1 : ∀ k : Int, PyData.tuple [.str "refused", .int k] = refT k := fun _ => rfl
  have i0 : ixD (tRs [r0]) (.int 0) = some r0.enc := ix_map (k := 0) rfl
  have e0 : F_law_script [.val (intsD ns), .io [.int 0, .int 0], .val (.int 1), .val (.int 2)] = .ok (tRs [r0]) [.val (intsD ns), .io tw1, .val (.int 1), .val (.int 2)] := e1
  have sq2 : seqD (.tuple [.none, .tuple [], .str "a > b", .tuple [.tuple [.str "any"]], .list [.str g]]) = some K2 := rfl
  have gtE : (PyData.str "!a,abcdef,z =0 .. abcdef =2 > .. $3 abcdef $0") = .str GT := rfl
  have ct : mCatO 3 (mCons (mC (.str "a > *")) (mCons (mC (.str "a > =0")) (mCons (mC (.str "a > !a")) mNil))) (st8 ns tw1 g (.own (preL g)) .no .no) = .ok (badL g) (st8 ns tw1 g (.own (preL g)) .no .no) := by
    have q := pre_len g
    have : mCatO 3 (mCons (mC (.str "a > *")) (mCons (mC (.str "a > =0")) (mCons (mC (.str "a > !a")) mNil))) (st8 ns tw1 g (.own (preL g)) .no .no) = if (preL g).length + 3 ≤ 10000 then .ok (preL g ++ [.str "a > *", .str "a > =0", .str "a > !a"]) (st8 ns tw1 g (.own (preL g)) .no .no) else .stuck := rfl
    rw [this, if_pos (by omega), pre_eq]
  have sqL : seqD (.list (badL g)) = some (badL g) := rfl
  have rest : rest18 (st8 ns tw1 g (.own (preL g)) .no .no) = .rt (.bool true) [.val (intsD ns), .own tw1, .val (.str g), .own (preL g), .val (.str GT), s5] := by
    unfold rest18
    unfold st8 at l1 l2 ct ⊢
    rcases hs4 with rfl | ⟨d4, rfl⟩
    · simp only [ev_seq, ev_seq_nx, ev_seq_rt, ev_seq_ex, ev_seq_bk, ev_seq_ct, ev_seq_st, ev_seq_ite, ev_next, ev_ifs, ev_ites, ev_ites_ex, ev_ret, ev_drop, ev_out, ev_out_ex, ev_outA, ev_c, ev_set, ev_own, ev_bind, ev_bind_ex, ev_bindA, ev_op, ev_un, ev_call, ev_ofO, ev_nil, ev_cons, ev_consok, ev_push, ev_tup, ev_lst, ev_not, ev_notb, ev_and, ev_or, ev_if, ev_ite, ev_chain, ev_var, ev_ixO, ev_setIx, ev_augIx, ev_opOL, ev_callO, ev_ref, ev_mut, ev_callF, ev_callN, ev_back, ev_backX, ev_backN, ev_mk0, ev_mkv, ev_mkr, ev_wb0, ev_wbv, ev_wbr, ev_iter, ev_iterA, ev_comp, ev_for, ev_sl, ev_part0, ev_part1, ev_mpart, ev_asg, ev_par, ev_listOf, ev_binL, ev_gN, ev_gT, ev_gA0, ev_gA, ev_noIo0, ev_noIo, ev_wipe0, ev_wipe, ev_compL0, ev_compL, ev_forL0, ev_forL, at2_0, at2_1, ixN2_0, ixN2_1, fnSem, List.length_cons, List.length_nil, List.replicate, List.append_eq, List.cons_append, List.nil_append, List.getElem?_cons_zero, List.getElem?_cons_succ, List.set_cons_zero, List.set_cons_succ, List.take_succ_cons, List.take_zero, isIoAt, lstAt, setL, Nat.reduceAdd, Nat.reduceSub, Option.map_some, Option.bind_some, if_true, if_false, Bool.false_eq_true, ite_true, ite_false, reduceIte, Int.natCast_add, decide_eq_true_eq, decide_true, decide_false, Bool.not_true, Bool.not_false, Bool.not_eq_true, and_self, and_true, true_and, Nat.reduceLeDiff, Nat.reduceLT, Bool.and_true, Bool.true_and, Bool.and_false, Bool.false_and, ct, sqL, l1, x1, n0, m5, x2, q1, r16, a1, m4, x3, q4l, n4, sq2, l2, gtE, x4, great_ne, great_wr, nG, x5, eE]
    · simp only [ev_seq, ev_seq_nx, ev_seq_rt, ev_seq_ex, ev_seq_bk, ev_seq_ct, ev_seq_st, ev_seq_ite, ev_next, ev_ifs, ev_ites, ev_ites_ex, ev_ret, ev_drop, ev_out, ev_out_ex, ev_outA, ev_c, ev_set, ev_own, ev_bind, ev_bind_ex, ev_bindA, ev_op, ev_un, ev_call, ev_ofO, ev_nil, ev_cons, ev_consok, ev_push, ev_tup, ev_lst, ev_not, ev_notb, ev_and, ev_or, ev_if, ev_ite, ev_chain, ev_var, ev_ixO, ev_setIx, ev_augIx, ev_opOL, ev_callO, ev_ref, ev_mut, ev_callF, ev_callN, ev_back, ev_backX, ev_backN, ev_mk0, ev_mkv, ev_mkr, ev_wb0, ev_wbv, ev_wbr, ev_iter, ev_iterA, ev_comp, ev_for, ev_sl, ev_part0, ev_part1, ev_mpart, ev_asg, ev_par, ev_listOf, ev_binL, ev_gN, ev_gT, ev_gA0, ev_gA, ev_noIo0, ev_noIo, ev_wipe0, ev_wipe, ev_compL0, ev_compL, ev_forL0, ev_forL, at2_0, at2_1, ixN2_0, ixN2_1, fnSem, List.length_cons, List.length_nil, List.replicate, List.append_eq, List.cons_append, List.nil_append, List.getElem?_cons_zero, List.getElem?_cons_succ, List.set_cons_zero, List.set_cons_succ, List.take_succ_cons, List.take_zero, isIoAt, lstAt, setL, Nat.reduceAdd, Nat.reduceSub, Option.map_some, Option.bind_some, if_true, if_false, Bool.false_eq_true, ite_true, ite_false, reduceIte, Int.natCast_add, decide_eq_true_eq, decide_true, decide_false, Bool.not_true, Bool.not_false, Bool.not_eq_true, and_self, and_true, true_and, Nat.reduceLeDiff, Nat.reduceLT, Bool.and_true, Bool.true_and, Bool.and_false, Bool.false_and, ct, sqL, l1, x1, n0, m5, x2, q1, r16, a1, m4, x3, q4l, n4, sq2, l2, gtE, x4, great_ne, great_wr, nG, x5, eE]
  refine ⟨[.val (intsD ns)], ?_⟩
  show F_law_k18 [.val (intsD ns)] = _
  have pre : ∀ X : Ev → Out, ((mSeq (mOwn 1 (mCons (mC (.int 0)) (mCons (mC (.int 0)) mNil)))
  (mSeq (mSet 2 (mCallF F_rule_text [none] (mCons (mOp ixD (mCallF F_law_script [none, some 1, none, none] (mCons (mVar 0) (mRef 1 (mCons (mC (.int 1)) (mCons (mC (.int 2)) mNil))))) (mC (.int 0))) mNil)))
  (mSeq (mOwn 3 (mCons (mC .none) (mCons (mC (.str "")) (mCons (mC (.str ">")) (mCons (mC (.str "> a")) (mCons (mC (.str "a >")) (mCons (mC (.str "a  > b")) (mCons (mC (.str "a > b ")) (mCons (mC (.str " a > b")) (mCons (mC (.str "a >  b")) (mCons (mC (.str "a b")) (mCons (mC (.str "a > b > c")) mNil))))))))))))
  (mSeq (mMut 3 extendF (mCons (mLst (mCons (mC (.str "a>b")) (mCons (mC (.str "A > b")) (mCons (mC (.str "abcdefg > b")) (mCons (mC (.str "a > B")) (mCons (mC (.str "a b c > d")) mNil)))))) mNil))
  (mSeq (mMut 3 extendF (mCons (mLst (mCons (mC (.str ".. a b c > d")) (mCons (mC (.str "a .. b .. c > d")) (mCons (mC (.str "=0 > a")) (mCons (mC (.str "a =1 > b")) (mCons (mC (.str "a =2 > b")) (mCons (mC (.str "* =a > b")) mNil))))))) mNil))
  (mSeq (mMut 3 extendF (mCons (mLst (mCons (mC (.str "* = > b")) (mCons (mC (.str "! > b")) (mCons (mC (.str "!b,a > c")) (mCons (mC (.str "!a,a > c")) (mCons (mC (.str "!a,b,c,d > e")) mNil)))))) mNil))
  (mSeq (mMut 3 extendF (mCons (mLst (mCons (mC (.str "!a, > b")) (mCons (mC (.str "!A > b")) (mCons (mC (.str "** > b")) (mCons (mC (.str "a > $1")) (mCons (mC (.str "a > $")) (mCons (mC (.str "a > $a")) (mCons (mC (.str "a > $00")) (mCons (mC (.str "a > ..")) mNil))))))))) mNil))
  (mSeq (mMut 3 extendF (mCons (mLst (mCons (mC (.str ".. > ..")) (mCons (mC (.str ".. > a .. ..")) (mCons (mC (.str ".. > a a a a a")) (mCons (mC (.str "a > a ..")) (mCons (mC (.str "1 > b")) mNil)))))) mNil))
  (mSeq (mMut 3 extendF (mCons (mLst (mCons (mC (.str "=0 .. > a")) (mCons (mOp addD (mVar 2) (mC (.str "\n"))) (mCons (mOp addD (mVar 2) (mC (.str " "))) (mCons (mC (.int 5)) (mCons (mLst (mCons (mVar 2) mNil)) (mCons (mC (.str "a >= b")) (mCons (mC (.str ". > a")) (mCons (mC (.str "... > a")) mNil))))))))) mNil))
  X)))))))))) [.val (intsD ns), .no, .no, .no, .no, .no] = X (st8 ns tw1 g (.own (preL g)) .no .no) := by
    intro X
    simp only [ev_seq, ev_seq_nx, ev_seq_rt, ev_seq_ex, ev_seq_bk, ev_seq_ct, ev_seq_st, ev_seq_ite, ev_next, ev_ifs, ev_ites, ev_ites_ex, ev_ret, ev_drop, ev_out, ev_out_ex, ev_outA, ev_c, ev_set, ev_own, ev_bind, ev_bind_ex, ev_bindA, ev_op, ev_un, ev_call, ev_ofO, ev_nil, ev_cons, ev_consok, ev_push, ev_tup, ev_lst, ev_not, ev_notb, ev_and, ev_or, ev_if, ev_ite, ev_chain, ev_var, ev_ixO, ev_setIx, ev_augIx, ev_opOL, ev_callO, ev_ref, ev_mut, ev_callF, ev_callN, ev_back, ev_backX, ev_backN, ev_mk0, ev_mkv, ev_mkr, ev_wb0, ev_wbv, ev_wbr, ev_iter, ev_iterA, ev_comp, ev_for, ev_sl, ev_part0, ev_part1, ev_mpart, ev_asg, ev_par, ev_listOf, ev_binL, ev_gN, ev_gT, ev_gA0, ev_gA, ev_noIo0, ev_noIo, ev_wipe0, ev_wipe, ev_compL0, ev_compL, ev_forL0, ev_forL, at2_0, at2_1, ixN2_0, ixN2_1, fnSem, List.length_cons, List.length_nil, List.replicate, List.append_eq, List.cons_append, List.nil_append, List.getElem?_cons_zero, List.getElem?_cons_succ, List.set_cons_zero, List.set_cons_succ, List.take_succ_cons, List.take_zero, isIoAt, lstAt, setL, Nat.reduceAdd, Nat.reduceSub, Option.map_some, Option.bind_some, if_true, if_false, Bool.false_eq_true, ite_true, ite_false, reduceIte, Int.natCast_add, decide_eq_true_eq, decide_true, decide_false, Bool.not_true, Bool.not_false, Bool.not_eq_true, and_self, and_true, true_and, Nat.reduceLeDiff, Nat.reduceLT, Bool.and_true, Bool.true_and, Bool.and_false, Bool.false_and, e0, i0, f1, a1, a2, extendF]
    rfl
  unfold F_law_k18
  rw [m_law_k18_eq]
  simp only [fnSem, List.length_cons, List.length_nil, if_true, Nat.reduceAdd, Nat.reduceSub, List.replicate, List.cons_append, List.nil_append, pre rest18, rest]
  rfl
end NS

set_option Elab.async false
set_option linter.all false
set_option autoImplicit false
set_option maxRecDepth 100000
set_option maxHeartbeats 4000000
namespace NS
open PySem PySem.Spec PyProof.Rows L2
def d_is_word : He.DefD := ⟨("is_word", none), "is_word", "is_word", defArgs s_is_word, defBody s_is_word, defScope s_is_word, [], []⟩
def d_is_rising : He.DefD := ⟨("is_rising", none), "is_rising", "is_rising", defArgs s_is_rising, defBody s_is_rising, defScope s_is_rising, [], []⟩
def d_is_number_below : He.DefD := ⟨("is_number_below", none), "is_number_below", "is_number_below", defArgs s_is_number_below, defBody s_is_number_below, defScope s_is_number_below, [], []⟩
def d_has_kind : He.DefD := ⟨("has_kind", none), "has_kind", "has_kind", defArgs s_has_kind, defBody s_has_kind, defScope s_has_kind, [], []⟩
def d_is_barred : He.DefD := ⟨("is_barred", none), "is_barred", "is_barred", defArgs s_is_barred, defBody s_is_barred, defScope s_is_barred, [], []⟩
def d_is_test : He.DefD := ⟨("is_test", none), "is_test", "is_test", defArgs s_is_test, defBody s_is_test, defScope s_is_test, [], []⟩
def d_is_side : He.DefD := ⟨("is_side", none), "is_side", "is_side", defArgs s_is_side, defBody s_is_side, defScope s_is_side, [], []⟩
def d_is_looking : He.DefD := ⟨("is_looking", none), "is_looking", "is_looking", defArgs s_is_looking, defBody s_is_looking, defScope s_is_looking, [], []⟩
def d_is_item : He.DefD := ⟨("is_item", none), "is_item", "is_item", defArgs s_is_item, defBody s_is_item, defScope s_is_item, [], []⟩
def d_is_making : He.DefD := ⟨("is_making", none), "is_making", "is_making", defArgs s_is_making, defBody s_is_making, defScope s_is_making, [], []⟩
def d_is_rule : He.DefD := ⟨("is_rule", none), "is_rule", "is_rule", defArgs s_is_rule, defBody s_is_rule, defScope s_is_rule, [], []⟩
def d_is_script : He.DefD := ⟨("is_script", none), "is_script", "is_script", defArgs s_is_script, defBody s_is_script, defScope s_is_script, [], []⟩
def d_need_rule : He.DefD := ⟨("need_rule", none), "need_rule", "need_rule", defArgs s_need_rule, defBody s_need_rule, defScope s_need_rule, [], []⟩
def d_need_script : He.DefD := ⟨("need_script", none), "need_script", "need_script", defArgs s_need_script, defBody s_need_script, defScope s_need_script, [], []⟩
def d_text_of_test : He.DefD := ⟨("text_of_test", none), "text_of_test", "text_of_test", defArgs s_text_of_test, defBody s_text_of_test, defScope s_text_of_test, [], []⟩
def d_text_of_item : He.DefD := ⟨("text_of_item", none), "text_of_item", "text_of_item", defArgs s_text_of_item, defBody s_text_of_item, defScope s_text_of_item, [], []⟩
def d_written_rule : He.DefD := ⟨("written_rule", none), "written_rule", "written_rule", defArgs s_written_rule, defBody s_written_rule, defScope s_written_rule, [], []⟩
def d_written_script : He.DefD := ⟨("written_script", none), "written_script", "written_script", defArgs s_written_script, defBody s_written_script, defScope s_written_script, [], []⟩
def d_test_of : He.DefD := ⟨("test_of", none), "test_of", "test_of", defArgs s_test_of, defBody s_test_of, defScope s_test_of, [], []⟩
def d_item_of : He.DefD := ⟨("item_of", none), "item_of", "item_of", defArgs s_item_of, defBody s_item_of, defScope s_item_of, [], []⟩
def d_rule_of : He.DefD := ⟨("rule_of", none), "rule_of", "rule_of", defArgs s_rule_of, defBody s_rule_of, defScope s_rule_of, [], []⟩
def d_rule_text : He.DefD := ⟨("rule_text", none), "rule_text", "rule_text", defArgs s_rule_text, defBody s_rule_text, defScope s_rule_text, [], []⟩
def d_script_text : He.DefD := ⟨("script_text", none), "script_text", "script_text", defArgs s_script_text, defBody s_script_text, defScope s_script_text, [], []⟩
def d_read_rule : He.DefD := ⟨("read_rule", none), "read_rule", "read_rule", defArgs s_read_rule, defBody s_read_rule, defScope s_read_rule, [], []⟩
def d_read_script : He.DefD := ⟨("read_script", none), "read_script", "read_script", defArgs s_read_script, defBody s_read_script, defScope s_read_script, [], []⟩
def d_law_draw : He.DefD := ⟨("_law_draw", none), "_law_draw", "_law_draw", defArgs s_law_draw, defBody s_law_draw, defScope s_law_draw, [], []⟩
def d_law_pick : He.DefD := ⟨("_law_pick", none), "_law_pick", "_law_pick", defArgs s_law_pick, defBody s_law_pick, defScope s_law_pick, [], []⟩
def d_law_test : He.DefD := ⟨("_law_test", none), "_law_test", "_law_test", defArgs s_law_test, defBody s_law_test, defScope s_law_test, [], []⟩
def d_law_rule : He.DefD := ⟨("_law_rule", none), "_law_rule", "_law_rule", defArgs s_law_rule, defBody s_law_rule, defScope s_law_rule, [], []⟩
def d_law_script : He.DefD := ⟨("_law_script", none), "_law_script", "_law_script", defArgs s_law_script, defBody s_law_script, defScope s_law_script, [], []⟩
def d_law_name : He.DefD := ⟨("_law_name", none), "_law_name", "_law_name", defArgs s_law_name, defBody s_law_name, defScope s_law_name, [], []⟩
def d_law_which : He.DefD := ⟨("_law_which", none), "_law_which", "_law_which", defArgs s_law_which, defBody s_law_which, defScope s_law_which, [], []⟩
def d_law_ask_k18 : He.DefD := ⟨("_law_ask", none), "_law_ask", "_law_ask", defArgs s_law_ask_k18, defBody s_law_ask_k18, defScope s_law_ask_k18, [], []⟩
def d_law_k18 : He.DefD := ⟨("law", none), "law", "law", defArgs s_law_k18, defBody s_law_k18, defScope s_law_k18, [], []⟩
def fn8 : List He.DefD := [d_is_word, d_is_rising, d_is_number_below, d_has_kind, d_is_barred, d_is_test, d_is_side, d_is_looking, d_is_item, d_is_making, d_is_rule, d_is_script, d_need_rule, d_need_script, d_text_of_test, d_text_of_item, d_written_rule, d_written_script, d_test_of, d_item_of, d_rule_of, d_rule_text, d_script_text, d_read_rule, d_read_script, d_law_draw, d_law_pick, d_law_test, d_law_rule, d_law_script, d_law_name, d_law_which, d_law_ask_k18, d_law_k18]
def fa8 : List He.Fa := [.glo "is_word", .glo "is_rising", .glo "is_number_below", .glo "has_kind", .glo "is_barred", .glo "is_test", .glo "is_side", .glo "is_looking", .glo "is_item", .glo "is_making", .glo "is_rule", .glo "is_script", .glo "need_rule", .glo "need_script", .glo "text_of_test", .glo "text_of_item", .glo "written_rule", .glo "written_script", .glo "test_of", .glo "item_of", .glo "rule_of", .glo "rule_text", .glo "script_text", .glo "read_rule", .glo "read_script", .glo "_law_draw", .glo "_law_pick", .glo "_law_test", .glo "_law_rule", .glo "_law_script", .glo "_law_name", .glo "_law_which", .glo "_law_ask", .glo "law", .free "ValueError", .free "all", .free "bool", .free "enumerate", .free "int", .free "isinstance", .free "len", .free "range", .free "str", .free "tuple", .int "MOST_LETTERS" 6, .int "MOST_TESTS" 2, .int "MOST_BARRED" 3, .int "MOST_ITEMS" 4, .int "MOST_RULES" 4, .str "FIGURES" "0123456789", .str "REST" "..", .glo "TurnError", .glo "NoName", .glo "NoRule", .glo "NoScript", .glo "NoFolder", .glo "Clash", .glo "NoOrder", .glo "Lost", .glo "Ringed", .glo "NoNumber", .glo "NoRow", .glo "NoWord", .glo "Taken", .glo "NotThere", .glo "Full", .glo "TooLong", .glo "NoDeed", .glo "NoText", .exc "NoRule", .exc "NoScript", .exc "NoText"]
def ex8 : PySem.W.Frag → Bool := exAll Es8 Ts8 "TurnError"
abbrev R8 : PySem.W.OpenRow := PySem.W.OpenLaw.row PySem.Challenge.rw_namescripts_k18_whole_texts_refused
abbrev hk8 : PySem.W.Hook := He.hookX 5 fa8 fn8 [] [] ex8
def ob8 (s : PySem.W.SharedT) : He.AlX := He.obsX 5 fa8 fn8 [] [] ex8 (HandSHeadRun.getT s)
theorem ob8_eq (s : PySem.W.SharedT) : ob8 s = hk8.obs s.abs := He.obsX_eq (HandSHeadRun.getT_eq s)
def loose8 : List PySem.Str := (["TurnError", "NoName", "NoRule", "NoScript", "NoFolder", "Clash", "NoOrder", "Lost", "Ringed", "NoNumber", "NoRow", "NoWord", "Taken", "NotThere", "Full", "TooLong", "NoDeed", "NoText", "MOST_LETTERS", "MOST_TESTS", "MOST_BARRED", "MOST_ITEMS", "MOST_RULES", "FIGURES", "REST", "is_word", "is_rising", "is_number_below", "has_kind", "is_barred"] : List PySem.Str) ++ (["is_test", "is_side", "is_looking", "is_item", "is_making", "is_rule", "is_script", "need_rule", "need_script", "text_of_test", "text_of_item", "written_rule", "written_script", "test_of", "item_of", "rule_of", "rule_text", "script_text", "read_rule", "read_script", "_law_draw", "_law_pick", "_law_test", "_law_rule", "_law_script", "_law_name", "_law_which", "_law_ask"] : List PySem.Str)
set_option maxHeartbeats 0 in
theorem run8 (w : World) : HandSHeadRun.RunEq R8 (PySem.W.view R8.prog [63]) hk8 ob8 12000 loose8 w := by
  intro os
  kernel_rfl
theorem facts8 {P : Program} {w : World} {K : PySem.W.Frag} {h : Heap} {mg : Str → Option Value} {f : Addr} (X : K.In h) (G : h.Ns mainGlobals mg) (hfa : mg ("law" : Str) = some (.ref f)) (c : He.SaysD fa8 fn8 K) (hx8 : ex8 K = true) :
    ∃ fd : FuncData, (∀ (s : Shared) (v : Value), BindsTo s fd ⟨[v], []⟩ [("_law_script_here", v)]) ∧ ∀ base : Heap, K.In base → base.Ns mainGlobals mg → FnOk P w K mg base (L2N.CX P w) 10 f fd ["_law_script_here"] (spF K mg F_law_k18) := by
  obtain ⟨fd_is_word, Fu_is_word⟩ := c.def_ 0 (d := d_is_word) rfl
  obtain ⟨fd_is_rising, Fu_is_rising⟩ := c.def_ 1 (d := d_is_rising) rfl
  obtain ⟨fd_is_number_below, Fu_is_number_below⟩ := c.def_ 2 (d := d_is_number_below) rfl
  obtain ⟨fd_has_kind, Fu_has_kind⟩ := c.def_ 3 (d := d_has_kind) rfl
  obtain ⟨fd_is_barred, Fu_is_barred⟩ := c.def_ 4 (d := d_is_barred) rfl
  obtain ⟨fd_is_test, Fu_is_test⟩ := c.def_ 5 (d := d_is_test) rfl
  obtain ⟨fd_is_side, Fu_is_side⟩ := c.def_ 6 (d := d_is_side) rfl
  obtain ⟨fd_is_looking, Fu_is_looking⟩ := c.def_ 7 (d := d_is_looking) rfl
  obtain ⟨fd_is_item, Fu_is_item⟩ := c.def_ 8 (d := d_is_item) rfl
  obtain ⟨fd_is_making, Fu_is_making⟩ := c.def_ 9 (d := d_is_making) rfl
  obtain ⟨fd_is_rule, Fu_is_rule⟩ := c.def_ 10 (d := d_is_rule) rfl
  obtain ⟨fd_is_script, Fu_is_script⟩ := c.def_ 11 (d := d_is_script) rfl
  obtain ⟨fd_need_rule, Fu_need_rule⟩ := c.def_ 12 (d := d_need_rule) rfl
  obtain ⟨fd_need_script, Fu_need_script⟩ := c.def_ 13 (d := d_need_script) rfl
  obtain ⟨fd_text_of_test, Fu_text_of_test⟩ := c.def_ 14 (d := d_text_of_test) rfl
  obtain ⟨fd_text_of_item, Fu_text_of_item⟩ := c.def_ 15 (d := d_text_of_item) rfl
  obtain ⟨fd_written_rule, Fu_written_rule⟩ := c.def_ 16 (d := d_written_rule) rfl
  obtain ⟨fd_written_script, Fu_written_script⟩ := c.def_ 17 (d := d_written_script) rfl
  obtain ⟨fd_test_of, Fu_test_of⟩ := c.def_ 18 (d := d_test_of) rfl
  obtain ⟨fd_item_of, Fu_item_of⟩ := c.def_ 19 (d := d_item_of) rfl
  obtain ⟨fd_rule_of, Fu_rule_of⟩ := c.def_ 20 (d := d_rule_of) rfl
  obtain ⟨fd_rule_text, Fu_rule_text⟩ := c.def_ 21 (d := d_rule_text) rfl
  obtain ⟨fd_script_text, Fu_script_text⟩ := c.def_ 22 (d := d_script_text) rfl
  obtain ⟨fd_read_rule, Fu_read_rule⟩ := c.def_ 23 (d := d_read_rule) rfl
  obtain ⟨fd_read_script, Fu_read_script⟩ := c.def_ 24 (d := d_read_script) rfl
  obtain ⟨fd_law_draw, Fu_law_draw⟩ := c.def_ 25 (d := d_law_draw) rfl
  obtain ⟨fd_law_pick, Fu_law_pick⟩ := c.def_ 26 (d := d_law_pick) rfl
  obtain ⟨fd_law_test, Fu_law_test⟩ := c.def_ 27 (d := d_law_test) rfl
  obtain ⟨fd_law_rule, Fu_law_rule⟩ := c.def_ 28 (d := d_law_rule) rfl
  obtain ⟨fd_law_script, Fu_law_script⟩ := c.def_ 29 (d := d_law_script) rfl
  obtain ⟨fd_law_name, Fu_law_name⟩ := c.def_ 30 (d := d_law_name) rfl
  obtain ⟨fd_law_which, Fu_law_which⟩ := c.def_ 31 (d := d_law_which) rfl
  obtain ⟨fd_law_ask_k18, Fu_law_ask_k18⟩ := c.def_ 32 (d := d_law_ask_k18) rfl
  obtain ⟨fd_law_k18, Fu_law_k18⟩ := c.def_ 33 (d := d_law_k18) rfl
  have gcl : ∀ x ∈ (["TurnError", "NoName", "NoRule", "NoScript", "NoFolder", "Clash", "NoOrder", "Lost", "Ringed", "NoNumber", "NoRow", "NoWord", "Taken", "NotThere", "Full", "TooLong", "NoDeed", "NoText"] : List Str), mg x = some (.ref (He.ga K x)) := by
    intro x hx
    simp only [List.mem_cons, List.not_mem_nil, or_false] at hx
    rcases hx with rfl | rfl | rfl | rfl | rfl | rfl | rfl | rfl | rfl | rfl | rfl | rfl | rfl | rfl | rfl | rfl | rfl | rfl
    · exact He.glo_ok X G (c.fact 51 (f := .glo "TurnError") rfl)
    · exact He.glo_ok X G (c.fact 52 (f := .glo "NoName") rfl)
    · exact He.glo_ok X G (c.fact 53 (f := .glo "NoRule") rfl)
    · exact He.glo_ok X G (c.fact 54 (f := .glo "NoScript") rfl)
    · exact He.glo_ok X G (c.fact 55 (f := .glo "NoFolder") rfl)
    · exact He.glo_ok X G (c.fact 56 (f := .glo "Clash") rfl)
    · exact He.glo_ok X G (c.fact 57 (f := .glo "NoOrder") rfl)
    · exact He.glo_ok X G (c.fact 58 (f := .glo "Lost") rfl)
    · exact He.glo_ok X G (c.fact 59 (f := .glo "Ringed") rfl)
    · exact He.glo_ok X G (c.fact 60 (f := .glo "NoNumber") rfl)
    · exact He.glo_ok X G (c.fact 61 (f := .glo "NoRow") rfl)
    · exact He.glo_ok X G (c.fact 62 (f := .glo "NoWord") rfl)
    · exact He.glo_ok X G (c.fact 63 (f := .glo "Taken") rfl)
    · exact He.glo_ok X G (c.fact 64 (f := .glo "NotThere") rfl)
    · exact He.glo_ok X G (c.fact 65 (f := .glo "Full") rfl)
    · exact He.glo_ok X G (c.fact 66 (f := .glo "TooLong") rfl)
    · exact He.glo_ok X G (c.fact 67 (f := .glo "NoDeed") rfl)
    · exact He.glo_ok X G (c.fact 68 (f := .glo "NoText") rfl)
  have GG : Glb K mg := ⟨He.free_ok X G (c.fact 34 (f := .free "ValueError") rfl), He.free_ok X G (c.fact 35 (f := .free "all") rfl), He.free_ok X G (c.fact 36 (f := .free "bool") rfl), He.free_ok X G (c.fact 37 (f := .free "enumerate") rfl), He.free_ok X G (c.fact 38 (f := .free "int") rfl), He.free_ok X G (c.fact 39 (f := .free "isinstance") rfl), He.free_ok X G (c.fact 40 (f := .free "len") rfl), He.free_ok X G (c.fact 41 (f := .free "range") rfl), He.free_ok X G (c.fact 42 (f := .free "str") rfl), He.free_ok X G (c.fact 43 (f := .free "tuple") rfl), He.int_ok X G (c.fact 44 (f := .int "MOST_LETTERS" 6) rfl), He.int_ok X G (c.fact 45 (f := .int "MOST_TESTS" 2) rfl), He.int_ok X G (c.fact 46 (f := .int "MOST_BARRED" 3) rfl), He.int_ok X G (c.fact 47 (f := .int "MOST_ITEMS" 4) rfl), He.int_ok X G (c.fact 48 (f := .int "MOST_RULES" 4) rfl), He.str_ok X G (c.fact 49 (f := .str "FIGURES" "0123456789") rfl), He.str_ok X G (c.fact 50 (f := .str "REST" "..") rfl), exck_of (He.glo_ok X G (c.fact 53 (f := .glo "NoRule") rfl)) (He.exc_ok (c.fact 69 (f := .exc "NoRule") rfl)), exck_of (He.glo_ok X G (c.fact 54 (f := .glo "NoScript") rfl)) (He.exc_ok (c.fact 70 (f := .exc "NoScript") rfl)), exck_of (He.glo_ok X G (c.fact 68 (f := .glo "NoText") rfl)) (He.exc_ok (c.fact 71 (f := .exc "NoText") rfl)), exF_of hx8 (fun x hx => gcl x (by revert x; decide)) (fun x hx => gcl x (by revert x; decide)) (gcl "TurnError" (by decide))⟩
  have B_is_word := FunD.bindsN (ps := ["thing"]) Fu_is_word fun _ _ _ _ _ _ us hl => match us, hl with | [_], _ => rfl
  have B_is_rising := FunD.bindsN (ps := ["things"]) Fu_is_rising fun _ _ _ _ _ _ us hl => match us, hl with | [_], _ => rfl
  have B_is_number_below := FunD.bindsN (ps := ["thing", "limit"]) Fu_is_number_below fun _ _ _ _ _ _ us hl => match us, hl with | [_, _], _ => rfl
  have B_has_kind := FunD.bindsN (ps := ["thing"]) Fu_has_kind fun _ _ _ _ _ _ us hl => match us, hl with | [_], _ => rfl
  have B_is_barred := FunD.bindsN (ps := ["thing"]) Fu_is_barred fun _ _ _ _ _ _ us hl => match us, hl with | [_], _ => rfl
  have B_is_test := FunD.bindsN (ps := ["thing", "number"]) Fu_is_test fun _ _ _ _ _ _ us hl => match us, hl with | [_, _], _ => rfl
  have B_is_side := FunD.bindsN (ps := ["thing"]) Fu_is_side fun _ _ _ _ _ _ us hl => match us, hl with | [_], _ => rfl
  have B_is_looking := FunD.bindsN (ps := ["fronts", "is_open", "backs"]) Fu_is_looking fun _ _ _ _ _ _ us hl => match us, hl with | [_, _, _], _ => rfl
  have B_is_item := FunD.bindsN (ps := ["thing", "tests", "is_open"]) Fu_is_item fun _ _ _ _ _ _ us hl => match us, hl with | [_, _, _], _ => rfl
  have B_is_making := FunD.bindsN (ps := ["thing", "tests", "is_open"]) Fu_is_making fun _ _ _ _ _ _ us hl => match us, hl with | [_, _, _], _ => rfl
  have B_is_rule := FunD.bindsN (ps := ["thing"]) Fu_is_rule fun _ _ _ _ _ _ us hl => match us, hl with | [_], _ => rfl
  have B_is_script := FunD.bindsN (ps := ["thing"]) Fu_is_script fun _ _ _ _ _ _ us hl => match us, hl with | [_], _ => rfl
  have B_need_rule := FunD.bindsN (ps := ["thing"]) Fu_need_rule fun _ _ _ _ _ _ us hl => match us, hl with | [_], _ => rfl
  have B_need_script := FunD.bindsN (ps := ["thing"]) Fu_need_script fun _ _ _ _ _ _ us hl => match us, hl with | [_], _ => rfl
  have B_text_of_test := FunD.bindsN (ps := ["test"]) Fu_text_of_test fun _ _ _ _ _ _ us hl => match us, hl with | [_], _ => rfl
  have B_text_of_item := FunD.bindsN (ps := ["item"]) Fu_text_of_item fun _ _ _ _ _ _ us hl => match us, hl with | [_], _ => rfl
  have B_written_rule := FunD.bindsN (ps := ["rule"]) Fu_written_rule fun _ _ _ _ _ _ us hl => match us, hl with | [_], _ => rfl
  have B_written_script := FunD.bindsN (ps := ["script"]) Fu_written_script fun _ _ _ _ _ _ us hl => match us, hl with | [_], _ => rfl
  have B_test_of := FunD.bindsN (ps := ["part"]) Fu_test_of fun _ _ _ _ _ _ us hl => match us, hl with | [_], _ => rfl
  have B_item_of := FunD.bindsN (ps := ["part"]) Fu_item_of fun _ _ _ _ _ _ us hl => match us, hl with | [_], _ => rfl
  have B_rule_of := FunD.bindsN (ps := ["line"]) Fu_rule_of fun _ _ _ _ _ _ us hl => match us, hl with | [_], _ => rfl
  have B_rule_text := FunD.bindsN (ps := ["rule"]) Fu_rule_text fun _ _ _ _ _ _ us hl => match us, hl with | [_], _ => rfl
  have B_script_text := FunD.bindsN (ps := ["script"]) Fu_script_text fun _ _ _ _ _ _ us hl => match us, hl with | [_], _ => rfl
  have B_read_rule := FunD.bindsN (ps := ["text"]) Fu_read_rule fun _ _ _ _ _ _ us hl => match us, hl with | [_], _ => rfl
  have B_read_script := FunD.bindsN (ps := ["text"]) Fu_read_script fun _ _ _ _ _ _ us hl => match us, hl with | [_], _ => rfl
  have B_law_draw := FunD.bindsN (ps := ["_law_script_here", "_law_town", "_law_many"]) Fu_law_draw fun _ _ _ _ _ _ us hl => match us, hl with | [_, _, _], _ => rfl
  have B_law_pick := FunD.bindsN (ps := ["_law_script_here", "_law_town", "_law_some"]) Fu_law_pick fun _ _ _ _ _ _ us hl => match us, hl with | [_, _, _], _ => rfl
  have B_law_test := FunD.bindsN (ps := ["_law_script_here", "_law_town", "_law_number"]) Fu_law_test fun _ _ _ _ _ _ us hl => match us, hl with | [_, _, _], _ => rfl
  have B_law_rule := FunD.bindsN (ps := ["_law_script_here", "_law_town", "_law_side"]) Fu_law_rule fun _ _ _ _ _ _ us hl => match us, hl with | [_, _, _], _ => rfl
  have B_law_script := FunD.bindsN (ps := ["_law_script_here", "_law_town", "_law_most", "_law_side"]) Fu_law_script fun _ _ _ _ _ _ us hl => match us, hl with | [_, _, _, _], _ => rfl
  have B_law_name := FunD.bindsN (ps := ["_law_script_here", "_law_town", "_law_most"]) Fu_law_name fun _ _ _ _ _ _ us hl => match us, hl with | [_, _, _], _ => rfl
  have B_law_which := FunD.bindsN (ps := ["_law_e"]) Fu_law_which fun _ _ _ _ _ _ us hl => match us, hl with | [_], _ => rfl
  have B_law_ask_k18 := FunD.bindsN (ps := ["_law_what", "_law_thing"]) Fu_law_ask_k18 fun _ _ _ _ _ _ us hl => match us, hl with | [_, _], _ => rfl
  have e := hfa.symm.trans (He.glo_ok X G (c.fact 33 (f := .glo "law") rfl))
  cases e
  have b := FunD.bindsA (ps := ["_law_script_here"]) Fu_law_k18 fun _ _ _ _ _ _ us hl => match us, hl with | [_], _ => rfl
  refine ⟨fd_law_k18, fun s v => b s [v] rfl, fun base _ _ => ?_⟩
  have G_is_word : Cal P w K mg base 1 "is_word" ["thing"] F_is_word := ⟨_, _, ok_is_word Fu_is_word GG , He.glo_ok X G (c.fact 0 (f := .glo "is_word") rfl), Fu_is_word.kp, B_is_word⟩
  have G_is_rising : Cal P w K mg base 1 "is_rising" ["things"] F_is_rising := ⟨_, _, ok_is_rising Fu_is_rising GG , He.glo_ok X G (c.fact 1 (f := .glo "is_rising") rfl), Fu_is_rising.kp, B_is_rising⟩
  have G_is_number_below : Cal P w K mg base 1 "is_number_below" ["thing", "limit"] F_is_number_below := ⟨_, _, ok_is_number_below Fu_is_number_below GG , He.glo_ok X G (c.fact 2 (f := .glo "is_number_below") rfl), Fu_is_number_below.kp, B_is_number_below⟩
  have G_has_kind : Cal P w K mg base 1 "has_kind" ["thing"] F_has_kind := ⟨_, _, ok_has_kind Fu_has_kind GG , He.glo_ok X G (c.fact 3 (f := .glo "has_kind") rfl), Fu_has_kind.kp, B_has_kind⟩
  have G_is_side : Cal P w K mg base 1 "is_side" ["thing"] F_is_side := ⟨_, _, ok_is_side Fu_is_side GG , He.glo_ok X G (c.fact 6 (f := .glo "is_side") rfl), Fu_is_side.kp, B_is_side⟩
  have G_text_of_test : Cal P w K mg base 1 "text_of_test" ["test"] F_text_of_test := ⟨_, _, ok_text_of_test Fu_text_of_test GG , He.glo_ok X G (c.fact 14 (f := .glo "text_of_test") rfl), Fu_text_of_test.kp, B_text_of_test⟩
  have G_text_of_item : Cal P w K mg base 1 "text_of_item" ["item"] F_text_of_item := ⟨_, _, ok_text_of_item Fu_text_of_item GG , He.glo_ok X G (c.fact 15 (f := .glo "text_of_item") rfl), Fu_text_of_item.kp, B_text_of_item⟩
  have G_test_of : Cal P w K mg base 1 "test_of" ["part"] F_test_of := ⟨_, _, ok_test_of Fu_test_of GG , He.glo_ok X G (c.fact 18 (f := .glo "test_of") rfl), Fu_test_of.kp, B_test_of⟩
  have G_item_of : Cal P w K mg base 1 "item_of" ["part"] F_item_of := ⟨_, _, ok_item_of Fu_item_of GG , He.glo_ok X G (c.fact 19 (f := .glo "item_of") rfl), Fu_item_of.kp, B_item_of⟩
  have G_law_draw : Cal P w K mg base 1 "_law_draw" ["_law_script_here", "_law_town", "_law_many"] F_law_draw := ⟨_, _, ok_law_draw Fu_law_draw GG , He.glo_ok X G (c.fact 25 (f := .glo "_law_draw") rfl), Fu_law_draw.kp, B_law_draw⟩
  have G_law_which : CalP P w K mg base 1 "_law_which" ["_law_e"] G_law_which8 := ⟨_, _, ok_law_which Fu_law_which GG , He.glo_ok X G (c.fact 31 (f := .glo "_law_which") rfl), Fu_law_which.kp, B_law_which⟩
  have G_is_barred : Cal P w K mg base 2 "is_barred" ["thing"] F_is_barred := ⟨_, _, ok_is_barred Fu_is_barred GG G_is_word G_is_rising, He.glo_ok X G (c.fact 4 (f := .glo "is_barred") rfl), Fu_is_barred.kp, B_is_barred⟩
  have G_is_item : Cal P w K mg base 2 "is_item" ["thing", "tests", "is_open"] F_is_item := ⟨_, _, ok_is_item Fu_is_item GG G_is_word G_is_number_below G_has_kind, He.glo_ok X G (c.fact 8 (f := .glo "is_item") rfl), Fu_is_item.kp, B_is_item⟩
  have G_written_rule : Cal P w K mg base 2 "written_rule" ["rule"] F_written_rule := ⟨_, _, ok_written_rule Fu_written_rule GG G_text_of_test G_text_of_item, He.glo_ok X G (c.fact 16 (f := .glo "written_rule") rfl), Fu_written_rule.kp, B_written_rule⟩
  have G_rule_of : Cal P w K mg base 2 "rule_of" ["line"] F_rule_of := ⟨_, _, ok_rule_of Fu_rule_of GG G_test_of G_item_of, He.glo_ok X G (c.fact 20 (f := .glo "rule_of") rfl), Fu_rule_of.kp, B_rule_of⟩
  have G_law_pick : Cal P w K mg base 2 "_law_pick" ["_law_script_here", "_law_town", "_law_some"] F_law_pick := ⟨_, _, ok_law_pick Fu_law_pick GG G_law_draw, He.glo_ok X G (c.fact 26 (f := .glo "_law_pick") rfl), Fu_law_pick.kp, B_law_pick⟩
  have G_is_test : Cal P w K mg base 3 "is_test" ["thing", "number"] F_is_test := ⟨_, _, ok_is_test Fu_is_test GG G_is_word G_is_number_below G_has_kind G_is_barred, He.glo_ok X G (c.fact 5 (f := .glo "is_test") rfl), Fu_is_test.kp, B_is_test⟩
  have G_is_making : Cal P w K mg base 3 "is_making" ["thing", "tests", "is_open"] F_is_making := ⟨_, _, ok_is_making Fu_is_making GG G_is_item, He.glo_ok X G (c.fact 9 (f := .glo "is_making") rfl), Fu_is_making.kp, B_is_making⟩
  have G_written_script : Cal P w K mg base 3 "written_script" ["script"] F_written_script := ⟨_, _, ok_written_script Fu_written_script GG G_written_rule, He.glo_ok X G (c.fact 17 (f := .glo "written_script") rfl), Fu_written_script.kp, B_written_script⟩
  have G_law_test : Cal P w K mg base 3 "_law_test" ["_law_script_here", "_law_town", "_law_number"] F_law_test := ⟨_, _, ok_law_test Fu_law_test GG G_law_draw G_law_pick, He.glo_ok X G (c.fact 27 (f := .glo "_law_test") rfl), Fu_law_test.kp, B_law_test⟩
  have G_law_name : Cal P w K mg base 3 "_law_name" ["_law_script_here", "_law_town", "_law_most"] F_law_name := ⟨_, _, ok_law_name Fu_law_name GG G_law_draw G_law_pick, He.glo_ok X G (c.fact 30 (f := .glo "_law_name") rfl), Fu_law_name.kp, B_law_name⟩
  have G_is_looking : Cal P w K mg base 4 "is_looking" ["fronts", "is_open", "backs"] F_is_looking := ⟨_, _, ok_is_looking Fu_is_looking GG G_is_test G_is_side, He.glo_ok X G (c.fact 7 (f := .glo "is_looking") rfl), Fu_is_looking.kp, B_is_looking⟩
  have G_law_rule : Cal P w K mg base 4 "_law_rule" ["_law_script_here", "_law_town", "_law_side"] F_law_rule := ⟨_, _, ok_law_rule Fu_law_rule GG G_law_draw G_law_pick G_law_test, He.glo_ok X G (c.fact 28 (f := .glo "_law_rule") rfl), Fu_law_rule.kp, B_law_rule⟩
  have G_is_rule : Cal P w K mg base 5 "is_rule" ["thing"] F_is_rule := ⟨_, _, ok_is_rule Fu_is_rule GG G_is_looking G_is_making, He.glo_ok X G (c.fact 10 (f := .glo "is_rule") rfl), Fu_is_rule.kp, B_is_rule⟩
  have G_law_script : Cal P w K mg base 5 "_law_script" ["_law_script_here", "_law_town", "_law_most", "_law_side"] F_law_script := ⟨_, _, ok_law_script Fu_law_script GG G_law_draw G_law_rule, He.glo_ok X G (c.fact 29 (f := .glo "_law_script") rfl), Fu_law_script.kp, B_law_script⟩
  have G_is_script : Cal P w K mg base 6 "is_script" ["thing"] F_is_script := ⟨_, _, ok_is_script Fu_is_script GG G_is_rule, He.glo_ok X G (c.fact 11 (f := .glo "is_script") rfl), Fu_is_script.kp, B_is_script⟩
  have G_need_rule : Cal P w K mg base 6 "need_rule" ["thing"] F_need_rule := ⟨_, _, ok_need_rule Fu_need_rule GG G_is_rule, He.glo_ok X G (c.fact 12 (f := .glo "need_rule") rfl), Fu_need_rule.kp, B_need_rule⟩
  have G_read_rule : Cal P w K mg base 6 "read_rule" ["text"] F_read_rule := ⟨_, _, ok_read_rule Fu_read_rule GG G_is_rule G_written_rule G_rule_of, He.glo_ok X G (c.fact 23 (f := .glo "read_rule") rfl), Fu_read_rule.kp, B_read_rule⟩
  have G_need_script : Cal P w K mg base 7 "need_script" ["thing"] F_need_script := ⟨_, _, ok_need_script Fu_need_script GG G_is_script, He.glo_ok X G (c.fact 13 (f := .glo "need_script") rfl), Fu_need_script.kp, B_need_script⟩
  have G_rule_text : Cal P w K mg base 7 "rule_text" ["rule"] F_rule_text := ⟨_, _, ok_rule_text Fu_rule_text GG G_need_rule G_written_rule, He.glo_ok X G (c.fact 21 (f := .glo "rule_text") rfl), Fu_rule_text.kp, B_rule_text⟩
  have G_read_script : Cal P w K mg base 7 "read_script" ["text"] F_read_script := ⟨_, _, ok_read_script Fu_read_script GG G_is_script G_written_script G_rule_of, He.glo_ok X G (c.fact 24 (f := .glo "read_script") rfl), Fu_read_script.kp, B_read_script⟩
  have G_script_text : Cal P w K mg base 8 "script_text" ["script"] F_script_text := ⟨_, _, ok_script_text Fu_script_text GG G_need_script G_written_script, He.glo_ok X G (c.fact 22 (f := .glo "script_text") rfl), Fu_script_text.kp, B_script_text⟩
  have G_law_ask_k18 : Cal P w K mg base 9 "_law_ask" ["_law_what", "_law_thing"] F_law_ask_k18 := ⟨_, _, ok_law_ask_k18 Fu_law_ask_k18 GG G_rule_text G_script_text G_read_rule G_read_script G_law_which, He.glo_ok X G (c.fact 32 (f := .glo "_law_ask") rfl), Fu_law_ask_k18.kp, B_law_ask_k18⟩
  exact ok_law_k18 Fu_law_k18 GG G_rule_text G_law_script G_law_ask_k18
end NS
open PySem PySem.W PySem.Calls PyProof.Rows
set_option maxHeartbeats 0 in
theorem PySem.Challenge.cw_namescripts_k18_whole_texts_refused_holds : PySem.Challenge.rw_namescripts_k18_whole_texts_refused.Holds := by
  w_on; o_law
  refine HandSHeadRun.head_any (r := OpenLaw.row PySem.Challenge.rw_namescripts_k18_whole_texts_refused) (q := view (OpenLaw.row PySem.Challenge.rw_namescripts_k18_whole_texts_refused).prog [63]) (H := NS.hk8) (ob := NS.ob8) (M := 12000) (loose := NS.loose8) (d := HandSHeadRun.topDef (OpenLaw.row PySem.Challenge.rw_namescripts_k18_whole_texts_refused).prog 63) (kwd := []) NS.ob8_eq
    (by kernel_rfl) (fun s => by kernel_rfl) NS.run8 (by kernel_rfl) (by kernel_rfl) (by kernel_rfl) (by rfl) (by first | assumption | decide +kernel) (by decide +kernel) ⟨rfl, rfl, rfl, rfl, rfl, by decide +kernel⟩ ?hw ?hc
  case hw => w_witness2
  case hc =>
    refine NS.walk8 (l := PySem.Challenge.rw_namescripts_k18_whole_texts_refused) (n := 63) (k := 10) (x := "_law_script_here") rfl (by decide) (by kernel_rfl) ⟨rfl, by decide, by decide⟩ ?F
    intro w mg fa h Y G hmg0
    obtain ⟨K, KX, c⟩ := Y
    have hmg : mg ("law" : PySem.Str) = some (.ref fa) := by
      have e : (HandSHeadRun.topDef (OpenLaw.row PySem.Challenge.rw_namescripts_k18_whole_texts_refused).prog 63).name = ("law" : PySem.Str) := by kernel_rfl
      rw [← e]
      exact hmg0
    obtain ⟨fd, hb, hF⟩ := NS.facts8 (P := (PySem.Challenge.rw_namescripts_k18_whole_texts_refused).prog) (w := w) KX G hmg c.t.d c.more
    exact ⟨K, fd, NS.F_law_k18, KX, hb, fun ns hl => NS.law_true ns hl, hF⟩

