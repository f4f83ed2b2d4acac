import PyProof.Rows.All
import Wide.All
import OpenK.AllK
import Wide.FinOn
import HandS.Base
import HandS.Call
import HandS.Strs
import HandS.List
import HandS.IsInst
import HandS.Gcd
import HandS.TupAny
import HandS.Dict
import HandS.Comp
import HandS.Walk
import HandS.NoneIn
import HandS.Style
import HandS.Words
import HandS.Ends
import PyProof.ReprReads
import PyProof.StrHeap
import PyProof.CallFns
import PyProof.ReprHeadsEmpty
import HandS.Iter
import HandS.Zip
import HandS.Rev
import KE.GoesNew
import KE.GoesMore
import HandS.SetBool
import HandS.DictComp
import HandS.WordsDict
import HandS.TupLe
import HandS.HeadHook2
import HandS.HeadEnd
import HandS.Conv
import HandS.More
import HandS.SortInts
import PyProof.FactsAll.list_3
import KE.DatumOrd
import HandS.TupSets
import HandS.Head0
import HandS.Head1
import HandS.Head2
import HandS.Head3
import HandS.HeadHook1
import PySem.Challenge.RW_setitback_k04_whole_lots_partners_pieces
set_option Elab.async false
set_option Elab.async false
set_option linter.all false
set_option maxRecDepth 100000
/-! Ip1: a store of plain data over the abstract heap; what an expression, a target, a test, a statement does to it. -/
namespace Ip
open PySem PySem.Spec PyProof.Rows L2

inductive PV where
  | non | bl (b : Bool) | int (i : Int) | str (x : Str) | tup (xs : List PV) | frl (xs : List PV) | ref (n : Nat)
  deriving Inhabited

mutual
def PV.beq : PV → PV → Bool
  | .non, .non => true
  | .bl a, .bl b => a == b
  | .int a, .int b => a == b
  | .str a, .str b => a == b
  | .tup a, .tup b => PV.beqs a b
  | .frl a, .frl b => PV.beqs a b
  | .ref a, .ref b => a == b
  | _, _ => false
def PV.beqs : List PV → List PV → Bool
  | [], [] => true
  | x :: xs, y :: ys => PV.beq x y && PV.beqs xs ys
  | _, _ => false
end
mutual
theorem PV.beq_eq : ∀ (a b : PV), PV.beq a b = true → a = b
  | .non, b, h => by cases b <;> simp_all [PV.beq]
  | .bl a, b, h => by cases b <;> simp_all [PV.beq]
  | .int a, b, h => by cases b <;> simp_all [PV.beq]
  | .str a, b, h => by cases b <;> simp_all [PV.beq]
  | .ref a, b, h => by cases b <;> simp_all [PV.beq]
  | .tup a, b, h => by
    cases b <;> first | (simp only [PV.beq] at h; exact congrArg PV.tup (PV.beqs_eq _ _ h)) | (simp [PV.beq] at h)
  | .frl a, b, h => by
    cases b <;> first | (simp only [PV.beq] at h; exact congrArg PV.frl (PV.beqs_eq _ _ h)) | (simp [PV.beq] at h)
theorem PV.beqs_eq : ∀ (a b : List PV), PV.beqs a b = true → a = b
  | [], b, h => by cases b <;> simp_all [PV.beqs]
  | x :: xs, [], h => by simp [PV.beqs] at h
  | x :: xs, y :: ys, h => by
    simp only [PV.beqs, Bool.and_eq_true] at h
    rw [PV.beq_eq x y h.1, PV.beqs_eq xs ys h.2]
end
mutual
theorem PV.beq_refl : ∀ (a : PV), PV.beq a a = true
  | .non => rfl
  | .bl a => by simp [PV.beq]
  | .int a => by simp [PV.beq]
  | .str a => by simp [PV.beq]
  | .ref a => by simp [PV.beq]
  | .tup a => by simp only [PV.beq]; exact PV.beqs_refl a
  | .frl a => by simp only [PV.beq]; exact PV.beqs_refl a
theorem PV.beqs_refl : ∀ (a : List PV), PV.beqs a a = true
  | [] => rfl
  | x :: xs => by simp only [PV.beqs, PV.beq_refl x, PV.beqs_refl xs, Bool.and_self]
end
instance : DecidableEq PV := fun a b => if h : PV.beq a b = true then isTrue (PV.beq_eq a b h) else isFalse fun e => h (e ▸ PV.beq_refl a)

/-- what stands in the store -/
inductive Ob where
  | lst (xs : List PV)
  | dk (kvs : List (Key × PV))
  | st (f : Bool) (ks : List Int)
  deriving DecidableEq

abbrev Store := List Ob
abbrev PEnv := List (Option PV)
abbrev MR (α : Type) := Option (α × Store)

section
variable (K : PySem.W.Frag)
/-- a list that nobody writes -/
def FrL (H : Hp) (a : Addr) (vs : List V) : Prop := (∃ o, H a = some (.frz o (.lst vs))) ∨
  ∃ (o : Obj) (its : Array Value) (n : Nat), K.lookup a = some o ∧ o.cls = .type "list" ∧ o.dict = none ∧ o.data = .seq its n ∧ its.size ≤ sizeLine ∧ Vals vs its.toList
theorem FrL.sq {K : PySem.W.Frag} {H : Hp} {a : Addr} {vs : List V} (h : FrL K H a vs) : SqL K H a vs := by
  rcases h with ⟨o, h⟩ | h
  · exact .inl (.inr ⟨o, h⟩)
  · exact .inr h
mutual
def Rv (ρ : List Addr) (H : Hp) : PV → V → Prop
  | .non, v => v = .non
  | .bl b, v => v = .bl b
  | .int i, v => v = .int i
  | .str x, v => v = .str x
  | .ref n, v => ∃ a, ρ[n]? = some a ∧ v = .ref a
  | .tup xs, v => ∃ a vs, v = .ref a ∧ SqT K H a vs ∧ Rvs ρ H xs vs
  | .frl xs, v => ∃ a vs, v = .ref a ∧ FrL K H a vs ∧ Rvs ρ H xs vs
def Rvs (ρ : List Addr) (H : Hp) : List PV → List V → Prop
  | [], vs => vs = []
  | x :: xs, vs => ∃ v r, vs = v :: r ∧ Rv ρ H x v ∧ Rvs ρ H xs r
end
/-- a later state -/
structure Ext (ρ : List Addr) (H : Hp) (ρ' : List Addr) (H' : Hp) : Prop where
  pre : ∀ (n : Nat) (a : Addr), ρ[n]? = some a → ρ'[n]? = some a
  tup : ∀ a vs, SqT K H a vs → SqT K H' a vs
  fr : ∀ a vs, FrL K H a vs → FrL K H' a vs
def Rkv (ρ : List Addr) (H : Hp) : List (Key × PV) → List (Key × V) → Prop
  | [], vs => vs = []
  | (k, x) :: xs, vs => ∃ v r, vs = (k, v) :: r ∧ Rv K ρ H x v ∧ Rkv ρ H xs r
def Ro (ρ : List Addr) (H : Hp) : Ob → Addr → Prop
  | .lst xs, a => ∃ vs, H a = some (.lst vs) ∧ Rvs K ρ H xs vs
  | .dk kvs, a => ∃ vs, H a = some (.dK vs) ∧ Rkv K ρ H kvs vs
  | .st f ks, a => ks.Nodup ∧ ∃ w : World, w.params.followText "set-order" = f ∧ H a = some (SetO w a (fun k => decide (k ∈ ks)) ks.length)
structure Sim (ρ : List Addr) (S : Store) (H : Hp) : Prop where
  len : ρ.length = S.length
  inj : ∀ (n m : Nat) (a : Addr), ρ[n]? = some a → ρ[m]? = some a → n = m
  obj : ∀ (n : Nat) (o : Ob) (a : Addr), S[n]? = some o → ρ[n]? = some a → Ro K ρ H o a
structure Slots (ρ : List Addr) (H : Hp) (σp : PEnv) (σ : L2.St) : Prop where
  len : σp.length = σ.length
  at_ : ∀ (i : Nat) (p : PV), σp[i]? = some (some p) → ∃ v, σ[i]? = some (some v) ∧ Rv K ρ H p v
structure St0 (ρ : List Addr) (σp : PEnv) (S : Store) (σ : L2.St) (H : Hp) : Prop where
  sim : Sim K ρ S H
  slots : Slots K ρ H σp σ
end
section
variable {K : PySem.W.Frag} {ρ ρ' ρ2 : List Addr} {H H' H2 : Hp} {σp σp' : PEnv} {σ : L2.St} {S S' : Store}
theorem Ext.refl : Ext K ρ H ρ H := ⟨fun _ _ h => h, fun _ _ h => h, fun _ _ h => h⟩
theorem Ext.trans (a : Ext K ρ H ρ' H') (b : Ext K ρ' H' ρ2 H2) : Ext K ρ H ρ2 H2 :=
  ⟨fun n x h => b.pre n x (a.pre n x h), fun x v h => b.tup x v (a.tup x v h), fun x v h => b.fr x v (a.fr x v h)⟩
mutual
theorem Rv.mono (e : Ext K ρ H ρ' H') : ∀ (p : PV) (v : V), Rv K ρ H p v → Rv K ρ' H' p v
  | .non, v, h => h
  | .bl _, v, h => h
  | .int _, v, h => h
  | .str _, v, h => h
  | .ref n, v, h => by
    obtain ⟨a, h1, h2⟩ := h
    exact ⟨a, e.pre n a h1, h2⟩
  | .tup xs, v, h => by
    simp only [Rv] at h ⊢
    obtain ⟨a, vs, h1, h2, h3⟩ := h
    exact ⟨a, vs, h1, e.tup a vs h2, Rvs.mono e xs vs h3⟩
  | .frl xs, v, h => by
    simp only [Rv] at h ⊢
    obtain ⟨a, vs, h1, h2, h3⟩ := h
    exact ⟨a, vs, h1, e.fr a vs h2, Rvs.mono e xs vs h3⟩
theorem Rvs.mono (e : Ext K ρ H ρ' H') : ∀ (xs : List PV) (vs : List V), Rvs K ρ H xs vs → Rvs K ρ' H' xs vs
  | [], vs, h => h
  | x :: xs, vs, h => by
    simp only [Rvs] at h ⊢
    obtain ⟨v, r, h1, h2, h3⟩ := h
    exact ⟨v, r, h1, Rv.mono e x v h2, Rvs.mono e xs r h3⟩
end
theorem Rkv.mono (e : Ext K ρ H ρ' H') : ∀ (xs : List (Key × PV)) (vs : List (Key × V)), Rkv K ρ H xs vs → Rkv K ρ' H' xs vs
  | [], vs, h => h
  | (k, x) :: xs, vs, h => by
    simp only [Rkv] at h ⊢
    obtain ⟨v, r, h1, h2, h3⟩ := h
    exact ⟨v, r, h1, Rv.mono e x v h2, Rkv.mono e xs r h3⟩
theorem Slots.mono (e : Ext K ρ H ρ' H') (s : Slots K ρ H σp σ) : Slots K ρ' H' σp σ :=
  ⟨s.len, fun i p h => let ⟨v, h1, h2⟩ := s.at_ i p h; ⟨v, h1, Rv.mono e p v h2⟩⟩
theorem St0.next (s : St0 K ρ σp S σ H) (e : Ext K ρ H ρ' H') (m : Sim K ρ' S' H') : St0 K ρ' σp S' σ H' := ⟨m, s.slots.mono e⟩
theorem Rvs.length : ∀ {xs : List PV} {vs : List V}, Rvs K ρ H xs vs → vs.length = xs.length
  | [], vs, h => by simp only [Rvs] at h; subst h; rfl
  | x :: xs, vs, h => by
    simp only [Rvs] at h
    obtain ⟨v, r, h1, _, h3⟩ := h
    subst h1
    simp [Rvs.length h3]
theorem Rvs.get : ∀ {xs : List PV} {vs : List V} {i : Nat} {p : PV}, Rvs K ρ H xs vs → xs[i]? = some p → ∃ v, vs[i]? = some v ∧ Rv K ρ H p v
  | [], vs, i, p, h, e => by simp at e
  | x :: xs, vs, 0, p, h, e => by
    simp only [Rvs] at h
    obtain ⟨v, r, h1, h2, _⟩ := h
    subst h1
    simp at e
    subst e
    exact ⟨v, rfl, h2⟩
  | x :: xs, vs, i + 1, p, h, e => by
    simp only [Rvs] at h
    obtain ⟨v, r, h1, _, h3⟩ := h
    subst h1
    simp at e ⊢
    exact Rvs.get h3 e
theorem Rvs.get' {xs : List PV} {vs : List V} {i : Nat} {v : V} (h : Rvs K ρ H xs vs) (e : vs[i]? = some v) : ∃ p, xs[i]? = some p ∧ Rv K ρ H p v := by
  have hl := h.length
  have hi : i < xs.length := by
    have := (List.getElem?_eq_some_iff.mp e).1
    omega
  obtain ⟨w, h1, h2⟩ := h.get (List.getElem?_eq_getElem hi)
  rw [e] at h1
  cases h1
  exact ⟨_, List.getElem?_eq_getElem hi, h2⟩
theorem Rvs.append : ∀ {xs ys : List PV} {vs ws : List V}, Rvs K ρ H xs vs → Rvs K ρ H ys ws → Rvs K ρ H (xs ++ ys) (vs ++ ws)
  | [], ys, vs, ws, h, g => by simp only [Rvs] at h; subst h; exact g
  | x :: xs, ys, vs, ws, h, g => by
    simp only [Rvs, List.cons_append] at h ⊢
    obtain ⟨v, r, h1, h2, h3⟩ := h
    subst h1
    exact ⟨v, r ++ ws, rfl, h2, Rvs.append h3 g⟩
theorem Rvs.one {x : PV} {v : V} (h : Rv K ρ H x v) : Rvs K ρ H [x] [v] := ⟨v, [], rfl, h, rfl⟩
theorem Rvs.set : ∀ {xs : List PV} {vs : List V} {x : PV} {v : V} (i : Nat), Rvs K ρ H xs vs → Rv K ρ H x v → Rvs K ρ H (xs.set i x) (vs.set i v)
  | [], vs, x, v, i, h, g => by simp only [Rvs] at h; subst h; simp [Rvs]
  | y :: xs, vs, x, v, 0, h, g => by
    simp only [Rvs, List.set] at h ⊢
    obtain ⟨w, r, h1, h2, h3⟩ := h
    subst h1
    exact ⟨v, r, rfl, g, h3⟩
  | y :: xs, vs, x, v, i + 1, h, g => by
    simp only [Rvs, List.set] at h ⊢
    obtain ⟨w, r, h1, h2, h3⟩ := h
    subst h1
    exact ⟨w, r.set i v, rfl, h2, Rvs.set i h3 g⟩
theorem Rvs.take : ∀ {xs : List PV} {vs : List V} (n : Nat), Rvs K ρ H xs vs → Rvs K ρ H (xs.take n) (vs.take n)
  | _, _, 0, _ => by simp [Rvs]
  | [], vs, n + 1, h => by simp only [Rvs] at h; subst h; simp [Rvs]
  | x :: xs, vs, n + 1, h => by
    simp only [Rvs] at h
    obtain ⟨w, r, h1, h2, h3⟩ := h
    subst h1
    simp only [List.take_succ_cons, Rvs]
    exact ⟨w, r.take n, rfl, h2, Rvs.take n h3⟩
theorem Rvs.drop : ∀ {xs : List PV} {vs : List V} (n : Nat), Rvs K ρ H xs vs → Rvs K ρ H (xs.drop n) (vs.drop n)
  | _, _, 0, h => h
  | [], vs, n + 1, h => by simp only [Rvs] at h; subst h; simp [Rvs]
  | x :: xs, vs, n + 1, h => by
    simp only [Rvs] at h
    obtain ⟨w, r, h1, h2, h3⟩ := h
    subst h1
    simp only [List.drop_succ_cons]
    exact Rvs.drop n h3

/-! ### the heap grows; a store's object is written -/
theorem ext_new {p : Addr} {o : HO} (hp : H p = none) : Ext K ρ H ρ (upd H p o) := by
  refine ⟨fun _ _ h => h, fun a vs h => ?_, fun a vs h => ?_⟩
  · rcases h with (h | ⟨o', h⟩) | h
    · exact .inl (.inl (by rw [upd_ne (ne_of_none h hp)]; exact h))
    · exact .inl (.inr ⟨o', by rw [upd_ne (ne_of_none h hp)]; exact h⟩)
    · exact .inr h
  · rcases h with ⟨o', h⟩ | h
    · exact .inl ⟨o', by rw [upd_ne (ne_of_none h hp)]; exact h⟩
    · exact .inr h
/-- a known list or dict is written -/
theorem ext_put {p : Addr} {o u : HO} (hp : H p = some u) (hm : ∀ vs, u ≠ .tup vs) (hf : ∀ ob w, u ≠ .frz ob w) : Ext K ρ H ρ (upd H p o) := by
  have ne : ∀ {b : Addr} {w : HO}, H b = some w → w ≠ u → b ≠ p := fun {b w} h d => ne_of h hp d
  refine ⟨fun _ _ h => h, fun a vs h => ?_, fun a vs h => ?_⟩
  · rcases h with (h | ⟨o', h⟩) | h
    · exact .inl (.inl (by rw [upd_ne (ne h fun z => hm vs z.symm)]; exact h))
    · exact .inl (.inr ⟨o', by rw [upd_ne (ne h fun z => hf _ _ z.symm)]; exact h⟩)
    · exact .inr h
  · rcases h with ⟨o', h⟩ | h
    · exact .inl ⟨o', by rw [upd_ne (ne h fun z => hf _ _ z.symm)]; exact h⟩
    · exact .inr h
theorem Ext.grow {a : Addr} : Ext K ρ H (ρ ++ [a]) H := ⟨fun n x h => by
  have hn : n < ρ.length := (List.getElem?_eq_some_iff.mp h).1
  rw [List.getElem?_append_left hn]
  exact h, fun _ _ h => h, fun _ _ h => h⟩
theorem Ro.mono {o : Ob} {a : Addr} (e : Ext K ρ H ρ' H') (h : Ro K ρ H o a) (hk : H' a = H a) : Ro K ρ' H' o a := by
  cases o with
  | lst xs =>
    obtain ⟨vs, h1, h2⟩ := h
    exact ⟨vs, hk.trans h1, Rvs.mono e xs vs h2⟩
  | dk xs =>
    obtain ⟨vs, h1, h2⟩ := h
    exact ⟨vs, hk.trans h1, Rkv.mono e xs vs h2⟩
  | st f ks =>
    obtain ⟨nd, w, h1, h2⟩ := h
    exact ⟨nd, w, h1, hk.trans h2⟩
theorem Ro.known {o : Ob} {a : Addr} (h : Ro K ρ H o a) : ∃ u, H a = some u ∧ (∀ vs, u ≠ .tup vs) ∧ (∀ ob w, u ≠ .frz ob w) := by
  cases o with
  | lst xs =>
    obtain ⟨vs, h1, _⟩ := h
    exact ⟨_, h1, (fun _ z => nomatch z), (fun _ _ z => nomatch z)⟩
  | dk xs =>
    obtain ⟨vs, h1, _⟩ := h
    exact ⟨_, h1, (fun _ z => nomatch z), (fun _ _ z => nomatch z)⟩
  | st f ks =>
    obtain ⟨_, w, _, h1⟩ := h
    exact ⟨_, h1, (fun _ z => nomatch z), (fun _ _ z => nomatch z)⟩
theorem Sim.there (s : Sim K ρ S H) {n : Nat} {o : Ob} (h : S[n]? = some o) : ∃ a, ρ[n]? = some a ∧ Ro K ρ H o a := by
  have hn : n < ρ.length := by
    have := (List.getElem?_eq_some_iff.mp h).1
    rw [s.len]
    exact this
  exact ⟨_, List.getElem?_eq_getElem hn, s.obj n o _ h (List.getElem?_eq_getElem hn)⟩
theorem Sim.known (s : Sim K ρ S H) {n : Nat} {a : Addr} (h : ρ[n]? = some a) : ∃ u, H a = some u ∧ (∀ vs, u ≠ .tup vs) ∧ (∀ ob w, u ≠ .frz ob w) := by
  have hn : n < S.length := by
    have := (List.getElem?_eq_some_iff.mp h).1
    rw [← s.len]
    exact this
  exact (s.obj n _ a (List.getElem?_eq_getElem hn) h).known
/-- something that the store does not hold is laid -/
theorem Sim.laid {p : Addr} {o : HO} (s : Sim K ρ S H) (hp : H p = none) : Sim K ρ S (upd H p o) :=
  ⟨s.len, s.inj, fun n ob a h1 h2 => (s.obj n ob a h1 h2).mono (ext_new hp) (upd_ne (by
    obtain ⟨u, hu, _⟩ := s.known h2
    exact ne_of_none hu hp))⟩
/-- a new object of the store -/
theorem Sim.new {p : Addr} {o : HO} {ob : Ob} (s : Sim K ρ S H) (hp : H p = none) (ho : Ro K ρ (upd H p o) ob p) : Sim K (ρ ++ [p]) (S ++ [ob]) (upd H p o) := by
  have s1 : Sim K ρ S (upd H p o) := s.laid hp
  have old : ∀ {n : Nat} {a : Addr}, ρ[n]? = some a → a ≠ p := fun {n a} h => by
    obtain ⟨u, hu, _⟩ := s.known h
    exact ne_of_none hu hp
  have split : ∀ {n : Nat} {a : Addr}, (ρ ++ [p])[n]? = some a → ρ[n]? = some a ∨ (n = ρ.length ∧ a = p) := fun {n a} h => by
    by_cases hn : n < ρ.length
    · rw [List.getElem?_append_left hn] at h
      exact .inl h
    · rw [List.getElem?_append_right (by omega)] at h
      cases q : n - ρ.length with
      | zero =>
        rw [q] at h
        simp at h
        exact .inr ⟨by omega, h.symm⟩
      | succ k =>
        rw [q] at h
        simp at h
  refine ⟨by simp [s.len], fun n m a h1 h2 => ?_, fun n o' a h1 h2 => ?_⟩
  · rcases split h1 with h1 | ⟨e1, e2⟩
    · rcases split h2 with h2 | ⟨e3, e4⟩
      · exact s.inj n m a h1 h2
      · exact absurd e4 (old h1)
    · rcases split h2 with h2 | ⟨e3, e4⟩
      · exact absurd e2 (old h2)
      · omega
  · rcases split h2 with h2 | ⟨e1, e2⟩
    · have hn : n < S.length := by
        have := (List.getElem?_eq_some_iff.mp h2).1
        rw [← s.len]
        exact this
      rw [List.getElem?_append_left hn] at h1
      exact (s1.obj n o' a h1 h2).mono Ext.grow rfl
    · subst e2
      rw [e1, s.len, List.getElem?_append_right (Nat.le_refl _)] at h1
      simp at h1
      subst h1
      exact ho.mono Ext.grow rfl
theorem new_at {p : Addr} (s : Sim K ρ S H) : (ρ ++ [p])[S.length]? = some p := by
  rw [← s.len, List.getElem?_append_right (Nat.le_refl _)]
  simp
/-- an object of the store is written -/
theorem Sim.put {n : Nat} {a : Addr} {o : HO} {ob : Ob} (s : Sim K ρ S H) (hn : ρ[n]? = some a) (ho : Ro K ρ (upd H a o) ob a) : Sim K ρ (S.set n ob) (upd H a o) ∧ Ext K ρ H ρ (upd H a o) := by
  obtain ⟨u, hu, h1, h2⟩ := s.known hn
  have e : Ext K ρ H ρ (upd H a o) := ext_put hu h1 h2
  refine ⟨⟨by simp [s.len], s.inj, fun m o' b g1 g2 => ?_⟩, e⟩
  by_cases hm : m = n
  · subst hm
    rw [hn] at g2
    cases g2
    have hl : m < S.length := by
      have := (List.getElem?_eq_some_iff.mp hn).1
      rw [← s.len]
      exact this
    rw [List.getElem?_set_self hl] at g1
    cases g1
    exact ho
  · rw [List.getElem?_set_ne (Ne.symm hm)] at g1
    refine (s.obj m o' b g1 g2).mono e (upd_ne fun z => hm ?_)
    rw [z] at g2
    exact s.inj m n a g2 hn
theorem Slots.set {i : Nat} {p : PV} {v : V} (s : Slots K ρ H σp σ) (r : Rv K ρ H p v) : Slots K ρ H (σp.set i (some p)) (σ.set i (some v)) := by
  refine ⟨by simp [s.len], fun j q h => ?_⟩
  by_cases hj : j = i
  · subst hj
    have hl : j < σp.length := by
      have := (List.getElem?_eq_some_iff.mp h).1
      simpa using this
    rw [List.getElem?_set_self hl] at h
    cases h
    exact ⟨v, List.getElem?_set_self (by rw [← s.len]; exact hl), r⟩
  · rw [List.getElem?_set_ne (Ne.symm hj)] at h ⊢
    exact s.at_ j q h
end
end Ip
set_option Elab.async false
set_option linter.all false
set_option maxRecDepth 100000
/-! Ip2: what expressions do to the store (Den), tests, arguments. -/
namespace Ip
open PySem PySem.Spec PyProof.Rows L2

abbrev ME := PEnv → Store → MR PV
abbrev MT := PEnv → Store → MR Bool
abbrev MA := PEnv → Store → MR (List PV)

section
variable (K : PySem.W.Frag)
def kE (ρ : List Addr) (H : Hp) (S' : Store) (v : PV) (Q : VK) : Prop := ∀ ρ' x H', Ext K ρ H ρ' H' → Sim K ρ' S' H' → Rv K ρ' H' v x → Q x H'
def kT (ρ : List Addr) (H : Hp) (S' : Store) (b : Bool) (Q : Bool → Hp → Prop) : Prop := ∀ ρ' H', Ext K ρ H ρ' H' → Sim K ρ' S' H' → Q b H'
def kA (ρ : List Addr) (H : Hp) (S' : Store) (vs : List PV) (Q : List V → Hp → Prop) : Prop := ∀ ρ' xs H', Ext K ρ H ρ' H' → Sim K ρ' S' H' → Rvs K ρ' H' vs xs → Q xs H'
def rdE (m : ME) : TE := fun σ H Q => ∃ ρ σp S, St0 K ρ σp S σ H ∧ ∃ v S', m σp S = some (v, S') ∧ kE K ρ H S' v Q
def rdT (m : MT) : TT := fun σ H Q => ∃ ρ σp S, St0 K ρ σp S σ H ∧ ∃ v S', m σp S = some (v, S') ∧ kT K ρ H S' v Q
def rdA (m : MA) : TA := fun σ H Q => ∃ ρ σp S, St0 K ρ σp S σ H ∧ ∃ v S', m σp S = some (v, S') ∧ kA K ρ H S' v Q
end
section
variable {K : PySem.W.Frag} {ρ ρ1 : List Addr} {H H1 : Hp} {S S1 S2 : Store} {σ : L2.St} {σp : PEnv}
theorem kE.later {v : PV} {Q : VK} (k : kE K ρ H S2 v Q) (e : Ext K ρ H ρ1 H1) : kE K ρ1 H1 S2 v Q := fun ρ' x H' e' s r => k ρ' x H' (e.trans e') s r
theorem kT.later {v : Bool} {Q : Bool → Hp → Prop} (k : kT K ρ H S2 v Q) (e : Ext K ρ H ρ1 H1) : kT K ρ1 H1 S2 v Q := fun ρ' H' e' s => k ρ' H' (e.trans e') s
theorem kA.later {v : List PV} {Q : List V → Hp → Prop} (k : kA K ρ H S2 v Q) (e : Ext K ρ H ρ1 H1) : kA K ρ1 H1 S2 v Q := fun ρ' x H' e' s r => k ρ' x H' (e.trans e') s r
end
abbrev Den (X : Cx) (e : Expr) (m : ME) : Prop := PE X e (rdE X.K m)
abbrev DenT (X : Cx) (e : Expr) (m : MT) : Prop := PT X e (rdT X.K m)
abbrev DenA (X : Cx) (es : List Expr) (m : MA) : Prop := PA X es (rdA X.K m)
theorem PE.imp {X : Cx} {e : Expr} {t t' : TE} (h : PE X e t) (i : ∀ σ H Q, t' σ H Q → t σ H Q) : PE X e t' := ⟨fun pins s σ H Q I q => h.run pins s σ H Q I (i σ H Q q)⟩
theorem PT.imp {X : Cx} {e : Expr} {t t' : TT} (h : PT X e t) (i : ∀ σ H Q, t' σ H Q → t σ H Q) : PT X e t' := ⟨fun pins s σ H Q I q => h.run pins s σ H Q I (i σ H Q q)⟩
theorem PA.imp {X : Cx} {es : List Expr} {t t' : TA} (h : PA X es t) (i : ∀ σ H Q, t' σ H Q → t σ H Q) : PA X es t' := ⟨fun pos pins s σ H Q I q => h.run pos pins s σ H Q I (i σ H Q q)⟩
theorem PS.imp {X : Cx} {st : Stmt} {t t' : TS} (h : PS X st t) (i : ∀ D σ H, t' D σ H → t D σ H) : PS X st t' := ⟨fun pins s σ H D I q => h.run pins s σ H D I (i D σ H q)⟩
theorem PSs.imp {X : Cx} {st : List Stmt} {t t' : TS} (h : PSs X st t) (i : ∀ D σ H, t' D σ H → t D σ H) : PSs X st t' := ⟨fun pins s σ H D I q => h.run pins s σ H D I (i D σ H q)⟩

/-! ### names and constants -/
def mVar (i : Nat) : ME := fun σ S => (σ[i]?.bind id).map fun v => (v, S)
def mCon (v : PV) : ME := fun _ S => some (v, S)
section
variable {X : Cx} {a b c : Expr} {ma mb mc : ME} {pos : Pos}
theorem den_var {i : Nat} {x : Str} (hN : X.N[i]? = some x) (hv : Vis X.env.scope x) (hd : (x == ("__debug__" : Str)) = false := by decide +kernel) (hcd : (x == ("__classdict__" : Str)) = false := by decide +kernel) : Den X (.Name x pos) (mVar i) := by
  refine PE.imp (pe_var hN hv hd hcd) fun σ H Q h => ?_
  obtain ⟨ρ, σp, S, st, v, S', hm, k⟩ := h
  unfold mVar at hm
  obtain ⟨p, h1, h2⟩ := Option.map_eq_some_iff.mp hm
  cases h2
  have h3 : σp[i]? = some (some v) := by
    cases q : σp[i]? with
    | none => rw [q] at h1; cases h1
    | some o =>
      rw [q] at h1
      simp at h1
      rw [h1]
  obtain ⟨x', e, r⟩ := st.slots.at_ i v h3
  exact ⟨x', e, k ρ x' H Ext.refl st.sim r⟩
theorem den_con {e : Expr} {v : PV} {t : V} (h : PE X e (tC t)) (hr : ∀ K ρ H, Rv K ρ H v t) : Den X e (mCon v) := by
  refine PE.imp h fun σ H Q h => ?_
  obtain ⟨ρ, σp, S, st, v', S', hm, k⟩ := h
  cases hm
  exact k ρ _ H Ext.refl st.sim (hr _ _ _)
theorem den_int {i j} : Den X (.Constant (.int i) j pos) (mCon (.int i)) := den_con pe_int fun _ _ _ => rfl
theorem den_bl {i j} : Den X (.Constant (.bool i) j pos) (mCon (.bl i)) := den_con pe_bl fun _ _ _ => rfl
theorem den_non {j} : Den X (.Constant .none j pos) (mCon .non) := den_con pe_non fun _ _ _ => rfl
theorem den_str {i j} : Den X (.Constant (.str i) j pos) (mCon (.str i)) := den_con pe_str fun _ _ _ => rfl
/-- a module's constant -/
theorem den_gint {x : Str} {i : Int} {t : Tok} (hg : Gl X x) (hm : X.mg x = some (.int i t)) (hd : (x == ("__debug__" : Str)) = false := by decide +kernel) : Den X (.Name x pos) (mCon (.int i)) :=
  den_con (pe_glob (v := .int i) hg hm ⟨t, rfl⟩ hd) fun _ _ _ => rfl

/-! ### two places -/
def m2 {α β : Type} (ma : PEnv → Store → MR α) (f : α → PEnv → Store → MR β) : PEnv → Store → MR β := fun σ S => (ma σ S).bind fun r => f r.1 σ r.2
theorem m2_some {α β : Type} {ma : PEnv → Store → MR α} {f : α → PEnv → Store → MR β} {σ : PEnv} {S S2 : Store} {v : β} (h : m2 ma f σ S = some (v, S2)) : ∃ r S1, ma σ S = some (r, S1) ∧ f r σ S1 = some (v, S2) := by
  obtain ⟨⟨r, S1⟩, h1, h2⟩ := Option.bind_eq_some_iff.mp h
  exact ⟨r, S1, h1, h2⟩
abbrev V2 := PV → PV → Store → MR PV
def mOp (f : V2) (ma mb : ME) : ME := m2 ma fun p => m2 mb fun q _ S => f p q S
/-- the values' rule does what f does -/
def Snd2 (K : PySem.W.Frag) (r : R2) (f : V2) : Prop := ∀ (ρ : List Addr) (S : Store) (H : Hp) (p q : PV) (x y : V) (v : PV) (S' : Store) (Q : VK), Sim K ρ S H → Rv K ρ H p x → Rv K ρ H q y → f p q S = some (v, S') → kE K ρ H S' v Q → r x y H Q
theorem rd_op {K : PySem.W.Frag} {r : R2} {f : V2} (hs : Snd2 K r f) {σ : L2.St} {H : Hp} {Q : VK} (h : rdE K (mOp f ma mb) σ H Q) : tOp r (rdE K ma) (rdE K mb) σ H Q := by
  obtain ⟨ρ, σp, S, st, v, S', hm, k⟩ := h
  obtain ⟨p, S1, h1, h2⟩ := m2_some hm
  obtain ⟨q, S2, h3, h4⟩ := m2_some h2
  refine ⟨ρ, σp, S, st, p, S1, h1, fun ρ1 x H1 e1 s1 r1 => ?_⟩
  refine ⟨ρ1, σp, S1, st.next e1 s1, q, S2, h3, fun ρ2 y H2 e2 s2 r2 => ?_⟩
  exact hs ρ2 S2 H2 p q x y v S' Q s2 (Rv.mono e2 p x r1) r2 h4 (k.later (e1.trans e2))
theorem den_op {op : Operator} {r : R2} {f : V2} (ho : OpR X (binaryOp op) r) (hs : Snd2 X.K r f) (ha : Den X a ma) (hb : Den X b mb) : Den X (.BinOp a op b pos) (mOp f ma mb) :=
  PE.imp (pe_op ho ha hb) fun _ _ _ h => rd_op hs h
theorem den_cmp {op : CmpOp} {r : R2} {f : V2} (ho : OpR X (compareOp op) r) (hs : Snd2 X.K r f) (ha : Den X a ma) (hb : Den X b mb) (hm : behindInMarks op b = false) : Den X (.Compare a [op] [b] pos) (mOp f ma mb) :=
  PE.imp (pe_cmpR ho ha hb hm) fun _ _ _ h => rd_op hs h
/-- ints in, a plain value out -/
def vI (g : Int → Int → PV) (c : Int → Int → Bool) : V2 := fun p q S => match p, q with
  | .int i, .int j => if c i j then some (g i j, S) else none
  | _, _ => none
def plainOf : PV → V
  | .bl b => .bl b
  | .int i => .int i
  | .str x => .str x
  | _ => .non
def isPlain : PV → Bool
  | .bl _ | .int _ | .str _ | .non => true
  | _ => false
theorem rv_plain {K : PySem.W.Frag} {ρ : List Addr} {H : Hp} {p : PV} (h : isPlain p = true) : Rv K ρ H p (plainOf p) := by
  cases p <;> first | rfl | cases h
theorem vI_some {g : Int → Int → PV} {c : Int → Int → Bool} {p q v : PV} {S S' : Store} (h : vI g c p q S = some (v, S')) : ∃ i j, p = .int i ∧ q = .int j ∧ c i j = true ∧ v = g i j ∧ S' = S := by
  unfold vI at h
  split at h
  · split at h
    · rename_i i j hc
      cases h
      exact ⟨i, j, rfl, rfl, hc, rfl, rfl⟩
    · cases h
  · cases h
theorem snd_I {K : PySem.W.Frag} {C : Int → Int → Prop} {g : Int → Int → V} {gp : Int → Int → PV} {c : Int → Int → Bool} (hc : ∀ i j, c i j = true → C i j) (hg : ∀ i j, isPlain (gp i j) = true ∧ plainOf (gp i j) = g i j) : Snd2 K (rI C g) (vI gp c) := by
  intro ρ S H p q x y v S' Q s rp rq hf k
  obtain ⟨i, j, rfl, rfl, h1, rfl, rfl⟩ := vI_some hf
  refine ⟨i, j, rp, rq, hc i j h1, ?_⟩
  have := k ρ (plainOf (gp i j)) H Ext.refl s (rv_plain (hg i j).1)
  rw [(hg i j).2] at this
  exact this
theorem snd_I0 {K : PySem.W.Frag} {g : Int → Int → V} {gp : Int → Int → PV} (hg : ∀ i j, isPlain (gp i j) = true ∧ plainOf (gp i j) = g i j) : Snd2 K (rI0 g) (vI gp fun _ _ => true) := by
  intro ρ S H p q x y v S' Q s rp rq hf k
  obtain ⟨i, j, rfl, rfl, h1, rfl, rfl⟩ := vI_some hf
  refine ⟨i, j, rp, rq, ?_⟩
  have := k ρ (plainOf (gp i j)) H Ext.refl s (rv_plain (hg i j).1)
  rw [(hg i j).2] at this
  exact this
def vAdd : V2 := vI (fun i j => .int (i + j)) fun _ _ => true
def vSub : V2 := vI (fun i j => .int (i - j)) fun _ _ => true
def vLt : V2 := vI (fun i j => .bl (decide (i < j))) fun _ _ => true
def vLe : V2 := vI (fun i j => .bl (decide (i ≤ j))) fun _ _ => true
def vGt : V2 := vI (fun i j => .bl (decide (j < i))) fun _ _ => true
def vGe : V2 := vI (fun i j => .bl (decide (j ≤ i))) fun _ _ => true
def vMod : V2 := vI (fun i j => .int (i % j)) fun _ j => decide (0 < j)
def vDiv : V2 := vI (fun i j => .int (i / j)) fun _ j => decide (0 < j ∧ j < 1073741824)
def vMul : V2 := vI (fun i j => .int (i * j)) fun i j => decide ((-(2 ^ 64) < i ∧ i < 2 ^ 64) ∨ (-(2 ^ 64) < j ∧ j < 2 ^ 64))
def vPow : V2 := vI (fun i j => .int (i ^ j.toNat)) fun i j => decide (0 ≤ j ∧ j ≤ 1000000 ∧ i.natAbs < 2 ^ 64)
theorem den_add (ha : Den X a ma) (hb : Den X b mb) : Den X (.BinOp a .Add b pos) (mOp vAdd ma mb) := den_op op_add (snd_I0 fun _ _ => ⟨rfl, rfl⟩) ha hb
theorem den_sub (ha : Den X a ma) (hb : Den X b mb) : Den X (.BinOp a .Sub b pos) (mOp vSub ma mb) := den_op op_sub (snd_I0 fun _ _ => ⟨rfl, rfl⟩) ha hb
theorem den_mod (ha : Den X a ma) (hb : Den X b mb) : Den X (.BinOp a .Mod b pos) (mOp vMod ma mb) := den_op op_mod (snd_I (fun _ _ h => of_decide_eq_true h) fun _ _ => ⟨rfl, rfl⟩) ha hb
theorem den_div (ha : Den X a ma) (hb : Den X b mb) : Den X (.BinOp a .FloorDiv b pos) (mOp vDiv ma mb) := den_op op_fdiv (snd_I (fun i j h => by
  simpa [CDiv] using h) fun _ _ => ⟨rfl, rfl⟩) ha hb
theorem den_mul (ha : Den X a ma) (hb : Den X b mb) : Den X (.BinOp a .Mult b pos) (mOp vMul ma mb) := den_op op_mul (snd_I (fun i j h => by
  simpa [CMul] using h) fun _ _ => ⟨rfl, rfl⟩) ha hb
theorem den_pow (ha : Den X a ma) (hb : Den X b mb) : Den X (.BinOp a .Pow b pos) (mOp vPow ma mb) := den_op op_pow (snd_I (fun i j h => by
  simpa [CPow] using h) fun _ _ => ⟨rfl, rfl⟩) ha hb
theorem den_lt (ha : Den X a ma) (hb : Den X b mb) : Den X (.Compare a [.Lt] [b] pos) (mOp vLt ma mb) := den_cmp op_lt (snd_I0 fun _ _ => ⟨rfl, rfl⟩) ha hb (nomark _)
theorem den_le (ha : Den X a ma) (hb : Den X b mb) : Den X (.Compare a [.LtE] [b] pos) (mOp vLe ma mb) := den_cmp op_le (snd_I0 fun _ _ => ⟨rfl, rfl⟩) ha hb (nomark _)
theorem den_gt (ha : Den X a ma) (hb : Den X b mb) : Den X (.Compare a [.Gt] [b] pos) (mOp vGt ma mb) := den_cmp op_gt (snd_I0 fun _ _ => ⟨rfl, rfl⟩) ha hb (nomark _)
theorem den_ge (ha : Den X a ma) (hb : Den X b mb) : Den X (.Compare a [.GtE] [b] pos) (mOp vGe ma mb) := den_cmp op_ge (snd_I0 fun _ _ => ⟨rfl, rfl⟩) ha hb (nomark _)
/-- a chain of two comparisons -/
def mChain (f g : V2) (ma mb mc : ME) : ME := m2 ma fun p => m2 mb fun q => m2 (fun _ S => f p q S) fun r => match r with
  | .bl true => m2 mc fun z _ S => g q z S
  | .bl false => mCon (.bl false)
  | _ => fun _ _ => none
theorem den_chain {o1 o2 : CmpOp} {r1 r2 : R2} {f g : V2} (h1 : OpR X (compareOp o1) r1) (h2 : OpR X (compareOp o2) r2) (s1 : Snd2 X.K r1 f) (s2 : Snd2 X.K r2 g) (ha : Den X a ma) (hb : Den X b mb) (hc : Den X c mc)
    (hm : lastMarks [o1, o2] [b, c] = false := by with_unfolding_all rfl) : Den X (.Compare a [o1, o2] [b, c] pos) (mChain f g ma mb mc) := by
  refine PE.imp (pe_chain h1 h2 ha hb hc hm) fun σ H Q h => ?_
  obtain ⟨ρ, σp, S, st, v, S', hm, k⟩ := h
  obtain ⟨p, S1, e1, hm⟩ := m2_some hm
  obtain ⟨q, S2, e2, hm⟩ := m2_some hm
  obtain ⟨t, S3, e3, hm⟩ := m2_some hm
  refine ⟨ρ, σp, S, st, p, S1, e1, fun ρ1 x H1 x1 sm1 rv1 => ?_⟩
  refine ⟨ρ1, σp, S1, st.next x1 sm1, q, S2, e2, fun ρ2 y H2 x2 sm2 rv2 => ?_⟩
  refine s1 ρ2 S2 H2 p q x y t S3 _ sm2 (Rv.mono x2 p x rv1) rv2 e3 fun ρ3 z H3 x3 sm3 rv3 => ?_
  cases t with
  | bl d =>
    refine ⟨d, rv3, ?_⟩
    cases d with
    | true =>
      rw [if_pos rfl]
      obtain ⟨z, S4, e4, e5⟩ := m2_some hm
      refine ⟨ρ3, σp, S3, ((st.next x1 sm1).next x2 sm2).next x3 sm3, z, S4, e4, fun ρ4 w H4 x4 sm4 rv4 => ?_⟩
      exact s2 ρ4 S4 H4 q z y w v S' Q sm4 (Rv.mono (x3.trans x4) q y rv2) rv4 e5 (k.later ((x1.trans x2).trans (x3.trans x4)))
    | false =>
      rw [if_neg Bool.false_ne_true]
      cases hm
      exact k ρ3 _ H3 ((x1.trans x2).trans x3) sm3 rfl
  | _ => cases hm
theorem den_chain_le (ha : Den X a ma) (hb : Den X b mb) (hc : Den X c mc) (hm : lastMarks [.LtE, .LtE] [b, c] = false := by with_unfolding_all rfl) : Den X (.Compare a [.LtE, .LtE] [b, c] pos) (mChain vLe vLe ma mb mc) :=
  den_chain op_le op_le (snd_I0 fun _ _ => ⟨rfl, rfl⟩) (snd_I0 fun _ _ => ⟨rfl, rfl⟩) ha hb hc hm
/-- is None -/
def vIsN : ME → Bool → ME := fun ma n => m2 ma fun p => mCon (.bl (n ^^ decide (p = .non)))
theorem rv_non {K : PySem.W.Frag} {ρ : List Addr} {H : Hp} {p : PV} {x : V} (r : Rv K ρ H p x) : decide (x = .non) = decide (p = .non) := by
  cases p with
  | non => cases r; rfl
  | bl _ => cases r; rfl
  | int _ => cases r; rfl
  | str _ => cases r; rfl
  | tup _ =>
    simp only [Rv] at r
    obtain ⟨a, vs, rfl, _⟩ := r
    rfl
  | frl _ =>
    simp only [Rv] at r
    obtain ⟨a, vs, rfl, _⟩ := r
    rfl
  | ref _ =>
    obtain ⟨a, _, rfl⟩ := r
    rfl
theorem den_isN {j p2} (ha : Den X a ma) : Den X (.Compare a [.Is] [.Constant .none j p2] pos) (vIsN ma false) := by
  refine PE.imp (pe_cmp (pc_isN ha)) fun σ H Q h => ?_
  obtain ⟨ρ, σp, S, st, v, S', hm, k⟩ := h
  obtain ⟨p, S1, e1, hm⟩ := m2_some hm
  refine ⟨ρ, σp, S, st, p, S1, e1, fun ρ1 x H1 x1 sm1 rv1 => ?_⟩
  cases hm
  rw [rv_non rv1]
  simpa using k ρ1 _ H1 x1 sm1 rfl
theorem den_notN {j p2} (ha : Den X a ma) : Den X (.Compare a [.IsNot] [.Constant .none j p2] pos) (vIsN ma true) := by
  refine PE.imp (pe_cmp (pc_notN ha)) fun σ H Q h => ?_
  obtain ⟨ρ, σp, S, st, v, S', hm, k⟩ := h
  obtain ⟨p, S1, e1, hm⟩ := m2_some hm
  refine ⟨ρ, σp, S, st, p, S1, e1, fun ρ1 x H1 x1 sm1 rv1 => ?_⟩
  cases hm
  rw [rv_non rv1]
  simpa using k ρ1 _ H1 x1 sm1 rfl

/-! ### tests, and, or, not -/
def asB : PV → Option Bool
  | .bl b => some b
  | _ => none
def mTest (ma : ME) : MT := m2 ma fun p _ S => (asB p).map fun b => (b, S)
theorem asB_some {p : PV} {b : Bool} (h : asB p = some b) : p = .bl b := by
  cases p <;> simp_all [asB]
theorem mTest_some {σ : PEnv} {S S' : Store} {b : Bool} (h : mTest ma σ S = some (b, S')) : ma σ S = some (.bl b, S') := by
  obtain ⟨p, S1, h1, h2⟩ := m2_some h
  obtain ⟨c, h3, h4⟩ := Option.map_eq_some_iff.mp h2
  cases h4
  rw [asB_some h3] at h1
  exact h1
theorem rd_test {K : PySem.W.Frag} {σ : L2.St} {H : Hp} {Q : Bool → Hp → Prop} (h : rdT K (mTest ma) σ H Q) : tB (rdE K ma) σ H Q := by
  obtain ⟨ρ, σp, S, st, v, S', hm, k⟩ := h
  exact ⟨ρ, σp, S, st, .bl v, S', mTest_some hm, fun ρ1 x H1 e1 s1 r1 => ⟨v, r1, k ρ1 H1 e1 s1⟩⟩
theorem dent_val {e : Expr} (h : Den X e ma) (he : ∀ whole, isTrue e X.env whole = (do let v ← whole; standAt e.pos; holding [v] (truthy v)) := by intro _; rfl) : DenT X e (mTest ma) :=
  PT.imp (pt_val h he) fun _ _ _ q => rd_test q
theorem dent_cmp {op : CmpOp} {r : R2} {f : V2} (ho : OpR X (compareOp op) r) (hs : Snd2 X.K r f) (ha : Den X a ma) (hb : Den X b mb) (hm : behindInMarks op b = false) : DenT X (.Compare a [op] [b] pos) (mTest (mOp f ma mb)) := by
  refine PT.imp (pt_cmpR ho ha hb hm) fun σ H Q h => ?_
  obtain ⟨ρ, σp, S, st, v, S', hm, k⟩ := h
  have := rd_op (K := X.K) hs (Q := fun x H' => ∃ k, x = .bl k ∧ Q k H') ⟨ρ, σp, S, st, .bl v, S', mTest_some hm, fun ρ1 x H1 e1 s1 r1 => ⟨v, r1, k ρ1 H1 e1 s1⟩⟩
  exact this
def tAndM (a b : MT) : MT := m2 a fun p => if p then b else fun _ S => some (false, S)
def tOrM (a b : MT) : MT := m2 a fun p => if p then fun _ S => some (true, S) else b
def tNotM (a : MT) : MT := m2 a fun p _ S => some (!p, S)
abbrev DenW (X : Cx) (e : Expr) (m : MT) : Prop := PW X e (rdT X.K m)
theorem PW.imp {X : Cx} {e : Expr} {t t' : TT} (h : PW X e t) (i : ∀ σ H Q, t' σ H Q → t σ H Q) : PW X e t' := ⟨fun wh pins s σ H Q I q => h.run wh pins s σ H Q I (i σ H Q q)⟩
variable {ta tb : MT} {rest : List Expr}
theorem denw_and1 (ha : DenT X a ta) : DenW X (.BoolOp .And [a] pos) ta := pw_and1 ha
theorem denw_or1 (ha : DenT X a ta) : DenW X (.BoolOp .Or [a] pos) ta := pw_or1 ha
theorem denw_and (ha : DenT X a ta) (hb : DenW X (.BoolOp .And (b :: rest) pos) tb) : DenW X (.BoolOp .And (a :: b :: rest) pos) (tAndM ta tb) := by
  refine PW.imp (pw_and ha hb) fun σ H Q h => ?_
  obtain ⟨ρ, σp, S, st, v, S', hm, k⟩ := h
  obtain ⟨p, S1, e1, hm⟩ := m2_some hm
  refine ⟨ρ, σp, S, st, p, S1, e1, fun ρ1 H1 x1 sm1 => ?_⟩
  cases p with
  | true => exact ⟨ρ1, σp, S1, st.next x1 sm1, v, S', hm, k.later x1⟩
  | false =>
    cases hm
    exact k ρ1 H1 x1 sm1
theorem denw_or (ha : DenT X a ta) (hb : DenW X (.BoolOp .Or (b :: rest) pos) tb) : DenW X (.BoolOp .Or (a :: b :: rest) pos) (tOrM ta tb) := by
  refine PW.imp (pw_or ha hb) fun σ H Q h => ?_
  obtain ⟨ρ, σp, S, st, v, S', hm, k⟩ := h
  obtain ⟨p, S1, e1, hm⟩ := m2_some hm
  refine ⟨ρ, σp, S, st, p, S1, e1, fun ρ1 H1 x1 sm1 => ?_⟩
  cases p with
  | false => exact ⟨ρ1, σp, S1, st.next x1 sm1, v, S', hm, k.later x1⟩
  | true =>
    cases hm
    exact k ρ1 H1 x1 sm1
theorem dent_not (ha : DenT X a ta) : DenT X (.UnaryOp .Not a pos) (tNotM ta) := by
  refine PT.imp (pt_not ha) fun σ H Q h => ?_
  obtain ⟨ρ, σp, S, st, v, S', hm, k⟩ := h
  obtain ⟨p, S1, e1, hm⟩ := m2_some hm
  cases hm
  exact ⟨ρ, σp, S, st, p, S', e1, fun ρ1 H1 x1 sm1 => k ρ1 H1 x1 sm1⟩
/-- .. as values -/
def mAnd (ma mb : ME) : ME := m2 (mTest ma) fun p => if p then mb else mCon (.bl false)
def mOr (ma mb : ME) : ME := m2 (mTest ma) fun p => if p then mCon (.bl true) else mb
def mNot (ma : ME) : ME := m2 (mTest ma) fun p => mCon (.bl (!p))
theorem den_one {op} (h : Den X a ma) : Den X (.BoolOp op [a] pos) ma := pe_one h
theorem den_and (ha : Den X a ma) (hb : Den X (.BoolOp .And (b :: rest) pos) mb) : Den X (.BoolOp .And (a :: b :: rest) pos) (mAnd ma mb) := by
  refine PE.imp (pe_and ha hb) fun σ H Q h => ?_
  obtain ⟨ρ, σp, S, st, v, S', hm, k⟩ := h
  obtain ⟨p, S1, e1, hm⟩ := m2_some hm
  refine ⟨ρ, σp, S, st, .bl p, S1, mTest_some e1, fun ρ1 x H1 x1 sm1 rv1 => ⟨p, rv1, ?_⟩⟩
  cases p with
  | true => exact ⟨ρ1, σp, S1, st.next x1 sm1, v, S', hm, k.later x1⟩
  | false =>
    cases hm
    exact k ρ1 _ H1 x1 sm1 rfl
theorem den_or (ha : Den X a ma) (hb : Den X (.BoolOp .Or (b :: rest) pos) mb) : Den X (.BoolOp .Or (a :: b :: rest) pos) (mOr ma mb) := by
  refine PE.imp (pe_or ha hb) fun σ H Q h => ?_
  obtain ⟨ρ, σp, S, st, v, S', hm, k⟩ := h
  obtain ⟨p, S1, e1, hm⟩ := m2_some hm
  refine ⟨ρ, σp, S, st, .bl p, S1, mTest_some e1, fun ρ1 x H1 x1 sm1 rv1 => ⟨p, rv1, ?_⟩⟩
  cases p with
  | false => exact ⟨ρ1, σp, S1, st.next x1 sm1, v, S', hm, k.later x1⟩
  | true =>
    cases hm
    exact k ρ1 _ H1 x1 sm1 rfl
theorem den_not (ha : Den X a ma) : Den X (.UnaryOp .Not a pos) (mNot ma) := by
  refine PE.imp (pe_not ha) fun σ H Q h => ?_
  obtain ⟨ρ, σp, S, st, v, S', hm, k⟩ := h
  obtain ⟨p, S1, e1, hm⟩ := m2_some hm
  cases hm
  exact ⟨ρ, σp, S, st, .bl p, S', mTest_some e1, fun ρ1 x H1 x1 sm1 rv1 => ⟨p, rv1, k ρ1 _ H1 x1 sm1 rfl⟩⟩
def mIte (t : MT) (ma mb : ME) : ME := m2 t fun p => if p then ma else mb
theorem den_ite {t : Expr} (ht : DenT X t ta) (ha : Den X a ma) (hb : Den X b mb) : Den X (.IfExp t a b pos) (mIte ta ma mb) := by
  refine PE.imp (pe_ifExp ht ha hb) fun σ H Q h => ?_
  obtain ⟨ρ, σp, S, st, v, S', hm, k⟩ := h
  obtain ⟨p, S1, e1, hm⟩ := m2_some hm
  refine ⟨ρ, σp, S, st, p, S1, e1, fun ρ1 H1 x1 sm1 => ?_⟩
  cases p with
  | true => exact ⟨ρ1, σp, S1, st.next x1 sm1, v, S', hm, k.later x1⟩
  | false => exact ⟨ρ1, σp, S1, st.next x1 sm1, v, S', hm, k.later x1⟩
def mNeg (ma : ME) : ME := m2 ma fun p _ S => match p with
  | .int i => some (.int (-i), S)
  | _ => none
theorem den_neg (ha : Den X a ma) : Den X (.UnaryOp .USub a pos) (mNeg ma) := by
  refine PE.imp (pe_un un_neg ha) fun σ H Q h => ?_
  obtain ⟨ρ, σp, S, st, v, S', hm, k⟩ := h
  obtain ⟨p, S1, e1, hm⟩ := m2_some hm
  refine ⟨ρ, σp, S, st, p, S1, e1, fun ρ1 x H1 x1 sm1 rv1 => ?_⟩
  cases p with
  | int i =>
    cases hm
    exact ⟨i, rv1, k ρ1 _ H1 x1 sm1 rfl⟩
  | _ => cases hm

/-! ### arguments, displays -/
def aNil : MA := fun _ S => some ([], S)
def aCons (ma : ME) (mr : MA) : MA := m2 ma fun p => m2 mr fun ps _ S => some (p :: ps, S)
variable {es : List Expr} {me : MA}
theorem dena_nil : DenA X [] aNil := by
  refine PA.imp pa_nil fun σ H Q h => ?_
  obtain ⟨ρ, σp, S, st, v, S', hm, k⟩ := h
  cases hm
  exact k ρ [] H Ext.refl st.sim rfl
theorem dena_cons (ha : Den X a ma) (hr : DenA X es me) (hs : starEach (a :: es) X.env = (false, eval a X.env) :: starEach es X.env := by rfl) : DenA X (a :: es) (aCons ma me) := by
  refine PA.imp (pa_cons ha hr hs) fun σ H Q h => ?_
  obtain ⟨ρ, σp, S, st, v, S', hm, k⟩ := h
  obtain ⟨p, S1, e1, hm⟩ := m2_some hm
  obtain ⟨ps, S2, e2, hm⟩ := m2_some hm
  cases hm
  refine ⟨ρ, σp, S, st, p, S1, e1, fun ρ1 x H1 x1 sm1 rv1 => ?_⟩
  refine ⟨ρ1, σp, S1, st.next x1 sm1, ps, _, e2, fun ρ2 xs H2 x2 sm2 rv2 => ?_⟩
  exact k ρ2 (x :: xs) H2 (x1.trans x2) sm2 ⟨x, xs, rfl, Rv.mono x2 p x rv1, rv2⟩
def szB (n : Nat) : Bool := decide (n ≤ 100000)
theorem szB_ok {n : Nat} (h : szB n = true) : n ≤ sizeLine := Nat.le_trans (of_decide_eq_true h) (by decide)
theorem szB_lt {n : Nat} (h : szB (n + 1) = true) : n < sizeLine := Nat.lt_of_lt_of_le (Nat.lt_succ_self n) (szB_ok h)
def mTup (me : MA) : ME := m2 me fun ps _ S => if szB ps.length then some (.tup ps, S) else none
def mLst (me : MA) : ME := m2 me fun ps _ S => if szB ps.length then some (.ref S.length, S ++ [.lst ps]) else none
theorem den_tup {k} (h : DenA X es me) : Den X (.Tuple es k pos) (mTup me) := by
  refine PE.imp (pe_tup h) fun σ H Q h => ?_
  obtain ⟨ρ, σp, S, st, v, S', hm, k⟩ := h
  obtain ⟨ps, S1, e1, hm⟩ := m2_some hm
  split at hm
  · rename_i hz
    cases hm
    refine ⟨ρ, σp, S, st, ps, _, e1, fun ρ1 xs H1 x1 sm1 rv1 => ⟨by rw [rv1.length]; exact szB_ok hz, fun p hp => ?_⟩⟩
    refine k ρ1 (.ref p) _ (x1.trans (ext_new hp)) (sm1.laid hp) ?_
    simp only [Rv]
    exact ⟨p, xs, rfl, .inl (.inl upd_same), Rvs.mono (ext_new hp) _ _ rv1⟩
  · cases hm
theorem den_lst (h : DenA X es me) : Den X (.List es pos) (mLst me) := by
  refine PE.imp (pe_lst h) fun σ H Q h => ?_
  obtain ⟨ρ, σp, S, st, v, S', hm, k⟩ := h
  obtain ⟨ps, S1, e1, hm⟩ := m2_some hm
  split at hm
  · rename_i hz
    cases hm
    refine ⟨ρ, σp, S, st, ps, _, e1, fun ρ1 xs H1 x1 sm1 rv1 => ⟨by rw [rv1.length]; exact szB_ok hz, fun p hp => ?_⟩⟩
    refine k (ρ1 ++ [p]) (.ref p) _ (x1.trans ((ext_new hp).trans Ext.grow)) (sm1.new hp ⟨xs, upd_same, Rvs.mono (ext_new hp) _ _ rv1⟩) ⟨p, new_at sm1, rfl⟩
  · cases hm
end
end Ip
set_option Elab.async false
set_option linter.all false
set_option maxRecDepth 100000
/-! Ip3: built-in calls, subscripts, slices, list methods, == of data. -/
namespace Ip
open PySem PySem.Spec PyProof.Rows L2

abbrev VL := List PV → Store → MR PV
def mCall (f : VL) (me : MA) : ME := m2 me fun ps _ S => f ps S
def SndL (K : PySem.W.Frag) (r : List V → Hp → VK → Prop) (f : VL) : Prop := ∀ (ρ : List Addr) (S : Store) (H : Hp) (ps : List PV) (xs : List V) (v : PV) (S' : Store) (Q : VK), Sim K ρ S H → Rvs K ρ H ps xs → f ps S = some (v, S') → kE K ρ H S' v Q → r xs H Q
section
variable {K : PySem.W.Frag} {ρ : List Addr} {H : Hp} {S : Store}
theorem Rvs.one_of {p : PV} {xs : List V} (h : Rvs K ρ H [p] xs) : ∃ x, xs = [x] ∧ Rv K ρ H p x := by
  simp only [Rvs] at h
  obtain ⟨v, r, rfl, h1, rfl⟩ := h
  exact ⟨v, rfl, h1⟩
theorem Rvs.two_of {p q : PV} {xs : List V} (h : Rvs K ρ H [p, q] xs) : ∃ x y, xs = [x, y] ∧ Rv K ρ H p x ∧ Rv K ρ H q y := by
  simp only [Rvs] at h
  obtain ⟨v, r, rfl, h1, w, r', rfl, h2, rfl⟩ := h
  exact ⟨v, w, rfl, h1, h2⟩
theorem rd_call {r : List V → Hp → VK → Prop} {f : VL} {me : MA} (hs : SndL K r f) {σ : L2.St} {H : Hp} {Q : VK} (h : rdE K (mCall f me) σ H Q) : tCB r (rdA K me) σ H Q := by
  obtain ⟨ρ, σp, S, st, v, S', hm, k⟩ := h
  obtain ⟨ps, S1, e1, hm⟩ := m2_some hm
  exact ⟨ρ, σp, S, st, ps, S1, e1, fun ρ1 xs H1 x1 sm1 rv1 => hs ρ1 S1 H1 ps xs v S' Q sm1 rv1 hm (k.later x1)⟩
end
section
variable {X : Cx} {x : Str} {p pos : Pos} {e : Expr} {es : List Expr} {me : MA} {id T : String} {r : List V → Hp → VK → Prop} {f : VL}
theorem den_callB (hc : CallR X (.builtin id) r) (hs : SndL X.K r f) (hg : Gl X x) (hm : X.mg x = none) (hv : bootBuiltins x = some (.builtin id)) (ha : DenA X (e :: es) me) (hn : x ≠ "__name__" := by decide +kernel) (hd : (x == ("__debug__" : Str)) = false := by decide +kernel)
    (he : starEach (e :: es) X.env = (false, eval e X.env) :: starEach es X.env := by rfl) (hp : (backTo pos (starEach es X.env)).any (·.1) = false := by rfl) : Den X (.Call (.Name x p) (e :: es) [] pos) (mCall f me) :=
  PE.imp (pe_callB hc hg hm hv ha hn hd he hp) fun _ _ _ h => rd_call hs h
theorem den_callTy (hc : CallR X (.type T) r) (hs : SndL X.K r f) (hg : Gl X x) (hm : X.mg x = none) (hv : bootBuiltins x = some (.type T)) (ha : DenA X (e :: es) me) (hn : x ≠ "__name__" := by decide +kernel) (hd : (x == ("__debug__" : Str)) = false := by decide +kernel)
    (he : starEach (e :: es) X.env = (false, eval e X.env) :: starEach es X.env := by rfl) (hp : (backTo pos (starEach es X.env)).any (·.1) = false := by rfl) : Den X (.Call (.Name x p) (e :: es) [] pos) (mCall f me) :=
  PE.imp (pe_callTy hc hg hm hv ha hn hd he hp) fun _ _ _ h => rd_call hs h
theorem den_callM (hc : CallR X (.builtin id) r) (hs : SndL X.K r f) (hg : Gl X x) (hm : X.mg x = some (.builtin id)) (ha : DenA X (e :: es) me) (hd : (x == ("__debug__" : Str)) = false := by decide +kernel)
    (he : starEach (e :: es) X.env = (false, eval e X.env) :: starEach es X.env := by rfl) (hp : (backTo pos (starEach es X.env)).any (·.1) = false := by rfl) : Den X (.Call (.Name x p) (e :: es) [] pos) (mCall f me) :=
  PE.imp (pe_callBfun hc hg hm ha hd he hp) fun _ _ _ h => rd_call hs h
end

/-! ### what a value holds -/
def itemsOf (p : PV) (S : Store) : Option (List PV) := match p with
  | .tup xs => some xs
  | .frl xs => some xs
  | .ref n => match S[n]? with
    | some (.lst xs) => some xs
    | _ => none
  | _ => none
section
variable {K : PySem.W.Frag} {ρ : List Addr} {H : Hp} {S : Store}
theorem seq_of {p : PV} {x : V} {xs : List PV} (s : Sim K ρ S H) (r : Rv K ρ H p x) (h : itemsOf p S = some xs) : ∃ a vs, x = .ref a ∧ (SqL K H a vs ∨ SqT K H a vs) ∧ Rvs K ρ H xs vs := by
  cases p with
  | tup ys =>
    cases h
    simp only [Rv] at r
    obtain ⟨a, vs, e, h1, h2⟩ := r
    exact ⟨a, vs, e, .inr h1, h2⟩
  | frl ys =>
    cases h
    simp only [Rv] at r
    obtain ⟨a, vs, e, h1, h2⟩ := r
    exact ⟨a, vs, e, .inl h1.sq, h2⟩
  | ref n =>
    obtain ⟨a, h1, e⟩ := r
    simp only [itemsOf] at h
    split at h
    · rename_i ys hn
      cases h
      obtain ⟨vs, h2, h3⟩ := s.obj n _ a hn h1
      exact ⟨a, vs, e, .inl (.of h2), h3⟩
    · cases h
  | _ => cases h
/-- a list, not a tuple -/
def listOf (p : PV) (S : Store) : Option (List PV) := match p with
  | .tup _ => none
  | p => itemsOf p S
theorem lst_of {p : PV} {x : V} {xs : List PV} (s : Sim K ρ S H) (r : Rv K ρ H p x) (h : listOf p S = some xs) : ∃ a vs, x = .ref a ∧ SqL K H a vs ∧ Rvs K ρ H xs vs := by
  cases p with
  | tup ys => cases h
  | frl ys =>
    cases h
    simp only [Rv] at r
    obtain ⟨a, vs, e, h1, h2⟩ := r
    exact ⟨a, vs, e, h1.sq, h2⟩
  | ref n =>
    obtain ⟨a, h1, e⟩ := r
    simp only [listOf, itemsOf] at h
    split at h
    · rename_i ys hn
      cases h
      obtain ⟨vs, h2, h3⟩ := s.obj n _ a hn h1
      exact ⟨a, vs, e, .of h2, h3⟩
    · cases h
  | _ => cases h

/-! ### len, tuple, list, all, any, sum, int, abs, min, max, gcd -/
def vLen : VL := fun ps S => match ps with
  | [.str z] => if szB z.length then some (.int z.length, S) else none
  | [p] => (itemsOf p S).map fun xs => (.int xs.length, S)
  | _ => none
theorem snd_len : SndL K (fun xs H Q => ∃ x n, xs = [x] ∧ LenV K x H n ∧ Q (.int n) H) vLen := by
  intro ρ S H ps xs v S' Q s r hf k
  unfold vLen at hf
  split at hf
  · rename_i z
    split at hf
    · rename_i hz
      cases hf
      obtain ⟨x, rfl, rx⟩ := r.one_of
      cases rx
      exact ⟨_, _, rfl, ⟨szB_ok hz, rfl⟩, k ρ _ H Ext.refl s rfl⟩
    · cases hf
  · rename_i p hp
    obtain ⟨ys, h1, h2⟩ := Option.map_eq_some_iff.mp hf
    cases h2
    obtain ⟨x, rfl, rx⟩ := r.one_of
    obtain ⟨a, vs, rfl, h3, h4⟩ := seq_of s rx h1
    refine ⟨_, vs.length, rfl, ?_, k ρ _ H Ext.refl s (by rw [h4.length]; rfl)⟩
    rcases h3 with h3 | h3
    · exact .inl ⟨vs, h3, rfl⟩
    · exact .inr ⟨vs, h3, rfl⟩
  · cases hf
def vTuple : VL := fun ps S => match ps with
  | [p] => (itemsOf p S).map fun xs => (.tup xs, S)
  | _ => none
theorem snd_tuple : SndL K (fun xs H Q => ∃ p ys, xs = [.ref p] ∧ ((SqL K H p ys ∧ ∀ l, H l = none → Q (.ref l) (upd H l (.tup ys))) ∨ (SqT K H p ys ∧ Q (.ref p) H))) vTuple := by
  intro ρ S H ps xs v S' Q s r hf k
  unfold vTuple at hf
  split at hf
  · rename_i p
    obtain ⟨ys, h1, h2⟩ := Option.map_eq_some_iff.mp hf
    cases h2
    obtain ⟨x, rfl, rx⟩ := r.one_of
    obtain ⟨a, vs, rfl, h3, h4⟩ := seq_of s rx h1
    refine ⟨a, vs, rfl, ?_⟩
    rcases h3 with h3 | h3
    · refine .inl ⟨h3, fun l hl => k ρ _ _ (ext_new hl) (s.laid hl) ?_⟩
      simp only [Rv]
      exact ⟨l, vs, rfl, .inl (.inl upd_same), Rvs.mono (ext_new hl) _ _ h4⟩
    · refine .inr ⟨h3, k ρ _ _ Ext.refl s ?_⟩
      simp only [Rv]
      exact ⟨a, vs, rfl, h3, h4⟩
  · cases hf
def vList : VL := fun ps S => match ps with
  | [p] => (itemsOf p S).map fun xs => (.ref S.length, S ++ [.lst xs])
  | _ => none
theorem snd_list : SndL K (fun xs H Q => ∃ p ys, xs = [.ref p] ∧ (SqL K H p ys ∨ SqT K H p ys) ∧ ∀ l, H l = none → Q (.ref l) (upd H l (.lst ys))) vList := by
  intro ρ S H ps xs v S' Q s r hf k
  unfold vList at hf
  split at hf
  · rename_i p
    obtain ⟨ys, h1, h2⟩ := Option.map_eq_some_iff.mp hf
    cases h2
    obtain ⟨x, rfl, rx⟩ := r.one_of
    obtain ⟨a, vs, rfl, h3, h4⟩ := seq_of s rx h1
    refine ⟨a, vs, rfl, h3, fun l hl => ?_⟩
    exact k (ρ ++ [l]) _ _ ((ext_new hl).trans Ext.grow) (s.new hl ⟨vs, upd_same, Rvs.mono (ext_new hl) _ _ h4⟩) ⟨l, new_at s, rfl⟩
  · cases hf
def boolsOf : List PV → Option (List Bool)
  | [] => some []
  | .bl b :: r => (boolsOf r).map (b :: ·)
  | _ => none
theorem bools_rv : ∀ {xs : List PV} {bs : List Bool} {vs : List V}, boolsOf xs = some bs → Rvs K ρ H xs vs → vs = bs.map V.bl
  | [], bs, vs, h, r => by
    cases h
    simp only [Rvs] at r
    subst r
    rfl
  | .bl b :: xs, bs, vs, h, r => by
    simp only [boolsOf] at h
    obtain ⟨cs, h1, h2⟩ := Option.map_eq_some_iff.mp h
    subst h2
    simp only [Rvs] at r
    obtain ⟨v, w, rfl, h3, h4⟩ := r
    cases h3
    rw [bools_rv h1 h4]
    rfl
  | .non :: _, _, _, h, _ => by cases h
  | .int _ :: _, _, _, h, _ => by cases h
  | .str _ :: _, _, _, h, _ => by cases h
  | .tup _ :: _, _, _, h, _ => by cases h
  | .frl _ :: _, _, _, h, _ => by cases h
  | .ref _ :: _, _, _, h, _ => by cases h
def intsOf : List PV → Option (List Int)
  | [] => some []
  | .int b :: r => (intsOf r).map (b :: ·)
  | _ => none
theorem ints_rv : ∀ {xs : List PV} {bs : List Int} {vs : List V}, intsOf xs = some bs → Rvs K ρ H xs vs → vs = bs.map V.int
  | [], bs, vs, h, r => by
    cases h
    simp only [Rvs] at r
    subst r
    rfl
  | .int b :: xs, bs, vs, h, r => by
    simp only [intsOf] at h
    obtain ⟨cs, h1, h2⟩ := Option.map_eq_some_iff.mp h
    subst h2
    simp only [Rvs] at r
    obtain ⟨v, w, rfl, h3, h4⟩ := r
    cases h3
    rw [ints_rv h1 h4]
    rfl
  | .non :: _, _, _, h, _ => by cases h
  | .bl _ :: _, _, _, h, _ => by cases h
  | .str _ :: _, _, _, h, _ => by cases h
  | .tup _ :: _, _, _, h, _ => by cases h
  | .frl _ :: _, _, _, h, _ => by cases h
  | .ref _ :: _, _, _, h, _ => by cases h
theorem rv_ints : ∀ (ns : List Int), Rvs K ρ H (ns.map PV.int) (ns.map V.int)
  | [] => rfl
  | n :: ns => ⟨.int n, ns.map V.int, rfl, rfl, rv_ints ns⟩
def vAll : VL := fun ps S => match ps with
  | [p] => ((listOf p S).bind boolsOf).map fun bs => (.bl (bs.all id), S)
  | _ => none
theorem snd_all : SndL K (rAll K) vAll := by
  intro ρ S H ps xs v S' Q s r hf k
  unfold vAll at hf
  split at hf
  · rename_i p
    obtain ⟨bs, h1, h2⟩ := Option.map_eq_some_iff.mp hf
    cases h2
    obtain ⟨ys, h1, h2⟩ := Option.bind_eq_some_iff.mp h1
    obtain ⟨x, rfl, rx⟩ := r.one_of
    obtain ⟨a, vs, rfl, h3, h4⟩ := lst_of s rx h1
    rw [bools_rv h2 h4] at h3
    exact ⟨a, bs, rfl, h3, k ρ _ H Ext.refl s rfl⟩
  · cases hf
def vAny : VL := fun ps S => match ps with
  | [p] => ((listOf p S).bind boolsOf).map fun bs => (.bl (bs.any id), S)
  | _ => none
theorem snd_any : SndL K (rAny K) vAny := by
  intro ρ S H ps xs v S' Q s r hf k
  unfold vAny at hf
  split at hf
  · rename_i p
    obtain ⟨bs, h1, h2⟩ := Option.map_eq_some_iff.mp hf
    cases h2
    obtain ⟨ys, h1, h2⟩ := Option.bind_eq_some_iff.mp h1
    obtain ⟨x, rfl, rx⟩ := r.one_of
    obtain ⟨a, vs, rfl, h3, h4⟩ := lst_of s rx h1
    rw [bools_rv h2 h4] at h3
    exact ⟨a, bs, rfl, h3, k ρ _ H Ext.refl s rfl⟩
  · cases hf
def vSum : VL := fun ps S => match ps with
  | [p] => ((listOf p S).bind intsOf).map fun bs => (.int bs.sum, S)
  | _ => none
theorem snd_sum : SndL K (rSum K) vSum := by
  intro ρ S H ps xs v S' Q s r hf k
  unfold vSum at hf
  split at hf
  · rename_i p
    obtain ⟨bs, h1, h2⟩ := Option.map_eq_some_iff.mp hf
    cases h2
    obtain ⟨ys, h1, h2⟩ := Option.bind_eq_some_iff.mp h1
    obtain ⟨x, rfl, rx⟩ := r.one_of
    obtain ⟨a, vs, rfl, h3, h4⟩ := lst_of s rx h1
    rw [ints_rv h2 h4] at h3
    exact ⟨a, bs, rfl, h3, k ρ _ H Ext.refl s rfl⟩
  · cases hf
def maxI : List Int → Int
  | [] => 0
  | [n] => n
  | n :: r => if n < maxI r then maxI r else n
theorem maxI_spec : ∀ (ns : List Int), ns ≠ [] → maxI ns ∈ ns ∧ ∀ y ∈ ns, y ≤ maxI ns
  | [], h => absurd rfl h
  | [n], _ => by simp [maxI]
  | n :: m :: r, _ => by
    obtain ⟨h1, h2⟩ := maxI_spec (m :: r) (by simp)
    simp only [maxI]
    split
    · rename_i hlt
      refine ⟨List.mem_cons_of_mem _ h1, fun y hy => ?_⟩
      rcases List.mem_cons.mp hy with rfl | hy
      · omega
      · exact h2 y hy
    · rename_i hge
      refine ⟨List.mem_cons_self, fun y hy => ?_⟩
      rcases List.mem_cons.mp hy with rfl | hy
      · omega
      · have := h2 y hy
        omega
def vMax1 : VL := fun ps S => match ps with
  | [p] => ((listOf p S).bind intsOf).bind fun bs => if bs = [] then none else some (.int (maxI bs), S)
  | _ => none
theorem snd_max1 : SndL K (rMax K) vMax1 := by
  intro ρ S H ps xs v S' Q s r hf k
  unfold vMax1 at hf
  split at hf
  · rename_i p
    obtain ⟨bs, h1, h2⟩ := Option.bind_eq_some_iff.mp hf
    split at h2
    · cases h2
    · rename_i hne
      cases h2
      obtain ⟨ys, h1, h2⟩ := Option.bind_eq_some_iff.mp h1
      obtain ⟨x, rfl, rx⟩ := r.one_of
      obtain ⟨a, vs, rfl, h3, h4⟩ := lst_of s rx h1
      rw [ints_rv h2 h4] at h3
      obtain ⟨m1, m2⟩ := maxI_spec bs hne
      refine ⟨a, bs, rfl, h3, List.length_pos_iff.mpr hne, fun m e1 e2 => ?_⟩
      have e : m = maxI bs := Int.le_antisymm (m2 m e1) (e2 _ m1)
      subst e
      exact k ρ _ H Ext.refl s rfl
  · cases hf
def vMax2 : VL := fun ps S => match ps with
  | [.int i, .int j] => some (.int (if j > i then j else i), S)
  | _ => none
def vMin2 : VL := fun ps S => match ps with
  | [.int i, .int j] => some (.int (if j < i then j else i), S)
  | _ => none
def vAbs : VL := fun ps S => match ps with
  | [.int i] => some (.int (if i < 0 then -i else i), S)
  | _ => none
def vInt : VL := fun ps S => match ps with
  | [.int i] => some (.int i, S)
  | [.bl b] => some (.int (if b then 1 else 0), S)
  | _ => none
def vGcd : VL := fun ps S => match ps with
  | [.int i, .int j] => some (.int ((Nat.gcd i.natAbs j.natAbs : Nat) : Int), S)
  | _ => none
def vDivmod : VL := fun ps S => match ps with
  | [.int i, .int j] => if 0 < j ∧ j < 1073741824 then some (.tup [.int (i / j), .int (i % j)], S) else none
  | _ => none
theorem snd_max2 : SndL K (fun xs H Q => ∃ i j, xs = [.int i, .int j] ∧ Q (.int (if j > i then j else i)) H) vMax2 := by
  intro ρ S H ps xs v S' Q s r hf k
  unfold vMax2 at hf
  split at hf
  · cases hf
    obtain ⟨x, y, rfl, h1, h2⟩ := r.two_of
    cases h1; cases h2
    exact ⟨_, _, rfl, k ρ _ H Ext.refl s rfl⟩
  · cases hf
theorem snd_min2 : SndL K (fun xs H Q => ∃ i j, xs = [.int i, .int j] ∧ Q (.int (if j < i then j else i)) H) vMin2 := by
  intro ρ S H ps xs v S' Q s r hf k
  unfold vMin2 at hf
  split at hf
  · cases hf
    obtain ⟨x, y, rfl, h1, h2⟩ := r.two_of
    cases h1; cases h2
    exact ⟨_, _, rfl, k ρ _ H Ext.refl s rfl⟩
  · cases hf
theorem snd_abs : SndL K (fun xs H Q => ∃ i, xs = [.int i] ∧ Q (.int (if i < 0 then -i else i)) H) vAbs := by
  intro ρ S H ps xs v S' Q s r hf k
  unfold vAbs at hf
  split at hf
  · cases hf
    obtain ⟨x, rfl, h1⟩ := r.one_of
    cases h1
    exact ⟨_, rfl, k ρ _ H Ext.refl s rfl⟩
  · cases hf
theorem snd_int : SndL K (fun xs H Q => (∃ i, xs = [.int i] ∧ Q (.int i) H) ∨ ∃ k, xs = [.bl k] ∧ Q (.int (if k then 1 else 0)) H) vInt := by
  intro ρ S H ps xs v S' Q s r hf k
  unfold vInt at hf
  split at hf
  · cases hf
    obtain ⟨x, rfl, h1⟩ := r.one_of
    cases h1
    exact .inl ⟨_, rfl, k ρ _ H Ext.refl s rfl⟩
  · cases hf
    obtain ⟨x, rfl, h1⟩ := r.one_of
    cases h1
    exact .inr ⟨_, rfl, k ρ _ H Ext.refl s rfl⟩
  · cases hf
theorem snd_gcd : SndL K rGcd vGcd := by
  intro ρ S H ps xs v S' Q s r hf k
  unfold vGcd at hf
  split at hf
  · cases hf
    obtain ⟨x, y, rfl, h1, h2⟩ := r.two_of
    cases h1; cases h2
    exact ⟨_, _, rfl, k ρ _ H Ext.refl s rfl⟩
  · cases hf
theorem snd_divmod : SndL K (fun xs H Q => ∃ i j, xs = [.int i, .int j] ∧ CDiv i j ∧ ∀ p, H p = none → Q (.ref p) (upd H p (.tup [.int (i / j), .int (i % j)]))) vDivmod := by
  intro ρ S H ps xs v S' Q s r hf k
  unfold vDivmod at hf
  split at hf
  · rename_i i j
    split at hf
    · rename_i hc
      cases hf
      obtain ⟨x, y, rfl, h1, h2⟩ := r.two_of
      cases h1; cases h2
      refine ⟨_, _, rfl, hc, fun l hl => k ρ _ _ (ext_new hl) (s.laid hl) ?_⟩
      simp only [Rv]
      exact ⟨l, _, rfl, .inl (.inl upd_same), ⟨_, _, rfl, rfl, _, _, rfl, rfl, rfl⟩⟩
    · cases hf
  · cases hf

/-! ### subscripts -/
theorem atI_rv {xs : List PV} {vs : List V} {i : Int} {p : PV} (r : Rvs K ρ H xs vs) (h : atI xs i = some p) : ∃ v, atI vs i = some v ∧ Rv K ρ H p v := by
  unfold atI at h ⊢
  rw [r.length]
  obtain ⟨j, h1, h2⟩ := Option.bind_eq_some_iff.mp h
  obtain ⟨v, h3, h4⟩ := r.get h2
  exact ⟨v, by rw [h1]; exact h3, h4⟩
def vIdx : V2 := fun p q S => match q with
  | .int i => ((itemsOf p S).bind fun xs => atI xs i).map fun v => (v, S)
  | _ => none
theorem snd_idx : Snd2 K (rIx K) vIdx := by
  intro ρ S H p q x y v S' Q s rp rq hf k
  unfold vIdx at hf
  split at hf
  · rename_i i
    obtain ⟨w, h1, h2⟩ := Option.map_eq_some_iff.mp hf
    cases h2
    obtain ⟨xs, h1, h2⟩ := Option.bind_eq_some_iff.mp h1
    obtain ⟨a, vs, rfl, h3, h4⟩ := seq_of s rp h1
    obtain ⟨u, h5, h6⟩ := atI_rv h4 h2
    cases rq
    rcases h3 with h3 | h3
    · exact .inl ⟨a, vs, i, u, rfl, rfl, h3, h5, k ρ u H Ext.refl s h6⟩
    · exact .inr (.inl ⟨a, vs, i, u, rfl, rfl, h3, h5, k ρ u H Ext.refl s h6⟩)
  · cases hf
def mPart (ma : ME) : PEnv → Store → MR (Option Int) := m2 ma fun p _ S => match p with
  | .int i => some (some i, S)
  | _ => none
def noPart : PEnv → Store → MR (Option Int) := fun _ S => some (none, S)
def rdO (K : PySem.W.Frag) (m : PEnv → Store → MR (Option Int)) : TO := fun σ H Q => ∃ ρ σp S, St0 K ρ σp S σ H ∧ ∃ v S', m σp S = some (v, S') ∧ ∀ ρ' H', Ext K ρ H ρ' H' → Sim K ρ' S' H' → Q v H'
abbrev DenO (X : Cx) (e : Option Expr) (m : PEnv → Store → MR (Option Int)) : Prop := PO X e (rdO X.K m)
def cutP (xs : List PV) (lo hi : Option Int) : List PV := (xs.drop (HT.sIx xs.length 0 lo)).take (HT.sIx xs.length xs.length hi - HT.sIx xs.length 0 lo)
theorem cut_rv {xs : List PV} {vs : List V} (r : Rvs K ρ H xs vs) (lo hi : Option Int) : Rvs K ρ H (cutP xs lo hi) (cutV vs lo hi) := by
  unfold cutP cutV
  rw [r.length]
  exact (r.drop _).take _
def vCut (p : PV) (lo hi : Option Int) (S : Store) : MR PV := match p with
  | .tup xs => some (.tup (cutP xs lo hi), S)
  | p => (itemsOf p S).map fun xs => (.ref S.length, S ++ [.lst (cutP xs lo hi)])
def mCut (ma : ME) (ml mh : PEnv → Store → MR (Option Int)) : ME := m2 ma fun p => m2 ml fun l => m2 mh fun h _ S => vCut p l h S
theorem snd_cut {p : PV} {x : V} {lo hi : Option Int} {v : PV} {S' : Store} {Q : VK} (s : Sim K ρ S H) (r : Rv K ρ H p x) (hf : vCut p lo hi S = some (v, S')) (k : kE K ρ H S' v Q) : rSlL K x lo hi H Q ∨ rSlA K x lo hi H Q := by
  have lst : ∀ {xs : List PV}, (∃ a vs, x = .ref a ∧ SqL K H a vs ∧ Rvs K ρ H xs vs) → kE K ρ H (S ++ [.lst (cutP xs lo hi)]) (.ref S.length) Q → rSlL K x lo hi H Q := fun {xs} ⟨a, vs, e, h1, h2⟩ k => by
    refine ⟨a, vs, e, h1, fun l hl => ?_⟩
    exact k (ρ ++ [l]) _ _ ((ext_new hl).trans Ext.grow) (s.new hl ⟨_, upd_same, Rvs.mono (ext_new hl) _ _ (cut_rv h2 lo hi)⟩) ⟨l, new_at s, rfl⟩
  unfold vCut at hf
  split at hf
  · rename_i xs
    cases hf
    simp only [Rv] at r
    obtain ⟨a, vs, e, h1, h2⟩ := r
    have hc := cut_rv h2 lo hi
    refine .inr ⟨a, vs, e, h1, fun hw => k ρ _ H Ext.refl s ?_, fun hw l hl => k ρ _ _ (ext_new hl) (s.laid hl) ?_⟩
    · have e2 : cutV vs lo hi = vs := by
        unfold cutV
        rw [hw.1, hw.2]
        simp
      simp only [Rv]
      exact ⟨a, vs, rfl, h1, by rw [e2] at hc; exact hc⟩
    · simp only [Rv]
      exact ⟨l, _, rfl, .inl (.inl upd_same), Rvs.mono (ext_new hl) _ _ hc⟩
  · rename_i hp
    obtain ⟨xs, h1, h2⟩ := Option.map_eq_some_iff.mp hf
    cases h2
    refine .inl (lst (lst_of s r ?_) k)
    cases p <;> first | exact h1 | exact absurd rfl (hp _)
/-! ### == of data of any depth -/
def mapO {α β : Type} (f : α → Option β) : List α → Option (List β)
  | [] => some []
  | x :: xs => (f x).bind fun y => (mapO f xs).map (y :: ·)
def deep : Nat → Store → PV → Option PyData
  | 0, _, _ => none
  | n + 1, S, p => match p with
    | .non => some .none
    | .bl b => some (.bool b)
    | .int i => some (.int i)
    | .str x => some (.str x)
    | .tup xs => (mapO (deep n S) xs).map .tuple
    | .frl xs => (mapO (deep n S) xs).map .list
    | .ref k => match S[k]? with
      | some (.lst xs) => (mapO (deep n S) xs).map .list
      | _ => none
theorem mapO_dp {f : PV → Option PyData} (hf : ∀ p v d, f p = some d → Rv K ρ H p v → Dp K H v d) : ∀ (xs : List PV) (vs : List V) (ds : List PyData), mapO f xs = some ds → Rvs K ρ H xs vs → DpAll K H vs ds
  | [], vs, ds, h, r => by
    cases h
    simp only [Rvs] at r
    subst r
    exact .nil
  | x :: xs, vs, ds, h, r => by
    simp only [mapO] at h
    obtain ⟨d, h1, h2⟩ := Option.bind_eq_some_iff.mp h
    obtain ⟨es, h3, h4⟩ := Option.map_eq_some_iff.mp h2
    subst h4
    simp only [Rvs] at r
    obtain ⟨v, w, rfl, h5, h6⟩ := r
    exact .cons (hf x v d h1 h5) (mapO_dp hf xs w es h3 h6)
theorem deep_dp (s : Sim K ρ S H) : ∀ (n : Nat) (p : PV) (v : V) (d : PyData), deep n S p = some d → Rv K ρ H p v → Dp K H v d
  | 0, _, _, _, h, _ => by simp [deep] at h
  | n + 1, p, v, d, h, r => by
    have ih := deep_dp s n
    cases p with
    | non =>
      cases h
      cases r
      exact .non
    | bl b =>
      cases h
      cases r
      exact .bl b
    | int b =>
      cases h
      cases r
      exact .int b
    | str b =>
      cases h
      cases r
      exact .str b
    | tup xs =>
      simp only [deep] at h
      obtain ⟨ds, h1, h2⟩ := Option.map_eq_some_iff.mp h
      subst h2
      simp only [Rv] at r
      obtain ⟨a, vs, rfl, h3, h4⟩ := r
      exact .tup h3 (mapO_dp ih xs vs ds h1 h4)
    | frl xs =>
      simp only [deep] at h
      obtain ⟨ds, h1, h2⟩ := Option.map_eq_some_iff.mp h
      subst h2
      simp only [Rv] at r
      obtain ⟨a, vs, rfl, h3, h4⟩ := r
      exact .lst h3.sq (mapO_dp ih xs vs ds h1 h4)
    | ref k =>
      simp only [deep] at h
      split at h
      · rename_i xs hk
        obtain ⟨ds, h1, h2⟩ := Option.map_eq_some_iff.mp h
        subst h2
        obtain ⟨a, h3, rfl⟩ := r
        obtain ⟨vs, h4, h5⟩ := s.obj k _ a hk h3
        exact .lst (.of h4) (mapO_dp ih xs vs ds h1 h5)
      · cases h
def vEq (neg : Bool) : V2 := fun p q S => (deep 16 S p).bind fun d => (deep 16 S q).bind fun e => if SeqAt.shaped d && SeqAt.shaped e then some (.bl (neg ^^ PyData.eqv d e), S) else none
theorem eq_parts {neg : Bool} {p q v : PV} {S' : Store} (h : vEq neg p q S = some (v, S')) : ∃ d e, deep 16 S p = some d ∧ deep 16 S q = some e ∧ SeqAt.shaped d = true ∧ SeqAt.shaped e = true ∧ v = .bl (neg ^^ PyData.eqv d e) ∧ S' = S := by
  unfold vEq at h
  obtain ⟨d, h1, h2⟩ := Option.bind_eq_some_iff.mp h
  obtain ⟨e, h3, h4⟩ := Option.bind_eq_some_iff.mp h2
  split at h4
  · rename_i hs
    cases h4
    rw [Bool.and_eq_true] at hs
    exact ⟨d, e, h1, h3, hs.1, hs.2, rfl, rfl⟩
  · cases h4
theorem snd_eqD : Snd2 K (rEqD K) (vEq false) := by
  intro ρ S H p q x y v S' Q s rp rq hf k
  obtain ⟨d, e, h1, h2, h3, h4, rfl, rfl⟩ := eq_parts hf
  exact ⟨d, e, deep_dp s _ p x d h1 rp, deep_dp s _ q y e h2 rq, h3, h4, by simpa using k ρ _ H Ext.refl s rfl⟩
theorem snd_neD : Snd2 K (rNeD K) (vEq true) := by
  intro ρ S H p q x y v S' Q s rp rq hf k
  obtain ⟨d, e, h1, h2, h3, h4, rfl, rfl⟩ := eq_parts hf
  exact ⟨d, e, deep_dp s _ p x d h1 rp, deep_dp s _ q y e h2 rq, h3, h4, by simpa using k ρ _ H Ext.refl s rfl⟩
end
section
variable {X : Cx} {a b : Expr} {ma mb : ME} {pos : Pos}
theorem den_idx (ha : Den X a ma) (hb : Den X b mb) (hs : PlainIx b) : Den X (.Subscript a b pos) (mOp vIdx ma mb) := PE.imp (pe_ix ix_seq ha hb hs) fun _ _ _ h => rd_op snd_idx h
theorem deno_none : DenO X none noPart := ⟨fun pins s σ H Q I h => by
  obtain ⟨ρ, σp, S, st, v, S', hm, k⟩ := h
  cases hm
  exact po_none.run pins s σ H Q I (k ρ H Ext.refl st.sim)⟩
theorem deno_some (ha : Den X a ma) : DenO X (some a) (mPart ma) := ⟨fun pins s σ H Q I h => by
  obtain ⟨ρ, σp, S, st, v, S', hm, k⟩ := h
  obtain ⟨p, S1, e1, hm⟩ := m2_some hm
  refine (po_some ha).run pins s σ H Q I ⟨ρ, σp, S, st, p, S1, e1, fun ρ1 x H1 x1 sm1 rv1 => ?_⟩
  cases p with
  | int i =>
    cases hm
    exact ⟨i, rv1, k ρ1 H1 x1 sm1⟩
  | _ => cases hm⟩
theorem den_cut {lo hi : Option Expr} {ml mh : PEnv → Store → MR (Option Int)} {p2 : Pos} (ha : Den X a ma) (hl : DenO X lo ml) (hh : DenO X hi mh) : Den X (.Subscript a (.Slice lo hi none p2) pos) (mCut ma ml mh) := by
  refine PE.imp (pe_slice (sl_list.or sl_tupA) ha hl hh) fun σ H Q h => ?_
  obtain ⟨ρ, σp, S, st, v, S', hm, k⟩ := h
  obtain ⟨p, S1, e1, hm⟩ := m2_some hm
  obtain ⟨l, S2, e2, hm⟩ := m2_some hm
  obtain ⟨u, S3, e3, hm⟩ := m2_some hm
  refine ⟨ρ, σp, S, st, p, S1, e1, fun ρ1 x H1 x1 sm1 rv1 => ?_⟩
  refine ⟨ρ1, σp, S1, st.next x1 sm1, l, S2, e2, fun ρ2 H2 x2 sm2 => ?_⟩
  refine ⟨ρ2, σp, S2, (st.next x1 sm1).next x2 sm2, u, S3, e3, fun ρ3 H3 x3 sm3 => ?_⟩
  exact snd_cut sm3 (Rv.mono (x2.trans x3) p x rv1) hm (k.later ((x1.trans x2).trans x3))
theorem den_eq (hu : X.A.units + 64 < cLine) (ha : Den X a ma) (hb : Den X b mb) : Den X (.Compare a [.Eq] [b] pos) (mOp (vEq false) ma mb) := den_cmp (op_eqD hu) snd_eqD ha hb (nomark _)
theorem den_ne (hu : X.A.units + 64 < cLine) (ha : Den X a ma) (hb : Den X b mb) : Den X (.Compare a [.NotEq] [b] pos) (mOp (vEq true) ma mb) := den_cmp (op_neD hu) snd_neD ha hb (nomark _)
end
end Ip
set_option Elab.async false
set_option linter.all false
set_option maxRecDepth 100000
/-! Ip4: isinstance, in, list methods, sums of sequences. -/
namespace Ip
open PySem PySem.Spec PyProof.Rows L2

/-! ### isinstance -/
def tyName (p : PV) (S : Store) : Option String := match p with
  | .non => some "NoneType"
  | .bl _ => some "bool"
  | .int _ => some "int"
  | .str _ => some "str"
  | .tup _ => some "tuple"
  | .frl _ => some "list"
  | .ref n => match S[n]? with
    | some (.lst _) => some "list"
    | some (.dk _) => some "dict"
    | _ => none
section
variable {K : PySem.W.Frag} {ρ : List Addr} {H : Hp} {S : Store}
theorem ty_of {p : PV} {x : V} {t : String} (s : Sim K ρ S H) (r : Rv K ρ H p x) (h : tyName p S = some t) : TyX K H x (.type t) := by
  cases p with
  | non => cases r; cases h; exact .base .non
  | bl _ => cases r; cases h; exact .base (.bl _)
  | int _ => cases r; cases h; exact .base (.int _)
  | str _ => cases r; cases h; exact .base (.str _)
  | tup xs =>
    cases h
    simp only [Rv] at r
    obtain ⟨a, vs, rfl, h1, _⟩ := r
    rcases h1 with (h1 | ⟨o, h1⟩) | ⟨o, its, n, h1, h2, _⟩
    · exact .base (.tup h1)
    · exact .fTuple h1
    · exact .kTuple h1 h2
  | frl xs =>
    cases h
    simp only [Rv] at r
    obtain ⟨a, vs, rfl, h1, _⟩ := r
    rcases h1 with ⟨o, h1⟩ | ⟨o, its, n, h1, h2, _⟩
    · exact .base (.frz h1)
    · exact .kList h1 h2
  | ref n =>
    obtain ⟨a, h1, rfl⟩ := r
    simp only [tyName] at h
    split at h
    · rename_i xs hn
      cases h
      obtain ⟨vs, h2, _⟩ := s.obj n _ a hn h1
      exact .base (.lst h2)
    · rename_i xs hn
      cases h
      obtain ⟨vs, h2, _⟩ := s.obj n _ a hn h1
      exact .base (.dK h2)
    · cases h
end
/-- one class | two classes -/
def mIsi (T : String) (ma : ME) : ME := m2 ma fun p _ S => ((tyName p S).bind fun t => kitB t T).map fun b => (.bl b, S)
def mIsi2 (T U : String) (ma : ME) : ME := m2 ma fun p _ S => ((tyName p S).bind fun t => (kitB t T).bind fun b => (kitB t U).map fun c => b || c).map fun b => (.bl b, S)
section
variable {X : Cx} {a b : Expr} {ma mb : ME} {pos p0 p1 p2 : Pos} {x y : Str}
theorem den_isi {T : String} (hg : Gl X "isinstance") (hm : X.mg "isinstance" = none) (hgy : Gl X y) (hmy : X.mg y = none) (hv : bootBuiltins y = some (.type T)) (ha : Den X a ma) (hny : y ≠ "__name__" := by decide +kernel) (hdy : (y == ("__debug__" : Str)) = false := by decide +kernel)
    (h1 : starEach [a, .Name y p1] X.env = (false, eval a X.env) :: starEach [.Name y p1] X.env := by rfl) (h2 : starEach [.Name y p1] X.env = (false, eval (.Name y p1) X.env) :: starEach [] X.env := by rfl) (h3 : (backTo pos (starEach [.Name y p1] X.env)).any (·.1) = false := by rfl) :
    Den X (.Call (.Name "isinstance" p0) [a, .Name y p1] [] pos) (mIsi T ma) := by
  have hb : PE X (.Name y p1) (tC (.ty T)) := pe_bltn hgy hmy hv rfl hny hdy
  refine PE.imp (pe_callB call_isi hg hm (by decide +kernel) (pa_cons ha (pa_cons hb pa_nil h2) h1) (by decide +kernel) (by decide +kernel) h1 h3) fun σ H Q h => ?_
  obtain ⟨ρ, σp, S, st, v, S', hm, k⟩ := h
  obtain ⟨p, S1, e1, hm⟩ := m2_some hm
  obtain ⟨c, h4, h5⟩ := Option.map_eq_some_iff.mp hm
  cases h5
  obtain ⟨t, h4, h5⟩ := Option.bind_eq_some_iff.mp h4
  refine ⟨ρ, σp, S, st, p, _, e1, fun ρ1 x H1 x1 sm1 rv1 => ?_⟩
  exact ⟨x, .ty T, _, _, c, rfl, .ty T, ty_of sm1 rv1 h4, kit_ty h5, k ρ1 _ H1 x1 sm1 rfl⟩
theorem den_isi2 {k : Nat} {T U : String} {z : Str} {p3 p4 : Pos} (hg : Gl X "isinstance") (hm : X.mg "isinstance" = none) (hgy : Gl X y) (hmy : X.mg y = none) (hv : bootBuiltins y = some (.type T)) (hgz : Gl X z) (hmz : X.mg z = none) (hvz : bootBuiltins z = some (.type U)) (ha : Den X a ma)
    (hny : y ≠ "__name__" := by decide +kernel) (hdy : (y == ("__debug__" : Str)) = false := by decide +kernel) (hnz : z ≠ "__name__" := by decide +kernel) (hdz : (z == ("__debug__" : Str)) = false := by decide +kernel)
    (h1 : starEach [a, .Tuple [.Name y p1, .Name z p3] k p4] X.env = (false, eval a X.env) :: starEach [.Tuple [.Name y p1, .Name z p3] k p4] X.env := by rfl)
    (h2 : starEach [.Tuple [.Name y p1, .Name z p3] k p4] X.env = (false, eval (.Tuple [.Name y p1, .Name z p3] k p4) X.env) :: starEach [] X.env := by rfl)
    (h4 : starEach [.Name y p1, .Name z p3] X.env = (false, eval (.Name y p1) X.env) :: starEach [.Name z p3] X.env := by rfl) (h5 : starEach [.Name z p3] X.env = (false, eval (.Name z p3) X.env) :: starEach [] X.env := by rfl)
    (h3 : (backTo pos (starEach [.Tuple [.Name y p1, .Name z p3] k p4] X.env)).any (·.1) = false := by rfl) :
    Den X (.Call (.Name "isinstance" p0) [a, .Tuple [.Name y p1, .Name z p3] k p4] [] pos) (mIsi2 T U ma) := by
  have hb : PE X (.Name y p1) (tC (.ty T)) := pe_bltn hgy hmy hv rfl hny hdy
  have hc : PE X (.Name z p3) (tC (.ty U)) := pe_bltn hgz hmz hvz rfl hnz hdz
  refine PE.imp (pe_callB call_isiT hg hm (by decide +kernel) (pa_cons ha (pa_cons (pe_tup (pa_cons hb (pa_cons hc pa_nil h5) h4)) pa_nil h2) h1) (by decide +kernel) (by decide +kernel) h1 h3) fun σ H Q h => ?_
  obtain ⟨ρ, σp, S, st, v, S', hm, kk⟩ := h
  obtain ⟨p, S1, e1, hm⟩ := m2_some hm
  obtain ⟨c, f1, f2⟩ := Option.map_eq_some_iff.mp hm
  cases f2
  obtain ⟨t, f3, f4⟩ := Option.bind_eq_some_iff.mp f1
  obtain ⟨b, f5, f6⟩ := Option.bind_eq_some_iff.mp f4
  obtain ⟨d, f7, f8⟩ := Option.map_eq_some_iff.mp f6
  subst f8
  refine ⟨ρ, σp, S, st, p, _, e1, fun ρ1 x H1 x1 sm1 rv1 => ?_⟩
  refine ⟨by show 2 ≤ sizeLine; decide, fun l hl => ?_⟩
  have ty := ty_of (sm1.laid (o := .tup [.ty T, .ty U]) hl) (Rv.mono (ext_new hl) _ _ rv1) f3
  show rIsiT X.K [x, .ref l] _ Q
  refine ⟨x, l, [.ty T, .ty U], _, [.type T, .type U], b || d, rfl, upd_same, .cons (.ty T) (.cons (.ty U) .nil), ty, ?_, kk ρ1 _ _ (x1.trans (ext_new hl)) (sm1.laid hl) rfl⟩
  refine kitAny_cons (kit_ty f5) (fun hb => kitAny_cons (kit_ty f7) (fun hd => ?_) fun hd => ?_) fun hb => ?_
  · subst hb; subst hd; exact kitAny_nil
  · subst hb; subst hd; rfl
  · subst hb; rfl
end

/-! ### in -/
section
variable {K : PySem.W.Frag} {ρ : List Addr} {H : Hp} {S : Store}
def rInA (K : PySem.W.Frag) (neg : Bool) : R2 := fun x y H Q => ∃ d ds, Dp K H x d ∧ (Dp K H y (.list ds) ∨ Dp K H y (.tuple ds)) ∧ SeqAt.shaped d = true ∧ SeqAt.shaped (.list ds) = true ∧ Q (.bl (neg ^^ ds.any fun z => PyData.eqv z d)) H
theorem op_inA {X : Cx} (hu : X.A.units + 65 < cLine) : OpR X (compareOp .In) (rInA X.K false) := by
  intro pins s σ H x y v u Q I rx ry h
  obtain ⟨d, ds, hd, he, sd, se, q⟩ := h
  obtain ⟨as, r1⟩ := Dp.reads I d x v hd rx
  have e0 : (false ^^ ds.any fun z => PyData.eqv z d) = ds.any fun z => PyData.eqv z d := by simp
  rw [e0] at q
  rcases he with he | he
  · obtain ⟨bs, r2⟩ := Dp.reads I _ y u he ry
    exact SeqAt.in_list_reads r2 r1 (SeqAt.canLay_of_shaped se) (SeqAt.canLay_of_shaped sd) (room_in_shaped sd hu) ⟨.bl _, H, I, rfl, q⟩
  · obtain ⟨bs, r2⟩ := Dp.reads I _ y u he ry
    exact SeqAt.in_tuple_reads r2 r1 (SeqAt.canLay_of_shaped se) (SeqAt.canLay_of_shaped sd) (room_in_shaped sd hu) ⟨.bl _, H, I, rfl, q⟩
theorem op_notInA {X : Cx} (hu : X.A.units + 65 < cLine) : OpR X (compareOp .NotIn) (rInA X.K true) := by
  intro pins s σ H x y v u Q I rx ry h
  obtain ⟨d, ds, hd, he, sd, se, q⟩ := h
  obtain ⟨as, r1⟩ := Dp.reads I d x v hd rx
  have e0 : (true ^^ ds.any fun z => PyData.eqv z d) = !ds.any fun z => PyData.eqv z d := by simp
  rw [e0] at q
  rcases he with he | he
  · obtain ⟨bs, r2⟩ := Dp.reads I _ y u he ry
    exact SeqAt.notIn_list_reads r2 r1 (SeqAt.canLay_of_shaped se) (SeqAt.canLay_of_shaped sd) (room_in_shaped sd hu) ⟨.bl _, H, I, rfl, q⟩
  · obtain ⟨bs, r2⟩ := Dp.reads I _ y u he ry
    exact SeqAt.notIn_tuple_reads r2 r1 (SeqAt.canLay_of_shaped se) (SeqAt.canLay_of_shaped sd) (room_in_shaped sd hu) ⟨.bl _, H, I, rfl, q⟩
def seqData (S : Store) (p : PV) : Option (List PyData) := match deep 16 S p with
  | some (.list ds) => some ds
  | some (.tuple ds) => some ds
  | _ => none
def vIn (neg : Bool) : V2 := fun p q S => (deep 16 S p).bind fun d => (seqData S q).bind fun ds => if SeqAt.shaped d && SeqAt.shaped (.list ds) then some (.bl (neg ^^ ds.any fun z => PyData.eqv z d), S) else none
theorem snd_inA {neg : Bool} : Snd2 K (rInA K neg) (vIn neg) := by
  intro ρ S H p q x y v S' Q s rp rq hf k
  unfold vIn at hf
  obtain ⟨d, h1, h2⟩ := Option.bind_eq_some_iff.mp hf
  obtain ⟨ds, h3, h4⟩ := Option.bind_eq_some_iff.mp h2
  split at h4
  · rename_i hs
    rw [Bool.and_eq_true] at hs
    cases h4
    refine ⟨d, ds, deep_dp s _ p x d h1 rp, ?_, hs.1, hs.2, k ρ _ H Ext.refl s rfl⟩
    unfold seqData at h3
    split at h3
    · rename_i e he
      cases h3
      exact .inl (deep_dp s _ q y _ he rq)
    · rename_i e he
      cases h3
      exact .inr (deep_dp s _ q y _ he rq)
    · cases h3
  · cases h4
end
section
variable {X : Cx} {a b : Expr} {ma mb : ME} {pos : Pos}
theorem den_in (hu : X.A.units + 65 < cLine) (ha : Den X a ma) (hb : Den X b mb) (hm : behindInMarks .In b = false) : Den X (.Compare a [.In] [b] pos) (mOp (vIn false) ma mb) := den_cmp (op_inA hu) snd_inA ha hb hm
theorem den_notIn (hu : X.A.units + 65 < cLine) (ha : Den X a ma) (hb : Den X b mb) (hm : behindInMarks .NotIn b = false) : Den X (.Compare a [.NotIn] [b] pos) (mOp (vIn true) ma mb) := den_cmp (op_notInA hu) snd_inA ha hb hm
end

/-! ### keys of dicts -/
def keyOf : PV → Option Key
  | .int i => some (.inl i)
  | .str x => some (.inr x)
  | _ => none
def getP (kvs : List (Key × PV)) (k : Key) : Option PV := (kvs.find? fun e => decide (e.1 = k)).map (·.2)
section
variable {K : PySem.W.Frag} {ρ : List Addr} {H : Hp} {S : Store}
theorem keyOf_rv {p : PV} {x : V} {k : Key} (h : keyOf p = some k) (r : Rv K ρ H p x) : x = kV k := by
  cases p with
  | int i => cases h; cases r; rfl
  | str i => cases h; cases r; rfl
  | _ => cases h
theorem find_cons {k j : Key} {v : V} {r : List (Key × V)} : valV ((j, v) :: r) k = if decide (j = k) = true then some v else valV r k := by
  unfold valV
  rw [List.find?_cons]
  by_cases h : j = k
  · simp [h]
  · simp [h]
theorem getP_cons {k j : Key} {v : PV} {r : List (Key × PV)} : getP ((j, v) :: r) k = if decide (j = k) = true then some v else getP r k := by
  unfold getP
  rw [List.find?_cons]
  by_cases h : j = k
  · simp [h]
  · simp [h]
theorem get_rv {k : Key} : ∀ {kvs : List (Key × PV)} {vs : List (Key × V)}, Rkv K ρ H kvs vs → (∀ p, getP kvs k = some p → ∃ v, valV vs k = some v ∧ Rv K ρ H p v) ∧ (getP kvs k = none → valV vs k = none)
  | [], vs, r => by
    simp only [Rkv] at r
    subst r
    exact ⟨fun p h => by simp [getP] at h, fun _ => rfl⟩
  | (j, w) :: kvs, vs, r => by
    simp only [Rkv] at r
    obtain ⟨v, r', rfl, h1, h2⟩ := r
    obtain ⟨i1, i2⟩ := get_rv (k := k) h2
    rw [getP_cons, find_cons]
    by_cases h : decide (j = k) = true
    · rw [if_pos h, if_pos h]
      exact ⟨fun p e => by cases e; exact ⟨v, rfl, h1⟩, fun e => nomatch e⟩
    · rw [if_neg h, if_neg h]
      exact ⟨i1, i2⟩
end
def dictAt (p : PV) (S : Store) : Option (List (Key × PV)) := match p with
  | .ref n => match S[n]? with
    | some (.dk kvs) => some kvs
    | _ => none
  | _ => none
theorem dict_rv {K : PySem.W.Frag} {ρ : List Addr} {H : Hp} {S : Store} {p : PV} {x : V} {kvs : List (Key × PV)} (s : Sim K ρ S H) (r : Rv K ρ H p x) (h : dictAt p S = some kvs) : ∃ a vs, x = .ref a ∧ H a = some (.dK vs) ∧ Rkv K ρ H kvs vs := by
  cases p with
  | ref n =>
    obtain ⟨a, h1, rfl⟩ := r
    simp only [dictAt] at h
    split at h
    · rename_i ks hn
      cases h
      obtain ⟨vs, h2, h3⟩ := s.obj n _ a hn h1
      exact ⟨a, vs, rfl, h2, h3⟩
    · cases h
  | _ => cases h
def vKey (neg : Bool) : V2 := fun p q S => (keyOf p).bind fun k => (dictAt q S).map fun kvs => (.bl (neg ^^ (getP kvs k).isSome), S)
section
variable {X : Cx} {a b : Expr} {ma mb : ME} {pos : Pos}
theorem den_inD (hu : X.A.units + 1 < cLine) (ha : Den X a ma) (hb : Den X b mb) (hm : behindInMarks .In b = false) : Den X (.Compare a [.In] [b] pos) (mOp (vKey false) ma mb) := by
  refine PE.imp (pe_cmp (pc_din hu ha hb) hm) fun σ H Q h => ?_
  obtain ⟨ρ, σp, S, st, v, S', hm, k⟩ := h
  obtain ⟨p, S1, e1, hm⟩ := m2_some hm
  obtain ⟨q, S2, e2, hm⟩ := m2_some hm
  obtain ⟨kk, h1, hm⟩ := Option.bind_eq_some_iff.mp hm
  obtain ⟨kvs, h2, h3⟩ := Option.map_eq_some_iff.mp hm
  cases h3
  refine ⟨ρ, σp, S, st, p, S1, e1, fun ρ1 x H1 x1 sm1 rv1 => ?_⟩
  refine ⟨ρ1, σp, S1, st.next x1 sm1, q, _, e2, fun ρ2 y H2 x2 sm2 rv2 => ?_⟩
  obtain ⟨d, vs, rfl, g1, g2⟩ := dict_rv sm2 rv2 h2
  have ex := keyOf_rv h1 rv1
  subst ex
  refine ⟨d, valV vs kk, rfl, DGet.k g1, ?_⟩
  obtain ⟨i1, i2⟩ := get_rv (k := kk) g2
  cases e : getP kvs kk with
  | none =>
    rw [i2 e]
    rw [e] at k
    exact k ρ2 _ H2 (x1.trans x2) sm2 rfl
  | some w =>
    obtain ⟨v, e', _⟩ := i1 w e
    rw [e']
    rw [e] at k
    exact k ρ2 _ H2 (x1.trans x2) sm2 rfl
theorem den_notInD (hu : X.A.units + 1 < cLine) (ha : Den X a ma) (hb : Den X b mb) (hm : behindInMarks .NotIn b = false) : Den X (.Compare a [.NotIn] [b] pos) (mOp (vKey true) ma mb) := by
  refine PE.imp (pe_cmp (pc_dnotin hu ha hb) hm) fun σ H Q h => ?_
  obtain ⟨ρ, σp, S, st, v, S', hm, k⟩ := h
  obtain ⟨p, S1, e1, hm⟩ := m2_some hm
  obtain ⟨q, S2, e2, hm⟩ := m2_some hm
  obtain ⟨kk, h1, hm⟩ := Option.bind_eq_some_iff.mp hm
  obtain ⟨kvs, h2, h3⟩ := Option.map_eq_some_iff.mp hm
  cases h3
  refine ⟨ρ, σp, S, st, p, S1, e1, fun ρ1 x H1 x1 sm1 rv1 => ?_⟩
  refine ⟨ρ1, σp, S1, st.next x1 sm1, q, _, e2, fun ρ2 y H2 x2 sm2 rv2 => ?_⟩
  obtain ⟨d, vs, rfl, g1, g2⟩ := dict_rv sm2 rv2 h2
  have ex := keyOf_rv h1 rv1
  subst ex
  refine ⟨d, valV vs kk, rfl, DGet.k g1, ?_⟩
  obtain ⟨i1, i2⟩ := get_rv (k := kk) g2
  cases e : getP kvs kk with
  | none =>
    rw [i2 e]
    rw [e] at k
    exact k ρ2 _ H2 (x1.trans x2) sm2 rfl
  | some w =>
    obtain ⟨v, e', _⟩ := i1 w e
    rw [e']
    rw [e] at k
    exact k ρ2 _ H2 (x1.trans x2) sm2 rfl
end

/-! ### methods of lists -/
def mutAt (p : PV) (S : Store) : Option (Nat × List PV) := match p with
  | .ref n => match S[n]? with
    | some (.lst xs) => some (n, xs)
    | _ => none
  | _ => none
theorem mut_rv {K : PySem.W.Frag} {ρ : List Addr} {H : Hp} {S : Store} {p : PV} {x : V} {n : Nat} {xs : List PV} (s : Sim K ρ S H) (r : Rv K ρ H p x) (h : mutAt p S = some (n, xs)) : ∃ a vs, p = .ref n ∧ x = .ref a ∧ ρ[n]? = some a ∧ H a = some (.lst vs) ∧ Rvs K ρ H xs vs := by
  cases p with
  | ref m =>
    obtain ⟨a, h1, rfl⟩ := r
    simp only [mutAt] at h
    split at h
    · rename_i ks hn
      cases h
      obtain ⟨vs, h2, h3⟩ := s.obj _ _ a hn h1
      exact ⟨a, vs, rfl, rfl, h1, h2, h3⟩
    · cases h
  | _ => cases h
/-- a method of a list: what it does to the receiver's items, and its answer -/
abbrev VM := List PV → List PV → Store → Option (PV × List PV)
def mMeth (f : VM) (ma : ME) (me : MA) : ME := m2 ma fun p σ S => match mutAt p S with
  | some _ => m2 me (fun ps _ S2 => match mutAt p S2 with
    | some (n, xs) => (f xs ps S2).map fun r => (r.1, S2.set n (.lst r.2))
    | none => none) σ S
  | none => none
/-- the values' rule does to the list what f does -/
def SndM (K : PySem.W.Frag) (r : V → List V → Hp → VK → Prop) (f : VM) : Prop := ∀ (ρ : List Addr) (S : Store) (H : Hp) (a : Addr) (xs : List PV) (vs : List V) (ps : List PV) (us : List V) (v : PV) (ys : List PV) (Q : VK), Sim K ρ S H → Rvs K ρ H xs vs → H a = some (.lst vs) → Rvs K ρ H ps us → f xs ps S = some (v, ys) →
  (∀ (x : V) (ws : List V), Rv K ρ H v x → Rvs K ρ H ys ws → Q x (upd H a (.lst ws))) → r (.ref a) us H Q
section
variable {X : Cx} {o e : Expr} {es : List Expr} {ma : ME} {me : MA} {name : Str} {apos cpos : Pos} {id : String} {r : V → List V → Hp → VK → Prop} {f : VM}
theorem den_meth (hpe : PE X e (tBM X.K "list" r (rdE X.K ma) (rdA X.K me))) (hs : SndM X.K r f) : Den X e (mMeth f ma me) := by
  refine PE.imp hpe fun σ H Q h => ?_
  obtain ⟨ρ, σp, S, st, v, S', hm, k⟩ := h
  obtain ⟨p, S1, e1, hm⟩ := m2_some hm
  split at hm
  · rename_i q hq
    obtain ⟨n0, xs0⟩ := q
    obtain ⟨ps, S2, e2, hm⟩ := m2_some hm
    split at hm
    · rename_i n xs hq2
      obtain ⟨⟨w, ys⟩, h1, h2⟩ := Option.map_eq_some_iff.mp hm
      cases h2
      refine ⟨ρ, σp, S, st, p, S1, e1, fun ρ1 x H1 x1 sm1 rv1 => ?_⟩
      obtain ⟨a0, vs0, hp0, rfl, g1, g2, g3⟩ := mut_rv sm1 rv1 hq
      refine ⟨.inl ⟨rfl, vs0, SqL.of g2⟩, ?_⟩
      refine ⟨ρ1, σp, S1, st.next x1 sm1, ps, S2, e2, fun ρ2 us H2 x2 sm2 rv2 => ?_⟩
      obtain ⟨a, vs, hp1, e3, g4, g5, g6⟩ := mut_rv sm2 (Rv.mono x2 p _ rv1) hq2
      cases e3
      refine hs ρ2 S2 H2 _ xs vs ps us w ys Q sm2 g6 g5 rv2 h1 fun z ws rz rw' => ?_
      obtain ⟨ex, _⟩ : Ext X.K ρ2 H2 ρ2 (upd H2 a0 (.lst ws)) ∧ True := ⟨ext_put g5 (fun _ z => nomatch z) (fun _ _ z => nomatch z), trivial⟩
      obtain ⟨sm3, ex3⟩ := sm2.put (ob := .lst ys) g4 ⟨ws, upd_same, Rvs.mono ex _ _ rw'⟩
      exact k ρ2 z _ ((x1.trans x2).trans ex3) sm3 (Rv.mono ex3 _ _ rz)
    · cases hm
  · cases hm
end
def fAppend : VM := fun xs ps _ => match ps with
  | [p] => if szB (xs.length + 1) then some (.non, xs ++ [p]) else none
  | _ => none
theorem snd_append {K : PySem.W.Frag} : SndM K rAppend fAppend := by
  intro ρ S H a xs vs ps us v ys Q s r1 ha r2 hf q
  unfold fAppend at hf
  split at hf
  · split at hf
    · rename_i hz
      cases hf
      obtain ⟨y, rfl, ry⟩ := r2.one_of
      exact ⟨a, vs, y, rfl, rfl, ha, by rw [r1.length]; exact szB_lt hz, q _ _ rfl (r1.append (.one ry))⟩
    · cases hf
  · cases hf
def fExtend : VM := fun xs ps S => match ps with
  | [p] => (mutAt p S).bind fun z => if szB (xs.length + z.2.length) then some (.non, xs ++ z.2) else none
  | _ => none
theorem snd_extend {K : PySem.W.Frag} : SndM K rExtend fExtend := by
  intro ρ S H a xs vs ps us v ys Q s r1 ha r2 hf q
  unfold fExtend at hf
  split at hf
  · obtain ⟨⟨n, zs⟩, h1, h2⟩ := Option.bind_eq_some_iff.mp hf
    simp only at h2
    split at h2
    · rename_i hz
      cases h2
      obtain ⟨y, rfl, ry⟩ := r2.one_of
      obtain ⟨b, ws, _, rfl, _, g2, g3⟩ := mut_rv s ry h1
      exact ⟨a, b, vs, ws, rfl, rfl, ha, g2, by rw [r1.length, g3.length]; exact szB_ok hz, q _ _ rfl (r1.append g3)⟩
    · cases h2
  · cases hf
def fPop : VM := fun xs ps _ => match ps with
  | [.int i] => if 0 ≤ i ∧ i < 2 ^ 62 then (xs[i.toNat]?).map fun x => (x, xs.eraseIdx i.toNat) else none
  | _ => none
theorem erase_rv {K : PySem.W.Frag} {ρ : List Addr} {H : Hp} : ∀ {xs : List PV} {vs : List V} (k : Nat), Rvs K ρ H xs vs → Rvs K ρ H (xs.eraseIdx k) (vs.eraseIdx k)
  | [], vs, k, r => by
    simp only [Rvs] at r
    subst r
    simp [Rvs]
  | x :: xs, vs, 0, r => by
    simp only [Rvs] at r
    obtain ⟨v, w, rfl, _, h2⟩ := r
    exact h2
  | x :: xs, vs, k + 1, r => by
    simp only [Rvs] at r
    obtain ⟨v, w, rfl, h1, h2⟩ := r
    exact ⟨v, w.eraseIdx k, rfl, h1, erase_rv k h2⟩
theorem snd_pop {K : PySem.W.Frag} : SndM K rPopAt fPop := by
  intro ρ S H a xs vs ps us v ys Q s r1 ha r2 hf q
  unfold fPop at hf
  split at hf
  · rename_i i
    split at hf
    · rename_i hi
      obtain ⟨x, h1, h2⟩ := Option.map_eq_some_iff.mp hf
      cases h2
      obtain ⟨y, rfl, ry⟩ := r2.one_of
      cases ry
      obtain ⟨z, h3, h4⟩ := r1.get h1
      have hl : i.toNat < vs.length := (List.getElem?_eq_some_iff.mp h3).1
      have hix : ixN vs.length i = some i.toNat := by
        unfold ixN
        rw [if_pos hi.1, if_pos (by omega)]
      exact ⟨a, vs, i, i.toNat, z, rfl, rfl, ha, by omega, by omega, (ixN_seq hix).1, h3, q _ _ h4 (erase_rv _ r1)⟩
    · cases hf
  · cases hf
section
variable {X : Cx} {o e : Expr} {es : List Expr} {ma : ME} {me : MA} {apos cpos : Pos}
theorem den_append (hpe : PE X e (tBM X.K "list" rAppend (rdE X.K ma) (rdA X.K me))) : Den X e (mMeth fAppend ma me) := den_meth hpe snd_append
theorem den_extend (hpe : PE X e (tBM X.K "list" rExtend (rdE X.K ma) (rdA X.K me))) : Den X e (mMeth fExtend ma me) := den_meth hpe snd_extend
theorem den_pop (hpe : PE X e (tBM X.K "list" rPopAt (rdE X.K ma) (rdA X.K me))) : Den X e (mMeth fPop ma me) := den_meth hpe snd_pop
end

/-! ### xs + ys -/
def vCat : V2 := fun p q S => match p, q with
  | .tup xs, .tup ys => if szB (xs.length + ys.length) then some (.tup (xs ++ ys), S) else none
  | p, q => (mutAt p S).bind fun a => (mutAt q S).bind fun b => if szB (a.2.length + b.2.length) then some (.ref S.length, S ++ [.lst (a.2 ++ b.2)]) else none
theorem snd_cat {K : PySem.W.Frag} : Snd2 K (fun x y H Q => rCatA K x y H Q ∨ rCat x y H Q) vCat := by
  intro ρ S H p q x y v S' Q s rp rq hf k
  unfold vCat at hf
  split at hf
  · rename_i xs ys
    split at hf
    · rename_i hz
      cases hf
      simp only [Rv] at rp rq
      obtain ⟨a, vs, rfl, h1, h2⟩ := rp
      obtain ⟨b, ws, rfl, h3, h4⟩ := rq
      refine .inl ⟨a, b, vs, ws, rfl, rfl, h1, h3, by rw [h2.length, h4.length]; exact szB_ok hz, fun e => ?_, fun _ e => ?_, fun _ _ l hl => ?_⟩
      · subst e
        have hx : xs = [] := List.eq_nil_of_length_eq_zero (by have := h2.length; simpa using this.symm)
        subst hx
        refine k ρ _ H Ext.refl s ?_
        simp only [Rv]
        exact ⟨b, ws, rfl, h3, h4⟩
      · subst e
        have hx : ys = [] := List.eq_nil_of_length_eq_zero (by have := h4.length; simpa using this.symm)
        subst hx
        refine k ρ _ H Ext.refl s ?_
        simp only [Rv]
        exact ⟨a, vs, rfl, h1, by rw [List.append_nil]; exact h2⟩
      · refine k ρ _ _ (ext_new hl) (s.laid hl) ?_
        simp only [Rv]
        exact ⟨l, _, rfl, .inl (.inl upd_same), Rvs.mono (ext_new hl) _ _ (h2.append h4)⟩
    · cases hf
  · obtain ⟨⟨n, xs⟩, h1, h2⟩ := Option.bind_eq_some_iff.mp hf
    obtain ⟨⟨m, ys⟩, h3, h4⟩ := Option.bind_eq_some_iff.mp h2
    simp only at h4
    split at h4
    · rename_i hz
      cases h4
      obtain ⟨a, vs, _, rfl, _, g2, g3⟩ := mut_rv s rp h1
      obtain ⟨b, ws, _, rfl, _, g5, g6⟩ := mut_rv s rq h3
      refine .inr ⟨a, b, vs, ws, rfl, rfl, g2, g5, by rw [g3.length, g6.length]; exact szB_ok hz, fun l hl => ?_⟩
      exact k (ρ ++ [l]) _ _ ((ext_new hl).trans Ext.grow) (s.new hl ⟨_, upd_same, Rvs.mono (ext_new hl) _ _ (g3.append g6)⟩) ⟨l, new_at s, rfl⟩
    · cases h4
theorem OpR_or {X : Cx} {f : Value → Value → Sem Value} {r r' : R2} (h : OpR X f r) (h' : OpR X f r') : OpR X f (fun x y H Q => r x y H Q ∨ r' x y H Q) := by
  intro pins s σ H x y v u Q I rx ry q
  rcases q with q | q
  · exact h pins s σ H x y v u Q I rx ry q
  · exact h' pins s σ H x y v u Q I rx ry q
section
variable {X : Cx} {a b : Expr} {ma mb : ME} {pos : Pos}
theorem den_cat (ha : Den X a ma) (hb : Den X b mb) : Den X (.BinOp a .Add b pos) (mOp vCat ma mb) := den_op (OpR_or op_catA op_cat) snd_cat ha hb
end
end Ip
set_option Elab.async false
set_option linter.all false
set_option maxRecDepth 100000
/-! Ip5: targets, statements, what is walked, loops, comprehensions. -/
namespace Ip
open PySem PySem.Spec PyProof.Rows L2

inductive Fl where
  | nx (σ : PEnv) | rt (v : PV) | bk (σ : PEnv) | ct (σ : PEnv)
abbrev MS := PEnv → Store → MR Fl
abbrev MG := PV → PEnv → Store → MR PEnv
abbrev MGs := List PV → PEnv → Store → MR PEnv
abbrev Lk := List (Nat × List PV)
abbrev MI := PEnv → Store → MR (List PV × Lk)
def lkOk (lk : Lk) (S : Store) : Bool := lk.all fun e => decide (S[e.1]? = some (.lst e.2))

/-- only the slots is may have changed -/
def But (is : List Nat) (σ σ' : L2.St) : Prop := σ'.length = σ.length ∧ ∀ j, j ∉ is → σ'[j]? = σ[j]?
theorem But.refl {is : List Nat} {σ : L2.St} : But is σ σ := ⟨rfl, fun _ _ => rfl⟩
theorem But.trans {is js : List Nat} {σ σ' σ2 : L2.St} (a : But is σ σ') (b : But js σ' σ2) : But (is ++ js) σ σ2 :=
  ⟨b.1.trans a.1, fun j h => by rw [List.mem_append] at h; exact (b.2 j fun z => h (.inr z)).trans (a.2 j fun z => h (.inl z))⟩
section
variable (K : PySem.W.Frag)
def kS (ρ : List Addr) (H : Hp) (S' : Store) (f : Fl) (D : Ends) : Prop := match f with
  | .nx σp => ∀ ρ' σ' H', Ext K ρ H ρ' H' → St0 K ρ' σp S' σ' H' → D.nx σ' H'
  | .bk σp => ∀ ρ' σ' H', Ext K ρ H ρ' H' → St0 K ρ' σp S' σ' H' → D.bk σ' H'
  | .ct σp => ∀ ρ' σ' H', Ext K ρ H ρ' H' → St0 K ρ' σp S' σ' H' → D.ct σ' H'
  | .rt v => ∀ ρ' x H', Ext K ρ H ρ' H' → Sim K ρ' S' H' → Rv K ρ' H' v x → D.rt x H'
def rdS (m : MS) : TS := fun D σ H => ∃ ρ σp S, St0 K ρ σp S σ H ∧ ∃ f S', m σp S = some (f, S') ∧ kS K ρ H S' f D
def kG (is : List Nat) (ρ : List Addr) (H : Hp) (σ : L2.St) (S' : Store) (σp' : PEnv) (Q : L2.St → Hp → Prop) : Prop := ∀ ρ' σ' H', Ext K ρ H ρ' H' → St0 K ρ' σp' S' σ' H' → But is σ σ' → Q σ' H'
def rdG (is : List Nat) (m : MG) : TG := fun v σ H Q => ∃ ρ σp S p, St0 K ρ σp S σ H ∧ Rv K ρ H p v ∧ ∃ σp' S', m p σp S = some (σp', S') ∧ kG K is ρ H σ S' σp' Q
def rdGs (is : List Nat) (m : MGs) : TGs := fun vs σ H Q => ∃ ρ σp S ps, St0 K ρ σp S σ H ∧ Rvs K ρ H ps vs ∧ ∃ σp' S', m ps σp S = some (σp', S') ∧ kG K is ρ H σ S' σp' Q
/-- J gives the items, while what it walks stands -/
structure Walks' (ρ0 : List Addr) (H0 : Hp) (J : It) (items : List PV) (lk : Lk) : Prop where
  turn : ∀ i ρ S H, Ext K ρ0 H0 ρ H → Sim K ρ S H → lkOk lk S = true → i < items.length → J.go i H ∧ ∀ x H', J.yld i H x H' → ∃ p, items[i]? = some p ∧ Ext K ρ H ρ H' ∧ Sim K ρ S H' ∧ Rv K ρ H' p x
  stop : ∀ ρ S H, Ext K ρ0 H0 ρ H → Sim K ρ S H → lkOk lk S = true → J.stop items.length H
def rdI (m : MI) : TI := fun σ H R => ∃ ρ σp S, St0 K ρ σp S σ H ∧ ∃ r S', m σp S = some (r, S') ∧ ∀ ρ' J H', Ext K ρ H ρ' H' → Sim K ρ' S' H' → Walks' K ρ' H' J r.1 r.2 → R J H'
end
abbrev DenS (X : Cx) (st : Stmt) (m : MS) : Prop := PS X st (rdS X.K m)
abbrev DenB (X : Cx) (st : List Stmt) (m : MS) : Prop := PSs X st (rdS X.K m)
abbrev DenG (X : Cx) (tg : Expr) (is : List Nat) (m : MG) : Prop := PG X tg (rdG X.K is m)
abbrev DenGs (X : Cx) (ts : List Expr) (is : List Nat) (m : MGs) : Prop := PGs X ts (rdGs X.K is m)
abbrev DenI (X : Cx) (tg it : Expr) (m : MI) : Prop := PI X tg it (rdI X.K m)
section
variable {K : PySem.W.Frag} {ρ ρ1 : List Addr} {H H1 : Hp} {S S1 S2 : Store} {σ : L2.St} {σp : PEnv}
theorem kS.later {f : Fl} {D : Ends} (k : kS K ρ H S2 f D) (e : Ext K ρ H ρ1 H1) : kS K ρ1 H1 S2 f D := by
  cases f with
  | nx _ => exact fun ρ' σ' H' e' s => k ρ' σ' H' (e.trans e') s
  | bk _ => exact fun ρ' σ' H' e' s => k ρ' σ' H' (e.trans e') s
  | ct _ => exact fun ρ' σ' H' e' s => k ρ' σ' H' (e.trans e') s
  | rt _ => exact fun ρ' x H' e' s r => k ρ' x H' (e.trans e') s r
end
theorem PG.imp {X : Cx} {e : Expr} {t t' : TG} (h : PG X e t) (i : ∀ v σ H Q, t' v σ H Q → t v σ H Q) : PG X e t' := ⟨fun pins s σ H v u Q I r q => h.run pins s σ H v u Q I r (i v σ H Q q)⟩
theorem PG.or {X : Cx} {e : Expr} {t t' : TG} (h : PG X e t) (h' : PG X e t') : PG X e (fun v σ H Q => t v σ H Q ∨ t' v σ H Q) := ⟨fun pins s σ H v u Q I r q => by
  rcases q with q | q
  · exact h.run pins s σ H v u Q I r q
  · exact h'.run pins s σ H v u Q I r q⟩
theorem PGs.imp {X : Cx} {e : List Expr} {t t' : TGs} (h : PGs X e t) (i : ∀ v σ H Q, t' v σ H Q → t v σ H Q) : PGs X e t' := ⟨fun pins s σ H v u Q I r q => h.run pins s σ H v u Q I r (i v σ H Q q)⟩
theorem PI.imp {X : Cx} {tg e : Expr} {t t' : TI} (h : PI X tg e t) (i : ∀ σ H R, t' σ H R → t σ H R) : PI X tg e t' := ⟨fun pins s σ H R I q => h.run pins s σ H R I (i σ H R q)⟩
theorem PI.or {X : Cx} {tg e : Expr} {t t' : TI} (h : PI X tg e t) (h' : PI X tg e t') : PI X tg e (fun σ H R => t σ H R ∨ t' σ H R) := ⟨fun pins s σ H R I q => by
  rcases q with q | q
  · exact h.run pins s σ H R I q
  · exact h'.run pins s σ H R I q⟩

/-! ### targets -/
def gN (i : Nat) : MG := fun p σ S => some (σ.set i (some p), S)
def gsN : MGs := fun ps σ S => match ps with
  | [] => some (σ, S)
  | _ => none
def gsC (g : MG) (r : MGs) : MGs := fun ps σ S => match ps with
  | [] => none
  | p :: qs => (g p σ S).bind fun a => r qs a.1 a.2
def gT (n : Nat) (g : MGs) : MG := fun p σ S => (itemsOf p S).bind fun xs => if xs.length = n then g xs σ S else none
def gI (mo mi : ME) : MG := fun p σ S => (mo σ S).bind fun o => (mi σ o.2).bind fun i => match i.1 with
  | .int k => (mutAt o.1 i.2).bind fun z => (ixN z.2.length k).map fun j => (σ, i.2.set z.1 (.lst (z.2.set j p)))
  | _ => none
theorem But.set {i : Nat} {σ : L2.St} {v : Option V} : But [i] σ (σ.set i v) := ⟨by simp, fun j h => by
  have hj : j ≠ i := fun z => h (by simp [z])
  rw [List.getElem?_set_ne (Ne.symm hj)]⟩
section
variable {X : Cx} {a b : Expr} {ma mb : ME} {pos : Pos}
theorem rd_name {K : PySem.W.Frag} {i : Nat} {v : V} {σ : L2.St} {H : Hp} {Q : L2.St → Hp → Prop} (h : rdG K [i] (gN i) v σ H Q) : gName i v σ H Q := by
  obtain ⟨ρ, σp, S, p, st, rv, σp', S', hm, k⟩ := h
  cases hm
  exact k ρ _ H Ext.refl ⟨st.sim, st.slots.set rv⟩ But.set
theorem deng_name {i : Nat} {x : Str} (h : PG X (.Name x pos) (gName i)) : DenG X (.Name x pos) [i] (gN i) := PG.imp h fun _ _ _ _ q => rd_name q
theorem dengs_nil : DenGs X [] [] gsN := PGs.imp pgs_nil fun vs σ H Q h => by
  obtain ⟨ρ, σp, S, ps, st, rv, σp', S', hm, k⟩ := h
  cases ps with
  | nil =>
    simp only [Rvs] at rv
    subst rv
    cases hm
    exact ⟨rfl, k ρ σ H Ext.refl st But.refl⟩
  | cons _ _ => cases hm
theorem dengs_cons {e : Expr} {es : List Expr} {is js : List Nat} {g : MG} {r : MGs} (hp : PGs X (e :: es) (gCons (rdG X.K is g) (rdGs X.K js r))) : DenGs X (e :: es) (is ++ js) (gsC g r) := PGs.imp hp fun vs σ H Q h => by
  obtain ⟨ρ, σp, S, ps, st, rv, σp', S', hm, k⟩ := h
  cases ps with
  | nil => cases hm
  | cons p qs =>
    simp only [Rvs] at rv
    obtain ⟨v, w, rfl, r1, r2⟩ := rv
    obtain ⟨⟨σ1, S1⟩, h1, h2⟩ := Option.bind_eq_some_iff.mp hm
    refine ⟨v, w, rfl, ρ, σp, S, p, st, r1, σ1, S1, h1, fun ρ1 σ2 H1 x1 st1 b1 => ?_⟩
    exact ⟨ρ1, σ1, S1, qs, st1, Rvs.mono x1 _ _ r2, σp', S', h2, fun ρ2 σ3 H2 x2 st2 b2 => k ρ2 σ3 H2 (x1.trans x2) st2 (b1.trans b2)⟩
theorem deng_tup {es : List Expr} {k n : Nat} {is : List Nat} {g : MGs} (h1 : PG X (.Tuple es k pos) (gTup X.K n (rdGs X.K is g))) (h2 : PG X (.Tuple es k pos) (gUnl X.K n (rdGs X.K is g))) : DenG X (.Tuple es k pos) is (gT n g) := PG.imp (PG.or h1 h2) fun v σ H Q h => by
  obtain ⟨ρ, σp, S, p, st, rv, σp', S', hm, k⟩ := h
  obtain ⟨xs, h3, h4⟩ := Option.bind_eq_some_iff.mp hm
  split at h4
  · rename_i hl
    obtain ⟨a, vs, rfl, h5, h6⟩ := seq_of st.sim rv h3
    have hlen : vs.length = n := by rw [h6.length, hl]
    rcases h5 with h5 | h5
    · exact .inr ⟨a, vs, rfl, h5, hlen, ρ, σp, S, xs, st, h6, σp', S', h4, k⟩
    · exact .inl ⟨a, vs, rfl, h5, hlen, ρ, σp, S, xs, st, h6, σp', S', h4, k⟩
  · cases h4
theorem deng_sub (hp : PG X (.Subscript a b pos) (gSub (rdE X.K ma) (rdE X.K mb) rSetL)) : DenG X (.Subscript a b pos) [] (gI ma mb) := PG.imp hp fun v σ H Q h => by
  obtain ⟨ρ, σp, S, p, st, rv, σp', S', hm, k⟩ := h
  obtain ⟨⟨o, S1⟩, h1, hm⟩ := Option.bind_eq_some_iff.mp hm
  obtain ⟨⟨i, S2⟩, h2, hm⟩ := Option.bind_eq_some_iff.mp hm
  simp only at hm h2
  split at hm
  · rename_i k'
    obtain ⟨⟨n, xs⟩, h3, hm⟩ := Option.bind_eq_some_iff.mp hm
    obtain ⟨j, h4, h5⟩ := Option.map_eq_some_iff.mp hm
    cases h5
    refine ⟨ρ, σp, S, st, o, S1, h1, fun ρ1 x H1 x1 sm1 rv1 => ?_⟩
    refine ⟨ρ1, σp, S1, st.next x1 sm1, .int k', S2, h2, fun ρ2 y H2 x2 sm2 rv2 => ?_⟩
    obtain ⟨l, vs, _, rfl, g1, g2, g3⟩ := mut_rv sm2 (Rv.mono x2 o x rv1) h3
    cases rv2
    refine ⟨l, vs, k', j, rfl, rfl, g2, by rw [g3.length]; exact h4, ?_⟩
    have rv' := Rv.mono (x1.trans x2) p v rv
    have ex : Ext X.K ρ2 H2 ρ2 (upd H2 l (.lst (vs.set j v))) := ext_put g2 (fun _ z => nomatch z) (fun _ _ z => nomatch z)
    obtain ⟨sm3, ex3⟩ := sm2.put (ob := .lst (xs.set j p)) g1 ⟨vs.set j v, upd_same, Rvs.mono ex _ _ (g3.set j rv')⟩
    exact k ρ2 σ _ ((x1.trans x2).trans ex3) (((st.next x1 sm1).next x2 sm2).next ex3 sm3) But.refl
  · cases hm
end

/-! ### statements -/
def sSkip : MS := fun σ S => some (.nx σ, S)
def sBreak : MS := fun σ S => some (.bk σ, S)
def sCont : MS := fun σ S => some (.ct σ, S)
def sRet (m : ME) : MS := m2 m fun p _ S => some (.rt p, S)
def sExpr (m : ME) : MS := m2 m fun _ σ S => some (.nx σ, S)
def sAsg (m : ME) (g : MG) : MS := m2 m fun p σ S => (g p σ S).map fun r => (.nx r.1, r.2)
def sSeq (a b : MS) : MS := m2 a fun f σ S => match f with
  | .nx σ' => b σ' S
  | f => some (f, S)
def sIf (t : MT) (a b : MS) : MS := m2 t fun p => if p then a else b
def sNever : MS := fun _ _ => none
section
variable {X : Cx} {st : Stmt} {rest : List Stmt} {e : Expr} {me : ME} {m m' : MS} {mt : MT} {pos : Pos}
theorem denb_nil : DenB X [] sSkip := PSs.imp pss_nil fun D σ H h => by
  obtain ⟨ρ, σp, S, st, f, S', hm, k⟩ := h
  cases hm
  exact k ρ σ H Ext.refl st
theorem denb_cons (h1 : DenS X st m) (h2 : DenB X rest m') : DenB X (st :: rest) (sSeq m m') := PSs.imp (pss_cons h1 h2) fun D σ H h => by
  obtain ⟨ρ, σp, S, s0, f, S', hm, k⟩ := h
  obtain ⟨f1, S1, h1, hm⟩ := m2_some hm
  refine ⟨ρ, σp, S, s0, f1, S1, h1, ?_⟩
  cases f1 with
  | nx σ1 => exact fun ρ1 σ2 H1 x1 st1 => ⟨ρ1, σ1, S1, st1, f, S', hm, k.later x1⟩
  | rt v => cases hm; exact k
  | bk v => cases hm; exact k
  | ct v => cases hm; exact k
theorem denb_one (h1 : DenS X st m) : DenB X [st] m := PSs.imp (pss_one h1) fun D σ H h => h
theorem dens_pass : DenS X (.Pass pos) sSkip := PS.imp ps_pass fun D σ H h => by
  obtain ⟨ρ, σp, S, st, f, S', hm, k⟩ := h
  cases hm
  exact k ρ σ H Ext.refl st
theorem dens_break : DenS X (.Break pos) sBreak := PS.imp ps_break fun D σ H h => by
  obtain ⟨ρ, σp, S, st, f, S', hm, k⟩ := h
  cases hm
  exact k ρ σ H Ext.refl st
theorem dens_cont : DenS X (.Continue pos) sCont := PS.imp ps_continue fun D σ H h => by
  obtain ⟨ρ, σp, S, st, f, S', hm, k⟩ := h
  cases hm
  exact k ρ σ H Ext.refl st
theorem dens_never : DenS X st sNever := PS.imp ps_never fun D σ H h => by
  obtain ⟨ρ, σp, S, st, f, S', hm, k⟩ := h
  cases hm
theorem dens_ret (he : Den X e me) : DenS X (.Return (some e) pos) (sRet me) := PS.imp (ps_ret he) fun D σ H h => by
  obtain ⟨ρ, σp, S, st, f, S', hm, k⟩ := h
  obtain ⟨p, S1, h1, hm⟩ := m2_some hm
  cases hm
  exact ⟨ρ, σp, S, st, p, _, h1, k⟩
theorem dens_expr (hp : PS X st (tDrop (rdE X.K me))) : DenS X st (sExpr me) := PS.imp hp fun D σ H h => by
  obtain ⟨ρ, σp, S, st, f, S', hm, k⟩ := h
  obtain ⟨p, S1, h1, hm⟩ := m2_some hm
  cases hm
  exact ⟨ρ, σp, S, st, p, _, h1, fun ρ1 x H1 x1 sm1 rv1 => k ρ1 σ H1 x1 (st.next x1 sm1)⟩
theorem rd_asg {K : PySem.W.Frag} {is : List Nat} {g : MG} {D : Ends} {σ : L2.St} {H : Hp} (h : rdS K (sAsg me g) D σ H) : tAsg (rdE K me) (rdG K is g) D σ H := by
  obtain ⟨ρ, σp, S, st, f, S', hm, k⟩ := h
  obtain ⟨p, S1, h1, hm⟩ := m2_some hm
  obtain ⟨⟨σ1, S2⟩, h2, h3⟩ := Option.map_eq_some_iff.mp hm
  cases h3
  exact ⟨ρ, σp, S, st, p, S1, h1, fun ρ1 x H1 x1 sm1 rv1 => ⟨ρ1, σp, S1, p, st.next x1 sm1, rv1, σ1, _, h2, fun ρ2 σ2 H2 x2 st2 _ => k ρ2 σ2 H2 (x1.trans x2) st2⟩⟩
theorem dens_asg {is : List Nat} {g : MG} (hp : PS X st (tAsg (rdE X.K me) (rdG X.K is g))) : DenS X st (sAsg me g) := PS.imp hp fun _ _ _ h => rd_asg h
/-- name = e, by ps_set -/
theorem dens_set {i : Nat} (hp : PS X st (tAsg (rdE X.K me) (gName i))) : DenS X st (sAsg me (gN i)) := PS.imp hp fun D σ H h => by
  obtain ⟨ρ, σp, S, st, v, S', hm, k⟩ := rd_asg (is := [i]) h
  exact ⟨ρ, σp, S, st, v, S', hm, fun ρ1 x H1 x1 sm1 rv1 => rd_name (k ρ1 x H1 x1 sm1 rv1)⟩
theorem dens_if {c : Expr} {a b : List Stmt} (hc : DenT X c mt) (ha : DenB X a m) (hb : DenB X b m') : DenS X (.If c a b pos) (sIf mt m m') := PS.imp (ps_if hc ha hb) fun D σ H h => by
  obtain ⟨ρ, σp, S, st, f, S', hm, k⟩ := h
  obtain ⟨p, S1, h1, hm⟩ := m2_some hm
  refine ⟨ρ, σp, S, st, p, S1, h1, fun ρ1 H1 x1 sm1 => ?_⟩
  cases p with
  | true => exact ⟨ρ1, σp, S1, st.next x1 sm1, f, S', hm, k.later x1⟩
  | false => exact ⟨ρ1, σp, S1, st.next x1 sm1, f, S', hm, k.later x1⟩
/-- a, b = x, y | a, b, c = x, y, z -/
def sPar (is : List Nat) (me : MA) : MS := m2 me fun ps σ S => if ps.length = is.length then some (.nx ((is.zip ps).foldl (fun s e => s.set e.1 (some e.2)) σ), S) else none
theorem dens_par {i j : Nat} {ma : MA} (hp : PS X st (tPar i j (rdA X.K ma))) : DenS X st (sPar [i, j] ma) := PS.imp hp fun D σ H h => by
  obtain ⟨ρ, σp, S, st, f, S', hm, k⟩ := h
  obtain ⟨ps, S1, h1, hm⟩ := m2_some hm
  split at hm
  · rename_i hl
    cases hm
    refine ⟨ρ, σp, S, st, ps, _, h1, fun ρ1 xs H1 x1 sm1 rv1 => ?_⟩
    match ps, hl with
    | [p, q], _ =>
      obtain ⟨v, w, rfl, r1, r2⟩ := rv1.two_of
      exact ⟨v, w, rfl, k ρ1 _ H1 x1 ⟨sm1, ((st.slots.mono x1).set r1).set r2⟩⟩
  · cases hm
theorem dens_par3 {i j l : Nat} {ma : MA} (hp : PS X st (tPar3 i j l (rdA X.K ma))) : DenS X st (sPar [i, j, l] ma) := PS.imp hp fun D σ H h => by
  obtain ⟨ρ, σp, S, st, f, S', hm, k⟩ := h
  obtain ⟨ps, S1, h1, hm⟩ := m2_some hm
  split at hm
  · rename_i hl
    cases hm
    refine ⟨ρ, σp, S, st, ps, _, h1, fun ρ1 xs H1 x1 sm1 rv1 => ?_⟩
    match ps, hl with
    | [p, q, r], _ =>
      simp only [Rvs] at rv1
      obtain ⟨v, _, rfl, r1, w, _, rfl, r2, u, _, rfl, r3, rfl⟩ := rv1
      exact ⟨v, w, u, rfl, k ρ1 _ H1 x1 ⟨sm1, (((st.slots.mono x1).set r1).set r2).set r3⟩⟩
  · cases hm
/-- name op= e, ints -/
def sAug (i : Nat) (f : Int → Int → Int) (m : ME) : MS := fun σ S => (mVar i σ S).bind fun a => (m σ a.2).bind fun b => match a.1, b.1 with
  | .int x, .int y => some (.nx (σ.set i (some (.int (f x y)))), b.2)
  | _, _ => none
theorem dens_aug {i : Nat} {g : Int → Int → Int} (hp : PS X st (tAug i (rdE X.K me) (ipI g))) : DenS X st (sAug i g me) := PS.imp hp fun D σ H h => by
  obtain ⟨ρ, σp, S, st, f, S', hm, k⟩ := h
  obtain ⟨⟨p, S0⟩, h1, hm⟩ := Option.bind_eq_some_iff.mp hm
  obtain ⟨⟨q, S1⟩, h2, hm⟩ := Option.bind_eq_some_iff.mp hm
  simp only at hm h2
  split at hm
  · rename_i x y _
    cases hm
    unfold mVar at h1
    obtain ⟨p, h3, h4⟩ := Option.map_eq_some_iff.mp h1
    cases h4
    have h5 : σp[i]? = some (some (.int x)) := by
      cases q : σp[i]? with
      | none => rw [q] at h3; cases h3
      | some o =>
        rw [q] at h3
        have h3' : o = some (.int x) := h3
        rw [h3']
    obtain ⟨v, e, r⟩ := st.slots.at_ i _ h5
    cases r
    refine ⟨_, e, ρ, σp, S, st, .int y, _, h2, fun ρ1 z H1 x1 sm1 rv1 => ?_⟩
    cases rv1
    exact ⟨x, y, rfl, rfl, k ρ1 _ H1 x1 ⟨sm1, (st.slots.mono x1).set rfl⟩⟩
  · cases hm
end

/-! ### while -/
def whileM (t : MT) (b : MS) : Nat → PEnv → Store → MR Fl
  | 0, _, _ => none
  | n + 1, σ, S => (t σ S).bind fun p => if p.1 then (b σ p.2).bind fun f => match f.1 with
      | .nx σ' => whileM t b n σ' f.2
      | .ct σ' => whileM t b n σ' f.2
      | .bk σ' => some (.nx σ', f.2)
      | .rt v => some (.rt v, f.2)
    else some (.nx σ, p.2)
def sWhile (n : Nat) (t : MT) (b : MS) : MS := whileM t b n
section
variable {X : Cx} {pos : Pos}
theorem dens_while {c : Expr} {body : List Stmt} {mt : MT} {mb : MS} {n : Nat} (hp : PS X (.While c body [] pos) (tWhile (rdT X.K mt) (rdS X.K mb))) : DenS X (.While c body [] pos) (sWhile n mt mb) := PS.imp hp fun D σ H h => by
  obtain ⟨ρ, σp, S, st, f, S', hm, k⟩ := h
  refine ⟨fun m σ9 H9 => ∃ ρ1 σp1 S1, Ext X.K ρ H ρ1 H9 ∧ St0 X.K ρ1 σp1 S1 σ9 H9 ∧ whileM mt mb m σp1 S1 = some (f, S'), ⟨n, ρ, σp, S, Ext.refl, st, hm⟩, ?_⟩
  rintro m σ1 H1 ⟨ρ1, σp1, S1, x1, st1, hm1⟩
  cases m with
  | zero => cases hm1
  | succ m =>
    obtain ⟨⟨b, S2⟩, h2, hm2⟩ := Option.bind_eq_some_iff.mp hm1
    refine ⟨ρ1, σp1, S1, st1, b, S2, h2, fun ρ2 H2 x2 sm2 => ?_⟩
    cases b with
    | true =>
      rw [if_pos rfl]
      simp only [if_true] at hm2
      obtain ⟨⟨g, S3⟩, h3, hm3⟩ := Option.bind_eq_some_iff.mp hm2
      refine ⟨fun σ9 H9 => ∃ ρ1 σp1 S1, Ext X.K ρ H ρ1 H9 ∧ St0 X.K ρ1 σp1 S1 σ9 H9 ∧ whileM mt mb m σp1 S1 = some (f, S'), fun σ' H' q => ⟨m, Nat.lt_succ_self m, q⟩, ?_⟩
      refine ⟨ρ2, σp1, S2, st1.next x2 sm2, g, S3, h3, ?_⟩
      cases g with
      | nx σ' => exact fun ρ3 σ3 H3 x3 st3 => ⟨ρ3, σ', S3, (x1.trans x2).trans x3, st3, hm3⟩
      | ct σ' => exact fun ρ3 σ3 H3 x3 st3 => ⟨ρ3, σ', S3, (x1.trans x2).trans x3, st3, hm3⟩
      | bk σ' =>
        cases hm3
        exact fun ρ3 σ3 H3 x3 st3 => k ρ3 σ3 H3 ((x1.trans x2).trans x3) st3
      | rt v =>
        cases hm3
        exact fun ρ3 y H3 x3 sm3 rv3 => k ρ3 y H3 ((x1.trans x2).trans x3) sm3 rv3
    | false =>
      rw [if_neg Bool.false_ne_true]
      simp only [Bool.false_eq_true, if_false] at hm2
      cases hm2
      exact k ρ2 σ1 H2 (x1.trans x2) (st1.next x2 sm2)

/-! ### what is walked -/
def iSeq (m : ME) : MI := m2 m fun p _ S => match p with
  | .ref n => match S[n]? with
    | some (.lst xs) => some ((xs, [(n, xs)]), S)
    | _ => none
  | p => (itemsOf p S).map fun xs => ((xs, []), S)
def rangeP (lo : Int) (n : Nat) : List PV := (List.range n).map fun (i : Nat) => .int (lo + i)
def iRange (me : MA) : MI := m2 me fun ps _ S => match ps with
  | [.int j] => if -(2 ^ 62) ≤ j ∧ j < 2 ^ 62 then some ((rangeP 0 j.toNat, []), S) else none
  | [.int i, .int j] => if -(2 ^ 62) ≤ i ∧ i < 2 ^ 62 ∧ -(2 ^ 62) ≤ j ∧ j < 2 ^ 62 then some ((rangeP i (j - i).toNat, []), S) else none
  | _ => none
end
section
variable {K : PySem.W.Frag}
theorem lk_nil {S : Store} : lkOk [] S = true := rfl
theorem lk_one {S : Store} {n : Nat} {xs : List PV} : lkOk [(n, xs)] S = true ↔ S[n]? = some (.lst xs) := by simp [lkOk]
/-- a walk that leaves the heap as it is -/
theorem walks_plain {ρ : List Addr} {H : Hp} {J : It} {items : List PV} {lk : Lk} {vs : List V} {G : Hp → Prop} (w : Walk J items.length G (YAt vs)) (hg : ∀ ρ1 S H1, Ext K ρ H ρ1 H1 → Sim K ρ1 S H1 → lkOk lk S = true → G H1) (r : ∀ ρ1 S H1, Ext K ρ H ρ1 H1 → Sim K ρ1 S H1 → lkOk lk S = true → Rvs K ρ1 H1 items vs) : Walks' K ρ H J items lk where
  turn := fun i ρ1 S H1 x s l hi => ⟨w.goes i H1 hi (hg ρ1 S H1 x s l), fun y H2 hy => by
    obtain ⟨e, hx⟩ := w.yields i H1 y H2 hi (hg ρ1 S H1 x s l) hy
    subst e
    obtain ⟨p, h1, h2⟩ := (r ρ1 S _ x s l).get' hx
    exact ⟨p, h1, Ext.refl, s, h2⟩⟩
  stop := fun ρ1 S H1 x s l => w.stops H1 (hg ρ1 S H1 x s l)
end
section
variable {X : Cx} {tg e : Expr} {me : ME} {pos : Pos}
theorem walk_len {J : It} {n m : Nat} {G : Hp → Prop} {Y : Nat → Hp → V → Hp → Prop} (w : Walk J n G Y) (h : n = m) : Walk J m G Y := h ▸ w
theorem deni_seq (he : Den X e me) : DenI X tg e (iSeq me) := PI.imp (PI.or (pi_list he) (pi_tup he)) fun σ H R h => by
  obtain ⟨ρ, σp, S, st, r, S', hm, k⟩ := h
  obtain ⟨p, S1, h1, hm⟩ := m2_some hm
  cases p with
  | ref n =>
    simp only at hm
    split at hm
    · rename_i xs hn
      cases hm
      refine .inl ⟨ρ, σp, S, st, _, _, h1, fun ρ1 x H1 x1 sm1 rv1 => ?_⟩
      obtain ⟨a, g1, rfl⟩ := rv1
      obtain ⟨vs, g2, g3⟩ := sm1.obj n _ a hn g1
      refine ⟨a, rfl, ⟨vs, .of g2⟩, k ρ1 _ H1 x1 sm1 ?_⟩
      refine ⟨fun i ρ2 S2 H2 x2 sm2 l hi => ?_, fun ρ2 S2 H2 x2 sm2 l => ?_⟩
      · obtain ⟨ws, g4, g5⟩ := sm2.obj n _ a (lk_one.mp l) (x2.pre n a g1)
        have hi' : i < ws.length := by rw [g5.length]; exact hi
        refine ⟨⟨ws, ws[i], .of g4, List.getElem?_eq_getElem hi'⟩, fun y H3 hy => ?_⟩
        obtain ⟨e1, e2⟩ := hy
        subst e1
        obtain ⟨p, h5, h6⟩ := g5.get' (e2 ws (.of g4))
        exact ⟨p, h5, Ext.refl, sm2, h6⟩
      · obtain ⟨ws, g4, g5⟩ := sm2.obj n _ a (lk_one.mp l) (x2.pre n a g1)
        exact ⟨ws, .of g4, by rw [g5.length]; exact Nat.le_refl _⟩
    · cases hm
  | tup xs =>
    obtain ⟨xs', h2, h3⟩ := Option.map_eq_some_iff.mp hm
    cases h3
    cases h2
    refine .inr ⟨ρ, σp, S, st, _, _, h1, fun ρ1 x H1 x1 sm1 rv1 => ?_⟩
    simp only [Rv] at rv1
    obtain ⟨a, vs, rfl, g2, g3⟩ := rv1
    refine ⟨a, rfl, ⟨vs, g2⟩, k ρ1 _ H1 x1 sm1 ?_⟩
    exact walks_plain (walk_len walk_tup g3.length) (fun ρ2 S2 H2 x2 _ _ => x2.tup a vs g2) fun ρ2 S2 H2 x2 _ _ => Rvs.mono x2 _ _ g3
  | frl xs =>
    obtain ⟨xs', h2, h3⟩ := Option.map_eq_some_iff.mp hm
    cases h3
    cases h2
    refine .inl ⟨ρ, σp, S, st, _, _, h1, fun ρ1 x H1 x1 sm1 rv1 => ?_⟩
    simp only [Rv] at rv1
    obtain ⟨a, vs, rfl, g2, g3⟩ := rv1
    refine ⟨a, rfl, ⟨vs, g2.sq⟩, k ρ1 _ H1 x1 sm1 ?_⟩
    exact walks_plain (walk_len walk_list g3.length) (fun ρ2 S2 H2 x2 _ _ => (x2.fr a vs g2).sq) fun ρ2 S2 H2 x2 _ _ => Rvs.mono x2 _ _ g3
  | _ => cases hm
theorem range_walks {K : PySem.W.Frag} {ρ : List Addr} {H : Hp} {lo : Int} {n : Nat} {lk : Lk} : Walks' K ρ H (Itr lo n) (rangeP lo n) lk := by
  have hl : (rangeP lo n).length = n := by simp [rangeP]
  refine ⟨fun i ρ1 S H1 x s l hi => ⟨by rw [hl] at hi; exact hi, fun y H2 hy => ?_⟩, fun ρ1 S H1 x s l => by rw [hl]; exact Nat.le_refl n⟩
  obtain ⟨e, hx⟩ := hy
  subst e
  rw [hl] at hi
  exact ⟨.int (lo + i), by simp [rangeP, hi], Ext.refl, s, hx⟩
theorem deni_range {ma : MA} (hp : PI X tg e (fun σ H R => iRng1 (rdA X.K ma) σ H R ∨ iRng2 (rdA X.K ma) σ H R)) : DenI X tg e (iRange ma) := PI.imp hp fun σ H R h => by
  obtain ⟨ρ, σp, S, st, r, S', hm, k⟩ := h
  obtain ⟨ps, S1, h1, hm⟩ := m2_some hm
  split at hm
  · rename_i j
    split at hm
    · rename_i hj
      cases hm
      refine .inl ⟨ρ, σp, S, st, _, _, h1, fun ρ1 xs H1 x1 sm1 rv1 => ?_⟩
      obtain ⟨x, rfl, rx⟩ := rv1.one_of
      cases rx
      exact ⟨j, rfl, hj.1, hj.2, k ρ1 _ H1 x1 sm1 range_walks⟩
    · cases hm
  · rename_i i j
    split at hm
    · rename_i hj
      cases hm
      refine .inr ⟨ρ, σp, S, st, _, _, h1, fun ρ1 xs H1 x1 sm1 rv1 => ?_⟩
      obtain ⟨x, y, rfl, rx, ry⟩ := rv1.two_of
      cases rx
      cases ry
      exact ⟨i, j, rfl, hj, k ρ1 _ H1 x1 sm1 range_walks⟩
    · cases hm
  · cases hm
theorem deni_range1 {ma : MA} (hp : PI X tg e (iRng1 (rdA X.K ma))) (h1 : ∀ σ S ps S', ma σ S = some (ps, S') → ps.length = 1) : DenI X tg e (iRange ma) := PI.imp hp fun σ H R h => by
  obtain ⟨ρ, σp, S, st, r, S', hm, k⟩ := h
  obtain ⟨ps, S1, h2, hm⟩ := m2_some hm
  have hl := h1 _ _ _ _ h2
  split at hm
  · rename_i j
    split at hm
    · rename_i hj
      cases hm
      refine ⟨ρ, σp, S, st, _, _, h2, fun ρ1 xs H1 x1 sm1 rv1 => ?_⟩
      obtain ⟨x, rfl, rx⟩ := rv1.one_of
      cases rx
      exact ⟨j, rfl, hj.1, hj.2, k ρ1 _ H1 x1 sm1 range_walks⟩
    · cases hm
  · simp at hl
  · cases hm
theorem deni_range2 {ma : MA} (hp : PI X tg e (iRng2 (rdA X.K ma))) (h1 : ∀ σ S ps S', ma σ S = some (ps, S') → ps.length = 2) : DenI X tg e (iRange ma) := PI.imp hp fun σ H R h => by
  obtain ⟨ρ, σp, S, st, r, S', hm, k⟩ := h
  obtain ⟨ps, S1, h2, hm⟩ := m2_some hm
  have hl := h1 _ _ _ _ h2
  split at hm
  · simp at hl
  · rename_i i j
    split at hm
    · rename_i hj
      cases hm
      refine ⟨ρ, σp, S, st, _, _, h2, fun ρ1 xs H1 x1 sm1 rv1 => ?_⟩
      obtain ⟨x, y, rfl, rx, ry⟩ := rv1.two_of
      cases rx
      cases ry
      exact ⟨i, j, rfl, hj, k ρ1 _ H1 x1 sm1 range_walks⟩
    · cases hm
  · cases hm

/-! ### for -/
def forM (g : MG) (b : MS) (lk : Lk) : List PV → PEnv → Store → MR Fl
  | [], σ, S => if lkOk lk S then some (.nx σ, S) else none
  | x :: xs, σ, S => if lkOk lk S then (g x σ S).bind fun r => (b r.1 r.2).bind fun f => match f.1 with
      | .nx σ' => forM g b lk xs σ' f.2
      | .ct σ' => forM g b lk xs σ' f.2
      | .bk σ' => some (.nx σ', f.2)
      | .rt v => some (.rt v, f.2)
    else none
def sFor (i : MI) (g : MG) (b : MS) : MS := m2 i fun r σ S => forM g b r.2 r.1 σ S
theorem drop_lt {α : Type} {xs : List α} {i : Nat} (h : i < xs.length) : ∃ x, xs[i]? = some x ∧ xs.drop i = x :: xs.drop (i + 1) := ⟨xs[i], List.getElem?_eq_getElem h, List.drop_eq_getElem_cons h⟩
theorem dens_for {it : Expr} {body : List Stmt} {mi : MI} {is : List Nat} {g : MG} {mb : MS} (hp : PS X (.For tg it body [] pos) (tFor (rdI X.K mi) (rdG X.K is g) (rdS X.K mb))) : DenS X (.For tg it body [] pos) (sFor mi g mb) := PS.imp hp fun D σ H h => by
  obtain ⟨ρ, σp, S, st, f, S', hm, k⟩ := h
  obtain ⟨⟨items, lk⟩, S1, h1, hm⟩ := m2_some hm
  refine ⟨ρ, σp, S, st, _, S1, h1, fun ρ1 J H1 x1 sm1 w => ?_⟩
  refine ⟨fun i m σ H => ∃ ρ2 σp2 S2, Ext X.K ρ1 H1 ρ2 H ∧ St0 X.K ρ2 σp2 S2 σ H ∧ i ≤ items.length ∧ m = items.length - i ∧ forM g mb lk (items.drop i) σp2 S2 = some (f, S'), ⟨items.length, ρ1, σp, S1, Ext.refl, st.next x1 sm1, Nat.zero_le _, rfl, hm⟩, ?_⟩
  rintro i m σ2 H2 ⟨ρ2, σp2, S2, x2, st2, hi, rfl, hm2⟩
  by_cases hlt : i < items.length
  · obtain ⟨p, hp, hd⟩ := drop_lt hlt
    rw [hd] at hm2
    simp only [forM] at hm2
    split at hm2
    · rename_i hl
      obtain ⟨⟨σ3, S3⟩, h3, hm3⟩ := Option.bind_eq_some_iff.mp hm2
      obtain ⟨⟨fl, S4⟩, h4, hm4⟩ := Option.bind_eq_some_iff.mp hm3
      obtain ⟨go, yl⟩ := w.turn i ρ2 S2 H2 x2 st2.sim hl hlt
      refine .inr ⟨go, fun σ H => ∃ ρ2 σp2 S2, Ext X.K ρ1 H1 ρ2 H ∧ St0 X.K ρ2 σp2 S2 σ H ∧ forM g mb lk (items.drop (i + 1)) σp2 S2 = some (f, S'), ?_, fun y H3 hy => ?_⟩
      · rintro σ' H' ⟨ρ3, σp3, S3, a1, a2, a3⟩
        exact ⟨items.length - (i + 1), by omega, ρ3, σp3, S3, a1, a2, hlt, rfl, a3⟩
      · obtain ⟨q, hq, x3, sm3, rv3⟩ := yl y H3 hy
        rw [hp] at hq
        cases hq
        refine ⟨ρ2, σp2, S2, p, st2.next x3 sm3, rv3, σ3, S3, h3, fun ρ4 σ4 H4 x4 st4 _ => ?_⟩
        refine ⟨ρ4, σ3, S3, st4, fl, S4, h4, ?_⟩
        cases fl with
        | nx σ' => exact fun ρ5 σ5 H5 x5 st5 => ⟨ρ5, σ', S4, ((x2.trans x3).trans x4).trans x5, st5, hm4⟩
        | ct σ' => exact fun ρ5 σ5 H5 x5 st5 => ⟨ρ5, σ', S4, ((x2.trans x3).trans x4).trans x5, st5, hm4⟩
        | bk σ' =>
          cases hm4
          exact fun ρ5 σ5 H5 x5 st5 => k ρ5 σ5 H5 ((((x1.trans x2).trans x3).trans x4).trans x5) st5
        | rt v =>
          cases hm4
          exact fun ρ5 y H5 x5 sm5 rv5 => k ρ5 y H5 ((((x1.trans x2).trans x3).trans x4).trans x5) sm5 rv5
    · cases hm2
  · have e : i = items.length := by omega
    subst e
    rw [List.drop_length] at hm2
    simp only [forM] at hm2
    split at hm2
    · rename_i hl
      cases hm2
      exact .inl ⟨w.stop ρ2 _ H2 x2 st2.sim hl, k ρ2 σ2 H2 (x1.trans x2) st2⟩
    · cases hm2
end
end Ip
set_option Elab.async false
set_option linter.all false
set_option maxRecDepth 100000
/-! Ip6: list comprehensions, of one for and of two. -/
namespace Ip
open PySem PySem.Spec PyProof.Rows L2

def wipeP (σ : PEnv) : List Nat → PEnv
  | [] => σ
  | v :: vs => (wipeP σ vs).set v none
theorem wipe_get (σ : L2.St) : ∀ (vs : List Nat) (j : Nat), (wipe σ vs)[j]? = if j ∈ vs then (σ[j]?).map fun _ => none else σ[j]?
  | [], j => by simp [wipe]
  | v :: vs, j => by
    unfold wipe
    by_cases h : j = v
    · subst h
      simp only [List.mem_cons, true_or, if_true]
      by_cases hl : j < σ.length
      · rw [List.getElem?_set_self (by rw [wipe_length]; exact hl), List.getElem?_eq_getElem hl]
        rfl
      · rw [List.getElem?_eq_none (by simp [wipe_length]; omega), List.getElem?_eq_none (by omega)]
        rfl
    · rw [List.getElem?_set_ne (Ne.symm h), wipe_get σ vs j]
      simp [h]
theorem wipeP_get (σ : PEnv) : ∀ (vs : List Nat) (j : Nat), (wipeP σ vs)[j]? = if j ∈ vs then (σ[j]?).map fun _ => none else σ[j]?
  | [], j => by simp [wipeP]
  | v :: vs, j => by
    have ih := wipeP_get σ vs
    have hlen : (wipeP σ vs).length = σ.length := by
      have : ∀ l : List Nat, (wipeP σ l).length = σ.length := fun l => by
        induction l with
        | nil => rfl
        | cons a l ih => simp [wipeP, ih]
      exact this vs
    unfold wipeP
    by_cases h : j = v
    · subst h
      simp only [List.mem_cons, true_or, if_true]
      by_cases hl : j < σ.length
      · rw [List.getElem?_set_self (by rw [hlen]; exact hl), List.getElem?_eq_getElem hl]
        rfl
      · rw [List.getElem?_eq_none (by simp [hlen]; omega), List.getElem?_eq_none (by omega)]
        rfl
    · rw [List.getElem?_set_ne (Ne.symm h), ih j]
      simp [h]
theorem wipeP_length (σ : PEnv) : ∀ l : List Nat, (wipeP σ l).length = σ.length
  | [] => rfl
  | a :: l => by simp [wipeP, wipeP_length σ l]
theorem Slots.wipe {K : PySem.W.Frag} {ρ : List Addr} {H : Hp} {σp : PEnv} {σ : L2.St} (s : Slots K ρ H σp σ) (vs : List Nat) : Slots K ρ H (wipeP σp vs) (L2.wipe σ vs) := by
  refine ⟨by rw [wipeP_length, wipe_length, s.len], fun i p h => ?_⟩
  rw [wipeP_get] at h
  rw [wipe_get]
  split at h
  · rename_i hv
    cases e : σp[i]? <;> simp [e] at h
  · rename_i hv
    rw [if_neg hv]
    exact s.at_ i p h
theorem But.wipe {is vs : List Nat} {σ σ2 : L2.St} (b : But is (L2.wipe σ vs) σ2) (h : ∀ i ∈ is, i ∈ vs) : L2.wipe σ2 vs = L2.wipe σ vs := by
  apply List.ext_getElem?
  intro j
  rw [wipe_get, wipe_get]
  by_cases hj : j ∈ vs
  · rw [if_pos hj, if_pos hj]
    have hl : σ2.length = σ.length := by rw [b.1, wipe_length]
    by_cases hlt : j < σ.length
    · rw [List.getElem?_eq_getElem hlt, List.getElem?_eq_getElem (by rw [hl]; exact hlt)]
      rfl
    · rw [List.getElem?_eq_none (by omega), List.getElem?_eq_none (by omega)]
  · rw [if_neg hj, if_neg hj, b.2 j fun z => hj (h j z), wipe_get, if_neg hj]
theorem But.wipe2 {vs : List Nat} {σ : L2.St} : But vs σ (L2.wipe σ vs) := ⟨wipe_length σ vs, fun j h => by rw [wipe_get, if_neg h]⟩

abbrev DenTs (X : Cx) (ifs : List Expr) (m : MT) : Prop := PTs X ifs (rdT X.K m)
def tYesM : MT := fun _ S => some (true, S)
theorem PTs.imp {X : Cx} {e : List Expr} {t t' : TT} (h : PTs X e t) (i : ∀ σ H Q, t' σ H Q → t σ H Q) : PTs X e t' := ⟨fun pins s σ H Q I q => h.run pins s σ H Q I (i σ H Q q)⟩
theorem dents_nil {X : Cx} : DenTs X [] tYesM := PTs.imp pts_nil fun σ H Q h => by
  obtain ⟨ρ, σp, S, st, v, S', hm, k⟩ := h
  cases hm
  exact k ρ H Ext.refl st.sim
theorem dents_one {X : Cx} {e : Expr} {m : MT} (h : DenT X e m) : DenTs X [e] m := pts_one h

def lcM (g : MG) (t : MT) (e : ME) (lk : Lk) (n : Nat) (σ : PEnv) : List PV → List PV → Store → MR (List PV)
  | [], acc, S => if lkOk lk S then some (acc, S) else none
  | x :: xs, acc, S => if lkOk lk S then (g x σ S).bind fun a => (t a.1 a.2).bind fun b => if b.1 then (e a.1 b.2).bind fun y => if y.2[n]? = some (.lst acc) ∧ szB (acc.length + 1) = true then lcM g t e lk n σ xs (acc ++ [y.1]) (y.2.set n (.lst (acc ++ [y.1]))) else none
      else lcM g t e lk n σ xs acc b.2
    else none
def mLc (i : MI) (g : MG) (t : MT) (e : ME) (vs : List Nat) : ME := m2 i fun r σ S => (lcM g t e r.2 S.length (wipeP σ vs) r.1 [] (S ++ [.lst []])).map fun z => (.ref S.length, z.2)
section
variable {K : PySem.W.Frag} {mi mi1 : MI} {g g1 : MG} {mt mt1 : MT} {me : ME} {is is1 vs vs1 : List Nat}
/-- D is the n-th object -/
theorem at_D {ρ : List Addr} {S : Store} {H : Hp} {n : Nat} {D : Addr} {acc : List PV} (s : Sim K ρ S H) (hD : ρ[n]? = some D) (h : S[n]? = some (.lst acc)) : ∃ ws, H D = some (.lst ws) ∧ Rvs K ρ H acc ws := s.obj n _ D h hD
theorem rd_lc (his : ∀ i ∈ is, i ∈ vs) {σ : L2.St} {H : Hp} {Q : VK} (h : rdE K (mLc mi g mt me vs) σ H Q) : tLc (rdI K mi) (rdG K is g) (rdT K mt) (rdE K me) vs σ H Q := by
  obtain ⟨ρ, σp, S, st, v, S', hm, k⟩ := h
  obtain ⟨⟨items, lk⟩, S1, h1, hm⟩ := m2_some hm
  obtain ⟨⟨fin, S9⟩, h2, h3⟩ := Option.map_eq_some_iff.mp hm
  cases h3
  refine ⟨ρ, σp, S, st, _, S1, h1, fun ρ1 J H1 x1 sm1 w D hD => ?_⟩
  have ex1 : Ext K ρ1 H1 (ρ1 ++ [D]) (upd H1 D (.lst [])) := (ext_new hD).trans Ext.grow
  have sm0 : Sim K (ρ1 ++ [D]) (S1 ++ [.lst []]) (upd H1 D (.lst [])) := sm1.new hD ⟨[], upd_same, rfl⟩
  have sl : Slots K ρ H (wipeP σp vs) (L2.wipe σ vs) := st.slots.wipe vs
  refine ⟨fun i m H => ∃ ρ2 acc S2, Ext K ρ1 H1 ρ2 H ∧ Sim K ρ2 S2 H ∧ ρ2[S1.length]? = some D ∧ i ≤ items.length ∧ m = items.length - i ∧ lcM g mt me lk S1.length (wipeP σp vs) (items.drop i) acc S2 = some (fin, S9), ⟨items.length, ρ1 ++ [D], [], _, ex1, sm0, new_at sm1, Nat.zero_le _, rfl, h2⟩, ?_⟩
  rintro i m H2 ⟨ρ2, acc, S2, x2, sm2, hD2, hi, rfl, hm2⟩
  by_cases hlt : i < items.length
  · obtain ⟨p, hp, hd⟩ := drop_lt hlt
    rw [hd] at hm2
    simp only [lcM] at hm2
    split at hm2
    · rename_i hl
      obtain ⟨⟨σ3, S3⟩, h3, hm3⟩ := Option.bind_eq_some_iff.mp hm2
      obtain ⟨⟨b, S4⟩, h4, hm4⟩ := Option.bind_eq_some_iff.mp hm3
      obtain ⟨go, yl⟩ := w.turn i ρ2 S2 H2 x2 sm2 hl hlt
      refine .inr ⟨go, fun H => ∃ ρ2 acc S2, Ext K ρ1 H1 ρ2 H ∧ Sim K ρ2 S2 H ∧ ρ2[S1.length]? = some D ∧ lcM g mt me lk S1.length (wipeP σp vs) (items.drop (i + 1)) acc S2 = some (fin, S9), ?_, fun y H3 hy => ?_⟩
      · rintro H' ⟨ρ3, a3, S3, q1, q2, q3, q4⟩
        exact ⟨items.length - (i + 1), by omega, ρ3, a3, S3, q1, q2, q3, hlt, rfl, q4⟩
      · obtain ⟨q, hq, x3, sm3, rv3⟩ := yl y H3 hy
        rw [hp] at hq
        cases hq
        have x13 : Ext K ρ H ρ2 H3 := (x1.trans x2).trans x3
        refine ⟨ρ2, wipeP σp vs, S2, p, ⟨sm3, sl.mono x13⟩, rv3, σ3, S3, h3, fun ρ4 σ4 H4 x4 st4 b4 => ⟨b4.wipe his, ?_⟩⟩
        refine ⟨ρ4, σ3, S3, st4, b, S4, h4, fun ρ5 H5 x5 sm5 => ?_⟩
        have x25 : Ext K ρ2 H2 ρ5 H5 := (x3.trans x4).trans x5
        cases b with
        | true =>
          refine iteT ?_
          simp only [if_true] at hm4
          obtain ⟨⟨z, S5⟩, h5, hm5⟩ := Option.bind_eq_some_iff.mp hm4
          simp only at hm5
          split at hm5
          · rename_i hc
            refine ⟨ρ5, σ3, S4, ⟨sm5, st4.slots.mono x5⟩, z, S5, h5, fun ρ6 u H6 x6 sm6 rv6 => ?_⟩
            have hD6 : ρ6[S1.length]? = some D := (x25.trans x6).pre _ _ hD2
            obtain ⟨ws, g1, g2⟩ := at_D sm6 hD6 hc.1
            have ex : Ext K ρ6 H6 ρ6 (upd H6 D (.lst (ws ++ [u]))) := ext_put g1 (fun _ z => nomatch z) (fun _ _ z => nomatch z)
            obtain ⟨sm7, x7⟩ := sm6.put (ob := .lst (acc ++ [z])) hD6 ⟨ws ++ [u], upd_same, Rvs.mono ex _ _ (g2.append (.one rv6))⟩
            exact ⟨ws, g1, by rw [g2.length]; exact szB_lt hc.2, ρ6, acc ++ [z], _, ((x2.trans x25).trans x6).trans x7, sm7, hD6, hm5⟩
          · cases hm5
        | false =>
          refine iteF ?_
          simp only [Bool.false_eq_true, if_false] at hm4
          exact ⟨ρ5, acc, S4, x2.trans x25, sm5, x25.pre _ _ hD2, hm4⟩
    · cases hm2
  · have e : i = items.length := by omega
    subst e
    rw [List.drop_length] at hm2
    simp only [lcM] at hm2
    split at hm2
    · rename_i hl
      cases hm2
      exact .inl ⟨w.stop ρ2 _ H2 x2 sm2 hl, k ρ2 _ H2 (x1.trans x2) sm2 ⟨D, hD2, rfl⟩⟩
    · cases hm2

/-! ### two for -/
def lcIn (g : MG) (t : MT) (e : ME) (lk : Lk) (n : Nat) (σ : PEnv) : List PV → List PV → Store → MR (List PV) := lcM g t e lk n σ
def lc2M (g : MG) (t : MT) (i1 : MI) (g1 : MG) (t1 : MT) (e : ME) (vs1 : List Nat) (lk : Lk) (n : Nat) (σ : PEnv) : List PV → List PV → Store → MR (List PV)
  | [], acc, S => if lkOk lk S then some (acc, S) else none
  | x :: xs, acc, S => if lkOk lk S then (g x σ S).bind fun a => (t a.1 a.2).bind fun b => if b.1 then (i1 a.1 b.2).bind fun r => (lcM g1 t1 e r.1.2 n (wipeP a.1 vs1) r.1.1 acc r.2).bind fun z => lc2M g t i1 g1 t1 e vs1 lk n σ xs z.1 z.2
      else lc2M g t i1 g1 t1 e vs1 lk n σ xs acc b.2
    else none
def mLc2 (i : MI) (g : MG) (t : MT) (i1 : MI) (g1 : MG) (t1 : MT) (e : ME) (vs vs1 : List Nat) : ME := m2 i fun r σ S => (lc2M g t i1 g1 t1 e vs1 r.2 S.length (wipeP σ vs) r.1 [] (S ++ [.lst []])).map fun z => (.ref S.length, z.2)
theorem rd_lc2 (his : ∀ i ∈ is, i ∈ vs) (his1 : ∀ i ∈ is1, i ∈ vs1) {σ : L2.St} {H : Hp} {Q : VK} (h : rdE K (mLc2 mi g mt mi1 g1 mt1 me vs vs1) σ H Q) : tLc2 (rdI K mi) (rdG K is g) (rdT K mt) (rdI K mi1) (rdG K is1 g1) (rdT K mt1) (rdE K me) vs vs1 σ H Q := by
  obtain ⟨ρ, σp, S, st, v, S', hm, k⟩ := h
  obtain ⟨⟨items, lk⟩, S1, h1, hm⟩ := m2_some hm
  obtain ⟨⟨fin, S9⟩, h2, h3⟩ := Option.map_eq_some_iff.mp hm
  cases h3
  refine ⟨ρ, σp, S, st, _, S1, h1, fun ρ1 J H1 x1 sm1 w D hD => ?_⟩
  have ex1 : Ext K ρ1 H1 (ρ1 ++ [D]) (upd H1 D (.lst [])) := (ext_new hD).trans Ext.grow
  have sm0 : Sim K (ρ1 ++ [D]) (S1 ++ [.lst []]) (upd H1 D (.lst [])) := sm1.new hD ⟨[], upd_same, rfl⟩
  have sl : Slots K ρ H (wipeP σp vs) (L2.wipe σ vs) := st.slots.wipe vs
  refine ⟨fun i m H => ∃ ρ2 acc S2, Ext K ρ1 H1 ρ2 H ∧ Sim K ρ2 S2 H ∧ ρ2[S1.length]? = some D ∧ i ≤ items.length ∧ m = items.length - i ∧ lc2M g mt mi1 g1 mt1 me vs1 lk S1.length (wipeP σp vs) (items.drop i) acc S2 = some (fin, S9), ⟨items.length, ρ1 ++ [D], [], _, ex1, sm0, new_at sm1, Nat.zero_le _, rfl, h2⟩, ?_⟩
  rintro i m H2 ⟨ρ2, acc, S2, x2, sm2, hD2, hi, rfl, hm2⟩
  by_cases hlt : i < items.length
  · obtain ⟨p, hp, hd⟩ := drop_lt hlt
    rw [hd] at hm2
    simp only [lc2M] at hm2
    split at hm2
    · rename_i hl
      obtain ⟨⟨σ3, S3⟩, h3, hm3⟩ := Option.bind_eq_some_iff.mp hm2
      obtain ⟨⟨b, S4⟩, h4, hm4⟩ := Option.bind_eq_some_iff.mp hm3
      obtain ⟨go, yl⟩ := w.turn i ρ2 S2 H2 x2 sm2 hl hlt
      refine .inr ⟨go, fun H => ∃ ρ2 acc S2, Ext K ρ1 H1 ρ2 H ∧ Sim K ρ2 S2 H ∧ ρ2[S1.length]? = some D ∧ lc2M g mt mi1 g1 mt1 me vs1 lk S1.length (wipeP σp vs) (items.drop (i + 1)) acc S2 = some (fin, S9), ?_, fun y H3 hy => ?_⟩
      · rintro H' ⟨ρ3, a3, S3, q1, q2, q3, q4⟩
        exact ⟨items.length - (i + 1), by omega, ρ3, a3, S3, q1, q2, q3, hlt, rfl, q4⟩
      · obtain ⟨q, hq, x3, sm3, rv3⟩ := yl y H3 hy
        rw [hp] at hq
        cases hq
        have x13 : Ext K ρ H ρ2 H3 := (x1.trans x2).trans x3
        refine ⟨ρ2, wipeP σp vs, S2, p, ⟨sm3, sl.mono x13⟩, rv3, σ3, S3, h3, fun ρ4 σ4 H4 x4 st4 b4 => ⟨b4.wipe his, ?_⟩⟩
        refine ⟨ρ4, σ3, S3, st4, b, S4, h4, fun ρ5 H5 x5 sm5 => ?_⟩
        have x25 : Ext K ρ2 H2 ρ5 H5 := (x3.trans x4).trans x5
        cases b with
        | true =>
          refine iteT ?_
          simp only [if_true] at hm4
          obtain ⟨⟨⟨items1, lk1⟩, S5⟩, h5, hm5⟩ := Option.bind_eq_some_iff.mp hm4
          obtain ⟨⟨acc', S6⟩, h6, hm6⟩ := Option.bind_eq_some_iff.mp hm5
          simp only at h5 h6 hm6
          refine ⟨ρ5, σ3, S4, ⟨sm5, st4.slots.mono x5⟩, _, S5, h5, fun ρ6 J1 H6 x6 sm6 w1 => ?_⟩
          have sl1 : Slots K ρ4 H4 (wipeP σ3 vs1) (L2.wipe σ4 vs1) := st4.slots.wipe vs1
          refine ⟨fun j kk H => ∃ ρ2 acc1 S2, Ext K ρ6 H6 ρ2 H ∧ Sim K ρ2 S2 H ∧ j ≤ items1.length ∧ kk = items1.length - j ∧ lcM g1 mt1 me lk1 S1.length (wipeP σ3 vs1) (items1.drop j) acc1 S2 = some (acc', S6), ⟨items1.length, ρ6, acc, S5, Ext.refl, sm6, Nat.zero_le _, rfl, h6⟩, ?_⟩
          rintro j kk H7 ⟨ρ7, acc1, S7, x7, sm7, hj, rfl, hm7⟩
          have x27 : Ext K ρ2 H2 ρ7 H7 := (x25.trans x6).trans x7
          by_cases hlt1 : j < items1.length
          · obtain ⟨p1, hp1, hd1⟩ := drop_lt hlt1
            rw [hd1] at hm7
            simp only [lcM] at hm7
            split at hm7
            · rename_i hl1
              obtain ⟨⟨σ8, S8⟩, h8, hm8⟩ := Option.bind_eq_some_iff.mp hm7
              obtain ⟨⟨b1, S10⟩, h10, hm10⟩ := Option.bind_eq_some_iff.mp hm8
              obtain ⟨go1, yl1⟩ := w1.turn j ρ7 S7 H7 x7 sm7 hl1 hlt1
              refine .inr ⟨go1, fun H => ∃ ρ2 acc1 S2, Ext K ρ6 H6 ρ2 H ∧ Sim K ρ2 S2 H ∧ lcM g1 mt1 me lk1 S1.length (wipeP σ3 vs1) (items1.drop (j + 1)) acc1 S2 = some (acc', S6), ?_, fun y1 H8 hy1 => ?_⟩
              · rintro H' ⟨ρ8, a8, S8, q1, q2, q3⟩
                exact ⟨items1.length - (j + 1), by omega, ρ8, a8, S8, q1, q2, hlt1, rfl, q3⟩
              · obtain ⟨q1, hq1, x8, sm8, rv8⟩ := yl1 y1 H8 hy1
                rw [hp1] at hq1
                cases hq1
                refine ⟨ρ7, wipeP σ3 vs1, S7, p1, ⟨sm8, sl1.mono ((x5.trans x6).trans (x7.trans x8))⟩, rv8, σ8, S8, h8, fun ρ9 σ9 H9 x9 st9 b9 => ⟨b9.wipe his1, ?_⟩⟩
                refine ⟨ρ9, σ8, S8, st9, b1, S10, h10, fun ρ10 H10 x10 sm10 => ?_⟩
                have x710 : Ext K ρ7 H7 ρ10 H10 := (x8.trans x9).trans x10
                cases b1 with
                | true =>
                  refine iteT ?_
                  simp only [if_true] at hm10
                  obtain ⟨⟨z, S11⟩, h11, hm11⟩ := Option.bind_eq_some_iff.mp hm10
                  simp only at hm11
                  split at hm11
                  · rename_i hc
                    refine ⟨ρ10, σ8, S10, ⟨sm10, st9.slots.mono x10⟩, z, S11, h11, fun ρ11 u H11 x11 sm11 rv11 => ?_⟩
                    have hD11 : ρ11[S1.length]? = some D := (x27.trans (x710.trans x11)).pre _ _ hD2
                    obtain ⟨ws, g1, g2⟩ := at_D sm11 hD11 hc.1
                    have ex : Ext K ρ11 H11 ρ11 (upd H11 D (.lst (ws ++ [u]))) := ext_put g1 (fun _ z => nomatch z) (fun _ _ z => nomatch z)
                    obtain ⟨sm12, x12⟩ := sm11.put (ob := .lst (acc1 ++ [z])) hD11 ⟨ws ++ [u], upd_same, Rvs.mono ex _ _ (g2.append (.one rv11))⟩
                    exact ⟨ws, g1, by rw [g2.length]; exact szB_lt hc.2, ρ11, acc1 ++ [z], _, ((x7.trans x710).trans x11).trans x12, sm12, hm11⟩
                  · cases hm11
                | false =>
                  refine iteF ?_
                  simp only [Bool.false_eq_true, if_false] at hm10
                  exact ⟨ρ10, acc1, S10, x7.trans x710, sm10, hm10⟩
            · cases hm7
          · have e : j = items1.length := by omega
            subst e
            rw [List.drop_length] at hm7
            simp only [lcM] at hm7
            split at hm7
            · rename_i hl1
              cases hm7
              exact .inl ⟨w1.stop ρ7 _ H7 x7 sm7 hl1, ρ7, acc', _, x2.trans x27, sm7, x27.pre _ _ hD2, hm6⟩
            · cases hm7
        | false =>
          refine iteF ?_
          simp only [Bool.false_eq_true, if_false] at hm4
          exact ⟨ρ5, acc, S4, x2.trans x25, sm5, x25.pre _ _ hD2, hm4⟩
    · cases hm2
  · have e : i = items.length := by omega
    subst e
    rw [List.drop_length] at hm2
    simp only [lc2M] at hm2
    split at hm2
    · rename_i hl
      cases hm2
      exact .inl ⟨w.stop ρ2 _ H2 x2 sm2 hl, k ρ2 _ H2 (x1.trans x2) sm2 ⟨D, hD2, rfl⟩⟩
    · cases hm2
end
section
variable {X : Cx} {st : Stmt} {e : Expr} {mi mi1 : MI} {g g1 : MG} {mt mt1 : MT} {me : ME} {is is1 vs vs1 : List Nat}
theorem den_lc (hp : PE X e (tLc (rdI X.K mi) (rdG X.K is g) (rdT X.K mt) (rdE X.K me) vs)) (his : ∀ i ∈ is, i ∈ vs) : Den X e (mLc mi g mt me vs) := PE.imp hp fun _ _ _ h => rd_lc his h
theorem dens_setLc {i : Nat} (hp : PS X st (tAsg (tLc (rdI X.K mi) (rdG X.K is g) (rdT X.K mt) (rdE X.K me) vs) (gName i))) (his : ∀ i ∈ is, i ∈ vs) : DenS X st (sAsg (mLc mi g mt me vs) (gN i)) := PS.imp hp fun D σ H h => by
  have h' := rd_asg (is := [i]) h
  refine rd_lc his ?_
  obtain ⟨ρ, σp, S, st, v, S', hm, k⟩ := h'
  exact ⟨ρ, σp, S, st, v, S', hm, fun ρ1 x H1 x1 sm1 rv1 => rd_name (k ρ1 x H1 x1 sm1 rv1)⟩
theorem den_lc2 (hp : PE X e (tLc2 (rdI X.K mi) (rdG X.K is g) (rdT X.K mt) (rdI X.K mi1) (rdG X.K is1 g1) (rdT X.K mt1) (rdE X.K me) vs vs1)) (his : ∀ i ∈ is, i ∈ vs) (his1 : ∀ i ∈ is1, i ∈ vs1) : Den X e (mLc2 mi g mt mi1 g1 mt1 me vs vs1) := PE.imp hp fun _ _ _ h => rd_lc2 his his1 h
theorem dens_setLc2 {i : Nat} (hp : PS X st (tAsg (tLc2 (rdI X.K mi) (rdG X.K is g) (rdT X.K mt) (rdI X.K mi1) (rdG X.K is1 g1) (rdT X.K mt1) (rdE X.K me) vs vs1) (gName i))) (his : ∀ i ∈ is, i ∈ vs) (his1 : ∀ i ∈ is1, i ∈ vs1) : DenS X st (sAsg (mLc2 mi g mt mi1 g1 mt1 me vs vs1) (gN i)) := PS.imp hp fun D σ H h => by
  have h' := rd_asg (is := [i]) h
  refine rd_lc2 his his1 ?_
  obtain ⟨ρ, σp, S, st, v, S', hm, k⟩ := h'
  exact ⟨ρ, σp, S, st, v, S', hm, fun ρ1 x H1 x1 sm1 rv1 => rd_name (k ρ1 x H1 x1 sm1 rv1)⟩
end
end Ip
set_option Elab.async false
set_option linter.all false
set_option maxRecDepth 100000
/-! Ip7: defs: their promise over the store, their calls. -/
namespace Ip
open PySem PySem.Spec PyProof.Rows L2

abbrev SpG := List V → Hp → VK → Prop
/-- the def at f keeps sp, where no repr is under way -/
structure FnG (P : Program) (w : World) (K : PySem.W.Frag) (mg : Str → Option Value) (base : Heap) (k : Nat) (f : Addr) (fd : FuncData) (ps : List Str) (sp : SpG) : Prop where
  len : ∀ vs H Q, sp vs H Q → vs.length = ps.length
  run : ∀ (A : Around) (outer : List Env) (s : Shared) (H : Hp) (args : Args) (us : List Value) (vs : List V) (Q : VK), A.guards = some [] → Room k A → Env0 P w K mg base A outer s H → BindsTo s fd args (ps.zip us) → Vals vs us → sp vs H Q →
    codeAny (model P w) A (.call (.ref f) args) (CR CX0 outer P w H s Q E0) s
/-- where a def's body stands -/
structure Good (X : Cx) (k : Nat) : Prop where
  guards : X.A.guards = some []
  room : Room k X.A
theorem Good.u64 {X : Cx} {k : Nat} (g : Good X k) : X.A.units + 64 < cLine := g.room.units
theorem Good.u65 {X : Cx} {k : Nat} (g : Good X k) : X.A.units + 65 < cLine := by
  have := g.room.un
  omega
theorem Good.u1 {X : Cx} {k : Nat} (g : Good X k) : X.A.units + 1 < cLine := by
  have := g.room.un
  omega
/-- where the body of the def st runs -/
abbrev cX (P : Program) (w : World) (K : PySem.W.Frag) (mg : Str → Option Value) (base : Heap) (N : List Str) (qual : Str) (st : Stmt) (f : Addr) (cdv : Value) (A : Around) (outer : List Env) (s : Shared) (H : Hp) : Cx := (cxOf CX0 P w K mg base N qual (defScope st) f cdv A outer s H E0).nox
section
variable {P : Program} {w : World} {K : PySem.W.Frag} {mg : Str → Option Value} {base : Heap}
theorem fnG_of {x qual : Str} {st : Stmt} {f : Addr} {fd : FuncData} {N ps : List Str} {k : Nat} {sp : SpG} (F : Fun K x qual st f fd) (S : FnScope N ps (defScope st)) (len : ∀ vs H Q, sp vs H Q → vs.length = ps.length)
    (hbody : ∀ (cdv : Value) (A : Around) (outer : List Env) (s : Shared) (H : Hp), Good (cX P w K mg base N qual st f cdv A outer s H) k → ∀ (vs : List V) (Q : VK), sp vs H Q → ∃ t, PSs (cX P w K mg base N qual st f cdv A outer s H) (defBody st) t ∧ t { nx := fun _ H' => Q .non H', rt := Q } (start N vs) H) : FnG P w K mg base (k + 1) f fd ps sp := by
  obtain ⟨oc, od, kV, doc, pm, an, cdv, ct, osl, rfl, lk, hcd⟩ := F.ex
  refine ⟨len, fun A outer s H args us vs Q hgu hr e0 hb r hsp => ?_⟩
  have hl := len _ _ _ hsp
  have kin : K.In s.heap := e0.mod.kin.keeps fun b o e => (e0.bs b o e).1
  have lim : s.heap.NoLimit := e0.mod.nolimit.keeps fun b o e => (e0.bs b o e).1
  have hk : ∀ y ∈ ps.zip us, (defScope st).names.lookup y.1 = some .local ∨ ((defScope st).names.lookup y.1 = some .cell ∧ ((cellsFrom (s.heap.objs.size + 1) (defScope st).names []).lookup y.1).isSome = true) := fun y hy => by
    obtain ⟨n, v⟩ := y
    have hn : n ∈ ps := (List.of_mem_zip hy).1
    exact (S.par n hn).imp id fun q => ⟨q, PySem.W.cellsFrom_some _ _ _ (.inl q)⟩
  refine codeAny_call_function hr.depth (kin _ _ lk) rfl S.co S.gen rfl (PySem.W.codeRec_of kin hcd) (hb _ _ _ _ ?_)
  refine wpAny_newFunctionEnv_cells S.kind hk fun env he s1 z => ?_
  subst he
  refine ⟨lim.keeps z.toInCall.keep, codeAny_func ?_⟩
  obtain ⟨t, ht, hq⟩ := hbody cdv A outer s H ⟨hgu, hr.deeper _⟩ vs Q hsp
  have I : Inv (cxOf CX0 P w K mg base N qual (defScope st) f cdv A outer s H E0) [] (start N vs) H s1 := inv_start S hr.hd e0 hl r z
  refine wpAny_mono (ht.nox.run [] s1 (start N vs) H _ I hq) (fun fl s' hs => ?_) fun e s' hs => hs
  have fin : ∀ {σ' : L2.St} {H' : Hp} {v : V} {u : Value}, Inv (cxOf CX0 P w K mg base N qual (defScope st) f cdv A outer s H E0) [] σ' H' s' → RelV v u → Q v H' → CE outer P w H s Q u s' :=
    fun {σ' H' v u} J rv q => ⟨v, H', J.os, J.bare, J.base, J.hok, rv, q⟩
  cases fl with
  | next =>
    obtain ⟨σ', H', J, q⟩ := hs
    exact fin (v := .non) (u := Value.none) J rfl q
  | brk =>
    obtain ⟨_, _, _, q⟩ := hs
    exact q.elim
  | cont =>
    obtain ⟨_, _, _, q⟩ := hs
    exact q.elim
  | ret v =>
    obtain ⟨x, σ', H', J, rv, q⟩ := hs
    exact fin J rv q
end

/-! ### the promise: what a function of the mirror says -/
abbrev MF := List PV → Store → MR PV
def spM (K : PySem.W.Frag) (n : Nat) (m : MF) : SpG := fun vs H Q => ∃ ρ S ps, ps.length = n ∧ Sim K ρ S H ∧ Rvs K ρ H ps vs ∧ ∃ v S', m ps S = some (v, S') ∧ kE K ρ H S' v Q
def startP (N : List Str) (ps : List PV) : PEnv := ps.map some ++ List.replicate (N.length - ps.length) none
def fnM (N : List Str) (b : MS) : MF := fun ps S => (b (startP N ps) S).bind fun r => match r.1 with
  | .nx _ => some (.non, r.2)
  | .rt v => some (v, r.2)
  | _ => none
theorem start_slots {K : PySem.W.Frag} {ρ : List Addr} {H : Hp} {N : List Str} {ps : List PV} {vs : List V} (r : Rvs K ρ H ps vs) : Slots K ρ H (startP N ps) (L2.start N vs) := by
  refine ⟨by simp [startP, L2.start, r.length], fun i p h => ?_⟩
  unfold startP at h
  unfold L2.start
  by_cases hi : i < ps.length
  · rw [List.getElem?_append_left (by simpa using hi), List.getElem?_map] at h
    cases e : ps[i]? with
    | none => rw [e] at h; cases h
    | some q =>
      rw [e] at h
      cases h
      obtain ⟨v, h1, h2⟩ := r.get e
      refine ⟨v, ?_, h2⟩
      rw [List.getElem?_append_left (by rw [List.length_map, r.length]; exact hi), List.getElem?_map, h1]
      rfl
  · rw [List.getElem?_append_right (by simpa using hi), List.getElem?_replicate] at h
    split at h <;> cases h
section
variable {P : Program} {w : World} {K : PySem.W.Frag} {mg : Str → Option Value} {base : Heap}
theorem fnG_m {x qual : Str} {st : Stmt} {f : Addr} {fd : FuncData} {N ps : List Str} {k : Nat} {b : MS} (F : Fun K x qual st f fd) (S : FnScope N ps (defScope st))
    (hb : ∀ (cdv : Value) (A : Around) (outer : List Env) (s : Shared) (H : Hp), Good (cX P w K mg base N qual st f cdv A outer s H) k → DenB (cX P w K mg base N qual st f cdv A outer s H) (defBody st) b) : FnG P w K mg base (k + 1) f fd ps (spM K ps.length (fnM N b)) := by
  refine fnG_of F S (fun vs H Q ⟨ρ, S, qs, h1, _, h2, _⟩ => by rw [h2.length]; exact h1) fun cdv A outer s H gd vs Q hsp => ⟨_, hb cdv A outer s H gd, ?_⟩
  obtain ⟨ρ, S, qs, e1, sm, rv, v, S', hm, kq⟩ := hsp
  obtain ⟨⟨fl, S1⟩, g1, g2⟩ := Option.bind_eq_some_iff.mp hm
  refine ⟨ρ, startP N qs, S, ⟨sm, start_slots rv⟩, fl, S1, g1, ?_⟩
  cases fl with
  | nx σ =>
    cases g2
    exact fun ρ1 σ1 H1 x1 st1 => kq ρ1 .non H1 x1 st1.sim rfl
  | rt y =>
    cases g2
    exact fun ρ1 z H1 x1 sm1 rv1 => kq ρ1 z H1 x1 sm1 rv1
  | bk σ => cases g2
  | ct σ => cases g2
/-- a mirror that says the same -/
theorem FnG.eqv {k : Nat} {f : Addr} {fd : FuncData} {ps : List Str} {n : Nat} {m m' : MF} (F : FnG P w K mg base k f fd ps (spM K n m)) (h : ∀ qs S, qs.length = n → ∀ v S', m' qs S = some (v, S') → m qs S = some (v, S')) : FnG P w K mg base k f fd ps (spM K n m') := by
  have i : ∀ vs H Q, spM K n m' vs H Q → spM K n m vs H Q := fun vs H Q ⟨ρ, S, qs, h1, h2, h3, v, S', h4, h5⟩ => ⟨ρ, S, qs, h1, h2, h3, v, S', h qs S h1 v S' h4, h5⟩
  exact ⟨fun vs H Q q => F.len vs H Q (i _ _ _ q), fun A outer s H args us vs Q g hr e0 hb r q => F.run A outer s H args us vs Q g hr e0 hb r (i _ _ _ q)⟩
theorem FnG.up {j k : Nat} {f : Addr} {fd : FuncData} {ps : List Str} {sp : SpG} (F : FnG P w K mg base j f fd ps sp) (h : j ≤ k) : FnG P w K mg base k f fd ps sp :=
  ⟨F.len, fun A outer s H args us vs Q g hr => F.run A outer s H args us vs Q g (hr.mono h)⟩
end

/-! ### calls -/
def mFn (m : MF) (me : MA) : ME := m2 me fun ps _ S => m ps S
def pick {α : Type} (perm : List Nat) (xs : List α) : List α := perm.filterMap fun i => xs[i]?
theorem pick_vals {xs : List V} {us : List Value} (r : Vals xs us) : ∀ perm : List Nat, Vals (pick perm xs) (pick perm us)
  | [] => .nil
  | i :: perm => by
    unfold pick
    rw [List.filterMap_cons, List.filterMap_cons]
    cases e : xs[i]? with
    | none =>
      rw [r.none_of e]
      exact pick_vals r perm
    | some x =>
      obtain ⟨u, h1, h2⟩ := r.get e
      rw [h1]
      exact .cons h2 (pick_vals r perm)
theorem pick_rvs {K : PySem.W.Frag} {ρ : List Addr} {H : Hp} {xs : List PV} {vs : List V} (r : Rvs K ρ H xs vs) : ∀ perm : List Nat, Rvs K ρ H (pick perm xs) (pick perm vs)
  | [] => rfl
  | i :: perm => by
    unfold pick
    rw [List.filterMap_cons, List.filterMap_cons]
    cases e : xs[i]? with
    | none =>
      have e2 : vs[i]? = none := List.getElem?_eq_none_iff.mpr (by rw [r.length]; exact List.getElem?_eq_none_iff.mp e)
      rw [e2]
      exact pick_rvs r perm
    | some x =>
      obtain ⟨u, h1, h2⟩ := r.get e
      rw [h1]
      exact ⟨u, _, rfl, h2, pick_rvs r perm⟩
theorem pick_range {α : Type} : ∀ (l : List α), pick (List.range l.length) l = l
  | [] => rfl
  | a :: l => by
    have ih := pick_range l
    unfold pick at ih ⊢
    rw [List.length_cons, List.range_succ_eq_map, List.filterMap_cons]
    simp only [List.getElem?_cons_zero, List.filterMap_map]
    have e : ((fun i => (a :: l)[i]?) ∘ Nat.succ) = fun i => l[i]? := by
      funext i
      simp
    rw [e, ih]
theorem pick_id {α : Type} {n : Nat} (l : List α) (h : l.length = n) : pick (List.range n) l = l := by
  subst h
  exact pick_range l
/-- how a call with n positional arguments and the keywords ks binds -/
def Kb (K : PySem.W.Frag) (fd : FuncData) (ps : List Str) (n : Nat) (ks : List Str) (perm : List Nat) : Prop := ∀ (s : Shared) (us ws : List Value), us.length = n → ws.length = ks.length → BindsTo s fd ⟨us, ks.zip ws⟩ (ps.zip (pick perm (us ++ ws)))
theorem kb_mk {K : PySem.W.Frag} {x qual : Str} {st : Stmt} {f : Addr} {fd : FuncData} {ps ks : List Str} {n : Nat} {perm : List Nat} (F : Fun K x qual st f fd)
    (h : ∀ (kV doc pm : Value) (an : Option Addr) (cdv ct : Value) (us ws : List Value), us.length = n → ws.length = ks.length → bindArgs (PySem.W.fnOf x qual (defArgs st) (defBody st) (defScope st) .none kV doc pm an cdv ct) ⟨us, ks.zip ws⟩ = pure (ps.zip (pick perm (us ++ ws)))) : Kb K fd ps n ks perm := by
  obtain ⟨oc, od, kV, doc, pm, an, cdv, ct, osl, rfl, lk, hcd⟩ := F.ex
  exact fun s us ws h1 h2 => .of_eq (h kV doc pm an cdv ct us ws h1 h2)
section
variable {X : Cx} {k n : Nat} {f : Addr} {fd : FuncData} {ps ks : List Str} {x : Str} {p pos : Pos} {e : Expr} {es : List Expr} {kws : List Keyword} {me mk : MA} {m : MF} {perm : List Nat}
theorem run_G {sp : SpG} {pins : List (Addr × Obj)} {σ : L2.St} {H : Hp} {s : Shared} {Q : VK} {us ws : List Value} {vs : List V} (F : FnG X.prog X.w X.K X.mg X.base k f fd ps sp) (g : Good X k) (I : Inv X pins σ H s) (b : BindsTo s fd ⟨us, ks.zip ws⟩ (ps.zip (pick perm (us ++ ws)))) (r : Vals vs (us ++ ws)) (h : sp (pick perm vs) H Q) :
    wpAny (model X.prog X.w) X.A (call (.ref f) us (ks.zip ws)) (EP X pins σ Q) X.xe s := by
  refine wpAny_call (codeAny_mono (F.run X.A X.stack s H _ _ _ Q g.guards g.room I.env0 b (pick_vals r perm) h) fun r s' hq => ?_)
  cases r with
  | error e => exact hq.elim
  | ok fl =>
    cases fl with
    | ret u => exact I.after hq
    | next => exact hq.elim
    | brk => exact hq.elim
    | cont => exact hq.elim
/-- f(a, ..) -/
theorem den_fn (F : FnG X.prog X.w X.K X.mg X.base k f fd ps (spM X.K n m)) (g : Good X k) (hg : Gl X x) (hm : X.mg x = some (.ref f)) (hk : PySem.W.keepIn X.K (.ref f) = true) (hb : Kb X.K fd ps n [] (List.range n)) (hl : (e :: es).length = n) (ha : DenA X (e :: es) me)
    (hml : ∀ σ S qs S', me σ S = some (qs, S') → qs.length = n) (hdb : (x == ("__debug__" : Str)) = false := by decide +kernel) (he : starEach (e :: es) X.env = (false, eval e X.env) :: starEach es X.env := by rfl) (hpl : (backTo pos (starEach es X.env)).any (·.1) = false := by rfl) :
    Den X (.Call (.Name x p) (e :: es) [] pos) (mFn m me) := by
  refine ⟨fun pins s σ H Q I h => ?_⟩
  refine wpAny_Call_Name_kw (ld_glob I hg hm ?_ hdb)
  obtain ⟨ρ, σp, S, st, v, S', hm, kq⟩ := h
  obtain ⟨qs, S1, h1, hm⟩ := m2_some hm
  have hql := hml _ _ _ _ h1
  have ha' := ha.run pos pins s σ H (fun xs H1 => spM X.K n m xs H1 Q ∧ xs.length = n) I ⟨ρ, σp, S, st, qs, S1, h1, fun ρ1 xs H1 x1 sm1 rv1 => ⟨⟨ρ1, S1, qs, hql, sm1, rv1, v, S', hm, kq.later x1⟩, by rw [rv1.length]; exact hql⟩⟩
  refine PySem.W.callWith_K (h₀ := X.base) I.ok.mod.kin hk (thn ha' fun us s1 ⟨vs, H1, I1, r, q, ql⟩ => ⟨I1.kIn, ?_⟩) he hpl
  have hul : us.length = n := by rw [← r.length]; exact ql
  have := run_G (ks := []) (perm := List.range n) (ws := []) (us := us) (vs := vs) F g I1 (hb s1 us [] hul rfl) (by rw [List.append_nil]; exact r) (by rw [pick_id vs ql]; exact q)
  simpa using this
end
end Ip
set_option Elab.async false
set_option linter.all false
set_option maxRecDepth 100000
/-! Ip8: repr of data, calls with keywords. -/
namespace Ip
open PySem PySem.Spec PyProof.Rows L2

/-! ### how long a repr is -/
mutual
def wt : PyData → Nat
  | .none => 1
  | .bool _ => 1
  | .int _ => 1
  | .str x => 1 + x.length
  | .list xs => 1 + wts xs
  | .tuple xs => 1 + wts xs
  | .dict _ => 0
def wts : List PyData → Nat
  | [] => 0
  | x :: xs => 1 + wt x + wts xs
end
theorem textFrom_le : ∀ (ts : List Str) (k : Nat) (acc : Str), (textFrom k acc ts).length ≤ acc.length + (ts.map fun t => t.length + 2).sum
  | [], k, acc => by simp [textFrom]
  | t :: ts, k, acc => by
    unfold textFrom
    have ih := textFrom_le ts (k + 1) (acc ++ (if k > 0 then ", " else "" : String) ++ t)
    have e : (acc ++ (if k > 0 then ", " else "" : String) ++ t).length ≤ acc.length + 2 + t.length := by
      rw [strLen_append, strLen_append]
      split
      · have : ((", " : String) : Str).length = 2 := rfl
        omega
      · have : (("" : String) : Str).length = 0 := rfl
        omega
    rw [List.map_cons, List.sum_cons]
    omega
theorem join_le : ∀ ts : List Str, (Str.join ", " ts).length ≤ (ts.map fun t => t.length + 2).sum
  | [] => Nat.zero_le _
  | [x] => by
    show x.length ≤ _
    simp
  | x :: y :: r => by
    have ih := join_le (y :: r)
    show (x ++ ", " ++ Str.join ", " (y :: r)).length ≤ _
    have e2 : ((", " : String) : Str).length = 2 := rfl
    rw [strLen_append, strLen_append, e2, List.map_cons, List.sum_cons]
    omega
theorem listText_le (ts : List Str) : (listText ts).length ≤ (ts.map fun t => t.length + 2).sum + 2 := by
  unfold listText
  rw [strLen_append]
  have h := textFrom_le ts 0 "["
  have e1 : (("[" : String) : Str).length = 1 := rfl
  have e2 : (("]" : String) : Str).length = 1 := rfl
  omega
theorem tupleText_le (ts : List Str) : (tupleText ts).length ≤ (ts.map fun t => t.length + 2).sum + 3 := by
  unfold tupleText
  rw [strLen_append, strLen_append]
  have h := join_le ts
  have e1 : (("(" : String) : Str).length = 1 := rfl
  split
  · have e2 : ((",)" : String) : Str).length = 2 := rfl
    omega
  · have e2 : ((")" : String) : Str).length = 1 := rfl
    omega
mutual
def txOk : PyData → Bool
  | .str x => decide ((reprText x).length ≤ 2000 * (1 + x.length))
  | .list xs => txOks xs
  | .tuple xs => txOks xs
  | _ => true
def txOks : List PyData → Bool
  | [] => true
  | x :: xs => txOk x && txOks xs
end
mutual
theorem shown_le : ∀ d : PyData, d.showable = true → d.hasDict = false → txOk d = true → d.shown.length ≤ 2000 * wt d
  | .none, _, _, _ => by
    show (("None" : String) : Str).length ≤ 2000
    decide +kernel
  | .bool b, _, _, _ => by
    cases b
    · show (("False" : String) : Str).length ≤ 2000
      decide +kernel
    · show (("True" : String) : Str).length ≤ 2000
      decide +kernel
  | .int i, h, _, _ => by
    have h' : i.natAbs.log2 < 1920 := of_decide_eq_true (by simpa [PyData.showable] using h)
    have e := int_text_length_le (k := 1920) (by decide) h'
    show (Str.ofString (toString i)).length ≤ 2000
    rw [PySem.ofString_length]
    omega
  | .str x, _, _, h => by
    have h' : (reprText x).length ≤ 2000 * (1 + x.length) := of_decide_eq_true (by simpa [txOk] using h)
    simpa [PyData.shown, wt] using h'
  | .list xs, h, hd, ht => by
    have ih := shownAll_le xs (by simpa [PyData.showable] using h) (by simpa [PyData.hasDict] using hd) (by simpa [txOk] using ht)
    have := listText_le (PyData.shownAll xs)
    simp only [PyData.shown, wt]
    omega
  | .tuple xs, h, hd, ht => by
    have ih := shownAll_le xs (by simpa [PyData.showable] using h) (by simpa [PyData.hasDict] using hd) (by simpa [txOk] using ht)
    have := tupleText_le (PyData.shownAll xs)
    simp only [PyData.shown, wt]
    omega
  | .dict _, _, hd, _ => by simp [PyData.hasDict] at hd
theorem shownAll_le : ∀ xs : List PyData, PyData.showableAll xs = true → PyData.hasDictAll xs = false → txOks xs = true → ((PyData.shownAll xs).map fun t => t.length + 2).sum ≤ 2000 * wts xs
  | [], _, _, _ => by simp [PyData.shownAll, wts]
  | x :: xs, h, hd, ht => by
    have h' : x.showable = true ∧ PyData.showableAll xs = true := by simpa [PyData.showableAll] using h
    have hd' : x.hasDict = false ∧ PyData.hasDictAll xs = false := by simpa [PyData.hasDictAll] using hd
    have ht' : txOk x = true ∧ txOks xs = true := by simpa [txOks] using ht
    have i1 := shown_le x h'.1 hd'.1 ht'.1
    have i2 := shownAll_le xs h'.2 hd'.2 ht'.2
    simp only [PyData.shownAll, wts, List.map_cons, List.sum_cons]
    omega
end

/-! ### repr -/
section
variable {prog : Program} {w : World} {A : Around} {E : Value → Shared → Prop} {s : Shared}
theorem call_repr_reads {v : Value} {d : PyData} {as : List Addr} {Q : Value → Shared → Prop} (r : Reads s.heap v d as) (hs : d.showable = true) (hd : d.hasDict = false) (hg : A.guards = some []) (hu : A.units + 1 + d.depth < cLine) (hz : d.shown.length ≤ sizeLine)
    (hQ : ∀ h' u tk, (∀ b o, s.heap.get? b = some o → h'.get? b = some o) → Q (.str d.shown u) { s with heap := h', toks := tk }) : wpAny (model prog w) A (call (.builtin "repr") [v]) Q E s := by
  cases r with
  | none => exact P.repr_of_none (by simpa only [PyData.shown] using hQ s.heap _ _ fun _ _ e => e)
  | bool b => exact P.repr_of_bool (by simpa only [PyData.shown] using hQ s.heap _ _ fun _ _ e => e)
  | int i t => exact P.repr_of_int (by simpa [PyData.showable] using hs) (by simpa only [PyData.shown] using hQ s.heap _ _ fun _ _ e => e)
  | str x t => exact P.repr_of_str (by simpa only [PyData.shown] using hQ s.heap _ _ fun _ _ e => e) (by simpa only [PyData.shown] using hz)
  | dict _ _ _ _ _ => simp [PyData.hasDict] at hd
  | @list a o vs n xs as h1 h2 h3 h4 =>
    have r : Reads s.heap (.ref a) (.list xs) _ := .list h1 h2 h3 h4
    have hz' : (listText (PyData.shownAll xs)).length ≤ sizeLine := by simpa only [PyData.shown] using hz
    obtain ⟨bs, hb, hk⟩ := ReprAllK.of_readsAll (prog := prog) (w := w) h4 (by simpa [PyData.showable] using hs) (fun hx => by
      have hd' : PyData.hasDictAll xs = false := by simpa [PyData.hasDict] using hd
      rw [hd'] at hx
      cases hx) (fun t ht => Nat.le_trans (listText_mem_le ht) hz')
    have hna : a ∉ bs := not_mem_of_deeper r (by simp only [PyData.depth]; omega) hb
    simp only [PyData.depth] at hu
    simp only [PyData.shown] at hQ
    refine call_repr_slot (by omega) ⟨o, h1, h2⟩ F.slot_list_repr.toG ?_
    obtain ⟨l⟩ := vs
    cases l with
    | nil =>
      cases (h4 : ReadsAll s.heap [] xs _)
      simp only [PyData.shownAll, listText_nil] at hQ
      exact call_list_repr_empty ⟨o, h1, h2⟩ h1 h3 ⟨_, _, rfl, hQ s.heap _ _ fun _ _ e => e⟩
    | cons x l => exact call_list_reprK h1 h2 h3 hna (by simpa using hk.length_eq) (fun i y e => hk.item i y (by simpa using e)) (A := A.in1) hg (fun b _ => Clear.nil b) (by show A.units + 1 + _ < _; omega) (fun _ _ e => e) (fun h' u tk hk' => ⟨_, _, rfl, hQ h' u tk hk'⟩) hz'
  | @tuple a o vs n xs as h1 h2 h3 h4 =>
    have r : Reads s.heap (.ref a) (.tuple xs) _ := .tuple h1 h2 h3 h4
    have hz' : (tupleText (PyData.shownAll xs)).length ≤ sizeLine := by simpa only [PyData.shown] using hz
    obtain ⟨bs, hb, hk⟩ := ReprAllK.of_readsAll (prog := prog) (w := w) h4 (by simpa [PyData.showable] using hs) (fun hx => by
      have hd' : PyData.hasDictAll xs = false := by simpa [PyData.hasDict] using hd
      rw [hd'] at hx
      cases hx) (fun t ht => Nat.le_trans (tupleText_mem_le ht) hz')
    have hna : a ∉ bs := not_mem_of_deeper r (by simp only [PyData.depth]; omega) hb
    simp only [PyData.depth] at hu
    simp only [PyData.shown] at hQ
    refine call_repr_slot (by omega) ⟨o, h1, h2⟩ F.slot_tuple_repr ?_
    exact call_tuple_reprK h1 h2 h3 hna hk (A := A.in1) hg (fun b _ => Clear.nil b) (by show A.units + 1 + _ < _; omega) (fun _ _ e => e) (fun h' u tk hk' => ⟨_, _, rfl, hQ h' u tk hk'⟩) hz'
end
def reprOk (d : PyData) : Bool := SeqAt.shaped d && d.showable && txOk d && decide (wt d ≤ 8000)
def vRepr : VL := fun ps S => match ps with
  | [p] => (deep 16 S p).bind fun d => if reprOk d then some (.str d.shown, S) else none
  | _ => none
def rRepr (K : PySem.W.Frag) : List V → Hp → VK → Prop := fun xs H Q => ∃ x d, xs = [x] ∧ Dp K H x d ∧ reprOk d = true ∧ Q (.str d.shown) H
theorem cr_repr {X : Cx} {k : Nat} (g : Good X k) : CallR X (.builtin "repr") (rRepr X.K) := by
  intro pins s σ H xs us Q I r h
  obtain ⟨x, d, rfl, hd, ho, q⟩ := h
  obtain ⟨u, rfl, rx⟩ := vals1 r
  obtain ⟨as, rd⟩ := Dp.reads I d x u hd rx
  unfold reprOk at ho
  simp only [Bool.and_eq_true, decide_eq_true_eq] at ho
  obtain ⟨⟨⟨h1, h2⟩, h3⟩, h4⟩ := ho
  have hdd := PyData.hasDict_of_canLay d (SeqAt.canLay_of_shaped h1)
  have hl := shown_le d h2 hdd h3
  have hdep := SeqAt.depth_of_shaped h1
  have hu := g.room.un
  refine call_repr_reads rd h2 hdd g.guards (by omega) (by rw [sizeLine_eq]; omega) fun h' u tk hk => ?_
  exact ⟨.str d.shown, H, I.kept hk, ⟨u, rfl⟩, q⟩
theorem snd_repr {K : PySem.W.Frag} : SndL K (rRepr K) vRepr := by
  intro ρ S H ps xs v S' Q s r hf k
  unfold vRepr at hf
  split at hf
  · obtain ⟨d, h1, h2⟩ := Option.bind_eq_some_iff.mp hf
    split at h2
    · rename_i ho
      cases h2
      obtain ⟨x, rfl, rx⟩ := r.one_of
      exact ⟨x, d, rfl, deep_dp s _ _ x d h1 rx, ho, k ρ _ H Ext.refl s rfl⟩
    · cases h2
  · cases hf

/-! ### keywords -/
abbrev DenK (X : Cx) (kws : List Keyword) (m : MA) : Prop := PK X kws (rdA X.K m)
theorem PK.imp {X : Cx} {es : List Keyword} {t t' : TA} (h : PK X es t) (i : ∀ σ H Q, t' σ H Q → t σ H Q) : PK X es t' := ⟨fun pos pins s σ H Q I q => h.run pos pins s σ H Q I (i σ H Q q)⟩
section
variable {X : Cx} {nm : Option Str} {kpos : Pos} {a : Expr} {kws : List Keyword} {ma : ME} {mk : MA}
theorem denk_nil : DenK X [] aNil := PK.imp pk_nil fun σ H Q h => by
  obtain ⟨ρ, σp, S, st, v, S', hm, k⟩ := h
  cases hm
  exact k ρ [] H Ext.refl st.sim rfl
theorem denk_cons (ha : Den X a ma) (hr : DenK X kws mk) : DenK X (⟨nm, a, kpos⟩ :: kws) (aCons ma mk) := PK.imp (pk_cons ha hr) fun σ H Q h => by
  obtain ⟨ρ, σp, S, st, v, S', hm, k⟩ := h
  obtain ⟨p, S1, e1, hm⟩ := m2_some hm
  obtain ⟨ps, S2, e2, hm⟩ := m2_some hm
  cases hm
  refine ⟨ρ, σp, S, st, p, S1, e1, fun ρ1 x H1 x1 sm1 rv1 => ?_⟩
  refine ⟨ρ1, σp, S1, st.next x1 sm1, ps, _, e2, fun ρ2 xs H2 x2 sm2 rv2 => ?_⟩
  exact k ρ2 (x :: xs) H2 (x1.trans x2) sm2 ⟨x, xs, rfl, Rv.mono x2 p x rv1, rv2⟩
end
/-- how many arguments a list has -/
def ALen (m : MA) (n : Nat) : Prop := ∀ σ S qs S', m σ S = some (qs, S') → qs.length = n
theorem al_nil : ALen aNil 0 := fun σ S qs S' h => by cases h; rfl
theorem al_cons {ma : ME} {mr : MA} {n : Nat} (h : ALen mr n) : ALen (aCons ma mr) (n + 1) := fun σ S qs S' e => by
  obtain ⟨p, S1, e1, e⟩ := m2_some e
  obtain ⟨ps, S2, e2, e⟩ := m2_some e
  cases e
  rw [List.length_cons, h _ _ _ _ e2]
def mFnK (m : MF) (perm : List Nat) (me mk : MA) : ME := m2 me fun ps => m2 mk fun qs _ S => m (pick perm (ps ++ qs)) S
section
variable {X : Cx} {k n j : Nat} {f : Addr} {fd : FuncData} {ps ks : List Str} {x : Str} {p pos : Pos} {e : Expr} {es : List Expr} {kws : List Keyword} {me mk : MA} {m : MF} {perm : List Nat}
/-- f(a, .., k = b, ..) -/
theorem den_fnK (F : FnG X.prog X.w X.K X.mg X.base k f fd ps (spM X.K n m)) (g : Good X k) (hg : Gl X x) (hm : X.mg x = some (.ref f)) (hk : PySem.W.keepIn X.K (.ref f) = true) (hb : Kb X.K fd ps j ks perm) (hn : ∀ l : List PV, l.length = j + ks.length → (pick perm l).length = n) (ha : DenA X (e :: es) me) (hkw : DenK X kws mk)
    (hml : ALen me j) (hmk : ALen mk ks.length) (hall : (backToKw pos (keywordEach kws X.env)).all (·.1.isSome) = true := by rfl) (hks : (backToKw pos (keywordEach kws X.env)).filterMap (·.1) = ks := by rfl) (hdb : (x == ("__debug__" : Str)) = false := by decide +kernel)
    (he : starEach (e :: es) X.env = (false, eval e X.env) :: starEach es X.env := by rfl) (hpl : ((backTo pos (starEach (e :: es) X.env)).any (·.1) || (backToKw pos (keywordEach kws X.env)).any (·.1.isNone)) = false := by rfl) :
    Den X (.Call (.Name x p) (e :: es) kws pos) (mFnK m perm me mk) := by
  refine ⟨fun pins s σ H Q I h => ?_⟩
  refine wpAny_Call_Name_kw (ld_glob I hg hm ?_ hdb)
  obtain ⟨ρ, σp, S, st, v, S', hv, kq⟩ := h
  obtain ⟨qs, S1, h1, hv⟩ := m2_some hv
  obtain ⟨rs, S2, h2, hv⟩ := m2_some hv
  have l1 := hml _ _ _ _ h1
  have l2 := hmk _ _ _ _ h2
  have ha' := ha.run pos pins s σ H (fun xs H1 => xs.length = j ∧ rdA X.K mk σ H1 fun zs H2 => zs.length = ks.length ∧ spM X.K n m (pick perm (xs ++ zs)) H2 Q) I ⟨ρ, σp, S, st, qs, S1, h1, fun ρ1 xs H1 x1 sm1 rv1 => ⟨by rw [rv1.length]; exact l1, ρ1, σp, S1, st.next x1 sm1, rs, S2, h2, fun ρ2 zs H2 x2 sm2 rv2 => ⟨by rw [rv2.length]; exact l2, ρ2, S2, _, hn _ (by rw [List.length_append, l1, l2]), sm2, pick_rvs ((Rvs.mono x2 _ _ rv1).append rv2) perm, v, S', hv, kq.later (x1.trans x2)⟩⟩⟩
  refine PySem.W.callWith_KW (h₀ := X.base) I.ok.mod.kin hk hall (thn ha' fun us s1 ⟨vs, H1, I1, r, q1, q⟩ => ?_) hpl he
  refine thn (hkw.run pos pins s1 σ H1 _ I1 q) fun ws s2 ⟨zs, H2, I2, rz, q2, q3⟩ => ⟨I2.kIn, ?_⟩
  rw [hks]
  exact run_G F g I2 (hb s2 us ws (by rw [← r.length]; exact q1) (by rw [← rz.length]; exact q2)) (r.append rz) q3
/-- f(k = b, ..) -/
theorem den_fnK0 (F : FnG X.prog X.w X.K X.mg X.base k f fd ps (spM X.K n m)) (g : Good X k) (hg : Gl X x) (hm : X.mg x = some (.ref f)) (hk : PySem.W.keepIn X.K (.ref f) = true) (hb : Kb X.K fd ps 0 ks perm) (hn : ∀ l : List PV, l.length = 0 + ks.length → (pick perm l).length = n) (hkw : DenK X kws mk)
    (hmk : ALen mk ks.length) (hall : (backToKw pos (keywordEach kws X.env)).all (·.1.isSome) = true := by rfl) (hks : (backToKw pos (keywordEach kws X.env)).filterMap (·.1) = ks := by rfl) (hdb : (x == ("__debug__" : Str)) = false := by decide +kernel)
    (hpl : ((backTo pos (starEach [] X.env)).any (·.1) || (backToKw pos (keywordEach kws X.env)).any (·.1.isNone)) = false := by rfl) :
    Den X (.Call (.Name x p) [] kws pos) (mFnK m perm aNil mk) := by
  refine ⟨fun pins s σ H Q I h => ?_⟩
  refine wpAny_Call_Name_kw (ld_glob I hg hm ?_ hdb)
  obtain ⟨ρ, σp, S, st, v, S', hv, kq⟩ := h
  obtain ⟨qs, S1, h1, hv⟩ := m2_some hv
  cases h1
  obtain ⟨rs, S2, h2, hv⟩ := m2_some hv
  have l2 := hmk _ _ _ _ h2
  refine PySem.W.callWith_KW0 (h₀ := X.base) I.ok.mod.kin hk hall ?_ hpl
  refine thn (hkw.run pos pins s σ H (fun zs H2 => zs.length = ks.length ∧ spM X.K n m (pick perm zs) H2 Q) I ⟨ρ, σp, S, st, rs, S2, h2, fun ρ2 zs H2 x2 sm2 rv2 => ⟨by rw [rv2.length]; exact l2, ρ2, S2, _, hn _ (by omega), sm2, pick_rvs rv2 perm, v, S', hv, kq.later x2⟩⟩) fun ws s2 ⟨zs, H2, I2, rz, q2, q3⟩ => ⟨I2.kIn, ?_⟩
  rw [hks]
  exact run_G (us := []) F g I2 (hb s2 [] ws rfl (by rw [← rz.length]; exact q2)) rz q3
end
end Ip
set_option Elab.async false
set_option linter.all false
set_option maxRecDepth 100000
set_option maxHeartbeats 1000000
/-! Ip9: zip and enumerate of lists and tuples in any mix. -/
namespace Ip
open PySem PySem.Spec PyProof.Rows L2

/-- a list (true) or a tuple (false) -/
def SqK (k : Bool) (K : PySem.W.Frag) (H : Hp) (a : Addr) (xs : List V) : Prop := if k = true then SqL K H a xs else SqT K H a xs
def IsSqK (k : Bool) (h : Heap) (a : Addr) (its : Array Value) : Prop := if k = true then h.IsList a its else h.IsTuple a its
def IterK (k : Bool) (h : Heap) (it a : Addr) (i : Nat) : Prop := if k = true then h.IsListIter it a i else h.IsTupleIter it a i
theorem sqK_inv {k : Bool} {X : Cx} {pins : List (Addr × Obj)} {σ : L2.St} {H : Hp} {s : Shared} {a : Addr} {xs : List V} (I : Inv X pins σ H s) (h : SqK k X.K H a xs) : ∃ its : List Value, Vals xs its ∧ IsSqK k s.heap a its.toArray := by
  cases k with
  | true =>
    obtain ⟨its, r, p, _⟩ := I.list h
    exact ⟨its, r, p.isList⟩
  | false =>
    obtain ⟨its, r, p, _⟩ := I.tuple h
    exact ⟨its, r, p⟩
theorem sqK_inj {k : Bool} {X : Cx} {pins : List (Addr × Obj)} {σ : L2.St} {H : Hp} {s : Shared} {a : Addr} {xs ys : List V} (I : Inv X pins σ H s) (h : SqK k X.K H a xs) (h' : SqK k X.K H a ys) : xs = ys := by
  cases k with
  | true => exact I.list_inj h h'
  | false => exact I.tuple_inj h h'
theorem isSqK_at {k : Bool} {h h' : Heap} {a : Addr} {its : Array Value} (q : IsSqK k h a its) (hk : ∀ o, h.get? a = some o → h'.get? a = some o) : IsSqK k h' a its := by
  cases k with
  | true => exact Heap.IsList.at q hk
  | false => exact Heap.IsTuple.at q hk
theorem isSqK_lt {k : Bool} {h : Heap} {a : Addr} {its : Array Value} (q : IsSqK k h a its) : a < h.objs.size := by
  cases k with
  | true =>
    obtain ⟨o, e, _⟩ := q
    exact Heap.lt_size e
  | false =>
    obtain ⟨o, e, _⟩ := q
    exact Heap.lt_size e
theorem iterK_at {k : Bool} {h h' : Heap} {it a : Addr} {i : Nat} (q : IterK k h it a i) (hk : ∀ o, h.get? it = some o → h'.get? it = some o) : IterK k h' it a i := by
  cases k with
  | true => exact Heap.IsListIter.at q hk
  | false => exact Heap.IsTupleIter.at q hk
theorem iterK_obj {k : Bool} {h : Heap} {it a : Addr} {i : Nat} (q : IterK k h it a i) : ∃ o, h.get? it = some o ∧ ∀ v, o.data ≠ .cell v := by
  cases k with
  | true =>
    obtain ⟨o, e, c, d⟩ := q
    exact ⟨o, e, fun v z => by rw [d] at z; cases z⟩
  | false =>
    obtain ⟨o, e, c, d⟩ := q
    exact ⟨o, e, fun v z => by rw [d] at z; cases z⟩
theorem drawsK {prog : Program} {w : World} {A : Around} (k : Bool) (hh : A.handled = none) (it a : Addr) (hne : a ≠ it) (its : Array Value) :
    Draws prog w A it [it, a] its.size (fun i v => its[i]? = some v) (fun i h => IterK k h it a i ∧ IsSqK k h a its) := by
  cases k with
  | true => exact Draws.list hh it a hne its
  | false => exact Draws.tuple hh it a hne its
def objK (k : Bool) (a : Addr) : Obj := if k = true then { cls := .type "list_iterator", data := .fields #[.ref a, .int 0 0] } else { cls := .type "tuple_iterator", data := .fields #[.ref a, .int 0 0] }
theorem beginsK (k : Bool) (a : Addr) (its : Array Value) : Begins (.ref a) (objK k a) fun h => IsSqK k h a its := by
  cases k with
  | true => exact begins_list a its
  | false => exact begins_tuple a its
theorem iterK_new {k : Bool} {h : Heap} {it a : Addr} (e : h.get? it = some (objK k a)) : IterK k h it a 0 := by
  cases k with
  | true => exact ⟨_, e, rfl, rfl⟩
  | false => exact ⟨_, e, rfl, rfl⟩

/-! ### zip -/
def ItzK (k1 k2 : Bool) (K : PySem.W.Frag) (a b : Addr) : It :=
  ⟨fun i H => ∃ (xs ys : List V) (x y : V), SqK k1 K H a xs ∧ SqK k2 K H b ys ∧ xs[i]? = some x ∧ ys[i]? = some y,
    fun i H v H' => ∃ T x y, v = .ref T ∧ H T = none ∧ H' = upd H T (.tup [x, y]) ∧ (∀ xs, SqK k1 K H a xs → xs[i]? = some x) ∧ ∀ ys, SqK k2 K H b ys → ys[i]? = some y,
    fun i H => ∃ xs ys : List V, SqK k1 K H a xs ∧ SqK k2 K H b ys ∧ i ≤ xs.length ∧ i ≤ ys.length ∧ (xs.length = i ∨ ys.length = i)⟩
/-- the cells of a zip and its sources -/
structure ZipAt (z TI TO i1 i2 a b : Addr) : Prop where
  sep : ZipSep2 z TI TO i1 i2 [i1, a] [i2, b]
  a1 : a ≠ i1
  b2 : b ≠ i2
theorem goes_turn {k1 k2 : Bool} {P : Program} {w : World} {K : PySem.W.Frag} {elts : List Expr} {kk : Nat} {tpos : Pos} {a b z TI TO i1 i2 : Addr} (D : ZipAt z TI TO i1 i2 a b) :
    Turn P w K (.Tuple elts kk tpos) (ItzK k1 k2 K a b) [z, TI, TO, i1, i2] z (fun i h => IsZip h z TI TO .none ∧ IsTupOf2 h TI (.ref i1) (.ref i2) ∧ (∃ x y, IsTupOf2 h TO x y) ∧ IterK k1 h i1 a i ∧ IterK k2 h i2 b i) where
  mem := by simp
  obj := fun i h st c hc => by
    obtain ⟨hz, hTI, ⟨x, y, hTO⟩, h1, h2⟩ := st
    have e' : c = z ∨ c = TI ∨ c = TO ∨ c = i1 ∨ c = i2 := by simpa using hc
    rcases e' with rfl | rfl | rfl | rfl | rfl
    · exact ⟨_, hz, fun v q => nomatch q⟩
    · exact ⟨_, hTI, fun v q => nomatch q⟩
    · exact ⟨_, hTO, fun v q => nomatch q⟩
    · exact iterK_obj h1
    · exact iterK_obj h2
  keep := fun i h h' st k => by
    obtain ⟨hz, hTI, ⟨x, y, hTO⟩, h1, h2⟩ := st
    exact ⟨k z (by simp) _ hz, k TI (by simp) _ hTI, ⟨x, y, k TO (by simp) _ hTO⟩, iterK_at h1 fun o q => k i1 (by simp) o q, iterK_at h2 fun o q => k i2 (by simp) o q⟩
  item := by
    intro X hP hw hK hc i pins s σ H E I hf st hg
    subst hP hw hK
    obtain ⟨hz, hTI, ⟨x0, y0, hTO⟩, h1, h2⟩ := st
    obtain ⟨xs, ys, x, y, hqx, hqy, hx, hy⟩ := hg
    obtain ⟨its, rv, p⟩ := sqK_inv I hqx
    obtain ⟨its2, rv2, p2⟩ := sqK_inv I hqy
    obtain ⟨u, hu, ru⟩ := rv.get hx
    obtain ⟨u2, hu2, ru2⟩ := rv2.get hy
    have hh : X.A.handled = none := I.ok.hd hc
    have G := GoesN.zip2 (prog := X.prog) (w := X.w) (A := X.A) (elts := elts) (x1 := kk) (pos := tpos) D.sep (drawsK (A := X.A.in1) k1 hh i1 a D.a1 its.toArray) (drawsK (A := X.A.in1) k2 hh i2 b D.b2 its2.toArray)
    have l1 : i < its.toArray.size := by
      have := (List.getElem?_eq_some_iff.mp hu).1
      simpa using this
    have l2 : i < its2.toArray.size := by
      have := (List.getElem?_eq_some_iff.mp hu2).1
      simpa using this
    refine thn (G.goes i s (fun v s2 => ∃ x' H', Inv X pins σ H' s2 ∧ RelV x' v ∧ (ItzK k1 k2 X.K a b).yld i H x' H' ∧ (IsZip s2.heap z TI TO .none ∧ IsTupOf2 s2.heap TI (.ref i1) (.ref i2) ∧ (∃ x y, IsTupOf2 s2.heap TO x y) ∧ IterK k1 s2.heap i1 a (i + 1) ∧ IterK k2 s2.heap i2 b (i + 1)) ∧ ∀ b ∈ [z, TI, TO, i1, i2], H' b = none) E (by omega) ⟨hz, hTI, ⟨_, _, hTO⟩, ⟨h1, p⟩, ⟨h2, p2⟩⟩ fun v h' tk hY st' hk htk => ?_) fun r s1 hr => hr
    obtain ⟨T, w1, w2, rfl, hT, e1, e2, tT⟩ := hY
    obtain ⟨z', TI', TO', ⟨h1', _⟩, ⟨h2', _⟩⟩ := st'
    have eu : w1 = u := by
      have := e1.symm.trans (show its.toArray[i]? = some u by simpa using hu)
      exact Option.some.inj this
    have eu2 : w2 = u2 := by
      have := e2.symm.trans (show its2.toArray[i]? = some u2 by simpa using hu2)
      exact Option.some.inj this
    subst eu eu2
    have hTn : H T = none := I.hok.fresh hT
    have new : ObjOk X.prog X.w (upd H T (.tup [x, y])) h' T (.tup [x, y]) := ⟨by show 2 ≤ sizeLine; decide, [w1, w2], .cons ru (.cons ru2 .nil), tT⟩
    have hlt : ∀ c ∈ [z, TI, TO, i1, i2], c < s.heap.objs.size := fun c hcm => by
      have e' : c = z ∨ c = TI ∨ c = TO ∨ c = i1 ∨ c = i2 := by simpa using hcm
      rcases e' with rfl | rfl | rfl | rfl | rfl
      · exact Heap.lt_size hz
      · exact Heap.lt_size hTI
      · exact Heap.lt_size hTO
      · obtain ⟨o, q, _⟩ := iterK_obj h1
        exact Heap.lt_size q
      · obtain ⟨o, q, _⟩ := iterK_obj h2
        exact Heap.lt_size q
    have I1 : Inv X pins σ (upd H T (.tup [x, y])) { s with heap := h', toks := tk } :=
      I.turnedNew (ch := [z, TO, i1, i2]) (fun c o hb q => hk c o hb q) (fun c hcm => hf c (by
        have e' : c = z ∨ c = TO ∨ c = i1 ∨ c = i2 := by simpa using hcm
        rcases e' with rfl | rfl | rfl | rfl <;> simp)) hT new
    refine ⟨.ref T, _, I1, rfl, ⟨T, x, y, rfl, hTn, rfl, fun l hl => by rw [sqK_inj I hl hqx]; exact hx, fun l hl => by rw [sqK_inj I hl hqy]; exact hy⟩, ⟨z', TI', TO', h1', h2'⟩, fun c hcm => ?_⟩
    rw [upd_ne (Nat.ne_of_lt (Nat.lt_of_lt_of_le (hlt c hcm) hT))]
    exact (hf c hcm).1
  done := by
    intro X hP hw hK hc i pins s σ H E I hf st hg
    subst hP hw hK
    obtain ⟨hz, hTI, ⟨x0, y0, hTO⟩, h1, h2⟩ := st
    obtain ⟨xs, ys, hqx, hqy, m1, m2, hend⟩ := hg
    obtain ⟨its, rv, p⟩ := sqK_inv I hqx
    obtain ⟨its2, rv2, p2⟩ := sqK_inv I hqy
    have hh : X.A.handled = none := I.ok.hd hc
    have G := GoesN.zip2 (prog := X.prog) (w := X.w) (A := X.A) (elts := elts) (x1 := kk) (pos := tpos) D.sep (drawsK (A := X.A.in1) k1 hh i1 a D.a1 its.toArray) (drawsK (A := X.A.in1) k2 hh i2 b D.b2 its2.toArray)
    have l1 := rv.length
    have l2 := rv2.length
    have e : min its.toArray.size its2.toArray.size = i := by
      simp only [List.size_toArray]
      omega
    refine G.stops s (fun s1 => Inv X pins σ H s1) E (by rw [e]; exact ⟨hz, hTI, ⟨_, _, hTO⟩, ⟨h1, p⟩, ⟨h2, p2⟩⟩) fun h' tk hk htk => ?_
    exact I.turnedL (ch := [z, TO, i1, i2]) (fun c o hb q => hk c o hb q) (fun c hcm => hf c (by
      have e' : c = z ∨ c = TO ∨ c = i1 ∨ c = i2 := by simpa using hcm
      rcases e' with rfl | rfl | rfl | rfl <;> simp))
  self := fun A i s Q E st h => wpAny_pyIter_zip st.1 h
end Ip
set_option Elab.async false
set_option linter.all false
set_option maxRecDepth 100000
set_option maxHeartbeats 2000000
/-! Ip10: zip, enumerate as what a for walks. -/
namespace PySem
open Sem (wp)
open AutoSeq1 (wpAny_loadPart')
theorem ip_meets_enum1 {v : Value} {o : Obj} {H : Heap → Prop} (B : Begins v o H) :
    Meets (Builtin.«enumerate.__new__» ⟨[.type "enumerate", v], []⟩) (fun _ R s => H s.heap ∧
      R (.ok (.ret (.ref (s.heap.push o).objs.size))) { s with heap := (s.heap.push o).push { cls := .type "enumerate", data := .fields #[.none, .bool false, .ref s.heap.objs.size, rawInt 0, .none, .none] } }) :=
  .of_wp fun prog w A R s h => by
    obtain ⟨hp, gg, dd, tk, os⟩ := s
    obtain ⟨h1, h⟩ := h
    have hsub := sub_enumerate
    have go : ∀ {A' : Around} {E : Value → Shared → Prop} {Q : Value → Shared → Prop}, Q (.ref hp.objs.size) ⟨hp.push o, gg, dd, tk, os⟩ → wpAny (model prog w) A' (pyIter v) Q E ⟨hp, gg, dd, tk, os⟩ :=
      fun q => B.iter prog w _ _ ⟨hp, gg, dd, tk, os⟩ _ h1 q
    wp_walk using go
    refine wpAny_stack_any fun st => wpAny_pure ?_
    split
    · rename_i c _ _ _ _ _
      cases (c == Value.type "enumerate")
      all_goals (wp_walk using go; exact ⟨_, rfl, h⟩)
    · wp_walk using go
      exact ⟨_, rfl, h⟩
theorem ip_enum_begins {prog : Program} {w : World} {A : Around} {E : Value → Shared → Prop} {s : Shared} {v : Value} {o : Obj} {H : Heap → Prop} {Q : Value → Shared → Prop} (B : Begins v o H) (h1 : H s.heap)
    (h : ∀ h', IsEnum h' (s.heap.objs.size + 1) s.heap.objs.size 0 .none → h'.get? s.heap.objs.size = some o → (∀ b o, s.heap.get? b = some o → h'.get? b = some o) → Q (.ref (s.heap.objs.size + 1)) { s with heap := h' }) :
    wpAny (model prog w) A (call (.type "enumerate") [v]) Q E s := by
  refine callType_new F.called_enumerate (by decide) (F.typeCall_enumerate_1 _) (F.newCall_enumerate_1 _) (fun obj => F.args_object_init_2 obj _) F.entry_enumerate_new (ip_meets_enum1 B) ⟨h1, ?_⟩
  have hz : (s.heap.push o).objs.size = s.heap.objs.size + 1 := Heap.size_push ..
  have he : IsEnum ((s.heap.push o).push { cls := .type "enumerate", data := .fields #[.none, .bool false, .ref s.heap.objs.size, rawInt 0, .none, .none] }) (s.heap.objs.size + 1) s.heap.objs.size 0 .none := by
    have q := Heap.get?_push_size (s.heap.push o) (o := { cls := .type "enumerate", data := .fields #[.none, .bool false, .ref s.heap.objs.size, rawInt 0, .none, .none] }) rfl
    rw [hz] at q
    exact q
  show _ ∧ _
  rw [hz]
  exact ⟨⟨_, he, rfl⟩, h _ he (Heap.get?_push_of_some _ (Heap.get?_push_size _ B.free)) fun b o x => Heap.get?_push_of_some _ (Heap.get?_push_of_some _ x)⟩
end PySem
namespace Ip
open PySem PySem.Spec PyProof.Rows L2

/-! ### enumerate -/
def IteK (k : Bool) (K : PySem.W.Frag) (a : Addr) : It :=
  ⟨fun i H => ∃ (xs : List V) (x : V), SqK k K H a xs ∧ xs[i]? = some x, fun i H v H' => ∃ T x, v = .ref T ∧ H T = none ∧ H' = upd H T (.tup [.int (i : Nat), x]) ∧ ∀ xs, SqK k K H a xs → xs[i]? = some x,
    fun i H => ∃ xs : List V, SqK k K H a xs ∧ xs.length = i⟩
theorem enum_turn {k : Bool} {P : Program} {w : World} {K : PySem.W.Frag} {elts : List Expr} {kk : Nat} {tpos : Pos} {a e it : Addr} (n1 : e ≠ it) (n2 : e ≠ a) (n3 : a ≠ it) :
    Turn P w K (.Tuple elts kk tpos) (IteK k K a) [e, it] e (fun i h => (∃ old, IsEnum h e it (0 + ((i : Nat) : Int)) old) ∧ IterK k h it a i) where
  mem := by simp
  obj := fun i h st b hb => by
    obtain ⟨⟨old, he⟩, hi⟩ := st
    have e' : b = e ∨ b = it := by simpa using hb
    rcases e' with rfl | rfl
    · exact ⟨_, he, fun v q => nomatch q⟩
    · exact iterK_obj hi
  keep := fun i h h' st q => ⟨let ⟨old, he⟩ := st.1; ⟨old, q e (by simp) _ he⟩, iterK_at st.2 fun o z => q it (by simp) o z⟩
  item := by
    intro X hP hw hK hc i pins s σ H E I hf st hg
    subst hP hw hK
    obtain ⟨⟨old, he⟩, hi⟩ := st
    obtain ⟨xs, x, hq, hx⟩ := hg
    obtain ⟨its, rv, p⟩ := sqK_inv I hq
    obtain ⟨u, hu, ru⟩ := rv.get hx
    have hh : X.A.handled = none := I.ok.hd hc
    have G := GoesN.enumFrom (prog := X.prog) (w := X.w) (A := X.A) (elts := elts) (x1 := kk) (pos := tpos) 0 (drawsK (A := X.A.in1) k hh it a n3 its.toArray) e n1 (by simp [n1, n2]) (by simp)
    have l1 : i < its.toArray.size := by
      have := (List.getElem?_eq_some_iff.mp hu).1
      simpa using this
    refine thn (G.goes i s (fun v s2 => ∃ x' H', Inv X pins σ H' s2 ∧ RelV x' v ∧ (IteK k X.K a).yld i H x' H' ∧ ((∃ old, IsEnum s2.heap e it (0 + ((i + 1 : Nat) : Int)) old) ∧ IterK k s2.heap it a (i + 1)) ∧ ∀ b ∈ [e, it], H' b = none) E l1 ⟨⟨old, he⟩, hi, p⟩ fun v h' tk hY st' hk htk => ?_) fun r s1 hr => hr
    obtain ⟨T, t, w1, rfl, hT, e1, tT⟩ := hY
    obtain ⟨he', hi', _⟩ := st'
    have eu : w1 = u := Option.some.inj (e1.symm.trans (show its.toArray[i]? = some u by simpa using hu))
    subst eu
    have hTn : H T = none := I.hok.fresh hT
    rw [Int.zero_add] at tT
    have new : ObjOk X.prog X.w (upd H T (.tup [.int (i : Nat), x])) h' T (.tup [.int (i : Nat), x]) := ⟨by show 2 ≤ sizeLine; decide, [.int (i : Nat) t, w1], .cons ⟨_, rfl⟩ (.cons ru .nil), tT⟩
    have hlt : ∀ c ∈ [e, it], c < s.heap.objs.size := fun c hcm => by
      have e' : c = e ∨ c = it := by simpa using hcm
      rcases e' with rfl | rfl
      · exact Heap.lt_size he
      · obtain ⟨o, q, _⟩ := iterK_obj hi
        exact Heap.lt_size q
    have I1 : Inv X pins σ (upd H T (.tup [.int (i : Nat), x])) { s with heap := h', toks := tk } := I.turnedNew (ch := [e, it]) (fun c o hb q => hk c o hb q) hf hT new
    refine ⟨.ref T, _, I1, rfl, ⟨T, x, rfl, hTn, rfl, fun l hl => by rw [sqK_inj I hl hq]; exact hx⟩, ⟨he', hi'⟩, fun c hcm => ?_⟩
    rw [upd_ne (Nat.ne_of_lt (Nat.lt_of_lt_of_le (hlt c hcm) hT))]
    exact (hf c hcm).1
  done := by
    intro X hP hw hK hc i pins s σ H E I hf st hg
    subst hP hw hK
    obtain ⟨⟨old, he⟩, hi⟩ := st
    obtain ⟨xs, hq, hend⟩ := hg
    obtain ⟨its, rv, p⟩ := sqK_inv I hq
    have hh : X.A.handled = none := I.ok.hd hc
    have G := GoesN.enumFrom (prog := X.prog) (w := X.w) (A := X.A) (elts := elts) (x1 := kk) (pos := tpos) 0 (drawsK (A := X.A.in1) k hh it a n3 its.toArray) e n1 (by simp [n1, n2]) (by simp)
    have e : its.toArray.size = i := by
      have := rv.length
      simp only [List.size_toArray]
      omega
    refine G.stops s (fun s1 => Inv X pins σ H s1) E (by rw [e]; exact ⟨⟨old, he⟩, hi, p⟩) fun h' tk hk htk => ?_
    exact I.turnedL (ch := [_, it]) (fun c o hb q => hk c o hb q) hf
  self := fun A i s Q E st h => let ⟨_, he⟩ := st.1; wpAny_pyIter_enum he h

def iEnumK (K : PySem.W.Frag) (ta : TA) : TI := fun σ H R => ta σ H fun vs H1 => ∃ k a xs, vs = [.ref a] ∧ SqK k K H1 a xs ∧ R (IteK k K a) H1
def iZipK (K : PySem.W.Frag) (ta : TA) : TI := fun σ H R => ta σ H fun vs H1 => ∃ k1 k2 a b xs ys, vs = [.ref a, .ref b] ∧ SqK k1 K H1 a xs ∧ SqK k2 K H1 b ys ∧ R (ItzK k1 k2 K a b) H1
section
variable {X : Cx} {e e2 : Expr} {ta : TA} {p pos tpos : Pos} {elts : List Expr} {kk : Nat}
theorem pi_enumK (hg : Gl X "enumerate") (hm : X.mg "enumerate" = none) (ha : PA X [e] ta) (hs : starEach [e] X.env = [(false, eval e X.env)] := by rfl) : PI X (.Tuple elts kk tpos) (.Call (.Name "enumerate" p) [e] [] pos) (iEnumK X.K ta) := by
  refine ⟨fun pins s σ H R I h => ?_⟩
  refine Call_ (ld_blt I hg hm boot_enumerate (callWith_type1 (thn (ha.run pos pins s σ H _ I h) fun us s1 ⟨vs, H1, I1, r1, q1⟩ => ?_) hs rfl))
  obtain ⟨k, a, xs, rfl, hq, q⟩ := q1
  cases r1 with
  | cons r rr =>
    cases rr
    cases r
    obtain ⟨its, rv, p'⟩ := sqK_inv I1 hq
    have hal : a < s1.heap.objs.size := isSqK_lt p'
    refine ip_enum_begins (beginsK k a its.toArray) p' fun h' he hit hk => wpAny_pyIter_enum he ?_
    have I2 : Inv X pins σ H1 { s1 with heap := h' } := I1.kept (t' := s1.toks) hk
    refine ⟨s1.heap.objs.size + 1, [s1.heap.objs.size + 1, s1.heap.objs.size], _, _, H1, rfl, I2, enum_turn (k := k) (a := a) (Nat.succ_ne_self _) (Nat.ne_of_gt (Nat.lt_succ_of_lt hal)) (Nat.ne_of_lt hal), ⟨⟨.none, he⟩, iterK_new hit⟩, fun b hb => ?_, q⟩
    have e' : b = s1.heap.objs.size + 1 ∨ b = s1.heap.objs.size := by simpa using hb
    have hle : s1.heap.objs.size ≤ b := by
      rcases e' with z | z
      · rw [z]; exact Nat.le_succ _
      · rw [z]; exact Nat.le_refl _
    exact I1.fpOk hle (I1.hok.fresh hle)
theorem pi_zipK (hg : Gl X "zip") (hm : X.mg "zip" = none) (ha : PA X [e, e2] ta) (hs : starEach [e, e2] X.env = (false, eval e X.env) :: starEach [e2] X.env := by rfl) (hpl : (backTo pos (starEach [e2] X.env)).any (·.1) = false := by rfl) :
    PI X (.Tuple elts kk tpos) (.Call (.Name "zip" p) [e, e2] [] pos) (iZipK X.K ta) := by
  refine ⟨fun pins s σ H R I h => ?_⟩
  refine Call_ (ld_blt I hg hm boot_zip (callWith_type1 (thn (ha.run pos pins s σ H _ I h) fun us s1 ⟨vs, H1, I1, r1, q1⟩ => ?_) hs hpl))
  obtain ⟨k1, k2, a, b, xs, ys, rfl, hqx, hqy, q⟩ := q1
  cases r1 with
  | cons r rr =>
    cases rr with
    | cons r' rr =>
      cases rr
      cases r
      cases r'
      obtain ⟨its, rv, p1⟩ := sqK_inv I1 hqx
      obtain ⟨its2, rv2, p2⟩ := sqK_inv I1 hqy
      have la := isSqK_lt p1
      have lb := isSqK_lt p2
      refine zip_begins2 (beginsK k1 a its.toArray) (beginsK k2 b its2.toArray) p1 p2 fun h' hz hTI hTO h1 h2 hsz hk => wpAny_pyIter_zip hz ?_
      have I2 : Inv X pins σ H1 { s1 with heap := h' } := I1.kept (t' := s1.toks) hk
      have hca : ∀ c ∈ [a], c < s1.heap.objs.size := by
        intro c hc
        have e : c = a := by simpa using hc
        rw [e]; exact la
      have hcb : ∀ c ∈ [b], c < s1.heap.objs.size := by
        intro c hc
        have e : c = b := by simpa using hc
        rw [e]; exact lb
      have D : ZipAt (s1.heap.objs.size + 4) (s1.heap.objs.size + 2) (s1.heap.objs.size + 3) s1.heap.objs.size (s1.heap.objs.size + 1) a b :=
        ⟨zip_sep2 (N := s1.heap.objs.size) (fp1 := [a]) (fp2 := [b]) hca hcb, Nat.ne_of_lt la, Nat.ne_of_lt (Nat.lt_succ_of_lt lb)⟩
      refine ⟨s1.heap.objs.size + 4, [s1.heap.objs.size + 4, s1.heap.objs.size + 2, s1.heap.objs.size + 3, s1.heap.objs.size, s1.heap.objs.size + 1], _, _, H1, rfl, I2, goes_turn (k1 := k1) (k2 := k2) D, ⟨hz, hTI, ⟨_, _, hTO⟩, iterK_new h1, iterK_new h2⟩, fun c hcm => ?_, q⟩
      have e' : c = s1.heap.objs.size + 4 ∨ c = s1.heap.objs.size + 2 ∨ c = s1.heap.objs.size + 3 ∨ c = s1.heap.objs.size ∨ c = s1.heap.objs.size + 1 := by simpa using hcm
      have hle : s1.heap.objs.size ≤ c := by
        rcases e' with z | z | z | z | z
        · rw [z]; exact Nat.le_add_right _ _
        · rw [z]; exact Nat.le_add_right _ _
        · rw [z]; exact Nat.le_add_right _ _
        · rw [z]; exact Nat.le_refl _
        · rw [z]; exact Nat.le_add_right _ _
      exact I1.fpOk hle (I1.hok.fresh hle)
end

/-! ### over the store -/
def lkOf (p : PV) (xs : List PV) : Lk := match p with
  | .ref n => [(n, xs)]
  | _ => []
theorem sqK_of {K : PySem.W.Frag} {ρ0 : List Addr} {S0 : Store} {H0 : Hp} {p : PV} {x : V} {xs : List PV} (s0 : Sim K ρ0 S0 H0) (r : Rv K ρ0 H0 p x) (h : itemsOf p S0 = some xs) :
    ∃ k a, x = .ref a ∧ (∃ vs, SqK k K H0 a vs) ∧ ∀ ρ S H, Ext K ρ0 H0 ρ H → Sim K ρ S H → lkOk (lkOf p xs) S = true → ∃ vs, SqK k K H a vs ∧ Rvs K ρ H xs vs := by
  cases p with
  | tup ys =>
    cases h
    simp only [Rv] at r
    obtain ⟨a, vs, e, h1, h2⟩ := r
    exact ⟨false, a, e, ⟨vs, h1⟩, fun ρ S H x _ _ => ⟨vs, x.tup a vs h1, Rvs.mono x _ _ h2⟩⟩
  | frl ys =>
    cases h
    simp only [Rv] at r
    obtain ⟨a, vs, e, h1, h2⟩ := r
    exact ⟨true, a, e, ⟨vs, h1.sq⟩, fun ρ S H x _ _ => ⟨vs, (x.fr a vs h1).sq, Rvs.mono x _ _ h2⟩⟩
  | ref n =>
    obtain ⟨a, h1, e⟩ := r
    simp only [itemsOf] at h
    split at h
    · rename_i ys hn
      cases h
      obtain ⟨vs, h2, h3⟩ := s0.obj n _ a hn h1
      refine ⟨true, a, e, ⟨vs, SqL.of h2⟩, fun ρ S H x s l => ?_⟩
      obtain ⟨ws, g1, g2⟩ := s.obj n _ a (lk_one.mp l) (x.pre n a h1)
      exact ⟨ws, SqL.of g1, g2⟩
    · cases h
  | _ => cases h
def iEnum' (me : MA) : MI := m2 me fun ps _ S => match ps with
  | [p] => (itemsOf p S).map fun xs => ((xs.zipIdx.map fun e => .tup [.int (e.2 : Nat), e.1], lkOf p xs), S)
  | _ => none
def iZip' (me : MA) : MI := m2 me fun ps _ S => match ps with
  | [p, q] => (itemsOf p S).bind fun xs => (itemsOf q S).map fun ys => ((List.zipWith (fun a b => .tup [a, b]) xs ys, lkOf p xs ++ lkOf q ys), S)
  | _ => none
theorem lk_app {a b : Lk} {S : Store} : lkOk (a ++ b) S = true ↔ lkOk a S = true ∧ lkOk b S = true := by
  simp only [lkOk, List.all_append, Bool.and_eq_true]
section
variable {X : Cx} {tg e : Expr} {me : MA}
theorem deni_enum (hp : PI X tg e (iEnumK X.K (rdA X.K me))) : DenI X tg e (iEnum' me) := PI.imp hp fun σ H R h => by
  obtain ⟨ρ, σp, S, st, r, S', hm, k⟩ := h
  obtain ⟨ps, S1, h1, hm⟩ := m2_some hm
  split at hm
  · rename_i p
    obtain ⟨xs, h2, h3⟩ := Option.map_eq_some_iff.mp hm
    cases h3
    refine ⟨ρ, σp, S, st, _, _, h1, fun ρ1 us H1 x1 sm1 rv1 => ?_⟩
    obtain ⟨x, rfl, rx⟩ := rv1.one_of
    obtain ⟨kd, a, rfl, ⟨vs, hv⟩, get⟩ := sqK_of sm1 rx h2
    refine ⟨kd, a, vs, rfl, hv, k ρ1 _ H1 x1 sm1 ?_⟩
    have hlen : (xs.zipIdx.map fun e => PV.tup [.int (e.2 : Nat), e.1]).length = xs.length := by simp
    refine ⟨fun i ρ2 S2 H2 x2 sm2 l hi => ?_, fun ρ2 S2 H2 x2 sm2 l => ?_⟩
    · rw [hlen] at hi
      obtain ⟨ws, g1, g2⟩ := get ρ2 S2 H2 x2 sm2 l
      have hi' : i < ws.length := by rw [g2.length]; exact hi
      refine ⟨⟨ws, ws[i], g1, List.getElem?_eq_getElem hi'⟩, fun y H3 hy => ?_⟩
      obtain ⟨T, z, rfl, hT, rfl, hz⟩ := hy
      obtain ⟨pz, hpz, rz⟩ := g2.get' (hz ws g1)
      refine ⟨.tup [.int (i : Nat), pz], ?_, ext_new hT, sm2.laid hT, ?_⟩
      · rw [List.getElem?_map, List.getElem?_zipIdx, hpz]
        simp
      · simp only [Rv]
        exact ⟨T, _, rfl, .inl (.inl upd_same), ⟨_, _, rfl, rfl, _, _, rfl, Rv.mono (ext_new hT) _ _ rz, rfl⟩⟩
    · obtain ⟨ws, g1, g2⟩ := get ρ2 S2 H2 x2 sm2 l
      exact ⟨ws, g1, by rw [hlen, g2.length]⟩
  · cases hm
theorem deni_zip (hp : PI X tg e (iZipK X.K (rdA X.K me))) : DenI X tg e (iZip' me) := PI.imp hp fun σ H R h => by
  obtain ⟨ρ, σp, S, st, r, S', hm, k⟩ := h
  obtain ⟨ps, S1, h1, hm⟩ := m2_some hm
  split at hm
  · rename_i p q
    obtain ⟨xs, h2, h3⟩ := Option.bind_eq_some_iff.mp hm
    obtain ⟨ys, h4, h5⟩ := Option.map_eq_some_iff.mp h3
    cases h5
    refine ⟨ρ, σp, S, st, _, _, h1, fun ρ1 us H1 x1 sm1 rv1 => ?_⟩
    obtain ⟨x, y, rfl, rx, ry⟩ := rv1.two_of
    obtain ⟨k1, a, rfl, ⟨vs, hv⟩, get1⟩ := sqK_of sm1 rx h2
    obtain ⟨k2, b, rfl, ⟨us, hu⟩, get2⟩ := sqK_of sm1 ry h4
    refine ⟨k1, k2, a, b, vs, us, rfl, hv, hu, k ρ1 _ H1 x1 sm1 ?_⟩
    have hlen : (List.zipWith (fun a b => PV.tup [a, b]) xs ys).length = min xs.length ys.length := by simp
    refine ⟨fun i ρ2 S2 H2 x2 sm2 l hi => ?_, fun ρ2 S2 H2 x2 sm2 l => ?_⟩
    · rw [hlen] at hi
      obtain ⟨l1, l2⟩ := lk_app.mp l
      obtain ⟨ws, g1, g2⟩ := get1 ρ2 S2 H2 x2 sm2 l1
      obtain ⟨zs, g3, g4⟩ := get2 ρ2 S2 H2 x2 sm2 l2
      have hi1 : i < ws.length := by rw [g2.length]; omega
      have hi2 : i < zs.length := by rw [g4.length]; omega
      refine ⟨⟨ws, zs, ws[i], zs[i], g1, g3, List.getElem?_eq_getElem hi1, List.getElem?_eq_getElem hi2⟩, fun y H3 hy => ?_⟩
      obtain ⟨T, z1, z2, rfl, hT, rfl, hz1, hz2⟩ := hy
      obtain ⟨p1, hp1, rz1⟩ := g2.get' (hz1 ws g1)
      obtain ⟨p2, hp2, rz2⟩ := g4.get' (hz2 zs g3)
      refine ⟨.tup [p1, p2], ?_, ext_new hT, sm2.laid hT, ?_⟩
      · rw [List.getElem?_zipWith, hp1, hp2]
      · simp only [Rv]
        exact ⟨T, _, rfl, .inl (.inl upd_same), ⟨_, _, rfl, Rv.mono (ext_new hT) _ _ rz1, _, _, rfl, Rv.mono (ext_new hT) _ _ rz2, rfl⟩⟩
    · obtain ⟨l1, l2⟩ := lk_app.mp l
      obtain ⟨ws, g1, g2⟩ := get1 ρ2 S2 H2 x2 sm2 l1
      obtain ⟨zs, g3, g4⟩ := get2 ρ2 S2 H2 x2 sm2 l2
      have e1 := g2.length
      have e2 := g4.length
      refine ⟨ws, zs, g1, g3, ?_⟩
      rw [show (List.zipWith (fun a b => PV.tup [a, b]) xs ys, lkOf p xs ++ lkOf q ys).fst.length = min xs.length ys.length from hlen, ← e1, ← e2]
      omega
  · cases hm
end
end Ip
set_option Elab.async false
set_option linter.all false
set_option maxRecDepth 100000
set_option maxHeartbeats 1000000
/-! Ip11: set comprehensions of whole numbers, dict comprehensions, sets that are sorted or counted at once. -/
namespace Ip
open PySem PySem.Spec PyProof.Rows L2

/-! ### the block of a set comprehension of whole numbers -/
abbrev SiO (w : World) (D : Addr) (ks : List Int) : HO := SetO w D (fun k => decide (k ∈ ks)) ks.length
def addI (ks : List Int) (k : Int) : List Int := if k ∈ ks then ks else ks ++ [k]
theorem siO_add {w : World} {D : Addr} {ks : List Int} {k : Int} : SetO w D (fun j => (fun i => decide (i ∈ ks)) j || decide (j = k)) (if (fun i => decide (i ∈ ks)) k = true then ks.length else ks.length + 1) = SiO w D (addI ks k) := by
  by_cases h : k ∈ ks
  · have e1 : addI ks k = ks := if_pos h
    have e2 : (fun j => (fun i => decide (i ∈ ks)) j || decide (j = k)) = fun j => decide (j ∈ ks) := funext fun j => by
      by_cases e : j = k
      · subst e; simp [h]
      · simp [e]
    rw [e2, if_pos (by simpa using h), e1]
  · have e1 : addI ks k = ks ++ [k] := if_neg h
    have e2 : (fun j => (fun i => decide (i ∈ ks)) j || decide (j = k)) = fun j => decide (j ∈ ks ++ [k]) := funext fun j => by simp
    rw [e2, if_neg (by simpa using h), e1]
    show _ = SetO w D (fun j => decide (j ∈ ks ++ [k])) (ks ++ [k]).length
    rw [List.length_append]
    rfl
/-- what one turn must hand on -/
def StepI (w : World) (g : TG) (tt : TT) (te : TE) (vs : List Nat) (σ : L2.St) (D : Addr) (x : V) (H : Hp) (Nx : Hp → Prop) : Prop :=
  g x (L2.wipe σ vs) H fun τ G => L2.wipe τ vs = L2.wipe σ vs ∧ tt τ G fun b G1 => if b = true then te τ G1 fun y G2 => ∃ (c : Int) (ks : List Int), y = .int c ∧ G2 D = some (SiO w D ks) ∧ ks.length + 1 < scanBound ∧ Nx (upd G2 D (SiO w D (addI ks c))) else Nx G1
def tSi (w : World) (wi : TI) (g : TG) (tt : TT) (te : TE) (vs : List Nat) : TE := fun σ H Q => wi σ H fun J H1 => ∀ D, H1 D = none →
  ∃ W : Nat → Nat → Hp → Prop, (∃ m, W 0 m (upd H1 D (SiO w D []))) ∧ ∀ i m G, W i m G → (J.stop i G ∧ Q (.ref D) G) ∨ (J.go i G ∧ ∃ Nx : Hp → Prop, (∀ G', Nx G' → ∃ m', m' < m ∧ W (i + 1) m' G') ∧ ∀ x G', J.yld i G x G' → StepI w g tt te vs σ D x G' Nx)
section
variable {X : Cx}
theorem addI_ok {pins : List (Addr × Obj)} {τ : L2.St} {G : Hp} {s : Shared} {E : Value → Shared → Prop} {D : Addr} {ks : List Int} {c : Int} {v : Value} {Q : Value → Shared → Prop} (I : Inv X pins τ G s) (hD : G D = some (SiO X.w D ks)) (room : ks.length + 1 < scanBound) (rv : RelV (.int c) v)
    (k : ∀ s', Inv X pins τ (upd G D (SiO X.w D (addI ks c))) s' → Q .none s') : wpAny (model X.prog X.w) X.A (call (.builtin "set.add") [.ref D, v]) Q E s := by
  obtain ⟨t, rfl⟩ := rv
  refine setR_add (setO_get I hD) room fun h' same fresh => ?_
  obtain ⟨o, es, ep, tb, ho, more⟩ := fresh
  have J := I.write (e := D) (t' := s.toks + 1) (by rw [hD]; trivial) (.inl rfl) (fun b u hb hu => (same.2 b hb).trans hu) ⟨o, ho⟩ (setO_new ⟨o, es, ep, tb, ho, more⟩)
  rw [siO_add] at J
  exact k _ J
theorem si_core {pins : List (Addr × Obj)} {s : Shared} {σ : L2.St} {H : Hp} {Q : VK} {elt tg it : Expr} {ifs : List Expr} {sc : Scope} {own : List (PySem.Str × Nat)} {p p' : Pos} {wi : TI} {g : TG} {tt : TT} {te : TE}
    (calm : X.calm = true) (nd : X.N.Nodup) (I : Inv X pins σ H s) (hi : PI X tg it wi) (ok : BlkOk X.N X.env.scope sc own)
    (hg : ∀ s H C cl fp, PG (X.blk s H sc (compEnvC sc cl C X.env) fp) tg g) (ht : ∀ s H C cl fp, PTs (X.blk s H sc (compEnvC sc cl C X.env) fp) ifs tt) (he : ∀ s H C cl fp, PE (X.blk s H sc (compEnvC sc cl C X.env) fp) elt te)
    (plain : ∀ x, foldedSetIterable it X.env x = pure x) (h : tSi X.w wi g tt te (own.map (·.2)) σ H Q) :
    wpAny (model X.prog X.w) X.A (comprehension (.SetComp elt [⟨tg, it, ifs, 0⟩] sc p) sc X.env p' (newSet (.type "set")) false (eval it X.env) none) (EP X pins σ Q) X.xe s := by
  have owned : ∀ y ∈ sc.names, y.2 = .free → ∃ c, X.env.cells.lookup y.1 = some c := fun y hy e => (ok.free y hy e).elim (fun z => I.ok.has _ (.inl z)) fun z => I.ok.has _ (.inr z)
  refine wpAny_comprehension_free (use := none) rfl plain (closure_ok owned) ok.kind (fun y hy e => by rw [ok.uniq y hy, e]) (thn (hi.run pins s σ H _ I h) fun xv s1 hx => thn hx fun iv s2 h2 => ?_)
  obtain ⟨ia, fp, tn, J, H2, rfl, I2, T, on2, foot2, q⟩ := h2
  refine PpSet.newSet_ok (newEnv_comp ?_)
  have gone : H2 s2.heap.objs.size = none := I2.hok.fresh (Nat.le_refl _)
  obtain ⟨W, ⟨m0, start⟩, turn⟩ := q _ gone
  generalize hD : s2.heap.objs.size = D at gone turn start
  generalize hO : ({ cls := .type "set", dict := none, data := .set #[] 0 (.fresh 0 0 (!X.w.params.followText "set-order")) } : Obj) = O
  have I3 : Inv X pins σ (upd H2 D (SiO X.w D [])) { s2 with heap := s2.heap.push O } := by
    refine I2.laid (t' := s2.toks) (fun b o e => Heap.get?_push_of_some _ e) (Nat.le_of_eq hD) ?_
    rw [← hD, ← hO]
    have z := setO_new (P := X.prog) (H := upd H2 s2.heap.objs.size (SiO X.w s2.heap.objs.size [])) (setR_fresh (h := s2.heap) X.w)
    have e : SiO X.w s2.heap.objs.size [] = SetO X.w s2.heap.objs.size (fun _ => false) 0 := by
      have z0 : (fun k : Int => decide (k ∈ ([] : List Int))) = fun _ => false := funext fun k => by simp
      show SetO X.w _ (fun k : Int => decide (k ∈ ([] : List Int))) 0 = _
      rw [z0]
    rw [e] at z ⊢
    exact z
  generalize hs3 : ({ s2 with heap := s2.heap.push O } : Shared) = s3 at I3
  have h3 : s3.heap = s2.heap.push O := by rw [← hs3]
  generalize hG3 : upd H2 D (SiO X.w D []) = G3 at I3 start
  have foot3 : ∀ b ∈ fp, FpOk X pins G3 b ∧ b < s3.heap.objs.size := fun b hb => by
    obtain ⟨o, e, _⟩ := T.obj _ _ on2 b hb
    have lt := Heap.lt_size e
    refine ⟨⟨?_, (foot2 b hb).2⟩, by rw [h3, Heap.size_push]; exact Nat.lt_succ_of_lt lt⟩
    rw [← hG3, upd_ne (by rw [← hD]; exact Nat.ne_of_lt lt)]
    exact (foot2 b hb).1
  have on3 : tn 0 s3.heap := T.keep _ _ _ on2 fun b _ o e => by rw [h3]; exact Heap.get?_push_of_some _ e
  have I4 := block_start I3 ok nd foot3
  have kg := hg s3 G3 s3.heap.objs.size (cellsFrom (s3.heap.objs.size + 1) sc.names (cloFrom X.env.cells sc.names [])) fp
  have kt := ht s3 G3 s3.heap.objs.size (cellsFrom (s3.heap.objs.size + 1) sc.names (cloFrom X.env.cells sc.names [])) fp
  have ke := he s3 G3 s3.heap.objs.size (cellsFrom (s3.heap.objs.size + 1) sc.names (cloFrom X.env.cells sc.names [])) fp
  have bare3 : ∀ b ∈ fp, G3 b = none := fun b hb => (foot3 b hb).1.1
  show codeAny _ _ (.compStart (.SetComp elt [⟨tg, it, ifs, 0⟩] sc p) 0 (.ref ia) (.ref D) (compEnvC sc (cellsFrom (s3.heap.objs.size + 1) sc.names (cloFrom X.env.cells sc.names [])) s3.heap.objs.size X.env)) (compPost (model X.prog X.w) X.A X.xe none (EP X pins σ Q) (.ref D) s3.heap.objs.size)
    { s3 with heap := pushCells (s3.heap.push { cls := .type "dict", data := .dict #[] }) sc.names }
  generalize hce : compEnvC sc (cellsFrom (s3.heap.objs.size + 1) sc.names (cloFrom X.env.cells sc.names [])) s3.heap.objs.size X.env = ce at I4 kg kt ke ⊢
  have loc : ce.locals = s3.heap.objs.size := by subst hce; rfl
  generalize hs4 : ({ s3 with heap := pushCells (s3.heap.push { cls := .type "dict", data := .dict #[] }) sc.names } : Shared) = s4 at I4 ⊢
  have on4 : tn 0 s4.heap := T.keep _ _ _ on3 fun b _ o e => by rw [← hs4]; exact pushCells_keeps _ _ _ _ (Heap.get?_push_of_some _ e)
  have at_foot : ∀ {τ : L2.St} {G : Hp} {s' : Shared}, Inv (X.blk s3 G3 sc ce fp) [] τ G s' → (∀ b ∈ fp, G b = none) → ∀ b ∈ fp, FpOk (X.blk s3 G3 sc ce fp) [] G b := fun {τ G s'} J0 none0 b hb => by
    exact ⟨none0 b hb, (J0.ok.exf b hb).1, J0.ok.exfs b hb, .inl hb, fun x c e => (J0.ok.exf b hb).2 x c e, fun q hq => absurd (show q ∈ ([] : List (Addr × Obj)) ++ [] from hq) (by simp)⟩
  have loop : codeAny (model X.prog X.w) X.A (.compLoop (.SetComp elt [⟨tg, it, ifs, 0⟩] sc p) 0 (.ref ia) (.ref D) ce) (compPost (model X.prog X.w) X.A X.xe none (EP X pins σ Q) (.ref D) s3.heap.objs.size) s4 := by
    refine PpSet.compLoopS_any (fun n s' => ∃ i G, Inv (X.blk s3 G3 sc ce fp) [] (L2.wipe σ (own.map (·.2))) G s' ∧ tn i s'.heap ∧ (∀ b ∈ fp, G b = none) ∧ W i n G) ?_ m0 ⟨0, G3, I4, on4, bare3, start⟩
    rintro n s5 ⟨i, G5, I5, on5, bare5, w5⟩
    rcases turn i n G5 w5 with ⟨halt, done⟩ | ⟨go, Nx, down, step⟩
    · have last := T.done (X.blk s3 G3 sc ce fp) rfl rfl rfl calm i [] s5 _ G5 (fun _ _ => False) I5 (at_foot I5 bare5) on5 halt
      refine thnF last fun r s6 ⟨hr, I6⟩ => ?_
      subst hr
      have I7 : Inv X pins σ G5 s6 := I3.call' (ch := fp) I6.os I6.base I6.hok I6.bare fun b hb => ⟨(foot3 b hb).1.2.2.2.1, (foot3 b hb).1.2.1, (foot3 b hb).1.2.2.2.2.1, (foot3 b hb).1.2.2.2.2.2⟩
      have noC : G5 s3.heap.objs.size = none := by
        have z : G5 ce.locals = none := I6.free
        rwa [loc] at z
      obtain ⟨m, ns, _⟩ := I6.loc
      have ns : s6.heap.Ns ce.locals m := ns
      rw [loc] at ns
      obtain ⟨f0, f1, f2, f3, f4, f5⟩ := I3.fpOk (Nat.le_refl _) noC
      exact ⟨m, ns, fun h'' sb => ⟨.ref D, G5, I7.turned (t' := s6.toks) (fun b o hb e => (sb.2 b hb).trans e) f0 f1 f3 f4 f5, rfl, done⟩⟩
    · have one := T.item (X.blk s3 G3 sc ce fp) rfl rfl rfl calm i [] s5 _ G5 (fun _ _ => False) I5 (at_foot I5 bare5) on5 go
      refine thnF one fun r s6 ⟨u, hr, h6⟩ => ?_
      subst hr
      refine thnF h6 fun _ s7 ⟨x, G7, I7, r7, y7, on7, bare7⟩ => ?_
      have P7 := I7.pinned (at_foot I7 bare7) (T.obj _ _ on7)
      refine thnF (kg.run _ s7 _ G7 x u _ P7 r7 (step x G7 y7)) fun _ s8 ⟨τ, G8, I8, keep8, q8⟩ => ?_
      refine thnF (kt.run _ s8 τ G8 _ I8 q8) fun b s9 ⟨G9, I9, q9⟩ => ?_
      have close : ∀ {s' : Shared} {G : Hp}, Inv (X.blk s3 G3 sc ce fp) ([] ++ pinsAt fp s7.heap) τ G s' → Nx G → ∃ m, m < n ∧ ∃ i G, Inv (X.blk s3 G3 sc ce fp) [] (L2.wipe σ (own.map (·.2))) G s' ∧ tn i s'.heap ∧ (∀ b ∈ fp, G b = none) ∧ W i m G := fun {s' G} J1 nx => by
        obtain ⟨m', less, w'⟩ := down G nx
        have same : ∀ b ∈ fp, ∀ o, s7.heap.get? b = some o → s'.heap.get? b = some o ∧ G b = none := fun b hb o e =>
          have z := J1.pin (b, o) (List.mem_append_right _ (List.mem_append_right _ (mem_pinsAt hb e)))
          ⟨z.1, z.2.1⟩
        have len : (L2.wipe σ (own.map (·.2))).length = τ.length := by rw [← keep8, wipe_length]
        refine ⟨m', less, i + 1, G, (J1.unpinned (pins := [])).weak len (fun j v e => ?_), T.keep _ _ _ on7 fun b hb o e => (same b hb o e).1, fun b hb => ?_, w'⟩
        · rw [← keep8] at e
          exact (wipe_some e).1
        · obtain ⟨o, e, _⟩ := T.obj _ _ on7 b hb
          exact (same b hb o e).2
      cases b with
      | false =>
        simp only [Bool.false_eq_true, if_false] at q9 ⊢
        exact close I9 q9
      | true =>
        simp only [if_true] at q9 ⊢
        refine thnF (ke.run _ s9 τ G9 _ I9 q9) fun z s10 ⟨y, G10, I10, r10, c, ks, ey, atD, room, nx⟩ => ?_
        subst ey
        exact addI_ok (X := X.blk s3 G3 sc ce fp) I10 atD room r10 fun s11 I11 => close I11 nx
  exact PpSet.codeAny_compStart_set loop (T.self X.A 0 _ _ _ on4 loop)
end
end Ip
set_option Elab.async false
set_option linter.all false
set_option maxRecDepth 100000
set_option maxHeartbeats 1000000
/-! Ip12: set and dict comprehensions over the store; a set sorted, a set counted. -/
namespace Ip
open PySem PySem.Spec PyProof.Rows L2

theorem pe_si {X : Cx} {elt tg it : Expr} {ifs : List Expr} {sc : Scope} {own : List (PySem.Str × Nat)} {p : Pos} {wi : TI} {g : TG} {tt : TT} {te : TE} (calm : X.calm = true) (nd : X.N.Nodup) (hi : PI X tg it wi) (ok : BlkOk X.N X.env.scope sc own)
    (hg : ∀ s H C cl fp, PG (X.blk s H sc (compEnvC sc cl C X.env) fp) tg g) (ht : ∀ s H C cl fp, PTs (X.blk s H sc (compEnvC sc cl C X.env) fp) ifs tt) (he : ∀ s H C cl fp, PE (X.blk s H sc (compEnvC sc cl C X.env) fp) elt te)
    (plain : ∀ x, foldedSetIterable it X.env x = pure x := by intro _; rfl) : PE X (.SetComp elt [⟨tg, it, ifs, 0⟩] sc p) (tSi X.w wi g tt te (own.map (·.2))) := by
  refine ⟨fun pins s σ H Q I h => ?_⟩
  rw [PpSet.eval_SetComp]
  exact si_core calm nd I hi ok hg ht he plain h

/-! ### over the store -/
def szS (ks : List Int) : Bool := decide (ks.length < 60)
theorem szS_lt {ks : List Int} (h : szS ks = true) : ks.length + 1 < scanBound := by
  have := of_decide_eq_true h
  show _ < 4096
  omega
def isSt (o : Option Ob) : Option (Bool × List Int) := match o with
  | some (.st f ks) => some (f, ks)
  | _ => none
theorem isSt_some {o : Option Ob} {f : Bool} {ks : List Int} (h : isSt o = some (f, ks)) : o = some (.st f ks) := by
  unfold isSt at h
  split at h
  · cases h; rfl
  · cases h
def asInt : PV → Option Int
  | .int i => some i
  | _ => none
theorem asInt_some {p : PV} {c : Int} (h : asInt p = some c) : p = .int c := by
  cases p <;> first | (cases h; rfl) | cases h
def siM (f : Bool) (g : MG) (t : MT) (e : ME) (lk : Lk) (n : Nat) (σ : PEnv) : List PV → Store → MR Unit
  | [], S => if lkOk lk S then some ((), S) else none
  | x :: xs, S => if lkOk lk S then (g x σ S).bind fun a => (t a.1 a.2).bind fun b => if b.1 then (e a.1 b.2).bind fun y => (asInt y.1).bind fun c => (isSt y.2[n]?).bind fun fk => if (fk.1 == f && szS fk.2) = true then siM f g t e lk n σ xs (y.2.set n (.st fk.1 (addI fk.2 c))) else none
      else siM f g t e lk n σ xs b.2
    else none
def mSi (f : Bool) (i : MI) (g : MG) (t : MT) (e : ME) (vs : List Nat) : ME := m2 i fun r σ S => (siM f g t e r.2 S.length (wipeP σ vs) r.1 (S ++ [.st f []])).map fun z => (.ref S.length, z.2)
theorem addI_nodup {ks : List Int} {c : Int} (h : ks.Nodup) : (addI ks c).Nodup := by
  unfold addI
  split
  · exact h
  · rename_i hc
    rw [List.nodup_append]
    refine ⟨h, by simp, fun a ha b hb e => hc ?_⟩
    simp only [List.mem_singleton] at hb
    rw [← hb, ← e]
    exact ha
theorem siO_eq {w w' : World} {D : Addr} {ks : List Int} (h : w.params.followText "set-order" = w'.params.followText "set-order") : SiO w D ks = SiO w' D ks := by
  show HO.ext _ = HO.ext _
  congr 1
  funext hh
  unfold SetR
  rw [h]
section
variable {K : PySem.W.Frag} {mi : MI} {g : MG} {mt : MT} {me mk mv : ME} {is vs : List Nat} {w : World} {f : Bool}
theorem rd_si (hf : w.params.followText "set-order" = f) (his : ∀ i ∈ is, i ∈ vs) {σ : L2.St} {H : Hp} {Q : VK} (h : rdE K (mSi f mi g mt me vs) σ H Q) : tSi w (rdI K mi) (rdG K is g) (rdT K mt) (rdE K me) vs σ H Q := by
  obtain ⟨ρ, σp, S, st, v, S', hm, k⟩ := h
  obtain ⟨⟨items, lk⟩, S1, h1, hm⟩ := m2_some hm
  obtain ⟨⟨fin, S9⟩, h2, h3⟩ := Option.map_eq_some_iff.mp hm
  cases h3
  refine ⟨ρ, σp, S, st, _, S1, h1, fun ρ1 J H1 x1 sm1 wk D hD => ?_⟩
  have ex1 : Ext K ρ1 H1 (ρ1 ++ [D]) (upd H1 D (SiO w D [])) := (ext_new hD).trans Ext.grow
  have sm0 : Sim K (ρ1 ++ [D]) (S1 ++ [.st f []]) (upd H1 D (SiO w D [])) := sm1.new hD ⟨List.nodup_nil, w, hf, upd_same⟩
  have sl : Slots K ρ H (wipeP σp vs) (L2.wipe σ vs) := st.slots.wipe vs
  refine ⟨fun i m H => ∃ ρ2 S2, Ext K ρ1 H1 ρ2 H ∧ Sim K ρ2 S2 H ∧ ρ2[S1.length]? = some D ∧ i ≤ items.length ∧ m = items.length - i ∧ siM f g mt me lk S1.length (wipeP σp vs) (items.drop i) S2 = some ((), S9), ⟨items.length, ρ1 ++ [D], _, ex1, sm0, new_at sm1, Nat.zero_le _, rfl, h2⟩, ?_⟩
  rintro i m H2 ⟨ρ2, S2, x2, sm2, hD2, hi, rfl, hm2⟩
  by_cases hlt : i < items.length
  · obtain ⟨p, hp, hd⟩ := drop_lt hlt
    rw [hd] at hm2
    simp only [siM] at hm2
    split at hm2
    · rename_i hl
      obtain ⟨⟨σ3, S3⟩, h3, hm3⟩ := Option.bind_eq_some_iff.mp hm2
      obtain ⟨⟨b, S4⟩, h4, hm4⟩ := Option.bind_eq_some_iff.mp hm3
      obtain ⟨go, yl⟩ := wk.turn i ρ2 S2 H2 x2 sm2 hl hlt
      refine .inr ⟨go, fun H => ∃ ρ2 S2, Ext K ρ1 H1 ρ2 H ∧ Sim K ρ2 S2 H ∧ ρ2[S1.length]? = some D ∧ siM f g mt me lk S1.length (wipeP σp vs) (items.drop (i + 1)) S2 = some ((), S9), ?_, fun y H3 hy => ?_⟩
      · rintro H' ⟨ρ3, S3, q1, q2, q3, q4⟩
        exact ⟨items.length - (i + 1), by omega, ρ3, S3, q1, q2, q3, hlt, rfl, q4⟩
      · obtain ⟨q, hq, x3, sm3, rv3⟩ := yl y H3 hy
        rw [hp] at hq
        cases hq
        have x13 : Ext K ρ H ρ2 H3 := (x1.trans x2).trans x3
        refine ⟨ρ2, wipeP σp vs, S2, p, ⟨sm3, sl.mono x13⟩, rv3, σ3, S3, h3, fun ρ4 σ4 H4 x4 st4 b4 => ⟨b4.wipe his, ?_⟩⟩
        refine ⟨ρ4, σ3, S3, st4, b, S4, h4, fun ρ5 H5 x5 sm5 => ?_⟩
        have x25 : Ext K ρ2 H2 ρ5 H5 := (x3.trans x4).trans x5
        cases b with
        | true =>
          refine iteT ?_
          simp only [if_true] at hm4
          obtain ⟨⟨z, S5⟩, h5, hm5⟩ := Option.bind_eq_some_iff.mp hm4
          obtain ⟨c, hc, hm6⟩ := Option.bind_eq_some_iff.mp hm5
          obtain ⟨⟨f', ks⟩, hk, hm7⟩ := Option.bind_eq_some_iff.mp hm6
          simp only at hm7 hk hc
          clear hm5 hm6
          have ez := asInt_some hc
          subst ez
          split at hm7
          · rename_i hs
            refine ⟨ρ5, σ3, S4, ⟨sm5, st4.slots.mono x5⟩, _, S5, h5, fun ρ6 u H6 x6 sm6 rv6 => ?_⟩
            have hD6 : ρ6[S1.length]? = some D := (x25.trans x6).pre _ _ hD2
            obtain ⟨nd, w', ew, g1⟩ := sm6.obj _ _ D (isSt_some hk) hD6
            cases rv6
            have ef : f' = f := eq_of_beq (Bool.and_eq_true_iff.mp hs).1
            have g2 : H6 D = some (SiO w D ks) := by
              rw [g1]
              exact congrArg some (siO_eq (by rw [ew, hf, ef]))
            obtain ⟨sm7, x7⟩ := sm6.put (o := SiO w D (addI ks c)) (ob := .st f' (addI ks c)) hD6 ⟨addI_nodup nd, w, by rw [hf, ef], upd_same⟩
            exact ⟨c, ks, rfl, g2, szS_lt (Bool.and_eq_true_iff.mp hs).2, ρ6, _, ((x2.trans x25).trans x6).trans x7, sm7, hD6, hm7⟩
          · cases hm7
        | false =>
          refine iteF ?_
          simp only [Bool.false_eq_true, if_false] at hm4
          exact ⟨ρ5, S4, x2.trans x25, sm5, x25.pre _ _ hD2, hm4⟩
    · cases hm2
  · have e : i = items.length := by omega
    subst e
    rw [List.drop_length] at hm2
    simp only [siM] at hm2
    split at hm2
    · rename_i hl
      cases hm2
      exact .inl ⟨wk.stop ρ2 _ H2 x2 sm2 hl, k ρ2 _ H2 (x1.trans x2) sm2 ⟨D, hD2, rfl⟩⟩
    · cases hm2

/-! ### dicts -/
def putP (kvs : List (Key × PV)) (k : Key) (v : PV) : List (Key × PV) :=
  if (kvs.any fun e => decide (e.1 = k)) = true then kvs.map (fun e => if e.1 = k then (e.1, v) else e) else kvs ++ [(k, v)]
theorem Rkv.any {ρ : List Addr} {H : Hp} {k : Key} : ∀ {ps : List (Key × PV)} {xs : List (Key × V)}, Rkv K ρ H ps xs → (xs.any fun e => decide (e.1 = k)) = ps.any fun e => decide (e.1 = k)
  | [], xs, h => by
    simp only [Rkv] at h
    subst h
    rfl
  | (j, q) :: ps, xs, h => by
    simp only [Rkv] at h
    obtain ⟨v, r, rfl, _, h2⟩ := h
    simp only [List.any_cons, Rkv.any h2]
theorem Rkv.len {ρ : List Addr} {H : Hp} : ∀ {ps : List (Key × PV)} {xs : List (Key × V)}, Rkv K ρ H ps xs → xs.length = ps.length
  | [], xs, h => by
    simp only [Rkv] at h
    subst h
    rfl
  | (j, q) :: ps, xs, h => by
    simp only [Rkv] at h
    obtain ⟨v, r, rfl, _, h2⟩ := h
    simp only [List.length_cons, Rkv.len h2]
theorem Rkv.app {ρ : List Addr} {H : Hp} {k : Key} {p : PV} {x : V} (hx : Rv K ρ H p x) : ∀ {ps : List (Key × PV)} {xs : List (Key × V)}, Rkv K ρ H ps xs → Rkv K ρ H (ps ++ [(k, p)]) (xs ++ [(k, x)])
  | [], xs, h => by
    simp only [Rkv] at h
    subst h
    exact ⟨x, [], rfl, hx, rfl⟩
  | (j, q) :: ps, xs, h => by
    simp only [Rkv] at h
    obtain ⟨v, r, rfl, h1, h2⟩ := h
    exact ⟨v, _, rfl, h1, Rkv.app hx h2⟩
theorem Rkv.over {ρ : List Addr} {H : Hp} {k : Key} {p : PV} {x : V} (hx : Rv K ρ H p x) : ∀ {ps : List (Key × PV)} {xs : List (Key × V)}, Rkv K ρ H ps xs → Rkv K ρ H (ps.map fun e => if e.1 = k then (e.1, p) else e) (xs.map fun e => if e.1 = k then (e.1, x) else e)
  | [], xs, h => by
    simp only [Rkv] at h
    subst h
    rfl
  | (j, q) :: ps, xs, h => by
    simp only [Rkv] at h
    obtain ⟨v, r, rfl, h1, h2⟩ := h
    simp only [List.map_cons]
    by_cases e : j = k
    · simp only [e, if_true]
      exact ⟨x, _, rfl, hx, Rkv.over hx h2⟩
    · simp only [e, if_false]
      exact ⟨v, _, rfl, h1, Rkv.over hx h2⟩
theorem Rkv.putP {ρ : List Addr} {H : Hp} {k : Key} {p : PV} {x : V} {ps : List (Key × PV)} {xs : List (Key × V)} (h : Rkv K ρ H ps xs) (hx : Rv K ρ H p x) : Rkv K ρ H (putP ps k p) (putK xs k x) := by
  unfold Ip.putP putK
  rw [h.any]
  split
  · exact Rkv.over hx h
  · exact Rkv.app hx h
def isDk (o : Option Ob) : Option (List (Key × PV)) := match o with
  | some (.dk kvs) => some kvs
  | _ => none
theorem isDk_some {o : Option Ob} {kvs : List (Key × PV)} (h : isDk o = some kvs) : o = some (.dk kvs) := by
  unfold isDk at h
  split at h
  · cases h; rfl
  · cases h
def szK (ks : List (Key × PV)) : Bool := decide (ks.length < 1000)
theorem szK_lt {ks : List (Key × PV)} (h : szK ks = true) : ks.length < sizeLine := by
  have := of_decide_eq_true h
  rw [sizeLine_eq]
  omega
def dcM (g : MG) (t : MT) (ek ev : ME) (lk : Lk) (n : Nat) (σ : PEnv) : List PV → Store → MR Unit
  | [], S => if lkOk lk S then some ((), S) else none
  | x :: xs, S => if lkOk lk S then (g x σ S).bind fun a => (t a.1 a.2).bind fun b => if b.1 then (ek a.1 b.2).bind fun y => (ev a.1 y.2).bind fun z => (keyOf y.1).bind fun c => (isDk z.2[n]?).bind fun kvs => if szK kvs then dcM g t ek ev lk n σ xs (z.2.set n (.dk (putP kvs c z.1))) else none
      else dcM g t ek ev lk n σ xs b.2
    else none
def mDc (i : MI) (g : MG) (t : MT) (ek ev : ME) (vs : List Nat) : ME := m2 i fun r σ S => (dcM g t ek ev r.2 S.length (wipeP σ vs) r.1 (S ++ [.dk []])).map fun z => (.ref S.length, z.2)
theorem rd_dc (his : ∀ i ∈ is, i ∈ vs) {σ : L2.St} {H : Hp} {Q : VK} (h : rdE K (mDc mi g mt mk mv vs) σ H Q) : tDc (rdI K mi) (rdG K is g) (rdT K mt) (rdE K mk) (rdE K mv) vs σ H Q := by
  obtain ⟨ρ, σp, S, st, v, S', hm, k⟩ := h
  obtain ⟨⟨items, lk⟩, S1, h1, hm⟩ := m2_some hm
  obtain ⟨⟨fin, S9⟩, h2, h3⟩ := Option.map_eq_some_iff.mp hm
  cases h3
  refine ⟨ρ, σp, S, st, _, S1, h1, fun ρ1 J H1 x1 sm1 wk D hD => ?_⟩
  have ex1 : Ext K ρ1 H1 (ρ1 ++ [D]) (upd H1 D (.dK [])) := (ext_new hD).trans Ext.grow
  have sm0 : Sim K (ρ1 ++ [D]) (S1 ++ [.dk []]) (upd H1 D (.dK [])) := sm1.new hD ⟨[], upd_same, rfl⟩
  have sl : Slots K ρ H (wipeP σp vs) (L2.wipe σ vs) := st.slots.wipe vs
  refine ⟨fun i m H => ∃ ρ2 S2, Ext K ρ1 H1 ρ2 H ∧ Sim K ρ2 S2 H ∧ ρ2[S1.length]? = some D ∧ i ≤ items.length ∧ m = items.length - i ∧ dcM g mt mk mv lk S1.length (wipeP σp vs) (items.drop i) S2 = some ((), S9), ⟨items.length, ρ1 ++ [D], _, ex1, sm0, new_at sm1, Nat.zero_le _, rfl, h2⟩, ?_⟩
  rintro i m H2 ⟨ρ2, S2, x2, sm2, hD2, hi, rfl, hm2⟩
  by_cases hlt : i < items.length
  · obtain ⟨p, hp, hd⟩ := drop_lt hlt
    rw [hd] at hm2
    simp only [dcM] at hm2
    split at hm2
    · rename_i hl
      obtain ⟨⟨σ3, S3⟩, h3, hm3⟩ := Option.bind_eq_some_iff.mp hm2
      obtain ⟨⟨b, S4⟩, h4, hm4⟩ := Option.bind_eq_some_iff.mp hm3
      obtain ⟨go, yl⟩ := wk.turn i ρ2 S2 H2 x2 sm2 hl hlt
      refine .inr ⟨go, fun H => ∃ ρ2 S2, Ext K ρ1 H1 ρ2 H ∧ Sim K ρ2 S2 H ∧ ρ2[S1.length]? = some D ∧ dcM g mt mk mv lk S1.length (wipeP σp vs) (items.drop (i + 1)) S2 = some ((), S9), ?_, fun y H3 hy => ?_⟩
      · rintro H' ⟨ρ3, S3, q1, q2, q3, q4⟩
        exact ⟨items.length - (i + 1), by omega, ρ3, S3, q1, q2, q3, hlt, rfl, q4⟩
      · obtain ⟨q, hq, x3, sm3, rv3⟩ := yl y H3 hy
        rw [hp] at hq
        cases hq
        have x13 : Ext K ρ H ρ2 H3 := (x1.trans x2).trans x3
        refine ⟨ρ2, wipeP σp vs, S2, p, ⟨sm3, sl.mono x13⟩, rv3, σ3, S3, h3, fun ρ4 σ4 H4 x4 st4 b4 => ⟨b4.wipe his, ?_⟩⟩
        refine ⟨ρ4, σ3, S3, st4, b, S4, h4, fun ρ5 H5 x5 sm5 => ?_⟩
        have x25 : Ext K ρ2 H2 ρ5 H5 := (x3.trans x4).trans x5
        cases b with
        | true =>
          refine iteT ?_
          simp only [if_true] at hm4
          obtain ⟨⟨y0, S5⟩, h5, hm5⟩ := Option.bind_eq_some_iff.mp hm4
          obtain ⟨⟨z0, S6⟩, h6, hm6⟩ := Option.bind_eq_some_iff.mp hm5
          obtain ⟨c, hc, hm7⟩ := Option.bind_eq_some_iff.mp hm6
          obtain ⟨kvs, hk, hm8⟩ := Option.bind_eq_some_iff.mp hm7
          simp only at hm8 hk hc h6
          clear hm5 hm6 hm7
          split at hm8
          · rename_i hs
            refine ⟨ρ5, σ3, S4, ⟨sm5, st4.slots.mono x5⟩, _, S5, h5, fun ρ6 u H6 x6 sm6 rv6 => ?_⟩
            refine ⟨ρ6, σ3, S5, ⟨sm6, st4.slots.mono (x5.trans x6)⟩, _, S6, h6, fun ρ7 u7 H7 x7 sm7 rv7 => ?_⟩
            have hD7 : ρ7[S1.length]? = some D := ((x25.trans x6).trans x7).pre _ _ hD2
            obtain ⟨vv, g1, g2⟩ := sm7.obj _ _ D (isDk_some hk) hD7
            have ek := keyOf_rv hc rv6
            have exx : Ext K ρ7 H7 ρ7 (upd H7 D (.dK (putK vv c u7))) := ext_put g1 (fun _ z => nomatch z) (fun _ _ z => nomatch z)
            obtain ⟨sm8, x8⟩ := sm7.put (o := .dK (putK vv c u7)) (ob := .dk (putP kvs c z0)) hD7 ⟨putK vv c u7, upd_same, Rkv.mono exx _ _ (g2.putP rv7)⟩
            exact ⟨vv, c, ek, g1, by rw [g2.len]; exact szK_lt hs, ρ7, _, (((x2.trans x25).trans x6).trans x7).trans x8, sm8, hD7, hm8⟩
          · cases hm8
        | false =>
          refine iteF ?_
          simp only [Bool.false_eq_true, if_false] at hm4
          exact ⟨ρ5, S4, x2.trans x25, sm5, x25.pre _ _ hD2, hm4⟩
    · cases hm2
  · have e : i = items.length := by omega
    subst e
    rw [List.drop_length] at hm2
    simp only [dcM] at hm2
    split at hm2
    · rename_i hl
      cases hm2
      exact .inl ⟨wk.stop ρ2 _ H2 x2 sm2 hl, k ρ2 _ H2 (x1.trans x2) sm2 ⟨D, hD2, rfl⟩⟩
    · cases hm2
end

/-! ### sorted, len -/
def insI (k : Int) : List Int → List Int
  | [] => [k]
  | x :: xs => if k < x then k :: x :: xs else if k = x then x :: xs else x :: insI k xs
def srtI (ks : List Int) : List Int := ks.foldr insI []
theorem mem_insI {k j : Int} : ∀ {xs : List Int}, j ∈ insI k xs ↔ j = k ∨ j ∈ xs
  | [] => by simp [insI]
  | x :: xs => by
    unfold insI
    split
    · simp
    · split
      · rename_i h
        subst h
        simp
      · simp only [List.mem_cons, mem_insI]
        exact ⟨fun h => h.elim (fun a => .inr (.inl a)) fun h => h.elim .inl fun b => .inr (.inr b), fun h => h.elim (fun a => .inr (.inl a)) fun h => h.elim .inl fun b => .inr (.inr b)⟩
theorem insI_sorted {k : Int} : ∀ {xs : List Int}, xs.Pairwise (· < ·) → (insI k xs).Pairwise (· < ·)
  | [], _ => by simp [insI]
  | x :: xs, h => by
    have hx : ∀ a ∈ xs, x < a := fun a ha => List.rel_of_pairwise_cons h ha
    unfold insI
    split
    · rename_i hk
      refine .cons (fun a ha => ?_) h
      rcases List.mem_cons.mp ha with e | e
      · rw [e]; exact hk
      · exact Int.lt_trans hk (hx _ e)
    · split
      · exact h
      · rename_i h1 h2
        refine .cons (fun a ha => ?_) (insI_sorted h.of_cons)
        rcases mem_insI.mp ha with e | e
        · rw [e]; omega
        · exact hx _ e
theorem mem_srtI {j : Int} : ∀ {ks : List Int}, j ∈ srtI ks ↔ j ∈ ks
  | [] => by simp [srtI]
  | k :: ks => by
    show j ∈ insI k (srtI ks) ↔ _
    rw [mem_insI, mem_srtI, List.mem_cons]
theorem srtI_sorted : ∀ {ks : List Int}, (srtI ks).Pairwise (· < ·)
  | [] => .nil
  | k :: ks => insI_sorted (srtI_sorted (ks := ks))
theorem sorted_ext : ∀ {xs ys : List Int}, xs.Pairwise (· < ·) → ys.Pairwise (· < ·) → (∀ j, j ∈ xs ↔ j ∈ ys) → xs = ys
  | [], [], _, _, _ => rfl
  | [], y :: ys, _, _, h => nomatch ((h y).mpr (List.mem_cons_self ..))
  | x :: xs, [], _, _, h => nomatch ((h x).mp (List.mem_cons_self ..))
  | x :: xs, y :: ys, hx, hy, h => by
    have px : ∀ a ∈ xs, x < a := fun a ha => List.rel_of_pairwise_cons hx ha
    have py : ∀ a ∈ ys, y < a := fun a ha => List.rel_of_pairwise_cons hy ha
    have e : x = y := by
      rcases List.mem_cons.mp ((h x).mp (List.mem_cons_self ..)) with a | a
      · exact a
      · rcases List.mem_cons.mp ((h y).mpr (List.mem_cons_self ..)) with b | b
        · exact b.symm
        · have := px _ b
          have := py _ a
          omega
    subst e
    congr 1
    refine sorted_ext hx.of_cons hy.of_cons fun j => ⟨fun m => ?_, fun m => ?_⟩
    · rcases List.mem_cons.mp ((h j).mp (List.mem_cons_of_mem _ m)) with a | a
      · have := px _ m
        omega
      · exact a
    · rcases List.mem_cons.mp ((h j).mpr (List.mem_cons_of_mem _ m)) with a | a
      · have := py _ m
        omega
      · exact a
def stOf (p : PV) (S : Store) : Option (Bool × List Int) := match p with
  | .ref n => isSt S[n]?
  | _ => none
def vSortS (f : Bool) : VL := fun ps S => match ps with
  | [p] => (stOf p S).bind fun fk => if (fk.1 == f && szS fk.2) = true then some (.ref S.length, S ++ [.lst ((srtI fk.2).map .int)]) else none
  | _ => none
def vLenS (f : Bool) : VL := fun ps S => match ps with
  | [p] => (stOf p S).bind fun fk => if (fk.1 == f && szS fk.2) = true then some (.int fk.2.length, S) else none
  | _ => none
theorem st_of {K : PySem.W.Frag} {ρ : List Addr} {H : Hp} {S : Store} {w : World} {f f' : Bool} {p : PV} {x : V} {ks : List Int} (hw : w.params.followText "set-order" = f) (s : Sim K ρ S H) (r : Rv K ρ H p x) (h : stOf p S = some (f', ks)) (hf : (f' == f) = true) : ∃ a, x = .ref a ∧ ks.Nodup ∧ H a = some (SiO w a ks) := by
  cases p with
  | ref n =>
    obtain ⟨a, h1, rfl⟩ := r
    obtain ⟨nd, w', h2, h3⟩ := s.obj n _ a (isSt_some h) h1
    refine ⟨a, rfl, nd, ?_⟩
    rw [h3]
    exact congrArg some (siO_eq (by rw [h2, hw, eq_of_beq hf]))
  | _ => cases h
theorem rvs_ints {K : PySem.W.Frag} {ρ : List Addr} {H : Hp} : ∀ {ns : List Int}, Rvs K ρ H (ns.map PV.int) (ns.map V.int)
  | [] => rfl
  | n :: ns => ⟨_, _, rfl, rfl, rvs_ints⟩
theorem snd_sortS {K : PySem.W.Frag} {w : World} {f : Bool} (hw : w.params.followText "set-order" = f) : SndL K (rSortedSet w) (vSortS f) := by
  intro ρ S H ps xs v S' Q s r hf k
  unfold vSortS at hf
  split at hf
  · rename_i p
    obtain ⟨⟨f', ks⟩, h1, h2⟩ := Option.bind_eq_some_iff.mp hf
    simp only at h2
    split at h2
    · rename_i hs
      cases h2
      obtain ⟨x, rfl, rx⟩ := r.one_of
      obtain ⟨a, rfl, nd, ha⟩ := st_of hw s rx h1 (Bool.and_eq_true_iff.mp hs).1
      have hl : ks.length < 60 := of_decide_eq_true (Bool.and_eq_true_iff.mp hs).2
      refine ⟨a, _, _, rfl, ha, by omega, fun ns q hp hm hlen hq => ?_⟩
      have e : ns = srtI ks := sorted_ext hp srtI_sorted fun j => by rw [mem_srtI, hm]; simp
      subst e
      exact k (ρ ++ [q]) _ _ ((ext_new hq).trans Ext.grow) (s.new hq ⟨_, upd_same, rvs_ints⟩) ⟨q, new_at s, rfl⟩
    · cases h2
  · cases hf
def rLenS (w : World) : List V → Hp → VK → Prop := fun vs H Q => ∃ (a : Addr) (ks : List Int), vs = [V.ref a] ∧ H a = some (SiO w a ks) ∧ ks.length < 60 ∧ Q (.int (ks.length : Nat)) H
theorem cr_lenS {X : Cx} : CallR X (.builtin "len") (rLenS X.w) := by
  intro pins s σ H vs us Q I r h
  obtain ⟨a, ks, rfl, ha, hl, q⟩ := h
  obtain ⟨o, es, ep, t, ho, hex, hd, _, _, _, hb, hf, hn, _⟩ := setO_get I ha
  rw [Vals.ref1 r]
  refine call_len_set ho hex hd hf (by rw [hn] <;> omega) ⟨.int (ks.length : Nat), H, I.tok _, ⟨_, by rw [hn]⟩, q⟩
theorem snd_lenS {K : PySem.W.Frag} {w : World} {f : Bool} (hw : w.params.followText "set-order" = f) : SndL K (rLenS w) (vLenS f) := by
  intro ρ S H ps xs v S' Q s r hf k
  unfold vLenS at hf
  split at hf
  · rename_i p
    obtain ⟨⟨f', ks⟩, h1, h2⟩ := Option.bind_eq_some_iff.mp hf
    simp only at h2
    split at h2
    · rename_i hs
      cases h2
      obtain ⟨x, rfl, rx⟩ := r.one_of
      obtain ⟨a, rfl, nd, ha⟩ := st_of hw s rx h1 (Bool.and_eq_true_iff.mp hs).1
      exact ⟨a, ks, rfl, ha, of_decide_eq_true (Bool.and_eq_true_iff.mp hs).2, k ρ _ H Ext.refl s rfl⟩
    · cases h2
  · cases hf
section
variable {X : Cx} {e : Expr} {mi : MI} {g : MG} {mt : MT} {me mk mv : ME} {is vs : List Nat} {f : Bool}
theorem den_si (hw : X.w.params.followText "set-order" = f) (hp : PE X e (tSi X.w (rdI X.K mi) (rdG X.K is g) (rdT X.K mt) (rdE X.K me) vs)) (his : ∀ i ∈ is, i ∈ vs) : Den X e (mSi f mi g mt me vs) := PE.imp hp fun _ _ _ h => rd_si hw his h
theorem den_dc (hp : PE X e (tDc (rdI X.K mi) (rdG X.K is g) (rdT X.K mt) (rdE X.K mk) (rdE X.K mv) vs)) (his : ∀ i ∈ is, i ∈ vs) : Den X e (mDc mi g mt mk mv vs) := PE.imp hp fun _ _ _ h => rd_dc his h
end
end Ip
set_option Elab.async false
set_option linter.all false
set_option maxRecDepth 100000
set_option maxHeartbeats 1000000
/-! Ip13: tuples of whole numbers by rank; range with a step. -/
namespace Ip
open PySem PySem.Spec PyProof.Rows L2

def rankLe : List Int → List Int → Bool
  | [], _ => true
  | _ :: _, [] => false
  | x :: xs, y :: ys => if x = y then rankLe xs ys else decide (x ≤ y)
theorem rankLe_at : ∀ (xs ys : List Int) (k : Nat), (∀ j, k ≤ j → True) → ∀ {ns ms : List Int}, ns.drop k = xs → ms.drop k = ys → k ≤ ns.length → k ≤ ms.length →
    _root_.Ob.lexAt (fun j => decide (ns.getD j 0 = ms.getD j 0)) (fun j => decide (ns.getD j 0 ≤ ms.getD j 0)) (decide (ns.length ≤ ms.length)) k (min ns.length ms.length - k) = rankLe xs ys
  | [], ys, k, _, ns, ms, h1, h2, l1, l2 => by
    have e : ns.length = k := by
      have := congrArg List.length h1
      simp at this
      omega
    rw [show min ns.length ms.length - k = 0 by omega]
    show decide (ns.length ≤ ms.length) = true
    rw [decide_eq_true_eq]
    omega
  | x :: xs, [], k, _, ns, ms, h1, h2, l1, l2 => by
    have e : ms.length = k := by
      have := congrArg List.length h2
      simp at this
      omega
    have e2 : k < ns.length := by
      have := congrArg List.length h1
      simp at this
      omega
    rw [show min ns.length ms.length - k = 0 by omega]
    show decide (ns.length ≤ ms.length) = false
    rw [decide_eq_false_iff_not]
    omega
  | x :: xs, y :: ys, k, _, ns, ms, h1, h2, l1, l2 => by
    have e1 : k < ns.length := by
      have := congrArg List.length h1
      simp at this
      omega
    have e2 : k < ms.length := by
      have := congrArg List.length h2
      simp at this
      omega
    have g1 : ns.getD k 0 = x := by
      have := congrArg (·[0]?) h1
      simp only [List.getElem?_drop, Nat.add_zero, List.getElem?_cons_zero] at this
      rw [List.getD_eq_getElem?_getD, this]
      rfl
    have g2 : ms.getD k 0 = y := by
      have := congrArg (·[0]?) h2
      simp only [List.getElem?_drop, Nat.add_zero, List.getElem?_cons_zero] at this
      rw [List.getD_eq_getElem?_getD, this]
      rfl
    have d1 : ns.drop (k + 1) = xs := by
      rw [← List.drop_drop, h1]
      rfl
    have d2 : ms.drop (k + 1) = ys := by
      rw [← List.drop_drop, h2]
      rfl
    rw [show min ns.length ms.length - k = (min ns.length ms.length - (k + 1)) + 1 by omega, _root_.Ob.lexAt_succ]
    simp only [g1, g2, rankLe]
    by_cases e : x = y
    · simp only [e, decide_true, if_true]
      exact rankLe_at xs ys (k + 1) (fun _ _ => trivial) d1 d2 e1 e2
    · simp only [e, decide_false, Bool.false_eq_true, if_false]
def tupI : PV → Option (List Int)
  | .tup xs => intsOf xs
  | _ => none
theorem tupI_rv {K : PySem.W.Frag} {ρ : List Addr} {H : Hp} {p : PV} {x : V} {ns : List Int} (h : tupI p = some ns) (r : Rv K ρ H p x) : ∃ a, x = .ref a ∧ SqT K H a (ns.map V.int) := by
  cases p with
  | tup xs =>
    simp only [Rv] at r
    obtain ⟨a, vs, rfl, h1, h2⟩ := r
    rw [ints_rv h h2] at h1
    exact ⟨a, rfl, h1⟩
  | _ => cases h
def vRankLe : V2 := fun p q S => (tupI p).bind fun ns => (tupI q).map fun ms => (.bl (rankLe ns ms), S)
theorem snd_rankLe {K : PySem.W.Frag} : Snd2 K (rLeT K) vRankLe := by
  intro ρ S H p q x y v S' Q s rx ry hm k
  obtain ⟨ns, h1, hm⟩ := Option.bind_eq_some_iff.mp hm
  obtain ⟨ms, h2, h3⟩ := Option.map_eq_some_iff.mp hm
  cases h3
  obtain ⟨a, rfl, ha⟩ := tupI_rv h1 rx
  obtain ⟨b, rfl, hb⟩ := tupI_rv h2 ry
  refine ⟨a, b, ns, ms, rfl, rfl, ha, hb, ?_⟩
  have e := rankLe_at ns ms 0 (fun _ _ => trivial) (ns := ns) (ms := ms) rfl rfl (Nat.zero_le _) (Nat.zero_le _)
  rw [Nat.sub_zero] at e
  rw [e]
  exact k ρ _ H Ext.refl s rfl
section
variable {X : Cx} {a b tg e : Expr} {ma mb : ME} {pos : Pos}
theorem den_rankLe (hu : X.A.units < cLine) (ha : Den X a ma) (hb : Den X b mb) (hm : behindInMarks .LtE b = false) : Den X (.Compare a [.LtE] [b] pos) (mOp vRankLe ma mb) := den_cmp (op_leT hu) snd_rankLe ha hb hm

instance {i j c : Int} {n : Nat} : Decidable (RgC i j c n) := by unfold RgC; infer_instance
def stepP (lo c : Int) (n : Nat) : List PV := (List.range n).map fun i => .int (lo + (i : Nat) * c)
def iRange3 (me : MA) : MI := m2 me fun ps _ S => match ps with
  | [.int i, .int j, .int c] => if RgC i j c (Builtin.Range.rangeSize i j c).toNat then some ((stepP i c (Builtin.Range.rangeSize i j c).toNat, []), S) else none
  | _ => none
theorem step_walks {K : PySem.W.Frag} {ρ : List Addr} {H : Hp} {lo c : Int} {n : Nat} {lk : Lk} : Walks' K ρ H (Itc lo c n) (stepP lo c n) lk := by
  have hl : (stepP lo c n).length = n := by simp [stepP]
  refine ⟨fun i ρ1 S H1 x s l hi => ⟨by rw [hl] at hi; exact hi, fun y H2 hy => ?_⟩, fun ρ1 S H1 x s l => by rw [hl]; exact Nat.le_refl n⟩
  obtain ⟨e, hx⟩ := hy
  subst e
  rw [hl] at hi
  exact ⟨.int (lo + (i : Nat) * c), by simp [stepP, hi], Ext.refl, s, hx⟩
theorem deni_range3 {ma : MA} (hp : PI X tg e (iRng3 (rdA X.K ma))) : DenI X tg e (iRange3 ma) := PI.imp hp fun σ H R h => by
  obtain ⟨ρ, σp, S, st, r, S', hm, k⟩ := h
  obtain ⟨ps, S1, h2, hm⟩ := m2_some hm
  split at hm
  · rename_i i j c
    split at hm
    · rename_i hj
      cases hm
      refine ⟨ρ, σp, S, st, _, _, h2, fun ρ1 xs H1 x1 sm1 rv1 => ?_⟩
      simp only [Rvs, Rv] at rv1
      obtain ⟨x, r1, rfl, rfl, y, r2, rfl, rfl, z, r3, rfl, rfl, rfl⟩ := rv1
      exact ⟨i, j, c, _, rfl, hj, k ρ1 _ H1 x1 sm1 step_walks⟩
    · cases hm
  · cases hm
end

end Ip
set_option Elab.async false
set_option linter.all false
set_option maxRecDepth 100000
set_option maxHeartbeats 1000000
/-! Ip14: the script handed to the law; the end of a row. -/
namespace Ip
open PySem PySem.Spec PyProof.Rows L2

theorem sim_none {K : PySem.W.Frag} {H : Hp} : Sim K [] [] H := ⟨rfl, fun n m a h => by simp at h, fun n o a h => by simp at h⟩
theorem ask_law {K : PySem.W.Frag} {H : Hp} {a : Addr} {ns : List Int} {m : MF} {S' : Store} (hf : FrL K H a (ns.map V.int)) (hm : m [.frl (ns.map .int)] [] = some (.bl true, S')) : spM K 1 m [.ref a] H fun v _ => v = .bl true := by
  refine ⟨[], [], [.frl (ns.map .int)], rfl, sim_none, ?_, .bl true, S', hm, fun ρ v H1 x sm r => r⟩
  refine ⟨_, [], rfl, ?_, rfl⟩
  simp only [Rv]
  exact ⟨a, _, rfl, hf, rvs_ints⟩
/-- only the script may be tracked -/
def justA (a : Addr) (b : Bool) (o : Obj) (xs : List V) : Hp := fun c => if b = true ∧ c = a then some (.frz o (.lst xs)) else none
theorem justA_at {a c : Addr} {b : Bool} {o : Obj} {xs : List V} {u : HO} (h : justA a b o xs c = some u) : b = true ∧ c = a ∧ u = .frz o (.lst xs) := by
  unfold justA at h
  split at h
  · rename_i z
    cases h
    exact ⟨z.1, z.2, rfl⟩
  · cases h
section
variable {P : Program} {w : World} {K : PySem.W.Frag} {mg mb : Str → Option Value} {k : Nat} {fa a : Addr} {fd : FuncData} {x : Str} {s : Shared} {vs : List Value} {ns : List Int}
abbrev Won (s : Shared) : Result → Shared → Prop := fun r s' => r = .ok (.ret (.bool true)) ∧ OldK s.heap s'.heap ∧ s'.os = s.os ∧ AllBare s'.gens
theorem law_G {sp : SpG} (KX : K.In s.heap) (hns : s.heap.Ns mainGlobals mg) (hb : s.heap.Ns builtinsNs mb) (boot : ∀ x : Str, x ≠ "__name__" → mb x = bootBuiltins x) (lim : s.heap.NoLimit) (gens : s.gens = #[])
    (ha : s.heap.get? a = some { cls := .type "list", data := .seq vs.toArray }) (hi : IntsAre vs ns) (few : ns.length ≤ sizeLine) (room : Room k callerA)
    (F : ∀ base : Heap, K.In base → base.Ns mainGlobals mg → FnG P w K mg base k fa fd [x] sp) (hbind : ∀ (s : Shared) (u : Value), BindsTo s fd ⟨[u], []⟩ [(x, u)])
    (hsp : ∀ H : Hp, FrL K H a (ns.map V.int) → sp [.ref a] H fun v _ => v = .bl true) : codeAny (model P w) callerA (.call (.ref fa) ⟨[.ref a], []⟩) (Won s) s := by
  have items : Vals (ns.map V.int) vs := vals_ints hi
  generalize hO : ({ cls := .type "list", data := .seq vs.toArray } : Obj) = O at ha
  have key : ∀ b : Bool, (b = true → K.lookup a = none) → FrL K (justA a b O (ns.map V.int)) a (ns.map V.int) → codeAny (model P w) callerA (.call (.ref fa) ⟨[.ref a], []⟩) (Won s) s := fun b away hf => by
    generalize hH : justA a b O (ns.map V.int) = H at hf
    have only : ∀ {c : Addr} {u : HO}, H c = some u → b = true ∧ c = a ∧ u = .frz O (.lst (ns.map V.int)) := fun {c u} e => justA_at (hH ▸ e)
    have free : ∀ {c : Addr}, (∀ u, H c ≠ some u) → H c = none := fun {c} q => by
      cases e : H c with
      | none => rfl
      | some u => exact absurd e (q u)
    have nodict : ∀ {c : Addr} {o : Obj} {es : Array DictEntry} {ep : Nat}, s.heap.get? c = some o → o.data = .dict es ep → H c = none := fun {c o es ep} e d => free fun u q => by
      obtain ⟨_, rfl, _⟩ := only q
      rw [ha] at e
      cases e
      rw [← hO] at d
      cases d
    have ns_ : ∀ {c : Addr} {m : Str → Option Value}, s.heap.Ns c m → (hidT s.heap H).Ns c m := fun {c m} ⟨o, es, ep, e, d, r⟩ => ⟨o, es, ep, hidT_get e (nodict e d), d, r⟩
    have inK : K.In (hidT s.heap H) := fun c o e => hidT_get (KX c o e) (free fun u q => by
      obtain ⟨t, rfl, _⟩ := only q
      rw [away t] at e
      cases e)
    have good : HOk P w H s.heap := fun c u q => by
      obtain ⟨_, rfl, rfl⟩ := only q
      subst hO
      exact ⟨ha, by rw [List.length_map]; exact few, vs, _, items, ha⟩
    have env : Env0 P w K mg (hidT s.heap H) callerA [] s H :=
      ⟨rfl, ⟨inK, ns_ hns, ⟨mb, ns_ hb, boot⟩, let ⟨mc, h1, h2⟩ := lim; ⟨mc, ns_ h1, h2⟩⟩, fun c o e => of_hidT e, Nat.le_of_eq (hidT_size _ _), trivial, fun c hc => absurd (show c ∈ ([] : List Addr) from hc) (by simp), good, .of_eq gens⟩
    refine codeAny_mono ((F _ inK (ns_ hns)).run callerA [] s H ⟨[.ref a], []⟩ [.ref a] [.ref a] _ rfl room env (hbind s (.ref a)) (.cons rfl .nil) (hsp H hf)) fun r s' h => ?_
    cases r with
    | error e => exact h.elim
    | ok fl =>
      cases fl with
      | ret u =>
        obtain ⟨v, H', os, bare, un, good', rv, q⟩ := h
        have q' : v = .bl true := q
        subst q'
        obtain rfl : u = Value.bool true := rv
        refine ⟨rfl, OldK.of_keep fun c o e => ?_, os, bare⟩
        cases q : H c with
        | none => exact un.keep c o e q (fun z => absurd (show c ∈ ([] : List Addr) from z) (by simp)) (by simp)
        | some t =>
          obtain ⟨_, rfl, rfl⟩ := only q
          obtain ⟨e1, _⟩ := good' _ _ (un.frzs _ _ _ q)
          rw [ha] at e
          cases e
          exact e1
      | next => exact False.elim h
      | brk => exact False.elim h
      | cont => exact False.elim h
  cases e : K.lookup a with
  | none => exact key true (fun _ => e) (.inl ⟨O, if_pos ⟨rfl, rfl⟩⟩)
  | some o =>
    have e2 := KX a o e
    rw [ha] at e2
    cases e2
    subst hO
    exact key false (fun z => nomatch z) (.inr ⟨_, vs.toArray, _, e, rfl, rfl, rfl, by rw [List.size_toArray, hi.length]; exact few, by simpa using items⟩)
end
theorem walk_G {l : PySem.W.OpenLaw} {n k : Nat} {q : Program} {loose : List Str} {XP : (Str → Option Value) → Heap → Prop} {YP : World → Heap → Prop} {d : DefRec} {K : Params → PySem.W.Frag} {m : World → MF} {x : Str}
    (hn : l.most = some n) (hn2 : n ≤ sizeLine) (hdf : d.params.defaults = []) (room : Room k callerA) (hY : ∀ (w : World) (h : Heap), YP w h → (K w.params).In h)
    (F : ∀ (w : World) (mg : Str → Option Value) (fa : Addr) (h : Heap), (K w.params).In h → h.Ns mainGlobals mg → mg d.name = some (.ref fa) →
      ∃ fd : FuncData, (∀ (s : Shared) (u : Value), BindsTo s fd ⟨[u], []⟩ [(x, u)]) ∧ ∀ base : Heap, (K w.params).In base → base.Ns mainGlobals mg → FnG l.prog w (K w.params) mg base k fa fd [x] (spM (K w.params) 1 (m w)))
    (holds : ∀ (w : World) (ns : List Int), ns.length ≤ n → ∃ S', m w [.frl (ns.map .int)] [] = some (.bl true, S')) : PySem.W.WalkO q loose XP YP l.row.toRowW d [] (fun f vs => PySem.call f vs) := by
  refine Att.attach_call hn hdf fun w s₀ s₁ mg mb fa o pm cd doc a vs ns G Y ho hd hcd hmg hobj hints few hg => ?_
  obtain ⟨fd, hb, hF⟩ := F w mg fa _ (hY w _ Y) G.T.g hmg
  obtain ⟨S', hS⟩ := holds w ns few
  exact law_G (hY w _ Y) G.T.g G.T.b G.T.builtins G.T.nolimit hg hobj hints (Nat.le_trans few hn2) room hF hb fun H hf => ask_law hf hS
end Ip
set_option Elab.async false
set_option linter.all false
set_option maxRecDepth 100000
set_option maxHeartbeats 1000000
/-! Ip15: defs by their names, for texts that are printed. -/
namespace Ip
open PySem PySem.Spec PyProof.Rows L2

/-! ### the builtins by their names -/
theorem bt_abs : bootBuiltins "abs" = some (.builtin "abs") := by decide +kernel
theorem bt_all : bootBuiltins "all" = some (.builtin "all") := by decide +kernel
theorem bt_any : bootBuiltins "any" = some (.builtin "any") := by decide +kernel
theorem bt_divmod : bootBuiltins "divmod" = some (.builtin "divmod") := by decide +kernel
theorem bt_isinstance : bootBuiltins "isinstance" = some (.builtin "isinstance") := by decide +kernel
theorem bt_len : bootBuiltins "len" = some (.builtin "len") := by decide +kernel
theorem bt_max : bootBuiltins "max" = some (.builtin "max") := by decide +kernel
theorem bt_min : bootBuiltins "min" = some (.builtin "min") := by decide +kernel
theorem bt_repr : bootBuiltins "repr" = some (.builtin "repr") := by decide +kernel
theorem bt_sorted : bootBuiltins "sorted" = some (.builtin "sorted") := by decide +kernel
theorem bt_sum : bootBuiltins "sum" = some (.builtin "sum") := by decide +kernel
theorem bt_pow : bootBuiltins "pow" = some (.builtin "pow") := by decide +kernel
theorem bt_bool : bootBuiltins "bool" = some (.type "bool") := by decide +kernel
theorem bt_dict : bootBuiltins "dict" = some (.type "dict") := by decide +kernel
theorem bt_enumerate : bootBuiltins "enumerate" = some (.type "enumerate") := by decide +kernel
theorem bt_int : bootBuiltins "int" = some (.type "int") := by decide +kernel
theorem bt_list : bootBuiltins "list" = some (.type "list") := by decide +kernel
theorem bt_range : bootBuiltins "range" = some (.type "range") := by decide +kernel
theorem bt_reversed : bootBuiltins "reversed" = some (.type "reversed") := by decide +kernel
theorem bt_set : bootBuiltins "set" = some (.type "set") := by decide +kernel
theorem bt_str : bootBuiltins "str" = some (.type "str") := by decide +kernel
theorem bt_tuple : bootBuiltins "tuple" = some (.type "tuple") := by decide +kernel
theorem bt_zip : bootBuiltins "zip" = some (.type "zip") := by decide +kernel
/-! ### tests -/
section
variable {X : Cx} {a b : Expr} {ma mb : ME} {pos : Pos}
theorem dent_lt (ha : Den X a ma) (hb : Den X b mb) : DenT X (.Compare a [.Lt] [b] pos) (mTest (mOp vLt ma mb)) := dent_cmp op_lt (snd_I0 fun _ _ => ⟨rfl, rfl⟩) ha hb (nomark _)
theorem dent_le (ha : Den X a ma) (hb : Den X b mb) : DenT X (.Compare a [.LtE] [b] pos) (mTest (mOp vLe ma mb)) := dent_cmp op_le (snd_I0 fun _ _ => ⟨rfl, rfl⟩) ha hb (nomark _)
theorem dent_gt (ha : Den X a ma) (hb : Den X b mb) : DenT X (.Compare a [.Gt] [b] pos) (mTest (mOp vGt ma mb)) := dent_cmp op_gt (snd_I0 fun _ _ => ⟨rfl, rfl⟩) ha hb (nomark _)
theorem dent_ge (ha : Den X a ma) (hb : Den X b mb) : DenT X (.Compare a [.GtE] [b] pos) (mTest (mOp vGe ma mb)) := dent_cmp op_ge (snd_I0 fun _ _ => ⟨rfl, rfl⟩) ha hb (nomark _)
theorem dent_eq (hu : X.A.units + 64 < cLine) (ha : Den X a ma) (hb : Den X b mb) : DenT X (.Compare a [.Eq] [b] pos) (mTest (mOp (vEq false) ma mb)) := dent_cmp (op_eqD hu) snd_eqD ha hb (nomark _)
theorem dent_ne (hu : X.A.units + 64 < cLine) (ha : Den X a ma) (hb : Den X b mb) : DenT X (.Compare a [.NotEq] [b] pos) (mTest (mOp (vEq true) ma mb)) := dent_cmp (op_neD hu) snd_neD ha hb (nomark _)
theorem dent_rankLe (hu : X.A.units < cLine) (ha : Den X a ma) (hb : Den X b mb) : DenT X (.Compare a [.LtE] [b] pos) (mTest (mOp vRankLe ma mb)) := dent_cmp (op_leT hu) snd_rankLe ha hb (nomark _)
theorem dent_in (hu : X.A.units + 65 < cLine) (ha : Den X a ma) (hb : Den X b mb) (hm : behindInMarks .In b = false) : DenT X (.Compare a [.In] [b] pos) (mTest (mOp (vIn false) ma mb)) := dent_cmp (op_inA hu) snd_inA ha hb hm
theorem dent_notIn (hu : X.A.units + 65 < cLine) (ha : Den X a ma) (hb : Den X b mb) (hm : behindInMarks .NotIn b = false) : DenT X (.Compare a [.NotIn] [b] pos) (mTest (mOp (vIn true) ma mb)) := dent_cmp (op_notInA hu) snd_inA ha hb hm
theorem rd_inD {K : PySem.W.Frag} {σ : L2.St} {H : Hp} {Q : VK} {neg : Bool} (h : rdE K (mOp (vKey neg) ma mb) σ H Q) : rdE K ma σ H fun y H1 => rdE K mb σ H1 fun x H2 => ∃ a kk ov, x = .ref a ∧ y = kV kk ∧ DGet H2 a y ov ∧ Q (.bl (neg ^^ ov.isSome)) H2 := by
  obtain ⟨ρ, σp, S, st, v, S', hm, k⟩ := h
  obtain ⟨p, S1, e1, hm⟩ := m2_some hm
  obtain ⟨q, S2, e2, hm⟩ := m2_some hm
  obtain ⟨kk, h1, hm⟩ := Option.bind_eq_some_iff.mp hm
  obtain ⟨kvs, h2, h3⟩ := Option.map_eq_some_iff.mp hm
  cases h3
  refine ⟨ρ, σp, S, st, p, S1, e1, fun ρ1 x H1 x1 sm1 rv1 => ?_⟩
  refine ⟨ρ1, σp, S1, st.next x1 sm1, q, _, e2, fun ρ2 y H2 x2 sm2 rv2 => ?_⟩
  obtain ⟨d, vs, rfl, g1, g2⟩ := dict_rv sm2 rv2 h2
  have ex := keyOf_rv h1 rv1
  subst ex
  refine ⟨d, kk, valV vs kk, rfl, rfl, DGet.k g1, ?_⟩
  obtain ⟨i1, i2⟩ := get_rv (k := kk) g2
  cases e : getP kvs kk with
  | none =>
    rw [i2 e]
    rw [e] at k
    exact k ρ2 _ H2 (x1.trans x2) sm2 rfl
  | some w =>
    obtain ⟨v, e', _⟩ := i1 w e
    rw [e']
    rw [e] at k
    exact k ρ2 _ H2 (x1.trans x2) sm2 rfl
end

section
variable {X : Cx} {a b : Expr} {ma mb : ME} {pos : Pos}
theorem dent_inD (hu : X.A.units + 1 < cLine) (ha : Den X a ma) (hb : Den X b mb) (hm : behindInMarks .In b = false) : DenT X (.Compare a [.In] [b] pos) (mTest (mOp (vKey false) ma mb)) := PT.imp (pt_cmp (pc_din hu ha hb) hm) fun σ H Q h => by
  obtain ⟨ρ, σp, S, st, p, S1, e1, k1⟩ := rd_inD (rd_test h)
  refine ⟨ρ, σp, S, st, p, S1, e1, fun ρ1 y H1 x1 sm1 rv1 => ?_⟩
  obtain ⟨ρ0, σ0, S0, st0, q, S2, e2, k2⟩ := k1 ρ1 y H1 x1 sm1 rv1
  refine ⟨ρ0, σ0, S0, st0, q, S2, e2, fun ρ2 z H2 x2 sm2 rv2 => ?_⟩
  obtain ⟨d, kk, ov, ex, ey, dg, hq⟩ := k2 ρ2 z H2 x2 sm2 rv2
  rw [Bool.false_xor] at hq
  exact ⟨d, ov, ex, dg, hq⟩
theorem dent_notInD (hu : X.A.units + 1 < cLine) (ha : Den X a ma) (hb : Den X b mb) (hm : behindInMarks .NotIn b = false) : DenT X (.Compare a [.NotIn] [b] pos) (mTest (mOp (vKey true) ma mb)) := PT.imp (pt_cmp (pc_dnotin hu ha hb) hm) fun σ H Q h => by
  obtain ⟨ρ, σp, S, st, p, S1, e1, k1⟩ := rd_inD (rd_test h)
  refine ⟨ρ, σp, S, st, p, S1, e1, fun ρ1 y H1 x1 sm1 rv1 => ?_⟩
  obtain ⟨ρ0, σ0, S0, st0, q, S2, e2, k2⟩ := k1 ρ1 y H1 x1 sm1 rv1
  refine ⟨ρ0, σ0, S0, st0, q, S2, e2, fun ρ2 z H2 x2 sm2 rv2 => ?_⟩
  obtain ⟨d, kk, ov, ex, ey, dg, hq⟩ := k2 ρ2 z H2 x2 sm2 rv2
  rw [Bool.true_xor] at hq
  exact ⟨d, ov, ex, dg, by simpa using hq⟩
end
theorem Good.blk {X : Cx} {k : Nat} {s : Shared} {H : Hp} {sc : Scope} {ce : Env} {fp : List Addr} (g : Good X k) : Good (X.blk s H sc ce fp) k := ⟨g.guards, g.room⟩
/-! ### defs by their names -/
abbrev Ad (K : PySem.W.Frag) (x : Str) : Addr := He.fAd K (x, none)
/-- the def stands behind the top, under its own name -/
structure Dn (K : PySem.W.Frag) (mg : Str → Option Value) (x : Str) (st : Stmt) : Prop where
  fn : ∃ fd, Fun K x x st (Ad K x) fd
  at_ : mg x = some (.ref (Ad K x))
structure Pm (P : Program) (w : World) (K : PySem.W.Frag) (mg : Str → Option Value) (base : Heap) (k : Nat) (x : Str) (st : Stmt) (ps : List Str) (m : MF) : Prop where
  ex : ∃ fd, Fun K x x st (Ad K x) fd ∧ FnG P w K mg base k (Ad K x) fd ps (spM K ps.length m)
  at_ : mg x = some (.ref (Ad K x))
/-- how a call binds, by the def's text alone -/
def BA (x : Str) (st : Stmt) (ps : List Str) (n : Nat) (ks : List Str) (perm : List Nat) : Prop := ∀ (kV doc pm : Value) (an : Option Addr) (cdv ct : Value) (us ws : List Value), us.length = n → ws.length = ks.length → bindArgs (PySem.W.fnOf x x (defArgs st) (defBody st) (defScope st) .none kV doc pm an cdv ct) ⟨us, ks.zip ws⟩ = pure (ps.zip (pick perm (us ++ ws)))
theorem fun_of {K : PySem.W.Frag} {x : Str} {st : Stmt} {f : Addr} {fd : FuncData} (F : FunD K x x (defArgs st) (defBody st) (defScope st) [] [] f fd) : Fun K x x st f fd := by
  obtain ⟨oc, od, dV, kV, doc, pm, an, cdv, ct, osl, rfl, h1, h2, h3, _⟩ := F.ex
  rcases h3 with ⟨_, rfl⟩ | ⟨z, _⟩
  · exact ⟨⟨oc, od, kV, doc, pm, an, cdv, ct, osl, rfl, h1, h2⟩, F.kp⟩
  · exact absurd rfl z
section
variable {P : Program} {w : World} {K : PySem.W.Frag} {mg : Str → Option Value} {base : Heap}
theorem pm_mk {x : Str} {st : Stmt} {N ps : List Str} {k : Nat} {b : MS} (D : Dn K mg x st) (S : FnScope N ps (defScope st))
    (hb : ∀ (cdv : Value) (A : Around) (outer : List Env) (s : Shared) (H : Hp), Good (cX P w K mg base N x st (Ad K x) cdv A outer s H) k → DenB (cX P w K mg base N x st (Ad K x) cdv A outer s H) (defBody st) b) : Pm P w K mg base (k + 1) x st ps (fnM N b) := by
  obtain ⟨fd, F⟩ := D.fn
  exact ⟨⟨fd, F, fnG_m F S hb⟩, D.at_⟩
end
section
variable {X : Cx} {j k n : Nat} {x : Str} {st : Stmt} {ps ks : List Str} {m : MF} {p pos : Pos} {e : Expr} {es : List Expr} {kws : List Keyword} {me mk : MA} {perm : List Nat}
theorem den_p (D : Pm X.prog X.w X.K X.mg X.base j x st ps m) (g : Good X k) (hj : j ≤ k) (hb : BA x st ps n [] (List.range n)) (hn : ps.length = n) (hl : (e :: es).length = n) (ha : DenA X (e :: es) me) (hml : ALen me n) (hg : Gl X x := by rfl) (hdb : (x == ("__debug__" : Str)) = false := by decide +kernel)
    (he : starEach (e :: es) X.env = (false, eval e X.env) :: starEach es X.env := by rfl) (hpl : (backTo pos (starEach es X.env)).any (·.1) = false := by rfl) : Den X (.Call (.Name x p) (e :: es) [] pos) (mFn m me) := by
  obtain ⟨fd, F, G⟩ := D.ex
  subst hn
  exact den_fn (G.up hj) g hg D.at_ F.kp (kb_mk F hb) hl ha hml hdb he hpl
theorem den_pK (D : Pm X.prog X.w X.K X.mg X.base j x st ps m) (g : Good X k) (hj : j ≤ k) (hb : BA x st ps n ks perm) (hn : ∀ l : List PV, l.length = n + ks.length → (pick perm l).length = ps.length) (ha : DenA X (e :: es) me) (hkw : DenK X kws mk) (hml : ALen me n) (hmk : ALen mk ks.length) (hg : Gl X x := by rfl)
    (hall : (backToKw pos (keywordEach kws X.env)).all (·.1.isSome) = true := by rfl) (hks : (backToKw pos (keywordEach kws X.env)).filterMap (·.1) = ks := by rfl) (hdb : (x == ("__debug__" : Str)) = false := by decide +kernel)
    (he : starEach (e :: es) X.env = (false, eval e X.env) :: starEach es X.env := by rfl) (hpl : ((backTo pos (starEach (e :: es) X.env)).any (·.1) || (backToKw pos (keywordEach kws X.env)).any (·.1.isNone)) = false := by rfl) : Den X (.Call (.Name x p) (e :: es) kws pos) (mFnK m perm me mk) := by
  obtain ⟨fd, F, G⟩ := D.ex
  exact den_fnK (G.up hj) g hg D.at_ F.kp (kb_mk F hb) hn ha hkw hml hmk hall hks hdb he hpl
theorem den_pK0 (D : Pm X.prog X.w X.K X.mg X.base j x st ps m) (g : Good X k) (hj : j ≤ k) (hb : BA x st ps 0 ks perm) (hn : ∀ l : List PV, l.length = 0 + ks.length → (pick perm l).length = ps.length) (hkw : DenK X kws mk) (hmk : ALen mk ks.length) (hg : Gl X x := by rfl)
    (hall : (backToKw pos (keywordEach kws X.env)).all (·.1.isSome) = true := by rfl) (hks : (backToKw pos (keywordEach kws X.env)).filterMap (·.1) = ks := by rfl) (hdb : (x == ("__debug__" : Str)) = false := by decide +kernel)
    (hpl : ((backTo pos (starEach [] X.env)).any (·.1) || (backToKw pos (keywordEach kws X.env)).any (·.1.isNone)) = false := by rfl) : Den X (.Call (.Name x p) [] kws pos) (mFnK m perm aNil mk) := by
  obtain ⟨fd, F, G⟩ := D.ex
  exact den_fnK0 (G.up hj) g hg D.at_ F.kp (kb_mk F hb) hn hkw hmk hall hks hdb hpl
/-- a name of the def or of a block -/
theorem dv (i : Nat) {x : Str} {pos : Pos} (hN : X.N[i]? = some x := by rfl) (hv : Vis X.env.scope x := by first | exact Or.inl rfl | exact Or.inr (Or.inl rfl) | exact Or.inr (Or.inr rfl)) (hd : (x == ("__debug__" : Str)) = false := by decide +kernel) (hcd : (x == ("__classdict__" : Str)) = false := by decide +kernel) : Den X (.Name x pos) (mVar i) := den_var hN hv hd hcd
end
end Ip
set_option Elab.async false
set_option linter.all false
set_option maxRecDepth 100000
set_option maxHeartbeats 1000000
/-! Ip16: list(range(..)), tuple(range(..)). -/
namespace Ip
open PySem PySem.Spec PyProof.Rows L2

instance {a b : Int} : Decidable (RgOk a b) := by unfold RgOk; infer_instance
def ends (ps : List PV) : Option (Int × Int) := match ps with
  | [.int j] => some (0, j)
  | [.int i, .int j] => some (i, j)
  | _ => none
def mRgL (me : MA) : ME := m2 me fun ps _ S => (ends ps).bind fun e => if RgOk e.1 e.2 then some (.ref S.length, S ++ [.lst (rangeP e.1 (e.2 - e.1).toNat)]) else none
def mRgT (me : MA) : ME := m2 me fun ps _ S => (ends ps).bind fun e => if RgOk e.1 e.2 then some (.tup (rangeP e.1 (e.2 - e.1).toNat), S) else none
section
variable {K : PySem.W.Frag} {ρ : List Addr} {H : Hp}
theorem rvs_rg {lo : Int} : ∀ (l : List Nat), Rvs K ρ H (l.map fun (i : Nat) => PV.int (lo + i)) (l.map fun i => V.int (lo + (i : Nat)))
  | [] => rfl
  | a :: l => ⟨_, _, rfl, rfl, rvs_rg l⟩
theorem rvs_rgV {a b : Int} : Rvs K ρ H (rangeP a (b - a).toNat) (rgV a b) := rvs_rg _
end
section
variable {X : Cx} {a b : Expr} {ma mb : ME} {p p2 pos pos2 : Pos}
theorem den_listRg1 (hg : Gl X "list") (hm : X.mg "list" = none) (hg2 : Gl X "range") (hm2 : X.mg "range" = none) (ha : Den X a ma) (hc : X.calm = true) (na : starEach [a] X.env = (false, eval a X.env) :: starEach [] X.env := by rfl)
    (nr : starEach [.Call (.Name "range" p2) [a] [] pos2] X.env = (false, eval (.Call (.Name "range" p2) [a] [] pos2) X.env) :: starEach [] X.env := by rfl) :
    Den X (.Call (.Name "list" p) [.Call (.Name "range" p2) [a] [] pos2] [] pos) (mRgL (aCons ma aNil)) := PE.imp (pe_listRg hc hg hm (prg_1 hg2 hm2 ha na) nr) fun σ H Q h => by
  obtain ⟨ρ, σp, S, st, v, S', hm, k⟩ := h
  obtain ⟨ps, S1, h1, hm⟩ := m2_some hm
  obtain ⟨q, S2, h3, h4⟩ := m2_some h1
  obtain ⟨qs, S3, h5, h6⟩ := m2_some h4
  cases h5
  cases h6
  obtain ⟨e, h7, h8⟩ := Option.bind_eq_some_iff.mp hm
  refine ⟨ρ, σp, S, st, q, S1, h3, fun ρ1 x H1 x1 sm1 rv1 => ?_⟩
  cases q with
  | int j =>
    cases h7
    cases rv1
    split at h8
    · rename_i ok
      cases h8
      exact ⟨j, rfl, ok, fun z hz => k (ρ1 ++ [z]) _ _ ((x1.trans (ext_new hz)).trans Ext.grow) (sm1.new hz ⟨_, upd_same, rvs_rgV⟩) ⟨z, new_at sm1, rfl⟩⟩
    · cases h8
  | _ => cases h7
theorem den_tupRg1 (hg : Gl X "tuple") (hm : X.mg "tuple" = none) (hg2 : Gl X "range") (hm2 : X.mg "range" = none) (ha : Den X a ma) (hc : X.calm = true) (na : starEach [a] X.env = (false, eval a X.env) :: starEach [] X.env := by rfl)
    (nr : starEach [.Call (.Name "range" p2) [a] [] pos2] X.env = (false, eval (.Call (.Name "range" p2) [a] [] pos2) X.env) :: starEach [] X.env := by rfl) :
    Den X (.Call (.Name "tuple" p) [.Call (.Name "range" p2) [a] [] pos2] [] pos) (mRgT (aCons ma aNil)) := PE.imp (pe_tupRg hc hg hm (prg_1 hg2 hm2 ha na) nr) fun σ H Q h => by
  obtain ⟨ρ, σp, S, st, v, S', hm, k⟩ := h
  obtain ⟨ps, S1, h1, hm⟩ := m2_some hm
  obtain ⟨q, S2, h3, h4⟩ := m2_some h1
  obtain ⟨qs, S3, h5, h6⟩ := m2_some h4
  cases h5
  cases h6
  obtain ⟨e, h7, h8⟩ := Option.bind_eq_some_iff.mp hm
  refine ⟨ρ, σp, S, st, q, S1, h3, fun ρ1 x H1 x1 sm1 rv1 => ?_⟩
  cases q with
  | int j =>
    cases h7
    cases rv1
    split at h8
    · rename_i ok
      cases h8
      refine ⟨j, rfl, ok, fun z hz => k ρ1 _ _ (x1.trans (ext_new hz)) (sm1.laid hz) ?_⟩
      simp only [Rv]
      exact ⟨z, _, rfl, .inl (.inl upd_same), rvs_rgV⟩
    · cases h8
  | _ => cases h7
end
end Ip
set_option Elab.async false
set_option linter.all false
set_option maxRecDepth 100000
set_option maxHeartbeats 1000000
/-! Ip21: chains and is in tests, shifts and bits, min, sorted, insert. -/
namespace Ip
open PySem PySem.Spec PyProof.Rows L2

section
variable {X : Cx} {a b c : Expr} {ma mb mc : ME} {pos : Pos}
theorem rd_chain {K : PySem.W.Frag} {r1 r2 : R2} {f g : V2} (s1 : Snd2 K r1 f) (s2 : Snd2 K r2 g) {σ : L2.St} {H : Hp} {Q : VK} (h : rdE K (mChain f g ma mb mc) σ H Q) : tChain r1 r2 (rdE K ma) (rdE K mb) (rdE K mc) σ H Q := by
  obtain ⟨ρ, σp, S, st, v, S', hm, k⟩ := h
  obtain ⟨p, S1, e1, hm⟩ := m2_some hm
  obtain ⟨q, S2, e2, hm⟩ := m2_some hm
  obtain ⟨t, S3, e3, hm⟩ := m2_some hm
  refine ⟨ρ, σp, S, st, p, S1, e1, fun ρ1 x H1 x1 sm1 rv1 => ?_⟩
  refine ⟨ρ1, σp, S1, st.next x1 sm1, q, S2, e2, fun ρ2 y H2 x2 sm2 rv2 => ?_⟩
  refine s1 ρ2 S2 H2 p q x y t S3 _ sm2 (Rv.mono x2 p x rv1) rv2 e3 fun ρ3 z H3 x3 sm3 rv3 => ?_
  cases t with
  | bl d =>
    refine ⟨d, rv3, ?_⟩
    cases d with
    | true =>
      rw [if_pos rfl]
      obtain ⟨z, S4, e4, e5⟩ := m2_some hm
      refine ⟨ρ3, σp, S3, ((st.next x1 sm1).next x2 sm2).next x3 sm3, z, S4, e4, fun ρ4 w H4 x4 sm4 rv4 => ?_⟩
      exact s2 ρ4 S4 H4 q z y w v S' Q sm4 (Rv.mono (x3.trans x4) q y rv2) rv4 e5 (k.later ((x1.trans x2).trans (x3.trans x4)))
    | false =>
      rw [if_neg Bool.false_ne_true]
      cases hm
      exact k ρ3 _ H3 ((x1.trans x2).trans x3) sm3 rfl
  | _ => cases hm
theorem dent_chain {o1 o2 : CmpOp} {r1 r2 : R2} {f g : V2} (h1 : OpR X (compareOp o1) r1) (h2 : OpR X (compareOp o2) r2) (s1 : Snd2 X.K r1 f) (s2 : Snd2 X.K r2 g) (ha : Den X a ma) (hb : Den X b mb) (hc : Den X c mc)
    (hm : lastMarks [o1, o2] [b, c] = false := by with_unfolding_all rfl) : DenT X (.Compare a [o1, o2] [b, c] pos) (mTest (mChain f g ma mb mc)) := PT.imp (pt_chain h1 h2 ha hb hc hm) fun σ H Q h => by
  obtain ⟨ρ, σp, S, st, v, S', hm, k⟩ := h
  exact rd_chain s1 s2 ⟨ρ, σp, S, st, .bl v, S', mTest_some hm, fun ρ1 x H1 e1 sm r1 => ⟨v, r1, k ρ1 H1 e1 sm⟩⟩
theorem s_le {K : PySem.W.Frag} : Snd2 K (rI0 fun i j => .bl (decide (i ≤ j))) vLe := snd_I0 fun _ _ => ⟨rfl, rfl⟩
theorem s_lt {K : PySem.W.Frag} : Snd2 K (rI0 fun i j => .bl (decide (i < j))) vLt := snd_I0 fun _ _ => ⟨rfl, rfl⟩
theorem dent_isN {j p2} (ha : Den X a ma) : DenT X (.Compare a [.Is] [.Constant .none j p2] pos) (mTest (vIsN ma false)) := PT.imp (pt_cmp (pc_isN ha)) fun σ H Q h => by
  obtain ⟨ρ, σp, S, st, v, S', hm, k⟩ := rd_test h
  obtain ⟨p, S1, e1, hm⟩ := m2_some hm
  refine ⟨ρ, σp, S, st, p, S1, e1, fun ρ1 x H1 x1 sm1 rv1 => ?_⟩
  cases hm
  rw [rv_non rv1]
  simpa using k ρ1 _ H1 x1 sm1 rfl
theorem dent_notN {j p2} (ha : Den X a ma) : DenT X (.Compare a [.IsNot] [.Constant .none j p2] pos) (mTest (vIsN ma true)) := PT.imp (pt_cmp (pc_notN ha)) fun σ H Q h => by
  obtain ⟨ρ, σp, S, st, v, S', hm, k⟩ := rd_test h
  obtain ⟨p, S1, e1, hm⟩ := m2_some hm
  refine ⟨ρ, σp, S, st, p, S1, e1, fun ρ1 x H1 x1 sm1 rv1 => ?_⟩
  cases hm
  rw [rv_non rv1]
  simpa using k ρ1 _ H1 x1 sm1 rfl
/-! ### shifts, bits -/
def vShl : V2 := vI (fun i j => .int (i * 2 ^ j.toNat)) fun i j => decide (0 ≤ j ∧ j ≤ 1000000 ∧ i.natAbs < 2 ^ 64)
def vShr : V2 := vI (fun i j => .int (i / 2 ^ j.toNat)) fun _ j => decide (0 ≤ j)
def vBand : V2 := vI (fun i j => .int (Builtin.bitAnd i j)) fun _ _ => true
def vBor : V2 := vI (fun i j => .int (Builtin.bitOr i j)) fun _ _ => true
theorem den_shl (ha : Den X a ma) (hb : Den X b mb) : Den X (.BinOp a .LShift b pos) (mOp vShl ma mb) := den_op op_shl (snd_I (fun i j h => (of_decide_eq_true h : 0 ≤ j ∧ j ≤ 1000000 ∧ i.natAbs < 2 ^ 64)) fun _ _ => ⟨rfl, rfl⟩) ha hb
theorem den_shr (ha : Den X a ma) (hb : Den X b mb) : Den X (.BinOp a .RShift b pos) (mOp vShr ma mb) := den_op op_shr (snd_I (fun i j h => (of_decide_eq_true h : 0 ≤ j)) fun _ _ => ⟨rfl, rfl⟩) ha hb
theorem den_band (ha : Den X a ma) (hb : Den X b mb) : Den X (.BinOp a .BitAnd b pos) (mOp vBand ma mb) := den_op op_and (snd_I0 fun _ _ => ⟨rfl, rfl⟩) ha hb
theorem den_bor (ha : Den X a ma) (hb : Den X b mb) : Den X (.BinOp a .BitOr b pos) (mOp vBor ma mb) := den_op op_or (snd_I0 fun _ _ => ⟨rfl, rfl⟩) ha hb
end
/-! ### min of a list, sorted of whole numbers, insert -/
def minI : List Int → Int
  | [] => 0
  | [n] => n
  | n :: r => if minI r < n then minI r else n
theorem minI_spec : ∀ (ns : List Int), ns ≠ [] → minI ns ∈ ns ∧ ∀ y ∈ ns, minI ns ≤ y
  | [], h => absurd rfl h
  | [n], _ => by simp [minI]
  | n :: m :: r, _ => by
    obtain ⟨h1, h2⟩ := minI_spec (m :: r) (by simp)
    simp only [minI]
    split
    · rename_i hlt
      refine ⟨List.mem_cons_of_mem _ h1, fun y hy => ?_⟩
      rcases List.mem_cons.mp hy with rfl | hy
      · omega
      · exact h2 y hy
    · rename_i hge
      refine ⟨List.mem_cons_self, fun y hy => ?_⟩
      rcases List.mem_cons.mp hy with rfl | hy
      · omega
      · have := h2 y hy
        omega
section
variable {K : PySem.W.Frag}
def vMin1 : VL := fun ps S => match ps with
  | [p] => ((listOf p S).bind intsOf).bind fun bs => if bs = [] then none else some (.int (minI bs), S)
  | _ => none
theorem snd_min1 : SndL K (rMin K) vMin1 := by
  intro ρ S H ps xs v S' Q s r hf k
  unfold vMin1 at hf
  split at hf
  · rename_i p
    obtain ⟨bs, h1, h2⟩ := Option.bind_eq_some_iff.mp hf
    split at h2
    · cases h2
    · rename_i hne
      cases h2
      obtain ⟨ys, h1, h2⟩ := Option.bind_eq_some_iff.mp h1
      obtain ⟨x, rfl, rx⟩ := r.one_of
      obtain ⟨a, vs, rfl, h3, h4⟩ := lst_of s rx h1
      rw [ints_rv h2 h4] at h3
      obtain ⟨m1, m2⟩ := minI_spec bs hne
      refine ⟨a, bs, rfl, h3, List.length_pos_iff.mpr hne, fun m e1 e2 => ?_⟩
      have e : m = minI bs := Int.le_antisymm (e2 _ m1) (m2 m e1)
      subst e
      exact k ρ _ H Ext.refl s rfl
  · cases hf
def insD (k : Int) : List Int → List Int
  | [] => [k]
  | x :: xs => if k ≤ x then k :: x :: xs else x :: insD k xs
def srtD (ks : List Int) : List Int := ks.foldr insD []
theorem insD_perm {k : Int} : ∀ {xs : List Int}, (insD k xs).Perm (k :: xs)
  | [] => .refl _
  | x :: xs => by
    unfold insD
    split
    · exact .refl _
    · exact (List.Perm.cons x insD_perm).trans (.swap k x xs)
theorem srtD_perm : ∀ {ks : List Int}, (srtD ks).Perm ks
  | [] => .refl _
  | k :: ks => insD_perm.trans (.cons k srtD_perm)
theorem insD_sorted {k : Int} : ∀ {xs : List Int}, xs.Pairwise (· ≤ ·) → (insD k xs).Pairwise (· ≤ ·)
  | [], _ => by simp [insD]
  | x :: xs, h => by
    have hx : ∀ a ∈ xs, x ≤ a := fun a ha => List.rel_of_pairwise_cons h ha
    unfold insD
    split
    · rename_i hk
      refine .cons (fun a ha => ?_) h
      rcases List.mem_cons.mp ha with e | e
      · rw [e]; exact hk
      · exact Int.le_trans hk (hx a e)
    · rename_i hk
      refine .cons (fun a ha => ?_) (insD_sorted h.of_cons)
      rcases List.mem_cons.mp (insD_perm.mem_iff.mp ha) with e | e
      · rw [e]; omega
      · exact hx a e
theorem srtD_sorted : ∀ {ks : List Int}, (srtD ks).Pairwise (· ≤ ·)
  | [] => .nil
  | k :: ks => insD_sorted srtD_sorted
theorem sorted_perm : ∀ {xs ys : List Int}, xs.Pairwise (· ≤ ·) → ys.Pairwise (· ≤ ·) → xs.Perm ys → xs = ys
  | [], ys, _, _, h => (List.nil_perm.mp h).symm
  | x :: xs, [], _, _, h => nomatch (List.perm_nil.mp h)
  | x :: xs, y :: ys, hx, hy, h => by
    have px : ∀ a ∈ xs, x ≤ a := fun a ha => List.rel_of_pairwise_cons hx ha
    have py : ∀ a ∈ ys, y ≤ a := fun a ha => List.rel_of_pairwise_cons hy ha
    have e : x = y := by
      rcases List.mem_cons.mp (h.mem_iff.mp (List.mem_cons_self ..)) with a | a
      · exact a
      · rcases List.mem_cons.mp (h.mem_iff.mpr (List.mem_cons_self ..)) with b | b
        · exact b.symm
        · exact Int.le_antisymm (px y b) (py x a)
    subst e
    rw [sorted_perm hx.of_cons hy.of_cons (List.perm_cons x |>.mp h)]
def vSorted : VL := fun ps S => match ps with
  | [p] => ((listOf p S).bind intsOf).map fun bs => (.ref S.length, S ++ [.lst ((srtD bs).map .int)])
  | _ => none
theorem snd_sorted : SndL K (rSortedI K) vSorted := by
  intro ρ S H ps xs v S' Q s r hf k
  unfold vSorted at hf
  split at hf
  · rename_i p
    obtain ⟨bs, h1, h2⟩ := Option.map_eq_some_iff.mp hf
    cases h2
    obtain ⟨ys, h1, h2⟩ := Option.bind_eq_some_iff.mp h1
    obtain ⟨x, rfl, rx⟩ := r.one_of
    obtain ⟨a, vs, rfl, h3, h4⟩ := lst_of s rx h1
    rw [ints_rv h2 h4] at h3
    refine ⟨a, bs, rfl, h3, fun ns q hp hs hq => ?_⟩
    have e : ns = srtD bs := sorted_perm hs srtD_sorted (hp.trans srtD_perm.symm)
    subst e
    exact k (ρ ++ [q]) _ _ ((ext_new hq).trans Ext.grow) (s.new hq ⟨_, upd_same, rvs_ints⟩) ⟨q, new_at s, rfl⟩
  · cases hf
end
end Ip
set_option Elab.async false
set_option linter.all false
set_option maxRecDepth 100000
set_option maxHeartbeats 1000000
/-! Ip22: is True, is False of any plain value. -/
namespace Ip
open PySem PySem.Spec PyProof.Rows L2
section
variable {X : Cx} {a b : Expr} {ma mb : ME} {pos : Pos}
def noTy : V → Bool
  | .ty _ => false
  | _ => true
def rIsP (n : Bool) : R2 := fun x y H Q => ∃ c : Bool, noTy x = true ∧ y = .bl c ∧ Q (.bl (n ^^ decide (x = .bl c))) H
theorem bool_beq {x : V} {v : Value} {c : Bool} (r : RelV x v) : (v == Value.bool c) = decide (x = .bl c) := by
  cases x with
  | bl d => cases r; cases c <;> cases d <;> rfl
  | non => cases r; rfl
  | int _ => obtain ⟨t, rfl⟩ := r; rfl
  | str _ => obtain ⟨t, rfl⟩ := r; rfl
  | byt _ => obtain ⟨t, rfl⟩ := r; rfl
  | flt _ => obtain ⟨t, rfl⟩ := r; rfl
  | ref _ => cases r; rfl
  | ty _ => cases r; rfl
theorem bool_plain {x : V} {v : Value} {c : Bool} (r : RelV x v) (h : noTy x = true) : plainIs v (.bool c) = true := by
  cases x with
  | bl d => cases r; rfl
  | non => cases r; rfl
  | int _ => obtain ⟨t, rfl⟩ := r; rfl
  | str _ => obtain ⟨t, rfl⟩ := r; rfl
  | byt _ => obtain ⟨t, rfl⟩ := r; rfl
  | flt _ => obtain ⟨t, rfl⟩ := r; rfl
  | ref _ => cases r; rfl
  | ty _ => cases h
theorem op_isP : OpR X (compareOp .Is) (rIsP false) := by
  intro pins s σ H x y v u Q I rx ry h
  obtain ⟨c, h0, rfl, q⟩ := h
  cases (show u = Value.bool c from ry)
  exact wpAny_is_plain (bool_plain rx h0) ⟨.bl _, H, I, rfl, by rw [bool_beq rx]; simpa using q⟩
theorem op_isnotP : OpR X (compareOp .IsNot) (rIsP true) := by
  intro pins s σ H x y v u Q I rx ry h
  obtain ⟨c, h0, rfl, q⟩ := h
  cases (show u = Value.bool c from ry)
  exact wpAny_isNot_plain (bool_plain rx h0) ⟨.bl _, H, I, rfl, by rw [bool_beq rx]; simpa using q⟩
def vIsB (n : Bool) : V2 := fun p q S => match q with
  | .bl c => some (.bl (n ^^ decide (p = .bl c)), S)
  | _ => none
theorem rv_bl {K : PySem.W.Frag} {ρ : List Addr} {H : Hp} {p : PV} {x : V} {c : Bool} (r : Rv K ρ H p x) : noTy x = true ∧ decide (x = .bl c) = decide (p = .bl c) := by
  cases p with
  | non => cases r; exact ⟨rfl, rfl⟩
  | bl d => cases r; refine ⟨rfl, ?_⟩; by_cases h : d = c <;> simp [h]
  | int _ => cases r; exact ⟨rfl, rfl⟩
  | str _ => cases r; exact ⟨rfl, rfl⟩
  | tup _ =>
    simp only [Rv] at r
    obtain ⟨a, vs, rfl, _⟩ := r
    exact ⟨rfl, rfl⟩
  | frl _ =>
    simp only [Rv] at r
    obtain ⟨a, vs, rfl, _⟩ := r
    exact ⟨rfl, rfl⟩
  | ref _ =>
    obtain ⟨a, _, rfl⟩ := r
    exact ⟨rfl, rfl⟩
theorem snd_isB {K : PySem.W.Frag} {n : Bool} : Snd2 K (rIsP n) (vIsB n) := by
  intro ρ S H p q x y v S' Q sm rp rq e k
  cases q with
  | bl c =>
    cases rq
    have e : some ((.bl (n ^^ decide (p = .bl c)), S) : PV × Store) = some (v, S') := e
    cases e
    obtain ⟨h1, h2⟩ := rv_bl (c := c) rp
    refine ⟨c, h1, rfl, ?_⟩
    rw [h2]
    exact k ρ _ H Ext.refl sm rfl
  | _ => cases e
theorem den_isB (ha : Den X a ma) (hb : Den X b mb) (hm : behindInMarks .Is b = false) : Den X (.Compare a [.Is] [b] pos) (mOp (vIsB false) ma mb) := den_cmp op_isP snd_isB ha hb hm
theorem den_notB (ha : Den X a ma) (hb : Den X b mb) (hm : behindInMarks .IsNot b = false) : Den X (.Compare a [.IsNot] [b] pos) (mOp (vIsB true) ma mb) := den_cmp op_isnotP snd_isB ha hb hm
theorem dent_isB (ha : Den X a ma) (hb : Den X b mb) (hm : behindInMarks .Is b = false) : DenT X (.Compare a [.Is] [b] pos) (mTest (mOp (vIsB false) ma mb)) := dent_cmp op_isP snd_isB ha hb hm
theorem dent_notB (ha : Den X a ma) (hb : Den X b mb) (hm : behindInMarks .IsNot b = false) : DenT X (.Compare a [.IsNot] [b] pos) (mTest (mOp (vIsB true) ma mb)) := dent_cmp op_isnotP snd_isB ha hb hm
end
end Ip
set_option Elab.async false
set_option linter.all false
set_option maxRecDepth 100000
set_option maxHeartbeats 1000000
/-! Ip23: min, max of a tuple or a list of whole numbers. -/
namespace Ip
open PySem PySem.Spec PyProof.Rows L2
section
variable {X : Cx}
theorem minOf_spec : ∀ (ns : List Int) (n : Int), (PySem.W.minOf n ns ∈ n :: ns) ∧ ∀ y ∈ n :: ns, PySem.W.minOf n ns ≤ y
  | [], n => ⟨List.mem_singleton.mpr rfl, fun y hy => by rw [List.mem_singleton.mp hy]; exact Int.le_refl _⟩
  | m :: r, n => by
    have e : PySem.W.minOf n (m :: r) = PySem.W.minOf (if m < n then m else n) r := by
      show r.foldl _ (if decide (m < n) = true then m else n) = _
      simp only [decide_eq_true_eq]
      rfl
    rw [e]
    obtain ⟨h1, h2⟩ := minOf_spec r (if m < n then m else n)
    have h0 := h2 _ (List.mem_cons_self ..)
    generalize PySem.W.minOf (if m < n then m else n) r = z at h0 h1 h2 ⊢
    refine ⟨?_, fun y hy => ?_⟩
    · rcases List.mem_cons.mp h1 with h | h
      · rw [h]
        split <;> simp
      · simp [h]
    · rcases List.mem_cons.mp hy with h | h
      · subst h
        split at h0 <;> omega
      · rcases List.mem_cons.mp h with h | h
        · subst h
          split at h0 <;> omega
        · exact h2 y (List.mem_cons_of_mem _ h)
theorem maxOf_spec : ∀ (ns : List Int) (n : Int), (PySem.W.maxOf n ns ∈ n :: ns) ∧ ∀ y ∈ n :: ns, y ≤ PySem.W.maxOf n ns
  | [], n => ⟨List.mem_singleton.mpr rfl, fun y hy => by rw [List.mem_singleton.mp hy]; exact Int.le_refl _⟩
  | m :: r, n => by
    have e : PySem.W.maxOf n (m :: r) = PySem.W.maxOf (if n < m then m else n) r := by
      show r.foldl _ (if decide (n < m) = true then m else n) = _
      simp only [decide_eq_true_eq]
      rfl
    rw [e]
    obtain ⟨h1, h2⟩ := maxOf_spec r (if n < m then m else n)
    have h0 := h2 _ (List.mem_cons_self ..)
    generalize PySem.W.maxOf (if n < m then m else n) r = z at h0 h1 h2 ⊢
    refine ⟨?_, fun y hy => ?_⟩
    · rcases List.mem_cons.mp h1 with h | h
      · rw [h]
        split <;> simp
      · simp [h]
    · rcases List.mem_cons.mp hy with h | h
      · subst h
        split at h0 <;> omega
      · rcases List.mem_cons.mp h with h | h
        · subst h
          split at h0 <;> omega
        · exact h2 y (List.mem_cons_of_mem _ h)
def rMinA (K : PySem.W.Frag) : List V → Hp → VK → Prop := fun vs H Q => ∃ (a : Addr) (ns : List Int), vs = [V.ref a] ∧ (SqL K H a (ns.map V.int) ∨ SqT K H a (ns.map V.int)) ∧ 0 < ns.length ∧ ∀ m, m ∈ ns → (∀ y, y ∈ ns → m ≤ y) → Q (.int m) H
def rMaxA (K : PySem.W.Frag) : List V → Hp → VK → Prop := fun vs H Q => ∃ (a : Addr) (ns : List Int), vs = [V.ref a] ∧ (SqL K H a (ns.map V.int) ∨ SqT K H a (ns.map V.int)) ∧ 0 < ns.length ∧ ∀ m, m ∈ ns → (∀ y, y ∈ ns → y ≤ m) → Q (.int m) H
theorem cr_minA (hu : X.A.units + 1 < cLine) (hc : X.calm = true) : CallR X (.builtin "min") (rMinA X.K) := by
  intro pins s σ H vs us Q I r h
  obtain ⟨a, ns, rfl, hs, hne, q⟩ := h
  rcases hs with hs | hs
  · exact cr_min hc pins s σ H _ us Q I r ⟨a, ns, rfl, hs, hne, q⟩
  · obtain ⟨its, rv, hl, _⟩ := I.tuple hs
    rw [Vals.ref1 r]
    cases ns with
    | nil => exact absurd hne (by decide)
    | cons n ns =>
      refine PySem.W.min_tuple_datum (α := Int) (x := n) (xs := ns) (I.ok.hd hc) hl (PySem.W.HoldAll.of_ints (by simpa using rv.ints)) (by show X.A.units + 1 + 0 < cLine; omega) fun i v h' tk hi Hv hk => ?_
      obtain ⟨t, rfl⟩ := PySem.W.int_of_holds Hv
      obtain ⟨m1, m2⟩ := minOf_spec ns n
      exact ⟨.int _, H, I.kept hk, ⟨_, rfl⟩, q _ m1 m2⟩
theorem cr_maxA (hu : X.A.units + 1 < cLine) (hc : X.calm = true) : CallR X (.builtin "max") (rMaxA X.K) := by
  intro pins s σ H vs us Q I r h
  obtain ⟨a, ns, rfl, hs, hne, q⟩ := h
  rcases hs with hs | hs
  · exact cr_max hc pins s σ H _ us Q I r ⟨a, ns, rfl, hs, hne, q⟩
  · obtain ⟨its, rv, hl, _⟩ := I.tuple hs
    rw [Vals.ref1 r]
    cases ns with
    | nil => exact absurd hne (by decide)
    | cons n ns =>
      refine PySem.W.max_tuple_datum (α := Int) (x := n) (xs := ns) (I.ok.hd hc) hl (PySem.W.HoldAll.of_ints (by simpa using rv.ints)) (by show X.A.units + 1 + 0 < cLine; omega) fun i v h' tk hi Hv hk => ?_
      obtain ⟨t, rfl⟩ := PySem.W.int_of_holds Hv
      obtain ⟨m1, m2⟩ := maxOf_spec ns n
      exact ⟨.int _, H, I.kept hk, ⟨_, rfl⟩, q _ m1 m2⟩
end
section
variable {K : PySem.W.Frag} {ρ : List Addr} {H : Hp} {S : Store}
theorem items_of {p : PV} {x : V} {xs : List PV} (s : Sim K ρ S H) (r : Rv K ρ H p x) (h : itemsOf p S = some xs) : ∃ a vs, x = .ref a ∧ (SqL K H a vs ∨ SqT K H a vs) ∧ Rvs K ρ H xs vs := by
  cases p with
  | tup ys =>
    cases h
    simp only [Rv] at r
    obtain ⟨a, vs, rfl, h1, h2⟩ := r
    exact ⟨a, vs, rfl, .inr h1, h2⟩
  | frl ys =>
    obtain ⟨a, vs, e, h1, h2⟩ := lst_of s r (show listOf (.frl ys) S = some xs from h)
    exact ⟨a, vs, e, .inl h1, h2⟩
  | ref n =>
    obtain ⟨a, vs, e, h1, h2⟩ := lst_of s r (show listOf (.ref n) S = some xs from h)
    exact ⟨a, vs, e, .inl h1, h2⟩
  | _ => cases h
def vMinA : VL := fun ps S => match ps with
  | [p] => ((itemsOf p S).bind intsOf).bind fun bs => if bs = [] then none else some (.int (minI bs), S)
  | _ => none
def vMaxA : VL := fun ps S => match ps with
  | [p] => ((itemsOf p S).bind intsOf).bind fun bs => if bs = [] then none else some (.int (maxI bs), S)
  | _ => none
theorem snd_minA : SndL K (rMinA K) vMinA := by
  intro ρ S H ps xs v S' Q s r hf k
  unfold vMinA at hf
  split at hf
  · rename_i p
    obtain ⟨bs, h1, h2⟩ := Option.bind_eq_some_iff.mp hf
    split at h2
    · cases h2
    · rename_i hne
      cases h2
      obtain ⟨ys, h1, h2⟩ := Option.bind_eq_some_iff.mp h1
      obtain ⟨x, rfl, rx⟩ := r.one_of
      obtain ⟨a, vs, rfl, h3, h4⟩ := items_of s rx h1
      rw [ints_rv h2 h4] at h3
      obtain ⟨m1, m2⟩ := minI_spec bs hne
      refine ⟨a, bs, rfl, h3, List.length_pos_iff.mpr hne, fun m e1 e2 => ?_⟩
      have e : m = minI bs := Int.le_antisymm (e2 _ m1) (m2 m e1)
      subst e
      exact k ρ _ H Ext.refl s rfl
  · cases hf
theorem snd_maxA : SndL K (rMaxA K) vMaxA := by
  intro ρ S H ps xs v S' Q s r hf k
  unfold vMaxA at hf
  split at hf
  · rename_i p
    obtain ⟨bs, h1, h2⟩ := Option.bind_eq_some_iff.mp hf
    split at h2
    · cases h2
    · rename_i hne
      cases h2
      obtain ⟨ys, h1, h2⟩ := Option.bind_eq_some_iff.mp h1
      obtain ⟨x, rfl, rx⟩ := r.one_of
      obtain ⟨a, vs, rfl, h3, h4⟩ := items_of s rx h1
      rw [ints_rv h2 h4] at h3
      obtain ⟨m1, m2⟩ := maxI_spec bs hne
      refine ⟨a, bs, rfl, h3, List.length_pos_iff.mpr hne, fun m e1 e2 => ?_⟩
      have e : m = maxI bs := Int.le_antisymm (m2 m e1) (e2 _ m1)
      subst e
      exact k ρ _ H Ext.refl s rfl
  · cases hf
end
end Ip
set_option Elab.async false
set_option linter.all false
set_option maxRecDepth 100000
set_option maxHeartbeats 1000000
/-! Ip24: two texts compared, whatever stands in them. -/
namespace Ip
open PySem PySem.Spec PyProof.Rows L2
section
variable {X : Cx} {a b : Expr} {ma mb : ME} {pos : Pos}
def vEqT (n : Bool) : V2 := fun p q S => match p, q with
  | .str x, .str y => some (.bl (n ^^ decide (x = y)), S)
  | _, _ => none
theorem vEqT_some {n : Bool} {p q v : PV} {S S' : Store} (h : vEqT n p q S = some (v, S')) : ∃ x y, p = .str x ∧ q = .str y ∧ v = .bl (n ^^ decide (x = y)) ∧ S' = S := by
  unfold vEqT at h
  split at h
  · cases h
    exact ⟨_, _, rfl, rfl, rfl, rfl⟩
  · cases h
theorem snd_eqT {K : PySem.W.Frag} : Snd2 K rEq (vEqT false) := by
  intro ρ S H p q x y v S' Q sm rp rq e k
  obtain ⟨s, t, rfl, rfl, rfl, rfl⟩ := vEqT_some e
  cases rp
  cases rq
  refine ⟨rfl, ?_⟩
  have := k ρ _ H Ext.refl sm rfl
  simpa using this
theorem snd_neT {K : PySem.W.Frag} : Snd2 K rNe (vEqT true) := by
  intro ρ S H p q x y v S' Q sm rp rq e k
  obtain ⟨s, t, rfl, rfl, rfl, rfl⟩ := vEqT_some e
  cases rp
  cases rq
  refine ⟨rfl, ?_⟩
  have := k ρ _ H Ext.refl sm rfl
  simpa using this
theorem den_eqT (ha : Den X a ma) (hb : Den X b mb) : Den X (.Compare a [.Eq] [b] pos) (mOp (vEqT false) ma mb) := den_cmp op_eq snd_eqT ha hb (nomark _)
theorem den_neT (ha : Den X a ma) (hb : Den X b mb) : Den X (.Compare a [.NotEq] [b] pos) (mOp (vEqT true) ma mb) := den_cmp op_ne snd_neT ha hb (nomark _)
theorem dent_eqT (ha : Den X a ma) (hb : Den X b mb) : DenT X (.Compare a [.Eq] [b] pos) (mTest (mOp (vEqT false) ma mb)) := dent_cmp op_eq snd_eqT ha hb (nomark _)
theorem dent_neT (ha : Den X a ma) (hb : Den X b mb) : DenT X (.Compare a [.NotEq] [b] pos) (mTest (mOp (vEqT true) ma mb)) := dent_cmp op_ne snd_neT ha hb (nomark _)
end
end Ip
set_option Elab.async false
set_option linter.all false
set_option maxRecDepth 100000
set_option maxHeartbeats 3200000
/-! Ip25: set(t) of a tuple of tuples of whole numbers. -/
namespace L2
open PySem PySem.Spec PyProof.Rows
/-- an empty set, as it is made -/
abbrev oSet0 (w : World) : Obj := { cls := .type "set", dict := none, data := .set #[] 0 (.fresh 0 0 (!w.params.followText "set-order")) }
section
variable {P : Program} {w : World} {A : Around} {E : Value → Shared → Prop} {s : Shared}
theorem setT_of_tuple {t : Addr} {vs : Array Value} (L0 : List (Addr × List Int)) {Q : Value → Shared → Prop} (quiet : A.handled = none) (tup : s.heap.IsTuple t vs) (same : vs.toList = L0.map fun z => Value.ref z.1)
    (each : ∀ z ∈ L0, IsT P w s.heap z.2 z.1) (few : L0.length < 64) (room : A.units + 3 < cLine)
    (done : ∀ (g : Heap) (u : Nat) M es ep tb, SetTR P w g s.heap.objs.size M es ep tb → Got L0 L0.length M → (∀ a o, s.heap.get? a = some o → g.get? a = some o) → Q (.ref s.heap.objs.size) { s with heap := g, toks := u }) :
    wpAny (model P w) A (call (.type "set") [.ref t]) Q E s := by
  have size_eq : vs.size = L0.length := by
    have z := congrArg List.length same
    rwa [Array.length_toList, List.length_map] at z
  obtain ⟨c, tl, hmro⟩ := F.called_set.mro
  have z1 := F.called_set.made; have z2 := F.called_set.sub
  refine wpAny_call (codeAny_of_tree ?_)
  show wpAny _ _ (callAny (.type "set") _) _ _ _
  refine wpAny_pure ⟨Code.quiet_builtin _ (by decide +kernel), codeAny_builtin F.entry_type_call ?_⟩
  rw [Around.under_plain (weight_type_call_type "set" [.ref t] []) rfl]
  have z3 := F.called_set.notType; have z4 := F.called_set.canCreate; have z5 := F.typeCall_set_1 (.ref t)
  repeat (any_goals (first | assumption | wp_step))
  refine codeAny_mono (code_set_led1 (.ref t) (E := E) (Q₁ := fun v s₁ => v = .ref s.heap.objs.size ∧ s₁ = { s with heap := s.heap.push (oSet0 w) }) ⟨rfl, rfl⟩) fun r s₁ hr => ?_
  cases r with
  | error e => exact hr
  | ok fl =>
    cases fl with
    | ret v0 =>
      obtain ⟨rfl, rfl⟩ := hr
      have at0 : (s.heap.push (oSet0 w)).get? s.heap.objs.size = some (oSet0 w) := Heap.get?_push_size _ rfl
      have ty0 : Shared.TypeIs { s with heap := s.heap.push (oSet0 w) } (.ref s.heap.objs.size) "set" := ⟨_, at0, rfl⟩
      have z6 := F.called_set.init.lookup; have z7 := F.called_set.init.bind (.ref s.heap.objs.size)
      repeat (any_goals (first | assumption | wp_step))
      refine codeAny_mono (codeAny_call_builtin (R := wants (fun r s₂ => r = .none ∧ ∃ g u M es ep tb, s₂ = { s with heap := g, toks := u } ∧ SetTR P w g s.heap.objs.size M es ep tb ∧ Got L0 L0.length M ∧ (∀ a o, s.heap.get? a = some o → g.get? a = some o)) E)
        F.called_set.init.plain F.entry_set_init (check_set_init_1 ty0 ?_)) fun r₂ s₂ hr₂ => ?_
      · obtain ⟨ob, hob, hcl, nl, hdl⟩ := tup
        obtain ⟨c1, c2, c3, c4⟩ := ob
        simp only at hcl hdl
        subst hcl; subst hdl
        have hol' : (s.heap.push (oSet0 w)).get? t = some { cls := .type "tuple", dict := c2, data := .seq vs nl, slots := c4 } := Heap.get?_push_of_some _ hob
        have hsls := F.sub_tuple_set; have hslf := F.sub_tuple_frozenset
        have hne : (Value.type "tuple" == Value.type "dict") = false := by decide
        have tup1 : (s.heap.push (oSet0 w)).IsTuple t vs := ⟨_, hol', rfl, nl, rfl⟩
        unfold Builtin.«set.__init__» noKeywords Builtin.Frozenset.updateFrom
        generalize hPI : pyIter = PI
        wp_walk
        subst hPI
        refine wpAny_pyIter_tuple tup1 ?_
        refine wpAny_bind (wpAny_runValue ?_)
        have lt0 : t < s.heap.objs.size := Heap.lt_size hob
        have quiet3 : A.in1.in1.in1.handled = none := by simp [quiet]
        have sz1 : (s.heap.push (oSet0 w)).objs.size = s.heap.objs.size + 1 := Heap.size_push ..
        have ne1 : t ≠ (s.heap.push (oSet0 w)).objs.size := by rw [sz1]; exact Nat.ne_of_lt (Nat.lt_succ_of_lt lt0)
        have out1 : s.heap.objs.size ∉ [(s.heap.push (oSet0 w)).objs.size, t] := by
          rw [sz1]
          simp only [List.mem_cons, List.not_mem_nil, or_false, not_or]
          exact ⟨Nat.ne_of_lt (Nat.lt_succ_self _), Nat.ne_of_gt lt0⟩
        have val1 : ∀ (i : Nat) (v : Value), vs[i]? = some v → ∃ z, L0[i]? = some z ∧ v = .ref z.1 := fun i v hv => by
          have q : vs.toList[i]? = some v := by rw [Array.getElem?_toList]; exact hv
          rw [same, List.getElem?_map] at q
          obtain ⟨z, e1, e2⟩ := Option.map_eq_some_iff.mp q
          exact ⟨z, e1, e2.symm⟩
        have free : ∀ a, s.heap.objs.size ≤ a → s.heap.get? a = none := fun a ha => by
          cases q : s.heap.get? a with
          | none => rfl
          | some o => exact absurd (Nat.lt_of_lt_of_le (Heap.lt_size q) ha) (Nat.lt_irrefl _)
        have at1 : ((s.heap.push (oSet0 w)).push { cls := .type "tuple_iterator", data := .fields #[.ref t, .int 0 0] }).get? s.heap.objs.size = some (oSet0 w) := Heap.get?_push_of_some _ at0
        refine set_update_tups ((Walks.tuple quiet3 _ t ne1 vs).toS) s.heap.objs.size out1 L0 size_eq few val1 s.heap each (free _ (Nat.le_refl _)) (fun a ha => free a (by rw [List.mem_singleton.mp ha, sz1]; exact Nat.le_succ _)) room (vs.size - 0) 0 _ (by omega) (Nat.zero_le _)
          ⟨⟨_, Heap.get?_push_size _ rfl, rfl, rfl⟩, (tup1.push _)⟩ (fun a o e => Heap.get?_push_of_some _ (Heap.get?_push_of_some _ e)) ⟨[], #[], 0, _, setTR_fresh at1, Got.zero L0⟩ ?_
        intro s' M es ep tb mv hS' got kp
        obtain ⟨g, g2, d', tk', os'⟩ := s'
        obtain rfl : g2 = s.gens := mv.gens
        obtain rfl : d' = s.drawn := mv.drawn
        obtain rfl : os' = s.os := mv.os
        refine wpAny_pure (show wpAny _ _ (ret Value.none) _ _ _ from ?_)
        rw [size_eq] at got
        exact wpAny_pure ⟨rfl, g, tk', M, es, ep, tb, rfl, hS', got, kp⟩
      · cases r₂ with
        | error e => exact hr₂
        | ok fl₂ =>
          cases fl₂ with
          | ret r =>
            obtain ⟨rfl, g, u, M, es, ep, tb, rfl, hS', got, kp⟩ := hr₂
            repeat (any_goals (first | assumption | wp_step))
            exact done _ _ _ _ _ _ hS' got kp
          | _ => exact hr₂.elim
    | _ => exact hr.elim
end
section
variable {X : Cx}
/-- set(xs) of a list or a tuple of tuples -/
def rSetOfU (K : PySem.W.Frag) (P : Program) (w : World) : List V → Hp → VK → Prop := fun xs H Q => ∃ (l : Addr) (ks : List (Addr × List Int)), xs = [V.ref l] ∧ (SqL K H l (ks.map fun p => V.ref p.1) ∨ SqT K H l (ks.map fun p => V.ref p.1)) ∧ (∀ p ∈ ks, SqT K H p.1 (p.2.map V.int)) ∧ ks.length < 64 ∧
  ∀ a L, H a = none → (∀ p ∈ L, p ∈ ks) → (∀ p ∈ ks, p.2 ∈ L.map (·.2)) → Q (.ref a) (upd H a (SetTO P w a L))
theorem cr_setOfU (hc : X.calm = true) (hu : X.A.units + 64 < cLine) : CallR X (.type "set") (rSetOfU X.K X.prog X.w) := by
  intro pins s σ H xs us Q I r h
  obtain ⟨l, ks, rfl, hl | hl, hk, hf, q⟩ := h
  · exact cr_setOfT hc hu pins s σ H _ us Q I r ⟨l, ks, rfl, hl, hk, hf, q⟩
  · rw [Vals.ref1 r]
    obtain ⟨its, rv, pl, _⟩ := I.tuple hl
    have hn : H s.heap.objs.size = none := I.hok.fresh (Nat.le_refl _)
    refine setT_of_tuple (P := X.prog) (w := X.w) ks (I.ok.hd hc) pl (by simpa using refs_of_vals rv) (fun p hp => I.isT (hk p hp)) hf (by omega) fun h' tk L es ep t R g k => ?_
    exact ⟨.ref s.heap.objs.size, upd H s.heap.objs.size (SetTO X.prog X.w s.heap.objs.size L), I.laid (t' := tk) k (Nat.le_refl _) (setTO_new R.t0), rfl, q _ L hn (fun p hp => List.mem_of_mem_take (g.sub p hp)) fun p hp => g.all p (by rw [List.take_length]; exact hp)⟩
end
end L2
set_option Elab.async false
set_option linter.all false
set_option maxRecDepth 100000
set_option maxHeartbeats 3200000
/-! Ip26: sorted(set(xs)) of pairs of small whole numbers. -/
namespace Ip
open PySem PySem.Spec PyProof.Rows L2

def pairOf : PV → Option (Int × Int)
  | .tup [.int a, .int b] => some (a, b)
  | _ => none
def pairsOf : List PV → Option (List (Int × Int))
  | [] => some []
  | x :: xs => (pairOf x).bind fun p => (pairsOf xs).map (p :: ·)
def cdP (p : Int × Int) : Int := p.1 * 64 + p.2
def deP (c : Int) : Int × Int := (c / 64, c % 64)
def srtP (ks : List (Int × Int)) : List (Int × Int) := (srtI (ks.map cdP)).map deP
def prV (p : Int × Int) : PV := .tup [.int p.1, .int p.2]
def smP (p : Int × Int) : Bool := decide (0 ≤ p.1 ∧ p.1 < 64 ∧ 0 ≤ p.2 ∧ p.2 < 64)
def okP (ks : List (Int × Int)) : Bool := decide (ks.length < 64) && ks.all smP
def vSSP : VL := fun ps S => match ps with
  | [p] => (itemsOf p S).bind fun xs => (pairsOf xs).bind fun ks => if okP ks = true then some (.ref S.length, S ++ [.lst ((srtP ks).map prV)]) else none
  | _ => none
theorem deP_cdP {p : Int × Int} (h : smP p = true) : deP (cdP p) = p := by
  have := of_decide_eq_true h
  obtain ⟨a, b⟩ := p
  simp only at this
  unfold deP cdP
  simp only [Prod.mk.injEq]
  omega
section
variable {K : PySem.W.Frag} {ρ : List Addr} {H : Hp}
theorem pairOf_some {x : PV} {p : Int × Int} (h : pairOf x = some p) : x = prV p := by
  unfold pairOf at h
  split at h
  · cases h; rfl
  · cases h
theorem pair_at {v : V} {p : Int × Int} (r : Rv K ρ H (prV p) v) : ∃ t, v = .ref t ∧ SqT K H t (([p.1, p.2] : List Int).map V.int) := by
  obtain ⟨a, vs, rfl, h, hs⟩ := r
  obtain ⟨x, r1, rfl, h1, y, r2, rfl, h2, rfl⟩ := hs
  cases h1
  cases h2
  exact ⟨a, rfl, h⟩
/-- the tuples, by their addresses -/
theorem pairs_at : ∀ {xs : List PV} {ws : List V} {ks : List (Int × Int)}, pairsOf xs = some ks → Rvs K ρ H xs ws → ∃ L : List (Addr × List Int), ws = L.map (fun p => V.ref p.1) ∧ L.map (·.2) = ks.map (fun p => [p.1, p.2]) ∧ ∀ p ∈ L, SqT K H p.1 (p.2.map V.int)
  | [], ws, ks, h, r => by
    cases h
    cases r
    exact ⟨[], rfl, rfl, fun _ z => nomatch z⟩
  | x :: xs, ws, ks, h, r => by
    obtain ⟨p, h1, h2⟩ := Option.bind_eq_some_iff.mp h
    obtain ⟨qs, h3, rfl⟩ := Option.map_eq_some_iff.mp h2
    obtain ⟨v, w, rfl, r1, r2⟩ := r
    cases pairOf_some h1
    obtain ⟨t, rfl, ht⟩ := pair_at r1
    obtain ⟨L, rfl, e, hL⟩ := pairs_at h3 r2
    refine ⟨(t, [p.1, p.2]) :: L, rfl, by simp only [List.map_cons, e], fun q hq => ?_⟩
    rcases List.mem_cons.mp hq with rfl | hq
    · exact ht
    · exact hL q hq
theorem rv_pairs : ∀ {L : List (Addr × List Int)} {ks : List (Int × Int)}, L.map (·.2) = ks.map (fun p => [p.1, p.2]) → (∀ p ∈ L, SqT K H p.1 (p.2.map V.int)) → Rvs K ρ H (ks.map prV) (L.map fun q => V.ref q.1)
  | [], [], _, _ => rfl
  | [], _ :: _, h, _ => nomatch h
  | _ :: _, [], h, _ => nomatch h
  | q :: L, p :: ks, h, hL => by
    simp only [List.map_cons, List.cons.injEq] at h
    refine ⟨_, _, rfl, ⟨q.1, [V.int p.1, V.int p.2], rfl, ?_, ⟨_, _, rfl, rfl, _, _, rfl, rfl, rfl⟩⟩, rv_pairs h.2 fun z hz => hL z (List.mem_cons_of_mem _ hz)⟩
    have := hL q (List.mem_cons_self ..)
    rw [h.1] at this
    exact this
theorem strict_of {f : List Int → Int} {l : List (List Int)} (hp : l.Pairwise (fun a b => f a ≤ f b)) (hn : l.Nodup) (inj : ∀ a ∈ l, ∀ b ∈ l, f a = f b → a = b) : (l.map f).Pairwise (· < ·) := by
  rw [List.pairwise_map]
  refine List.Pairwise.imp_of_mem (R := fun a b => f a ≤ f b ∧ a ≠ b) (fun {a b} ha hb h => ?_) (hp.and hn)
  rcases Int.lt_or_eq_of_le h.1 with c | c
  · exact c
  · exact absurd (inj a ha b hb c) h.2
theorem sort_is {ks : List (Int × Int)} (ok : ks.all smP = true) {L L' : List (Addr × List Int)} (pm : L'.Perm L) (nd : (L'.map (·.2)).Nodup) (pw : L'.Pairwise (fun q r => TS.code 64 q.2 ≤ TS.code 64 r.2))
    (sub : ∀ q ∈ L, q.2 ∈ ks.map (fun p => [p.1, p.2])) (all : ∀ p ∈ ks, [p.1, p.2] ∈ L.map (·.2)) : L'.map (·.2) = (srtP ks).map (fun p => [p.1, p.2]) := by
  have sm : ∀ p ∈ ks, smP p = true := fun p hp => List.all_eq_true.mp ok p hp
  have cd : ∀ p : Int × Int, TS.code 64 [p.1, p.2] = cdP p := fun p => code_pair _ _
  have mem : ∀ a ∈ L'.map (·.2), ∃ p ∈ ks, a = [p.1, p.2] := fun a ha => by
    obtain ⟨q, hq, rfl⟩ := List.mem_map.mp ha
    obtain ⟨p, hp, e⟩ := List.mem_map.mp (sub q (pm.mem_iff.mp hq))
    exact ⟨p, hp, e.symm⟩
  have st : ((L'.map (·.2)).map (TS.code 64)).Pairwise (· < ·) := strict_of (List.pairwise_map.mpr pw) nd fun a ha b hb e => by
    obtain ⟨p, hp, rfl⟩ := mem a ha
    obtain ⟨q, hq, rfl⟩ := mem b hb
    rw [cd, cd] at e
    have : p = q := by rw [← deP_cdP (sm p hp), ← deP_cdP (sm q hq), e]
    rw [this]
  have e1 : (L'.map (·.2)).map (TS.code 64) = srtI (ks.map cdP) := sorted_ext st srtI_sorted fun j => by
    rw [mem_srtI, List.mem_map, List.mem_map]
    constructor
    · rintro ⟨a, ha, rfl⟩
      obtain ⟨p, hp, rfl⟩ := mem a ha
      exact ⟨p, hp, (cd p).symm⟩
    · rintro ⟨p, hp, rfl⟩
      refine ⟨[p.1, p.2], ?_, cd p⟩
      obtain ⟨q, hq, e⟩ := List.mem_map.mp (all p hp)
      exact List.mem_map.mpr ⟨q, pm.mem_iff.mpr hq, e⟩
  unfold srtP
  rw [← e1, List.map_map, List.map_map]
  conv => lhs; rw [← List.map_id (L'.map (·.2))]
  refine List.map_congr_left fun a ha => ?_
  obtain ⟨p, hp, rfl⟩ := mem a ha
  show [p.1, p.2] = _
  simp only [Function.comp, cd, deP_cdP (sm p hp)]
theorem rd_ssp {P : Program} {w : World} {me : ME} {σ : L2.St} {Q : VK} (h : rdE K (mCall vSSP (aCons me aNil)) σ H Q) : tCB (rSortedT K P w) (tCons (tCB (rSetOfU K P w) (rdA K (aCons me aNil))) tNil) σ H Q := by
  obtain ⟨ρ, σp, S, st, v, S', hm, k⟩ := h
  obtain ⟨ps, S1, e1, hm⟩ := m2_some hm
  refine ⟨ρ, σp, S, st, ps, S1, e1, fun ρ1 xs H1 x1 sm1 rv1 => ?_⟩
  unfold vSSP at hm
  split at hm
  · rename_i p
    obtain ⟨its, h1, hm⟩ := Option.bind_eq_some_iff.mp hm
    obtain ⟨ks, h2, hm⟩ := Option.bind_eq_some_iff.mp hm
    split at hm
    · rename_i ok
      cases hm
      obtain ⟨x, rfl, rx⟩ := rv1.one_of
      obtain ⟨l, ws, rfl, hl, rw1⟩ := seq_of sm1 rx h1
      obtain ⟨L0, rfl, e2, hL⟩ := pairs_at h2 rw1
      have ok1 := (Bool.and_eq_true_iff.mp ok)
      have few : ks.length < 64 := of_decide_eq_true ok1.1
      have sm : ∀ p ∈ ks, smP p = true := fun p hp => List.all_eq_true.mp ok1.2 p hp
      have len : L0.length = ks.length := by simpa using congrArg List.length e2
      refine ⟨l, L0, rfl, hl, hL, by omega, fun a L ha sub all => ?_⟩
      have ex : Ext K ρ1 H1 ρ1 (upd H1 a (SetTO P w a L)) := ext_new ha
      have tp : ∀ p ∈ L, SqT K (upd H1 a (SetTO P w a L)) p.1 (p.2.map V.int) := fun p hp => ex.tup _ _ (hL p (sub p hp))
      have in0 : ∀ q ∈ L, q.2 ∈ ks.map (fun p => [p.1, p.2]) := fun q hq => by
        rw [← e2]
        exact List.mem_map_of_mem (sub q hq)
      refine ⟨a, L, 2, 64, rfl, upd_same, tp, by omega, fun p hp => ?_, fun L' q pm nd fw pw hq => ?_⟩
      · obtain ⟨z, hz, e⟩ := List.mem_map.mp (in0 p hp)
        rw [← e]
        have := of_decide_eq_true (sm z hz)
        exact ⟨rfl, fun m hm => by
          simp only [List.mem_cons, List.not_mem_nil, or_false] at hm
          rcases hm with rfl | rfl <;> omega⟩
      · have e3 : L'.map (·.2) = (srtP ks).map (fun p => [p.1, p.2]) := sort_is ok1.2 pm nd pw in0 fun p hp => by
          have : [p.1, p.2] ∈ L0.map (·.2) := by rw [e2]; exact List.mem_map_of_mem (f := fun p : Int × Int => [p.1, p.2]) hp
          obtain ⟨z, hz, e⟩ := List.mem_map.mp this
          rw [← e]
          exact all z hz
        have ex2 : Ext K ρ1 (upd H1 a (SetTO P w a L)) (ρ1 ++ [q]) (upd (upd H1 a (SetTO P w a L)) q (.lst (L'.map fun q => V.ref q.1))) := (ext_new hq).trans Ext.grow
        have sm2 := sm1.laid (o := SetTO P w a L) ha
        exact k (ρ1 ++ [q]) _ _ ((x1.trans ex).trans ex2) (sm2.new hq ⟨_, upd_same, rv_pairs e3 fun p hp => (ext_new (K := K) (ρ := ρ1) hq).tup _ _ (tp p (pm.mem_iff.mp hp))⟩) ⟨q, new_at sm2, rfl⟩
    · cases hm
  · cases hm
end
section
variable {X : Cx} {p p2 q pos : Pos} {e : Expr} {me : ME}
theorem den_ssp (hc : X.calm = true) (hu : X.A.units + 64 < cLine) (hg : Gl X "sorted") (hm : X.mg "sorted" = none) (hg2 : Gl X "set") (hm2 : X.mg "set" = none) (ha : DenA X [e] (aCons me aNil))
    (he0 : starEach [Expr.Call (.Name "set" p2) [e] [] q] X.env = (false, eval (Expr.Call (.Name "set" p2) [e] [] q) X.env) :: starEach [] X.env := by rfl) (he : starEach [e] X.env = (false, eval e X.env) :: starEach [] X.env := by rfl)
    (hp0 : (backTo pos (starEach [] X.env)).any (·.1) = false := by rfl) (hp : (backTo q (starEach [] X.env)).any (·.1) = false := by rfl) : Den X (.Call (.Name "sorted" p) [.Call (.Name "set" p2) [e] [] q] [] pos) (mCall vSSP (aCons me aNil)) :=
  PE.imp (pe_callB (cr_sortedT hc) hg hm rfl (pa_cons (pe_callTy (cr_setOfU hc hu) hg2 hm2 rfl ha (by decide +kernel) (by decide +kernel) he hp) pa_nil he0) (by decide +kernel) (by decide +kernel) he0 hp0) fun _ _ _ h => rd_ssp h
end
/-! ### a list, some times -/
def vRep : V2 := fun p q S => match q with
  | .int k => (mutAt p S).bind fun a => if 0 ≤ k ∧ k < 2 ^ 40 ∧ szB (a.2.length * k.toNat) = true then some (.ref S.length, S ++ [.lst (List.replicate k.toNat a.2).flatten]) else none
  | _ => none
theorem rvs_rep {K : PySem.W.Frag} {ρ : List Addr} {H : Hp} {xs : List PV} {vs : List V} (h : Rvs K ρ H xs vs) : ∀ n, Rvs K ρ H (List.replicate n xs).flatten (List.replicate n vs).flatten
  | 0 => rfl
  | n + 1 => by
    rw [List.replicate_succ, List.replicate_succ, List.flatten_cons, List.flatten_cons]
    exact h.append (rvs_rep h n)
theorem snd_rep {K : PySem.W.Frag} : Snd2 K rRep vRep := by
  intro ρ S H p q x y v S' Q s rp rq hf k
  unfold vRep at hf
  split at hf
  · rename_i m
    obtain ⟨⟨n, xs⟩, h1, h2⟩ := Option.bind_eq_some_iff.mp hf
    simp only at h2
    split at h2
    · rename_i hz
      cases h2
      obtain ⟨a, vs, _, rfl, _, g2, g3⟩ := mut_rv s rp h1
      cases rq
      have b1 : -(2 ^ 63 : Int) ≤ m := by have := hz.1; omega
      have b2 : m < (2 ^ 63 : Int) := by have := hz.2.1; omega
      refine ⟨a, m, vs, rfl, rfl, g2, b1, b2, by rw [g3.length]; exact szB_ok hz.2.2, fun l hl => ?_⟩
      exact k (ρ ++ [l]) _ _ ((ext_new hl).trans Ext.grow) (s.new hl ⟨_, upd_same, Rvs.mono (ext_new hl) _ _ (rvs_rep g3 _)⟩) ⟨l, new_at s, rfl⟩
    · cases h2
  · cases hf
section
variable {X : Cx} {a b : Expr} {ma mb : ME} {pos : Pos}
theorem den_rep (ha : Den X a ma) (hb : Den X b mb) : Den X (.BinOp a .Mult b pos) (mOp vRep ma mb) := den_op op_rep snd_rep ha hb
end
/-- a def that is not entered again -/
theorem pm_none {P : Program} {w : World} {K : PySem.W.Frag} {mg : Str → Option Value} {base : Heap} {x : Str} {st : Stmt} {ps : List Str} {k : Nat} (D : Dn K mg x st) : Pm P w K mg base k x st ps (fun _ _ => none) := by
  obtain ⟨fd, F⟩ := D.fn
  refine ⟨⟨fd, F, ⟨fun vs H Q h => ?_, fun A outer s H args us vs Q _ _ _ _ _ h => ?_⟩⟩, D.at_⟩
  · obtain ⟨_, _, _, _, _, _, _, _, hm, _⟩ := h
    cases hm
  · obtain ⟨_, _, _, _, _, _, _, _, hm, _⟩ := h
    cases hm
end Ip
set_option Elab.async false
set_option linter.all false
set_option maxRecDepth 100000
set_option maxHeartbeats 1000000
/-! Ip17: what the top leaves, by names; the end of a row. -/
namespace Ip
open PySem PySem.Spec PyProof.Rows L2

def obsE (n : Nat) (fa : List He.Fa) (fn : List He.DefD) (ex : PySem.W.Frag → Bool) (g : Addr → Option Obj) : He.AlD × Bool := (He.obsD fa fn (He.frG g (He.asD g n)), ex (He.frG g (He.asD g n)))
def hookE (n : Nat) (fa : List He.Fa) (fn : List He.DefD) (ex : PySem.W.Frag → Bool) : PySem.W.Hook where
  α := He.AlD × Bool
  obs := fun s => obsE n fa fn ex s.heap.get?
  val := fun _ => (He.valD fn, true)
  says := fun _ h => ∃ K : PySem.W.Frag, K.In h ∧ He.SaysD fa fn K ∧ ex K = true
  of := fun _ s e => ⟨_, He.frG_in, (show He.obsD fa fn (He.frG s.heap.get? (He.asD s.heap.get? n)) = He.valD fn from congrArg (fun z : He.AlD × Bool => z.1) e), (show ex (He.frG s.heap.get? (He.asD s.heap.get? n)) = true from congrArg (fun z : He.AlD × Bool => z.2) e)⟩
  keeps := fun _ _ _ ⟨K, hK, c⟩ k => ⟨K, PySem.W.Frag.In.keeps hK k, c⟩
theorem obsE_eq {n : Nat} {fa : List He.Fa} {fn : List He.DefD} {ex : PySem.W.Frag → Bool} {g : Addr → Option Obj} {s : Shared} (h : ∀ a, g a = s.heap.get? a) : obsE n fa fn ex g = (hookE n fa fn ex).obs s := by
  have e : g = s.heap.get? := funext h
  rw [e]
  rfl
theorem walk_GE {l : PySem.W.OpenLaw} {n k : Nat} {q : Program} {loose : List Str} {XP : (Str → Option Value) → Heap → Prop} {YP : World → Heap → Prop} {d : DefRec} {m : World → MF} {x : Str}
    (hn : l.most = some n) (hn2 : n ≤ sizeLine) (hdf : d.params.defaults = []) (room : Room k callerA)
    (F : ∀ (w : World) (mg : Str → Option Value) (fa : Addr) (h : Heap), YP w h → h.Ns mainGlobals mg → mg d.name = some (.ref fa) →
      ∃ K : PySem.W.Frag, K.In h ∧ ∃ fd : FuncData, (∀ (s : Shared) (u : Value), BindsTo s fd ⟨[u], []⟩ [(x, u)]) ∧ ∀ base : Heap, K.In base → base.Ns mainGlobals mg → FnG l.prog w K mg base k fa fd [x] (spM K 1 (m w)))
    (holds : ∀ (w : World) (ns : List Int), ns.length ≤ n → ∃ S', m w [.frl (ns.map .int)] [] = some (.bl true, S')) : PySem.W.WalkO q loose XP YP l.row.toRowW d [] (fun f vs => PySem.call f vs) := by
  refine Att.attach_call hn hdf fun w s₀ s₁ mg mb fa o pm cd doc a vs ns G Y ho hd hcd hmg hobj hints few hg => ?_
  obtain ⟨K, KX, fd, hb, hF⟩ := F w mg fa _ Y G.T.g hmg
  obtain ⟨S', hS⟩ := holds w ns few
  exact law_G KX G.T.g G.T.b G.T.builtins G.T.nolimit hg hobj hints (Nat.le_trans few hn2) room hF hb fun H hf => ask_law hf hS
theorem pm_law {P : Program} {w : World} {K : PySem.W.Frag} {mg : Str → Option Value} {k k' : Nat} {st : Stmt} {m : MF} {fa : Addr} (p : ∀ base, Pm P w K mg base k' "law" st ["script"] m) (hk : k' ≤ k) (hmg : mg "law" = some (.ref fa)) (hb : BA "law" st ["script"] 1 [] (List.range 1)) :
    ∃ fd : FuncData, (∀ (s : Shared) (u : Value), BindsTo s fd ⟨[u], []⟩ [("script", u)]) ∧ ∀ base : Heap, K.In base → base.Ns mainGlobals mg → FnG P w K mg base k fa fd ["script"] (spM K 1 m) := by
  have p0 := p default
  obtain ⟨fd0, F0, G0⟩ := p0.ex
  have e : fa = Ad K "law" := by
    have z := hmg.symm.trans p0.at_
    cases z
    rfl
  subst e
  refine ⟨fd0, fun s u => ?_, fun base _ _ => ?_⟩
  · have := kb_mk F0 hb s [u] [] rfl rfl
    simpa [pick] using this
  · obtain ⟨fd, F, G⟩ := (p base).ex
    have e : fd = fd0 := by
      obtain ⟨oc, od, kV, doc, pm, an, cdv, ct, osl, h1, h2, _⟩ := F.ex
      obtain ⟨oc', od', kV', doc', pm', an', cdv', ct', osl', h1', h2', _⟩ := F0.ex
      rw [h2] at h2'
      cases h2'
      rfl
    subst e
    exact G.up hk
end Ip
set_option Elab.async false
set_option linter.all false
set_option maxRecDepth 100000
set_option maxHeartbeats 1000000
/-! Ip18: what a run of the mirror comes to, step by step. -/
namespace Ip
open PySem PySem.Spec L2

def W {α : Type} (r : MR α) (Q : α → Store → Prop) : Prop := ∃ v S, r = some (v, S) ∧ Q v S
section
variable {α β : Type} {r : MR α} {S : Store} {v : α} {Q : α → Store → Prop}
theorem W_some : W (some (v, S)) Q = Q v S := propext ⟨fun ⟨_, _, e, q⟩ => by cases e; exact q, fun q => ⟨v, S, rfl, q⟩⟩
theorem W_none : W (none : MR α) Q = False := propext ⟨fun ⟨_, _, e, _⟩ => (nomatch e), False.elim⟩
theorem W_bind {f : α × Store → MR β} {Q : β → Store → Prop} : W (r.bind f) Q = W r fun v S => W (f (v, S)) Q := propext ⟨fun ⟨v, S, e, q⟩ => by
  obtain ⟨⟨u, T⟩, e1, e2⟩ := Option.bind_eq_some_iff.mp e
  exact ⟨u, T, e1, v, S, e2, q⟩, fun ⟨u, T, e1, v, S, e2, q⟩ => ⟨v, S, Option.bind_eq_some_iff.mpr ⟨(u, T), e1, e2⟩, q⟩⟩
theorem W_map {f : α × Store → β × Store} {Q : β → Store → Prop} : W (r.map f) Q = W r fun v S => Q (f (v, S)).1 (f (v, S)).2 := propext ⟨fun ⟨v, S, e, q⟩ => by
  obtain ⟨⟨u, T⟩, e1, e2⟩ := Option.map_eq_some_iff.mp e
  refine ⟨u, T, e1, ?_⟩
  show Q (f (u, T)).1 (f (u, T)).2
  rw [e2]
  exact q, fun ⟨u, T, e1, q⟩ => ⟨_, _, Option.map_eq_some_iff.mpr ⟨(u, T), e1, rfl⟩, q⟩⟩
theorem W.mono {Q' : α → Store → Prop} (h : W r Q) (i : ∀ v S, Q v S → Q' v S) : W r Q' := h.elim fun v ⟨S, e, q⟩ => ⟨v, S, e, i v S q⟩
theorem W_m2 {ma : PEnv → Store → MR α} {f : α → PEnv → Store → MR β} {σ : PEnv} {Q : β → Store → Prop} : W (m2 ma f σ S) Q = W (ma σ S) fun v S1 => W (f v σ S1) Q := W_bind
end
section
variable {σ : PEnv} {S : Store} {Q : PV → Store → Prop} {T : Bool → Store → Prop} {F : Fl → Store → Prop} {L : List PV → Store → Prop} {ma mb : ME} {ta tb : MT} {me : MA} {sa sb : MS}
theorem W_var {i : Nat} : W (mVar i σ S) Q = ∃ v, σ[i]? = some (some v) ∧ Q v S := propext ⟨fun ⟨v, S', e, q⟩ => by
  obtain ⟨u, e1, e2⟩ := Option.map_eq_some_iff.mp e
  cases e2
  refine ⟨v, ?_, q⟩
  cases h : σ[i]? with
  | none => rw [h] at e1; cases e1
  | some o =>
    rw [h] at e1
    exact congrArg some e1, fun ⟨v, e, q⟩ => ⟨v, S, by unfold mVar; rw [e]; rfl, q⟩⟩
theorem W_con {v : PV} : W (mCon v σ S) Q = Q v S := W_some
theorem W_op {f : V2} : W (mOp f ma mb σ S) Q = W (ma σ S) fun p S1 => W (mb σ S1) fun q S2 => W (f p q S2) Q := by
  unfold mOp
  rw [W_m2]
  congr 1
  funext p S1
  rw [W_m2]
theorem W_call {f : VL} : W (mCall f me σ S) Q = W (me σ S) fun ps S1 => W (f ps S1) Q := W_m2
theorem W_fn {m : MF} : W (mFn m me σ S) Q = W (me σ S) fun ps S1 => W (m ps S1) Q := W_m2
theorem W_nil : W (aNil σ S) L = L [] S := W_some
theorem W_cons : W (aCons ma me σ S) L = W (ma σ S) fun p S1 => W (me σ S1) fun ps S2 => L (p :: ps) S2 := by
  unfold aCons
  rw [W_m2]
  congr 1
  funext p S1
  rw [W_m2]
  congr 1
  funext ps S2
  rw [W_some]
theorem W_test : W (mTest ma σ S) T = W (ma σ S) fun p S1 => ∃ b, p = .bl b ∧ T b S1 := by
  unfold mTest
  rw [W_m2]
  congr 1
  funext p S1
  refine propext ⟨fun ⟨v, S', e, q⟩ => ?_, fun ⟨b, e, q⟩ => ?_⟩
  · obtain ⟨b, e1, e2⟩ := Option.map_eq_some_iff.mp e
    cases e2
    cases p <;> first | (cases e1; exact ⟨_, rfl, q⟩) | cases e1
  · subst e
    exact ⟨b, S1, rfl, q⟩
theorem W_if {t : MT} : W (sIf t sa sb σ S) F = W (t σ S) fun p S1 => if p = true then W (sa σ S1) F else W (sb σ S1) F := by
  unfold sIf
  rw [W_m2]
  congr 1
  funext p S1
  cases p <;> rfl
theorem W_ite {t : MT} : W (mIte t ma mb σ S) Q = W (t σ S) fun p S1 => if p = true then W (ma σ S1) Q else W (mb σ S1) Q := by
  unfold mIte
  rw [W_m2]
  congr 1
  funext p S1
  cases p <;> rfl
theorem W_seq : W (sSeq sa sb σ S) F = W (sa σ S) fun f S1 => match f with
    | .nx σ' => W (sb σ' S1) F
    | f => F f S1 := by
  unfold sSeq
  rw [W_m2]
  congr 1
  funext f S1
  cases f
  · rfl
  · exact W_some
  · exact W_some
  · exact W_some
theorem W_skip : W (sSkip σ S) F = F (.nx σ) S := W_some
theorem W_ret : W (sRet ma σ S) F = W (ma σ S) fun p S1 => F (.rt p) S1 := by
  unfold sRet
  rw [W_m2]
  congr 1
  funext p S1
  exact W_some
theorem W_expr : W (sExpr ma σ S) F = W (ma σ S) fun _ S1 => F (.nx σ) S1 := by
  unfold sExpr
  rw [W_m2]
  congr 1
  funext p S1
  exact W_some
theorem W_set {i : Nat} : W (sAsg ma (gN i) σ S) F = W (ma σ S) fun p S1 => F (.nx (σ.set i (some p))) S1 := by
  unfold sAsg
  rw [W_m2]
  congr 1
  funext p S1
  exact W_some
theorem W_put {mo mi : ME} : W (sAsg ma (gI mo mi) σ S) F = W (ma σ S) fun p S1 => W (mo σ S1) fun o S2 => W (mi σ S2) fun i S3 => ∃ k, i = .int k ∧ ∃ z, mutAt o S3 = some z ∧ ∃ j, ixN z.2.length k = some j ∧ F (.nx σ) (S3.set z.1 (.lst (z.2.set j p))) := by
  unfold sAsg gI
  rw [W_m2]
  congr 1
  funext p S1
  rw [W_map, W_bind]
  congr 1
  funext o S2
  rw [W_bind]
  congr 1
  funext i S3
  refine propext ⟨fun ⟨τ, S', e, q⟩ => ?_, fun ⟨k, e1, z, e2, j, e3, q⟩ => ?_⟩
  · simp only at e
    cases i with
    | int kk =>
      obtain ⟨⟨n, xs⟩, e1, e2⟩ := Option.bind_eq_some_iff.mp e
      obtain ⟨j, e3, e4⟩ := Option.map_eq_some_iff.mp e2
      cases e4
      exact ⟨kk, rfl, (n, xs), e1, j, e3, q⟩
    | _ => cases e
  · subst e1
    refine ⟨σ, _, ?_, q⟩
    simp only [e2, Option.bind_some, e3, Option.map_some]
theorem W_tup : W (mTup me σ S) Q = W (me σ S) fun ps S1 => szB ps.length = true ∧ Q (.tup ps) S1 := by
  unfold mTup
  rw [W_m2]
  congr 1
  funext ps S1
  by_cases h : szB ps.length = true
  · rw [if_pos h, W_some]; simp [h]
  · rw [if_neg h, W_none]; simp [h]
theorem W_lst : W (mLst me σ S) Q = W (me σ S) fun ps S1 => szB ps.length = true ∧ Q (.ref S1.length) (S1 ++ [.lst ps]) := by
  unfold mLst
  rw [W_m2]
  congr 1
  funext ps S1
  by_cases h : szB ps.length = true
  · rw [if_pos h, W_some]; simp [h]
  · rw [if_neg h, W_none]; simp [h]
theorem W_idx {p : PV} {i : Int} : W (vIdx p (.int i) S) Q = ∃ xs, itemsOf p S = some xs ∧ ∃ v, atI xs i = some v ∧ Q v S := by
  refine propext ⟨fun ⟨v, S', e, q⟩ => ?_, fun ⟨xs, e1, v, e2, q⟩ => ⟨v, S, by simp [vIdx, e1, e2], q⟩⟩
  obtain ⟨u, e1, e2⟩ := Option.map_eq_some_iff.mp e
  cases e2
  obtain ⟨xs, e3, e4⟩ := Option.bind_eq_some_iff.mp e1
  exact ⟨xs, e3, v, e4, q⟩
theorem W_add {i j : Int} : W (vAdd (.int i) (.int j) S) Q = Q (.int (i + j)) S := W_some
theorem W_sub {i j : Int} : W (vSub (.int i) (.int j) S) Q = Q (.int (i - j)) S := W_some
theorem W_lt {i j : Int} : W (vLt (.int i) (.int j) S) Q = Q (.bl (decide (i < j))) S := W_some
theorem W_le {i j : Int} : W (vLe (.int i) (.int j) S) Q = Q (.bl (decide (i ≤ j))) S := W_some
theorem W_gt {i j : Int} : W (vGt (.int i) (.int j) S) Q = Q (.bl (decide (j < i))) S := W_some
theorem W_ge {i j : Int} : W (vGe (.int i) (.int j) S) Q = Q (.bl (decide (j ≤ i))) S := W_some
theorem W_I {g : Int → Int → PV} {c : Int → Int → Bool} {i j : Int} : W (vI g c (.int i) (.int j) S) Q = (c i j = true ∧ Q (g i j) S) := by
  show W (if c i j = true then some (g i j, S) else none) Q = _
  by_cases h : c i j = true
  · rw [if_pos h, W_some]; simp [h]
  · rw [if_neg h, W_none]; simp [h]
theorem W_mod {i j : Int} : W (vMod (.int i) (.int j) S) Q = (0 < j ∧ Q (.int (i % j)) S) := by
  unfold vMod; rw [W_I, decide_eq_true_eq]
theorem W_div {i j : Int} : W (vDiv (.int i) (.int j) S) Q = ((0 < j ∧ j < 1073741824) ∧ Q (.int (i / j)) S) := by
  unfold vDiv; rw [W_I, decide_eq_true_eq]
theorem W_mul {i j : Int} : W (vMul (.int i) (.int j) S) Q = (((-(2 ^ 64) < i ∧ i < 2 ^ 64) ∨ (-(2 ^ 64) < j ∧ j < 2 ^ 64)) ∧ Q (.int (i * j)) S) := by
  unfold vMul; rw [W_I, decide_eq_true_eq]
theorem W_pow {i j : Int} : W (vPow (.int i) (.int j) S) Q = ((0 ≤ j ∧ j ≤ 1000000 ∧ i.natAbs < 2 ^ 64) ∧ Q (.int (i ^ j.toNat)) S) := by
  unfold vPow; rw [W_I, decide_eq_true_eq]
theorem W_int {i : Int} : W (vInt [.int i] S) Q = Q (.int i) S := W_some
theorem W_abs {i : Int} : W (vAbs [.int i] S) Q = Q (.int (if i < 0 then -i else i)) S := W_some
theorem W_min2 {i j : Int} : W (vMin2 [.int i, .int j] S) Q = Q (.int (if j < i then j else i)) S := W_some
theorem W_max2 {i j : Int} : W (vMax2 [.int i, .int j] S) Q = Q (.int (if j > i then j else i)) S := W_some
/-- a def: from its block -/
theorem W_def {N : List Str} {b : MS} {ps : List PV} : W (fnM N b ps S) Q = W (b (startP N ps) S) fun f S1 => match f with
    | .nx _ => Q .non S1
    | .rt v => Q v S1
    | _ => False := by
  unfold fnM
  rw [W_bind]
  congr 1
  funext f S1
  cases f
  · exact W_some
  · exact W_some
  · exact W_none
  · exact W_none
theorem W_andM : W (tAndM ta tb σ S) T = W (ta σ S) fun p S1 => if p = true then W (tb σ S1) T else T false S1 := by
  unfold tAndM
  rw [W_m2]
  congr 1
  funext p S1
  cases p
  · exact W_some
  · rfl
theorem W_orM : W (tOrM ta tb σ S) T = W (ta σ S) fun p S1 => if p = true then T true S1 else W (tb σ S1) T := by
  unfold tOrM
  rw [W_m2]
  congr 1
  funext p S1
  cases p
  · rfl
  · exact W_some
theorem W_notM : W (tNotM ta σ S) T = W (ta σ S) fun p S1 => T (!p) S1 := by
  unfold tNotM
  rw [W_m2]
  congr 1
  funext p S1
  exact W_some
theorem W_and : W (mAnd ma mb σ S) Q = W (mTest ma σ S) fun p S1 => if p = true then W (mb σ S1) Q else Q (.bl false) S1 := by
  unfold mAnd
  rw [W_m2]
  congr 1
  funext p S1
  cases p
  · exact W_some
  · rfl
theorem W_or : W (mOr ma mb σ S) Q = W (mTest ma σ S) fun p S1 => if p = true then Q (.bl true) S1 else W (mb σ S1) Q := by
  unfold mOr
  rw [W_m2]
  congr 1
  funext p S1
  cases p
  · rfl
  · exact W_some
theorem W_not : W (mNot ma σ S) Q = W (mTest ma σ S) fun p S1 => Q (.bl (!p)) S1 := by
  unfold mNot
  rw [W_m2]
  congr 1
  funext p S1
  exact W_some
end
end Ip
set_option Elab.async false
set_option linter.all false
set_option maxRecDepth 100000
set_option maxHeartbeats 1000000
/-! Ip19: loops, comprehensions, builtins of lists, step by step. -/
namespace Ip
open PySem PySem.Spec L2

section
variable {σ : PEnv} {S : Store} {Q : PV → Store → Prop} {F : Fl → Store → Prop} {mi : MI} {me : ME} {ma : MA} {g : MG} {t : MT} {b : MS} {lk : Lk}
/-- what comes behind a loop's turn -/
def Turned (P : PEnv → Store → Prop) (F : Fl → Store → Prop) : Fl → Store → Prop := fun f S => match f with
  | .nx σ => P σ S
  | .ct σ => P σ S
  | .bk σ => F (.nx σ) S
  | .rt v => F (.rt v) S
theorem W_forM {xs : List PV} (P : List PV → PEnv → Store → Prop) (hl : ∀ ys σ S, P ys σ S → lkOk lk S = true) (hs : ∀ x ys σ S, P (x :: ys) σ S → W (g x σ S) fun σ1 S1 => W (b σ1 S1) (Turned (P ys) F)) (hd : ∀ σ S, P [] σ S → F (.nx σ) S) :
    ∀ (xs : List PV) (σ : PEnv) (S : Store), P xs σ S → W (forM g b lk xs σ S) F
  | [], σ, S, h => by
    unfold forM
    rw [if_pos (hl _ _ _ h), W_some]
    exact hd σ S h
  | x :: xs, σ, S, h => by
    unfold forM
    rw [if_pos (hl _ _ _ h), W_bind]
    refine (hs x xs σ S h).mono fun σ1 S1 h1 => ?_
    rw [W_bind]
    refine h1.mono fun f S2 h2 => ?_
    cases f with
    | nx τ => exact W_forM (xs := xs) P hl hs hd xs τ S2 h2
    | ct τ => exact W_forM (xs := xs) P hl hs hd xs τ S2 h2
    | bk τ => exact W_some ▸ h2
    | rt v => exact W_some ▸ h2
theorem W_for : W (sFor mi g b σ S) F = W (mi σ S) fun r S1 => W (forM g b r.2 r.1 σ S1) F := W_m2
theorem W_range1 {R : List PV × Lk → Store → Prop} (hm : W (ma σ S) fun ps S1 => ∃ j : Int, ps = [.int j] ∧ (-(2 ^ 62) ≤ j ∧ j < 2 ^ 62) ∧ R (rangeP 0 j.toNat, []) S1) : W (iRange ma σ S) R := by
  unfold iRange
  rw [W_m2]
  refine hm.mono fun ps S1 ⟨j, e, h, r⟩ => ?_
  subst e
  simp only [h, and_self, if_true, W_some]
  exact r
theorem W_range2 {R : List PV × Lk → Store → Prop} (hm : W (ma σ S) fun ps S1 => ∃ i j : Int, ps = [.int i, .int j] ∧ (-(2 ^ 62) ≤ i ∧ i < 2 ^ 62 ∧ -(2 ^ 62) ≤ j ∧ j < 2 ^ 62) ∧ R (rangeP i (j - i).toNat, []) S1) : W (iRange ma σ S) R := by
  unfold iRange
  rw [W_m2]
  refine hm.mono fun ps S1 ⟨i, j, e, h, r⟩ => ?_
  subst e
  simp only [h, and_self, if_true, W_some]
  exact r
/-- what an iteration of a value meets: its items, and that a list stays as it is -/
def Seq (p : PV) (S : Store) (xs : List PV) (lk : Lk) : Prop := match p with
  | .ref n => S[n]? = some (.lst xs) ∧ lk = [(n, xs)]
  | .tup ys => ys = xs ∧ lk = []
  | .frl ys => ys = xs ∧ lk = []
  | _ => False
theorem W_seqI {R : List PV × Lk → Store → Prop} (hm : W (me σ S) fun p S1 => ∃ xs lk, Seq p S1 xs lk ∧ R (xs, lk) S1) : W (iSeq me σ S) R := by
  unfold iSeq
  rw [W_m2]
  refine hm.mono fun p S1 ⟨xs, lk, h, r⟩ => ?_
  cases p with
  | ref n =>
    obtain ⟨h1, rfl⟩ := h
    simp only [h1, W_some]
    exact r
  | tup ys =>
    obtain ⟨rfl, rfl⟩ := h
    exact ⟨_, _, rfl, r⟩
  | frl ys =>
    obtain ⟨rfl, rfl⟩ := h
    exact ⟨_, _, rfl, r⟩
  | _ => exact h.elim

/-! ### comprehensions -/
theorem W_lcM {e : ME} {n : Nat} {R : List PV → Store → Prop} (P : List PV → List PV → Store → Prop) (hl : ∀ ys acc S, P ys acc S → lkOk lk S = true)
    (hs : ∀ x ys acc S, P (x :: ys) acc S → W (g x σ S) fun σ1 S1 => W (t σ1 S1) fun c S2 => if c = true then W (e σ1 S2) fun y S3 => S3[n]? = some (.lst acc) ∧ szB (acc.length + 1) = true ∧ P ys (acc ++ [y]) (S3.set n (.lst (acc ++ [y]))) else P ys acc S2)
    (hd : ∀ acc S, P [] acc S → R acc S) : ∀ (xs acc : List PV) (S : Store), P xs acc S → W (lcM g t e lk n σ xs acc S) R
  | [], acc, S, h => by
    unfold lcM
    rw [if_pos (hl _ _ _ h), W_some]
    exact hd acc S h
  | x :: xs, acc, S, h => by
    unfold lcM
    rw [if_pos (hl _ _ _ h), W_bind]
    refine (hs x xs acc S h).mono fun σ1 S1 h1 => ?_
    rw [W_bind]
    refine h1.mono fun c S2 h2 => ?_
    cases c with
    | true =>
      simp only [if_true] at h2 ⊢
      rw [W_bind]
      refine h2.mono fun y S3 ⟨h3, h4, h5⟩ => ?_
      rw [if_pos ⟨h3, h4⟩]
      exact W_lcM P hl hs hd xs _ _ h5
    | false =>
      simp only [Bool.false_eq_true, if_false] at h2 ⊢
      exact W_lcM P hl hs hd xs acc S2 h2
theorem W_lc {e : ME} {vs : List Nat} : W (mLc mi g t e vs σ S) Q = W (mi σ S) fun r S1 => W (lcM g t e r.2 S1.length (wipeP σ vs) r.1 [] (S1 ++ [.lst []])) fun _ S2 => Q (.ref S1.length) S2 := by
  unfold mLc
  rw [W_m2]
  congr 1
  funext r S1
  rw [W_map]

/-! ### builtins -/
theorem W_len {p : PV} {xs : List PV} (h : itemsOf p S = some xs) : W (vLen [p] S) Q = Q (.int xs.length) S := by
  have e : vLen [p] S = some (.int xs.length, S) := by
    cases p with
    | str x => cases h
    | _ => simp only [vLen, h, Option.map_some]
  rw [e, W_some]
theorem W_vtuple {p : PV} {xs : List PV} (h : itemsOf p S = some xs) : W (vTuple [p] S) Q = Q (.tup xs) S := by
  show W ((itemsOf p S).map fun xs => ((.tup xs, S) : PV × Store)) Q = _
  rw [h]
  exact W_some
theorem W_vlist {p : PV} {xs : List PV} (h : itemsOf p S = some xs) : W (vList [p] S) Q = Q (.ref S.length) (S ++ [.lst xs]) := by
  show W ((itemsOf p S).map fun xs => ((.ref S.length, S ++ [.lst xs]) : PV × Store)) Q = _
  rw [h]
  exact W_some
theorem W_append {mo : ME} : W (mMeth fAppend mo ma σ S) Q = W (mo σ S) fun p S1 => (∃ z, mutAt p S1 = some z) ∧ W (ma σ S1) fun ps S2 => ∃ z, mutAt p S2 = some z ∧ ∃ y, ps = [y] ∧ szB (z.2.length + 1) = true ∧ Q .non (S2.set z.1 (.lst (z.2 ++ [y]))) := by
  unfold mMeth
  rw [W_m2]
  congr 1
  funext p S1
  cases h : mutAt p S1 with
  | none => simp [W_none]
  | some z =>
    simp only [Option.some.injEq, exists_eq', true_and]
    rw [W_m2]
    congr 1
    funext ps S2
    cases h2 : mutAt p S2 with
    | none => simp [W_none]
    | some z2 =>
      obtain ⟨n, xs⟩ := z2
      simp only [Option.some.injEq, exists_eq_left', fAppend]
      cases ps with
      | nil => simp [W_none]
      | cons y r =>
        cases r with
        | nil =>
          by_cases hz : szB (xs.length + 1) = true
          · simp [hz, W_some]
          · simp [hz, W_none]
        | cons _ _ => simp [W_none]
theorem W_extend {mo : ME} : W (mMeth fExtend mo ma σ S) Q = W (mo σ S) fun p S1 => (∃ z, mutAt p S1 = some z) ∧ W (ma σ S1) fun ps S2 => ∃ z, mutAt p S2 = some z ∧ ∃ r, fExtend z.2 ps S2 = some r ∧ Q r.1 (S2.set z.1 (.lst r.2)) := by
  unfold mMeth
  rw [W_m2]
  congr 1
  funext p S1
  cases h : mutAt p S1 with
  | none => simp [W_none]
  | some z =>
    simp only [Option.some.injEq, exists_eq', true_and]
    rw [W_m2]
    congr 1
    funext ps S2
    cases h2 : mutAt p S2 with
    | none => simp [W_none]
    | some z2 =>
      obtain ⟨n, xs⟩ := z2
      simp only [Option.some.injEq, exists_eq_left']
      cases h3 : fExtend xs ps S2 with
      | none => simp [W_none]
      | some r => simp [W_some]
theorem W_eq {p q : PV} {d e : PyData} {neg : Bool} (h1 : deep 16 S p = some d) (h2 : deep 16 S q = some e) (h3 : (SeqAt.shaped d && SeqAt.shaped e) = true) : W (vEq neg p q S) Q = Q (.bl (neg ^^ PyData.eqv d e)) S := by
  unfold vEq
  simp only [h1, h2, Option.bind_some, h3, if_true, W_some]
theorem W_sum {p : PV} {xs : List PV} {ns : List Int} (h : listOf p S = some xs) (h2 : intsOf xs = some ns) : W (vSum [p] S) Q = Q (.int ns.sum) S := by
  show W (((listOf p S).bind intsOf).map fun bs => ((.int bs.sum, S) : PV × Store)) Q = _
  rw [h, Option.bind_some, h2]
  exact W_some
theorem W_all {p : PV} {xs : List PV} {bs : List Bool} (h : listOf p S = some xs) (h2 : boolsOf xs = some bs) : W (vAll [p] S) Q = Q (.bl (bs.all id)) S := by
  show W (((listOf p S).bind boolsOf).map fun bs => ((.bl (bs.all id), S) : PV × Store)) Q = _
  rw [h, Option.bind_some, h2]
  exact W_some
theorem W_repr {p : PV} {d : PyData} (h : deep 16 S p = some d) (h2 : reprOk d = true) : W (vRepr [p] S) Q = Q (.str d.shown) S := by
  show W ((deep 16 S p).bind fun d => if reprOk d then some ((.str d.shown, S) : PV × Store) else none) Q = _
  rw [h, Option.bind_some, if_pos h2]
  exact W_some
/-- two numbers compared -/
theorem W_eqI {i j : Int} {neg : Bool} : W (vEq neg (.int i) (.int j) S) Q = Q (.bl (neg ^^ decide (i = j))) S := by
  rw [W_eq (d := .int i) (e := .int j) rfl rfl rfl]
  congr 2
end
end Ip
set_option Elab.async false
set_option linter.all false
set_option maxRecDepth 100000
set_option maxHeartbeats 1000000
/-! Ip20: data of a value, as the store grows. -/
namespace Ip
open PySem PySem.Spec L2

theorem mapO_mono {α β : Type} {f g : α → Option β} (h : ∀ x y, f x = some y → g x = some y) : ∀ (xs : List α) (ys : List β), mapO f xs = some ys → mapO g xs = some ys
  | [], _, e => e
  | x :: xs, ys, e => by
    obtain ⟨y, e1, e2⟩ := Option.bind_eq_some_iff.mp e
    obtain ⟨zs, e3, e4⟩ := Option.map_eq_some_iff.mp e2
    subst e4
    show (g x).bind _ = _
    rw [h x y e1, Option.bind_some, mapO_mono h xs zs e3]
    rfl
theorem mapO_cons {α β : Type} {f : α → Option β} {x : α} {xs : List α} {y : β} {ys : List β} (h1 : f x = some y) (h2 : mapO f xs = some ys) : mapO f (x :: xs) = some (y :: ys) := by
  show (f x).bind _ = _
  rw [h1, Option.bind_some, h2]
  rfl
theorem mapO_app {α β : Type} {f : α → Option β} : ∀ {xs zs : List α} {ys ws : List β}, mapO f xs = some ys → mapO f zs = some ws → mapO f (xs ++ zs) = some (ys ++ ws)
  | [], zs, ys, ws, h1, h2 => by
    cases h1
    exact h2
  | x :: xs, zs, ys, ws, h1, h2 => by
    obtain ⟨y, e1, e2⟩ := Option.bind_eq_some_iff.mp h1
    obtain ⟨us, e3, e4⟩ := Option.map_eq_some_iff.mp e2
    subst e4
    exact mapO_cons e1 (mapO_app e3 h2)
theorem mapO_get {α β : Type} {f : α → Option β} : ∀ {xs : List α} {ys : List β}, mapO f xs = some ys → xs.length = ys.length ∧ ∀ (i : Nat) (x : α) (y : β), xs[i]? = some x → ys[i]? = some y → f x = some y
  | [], ys, h => by
    cases h
    exact ⟨rfl, fun i x y h => by simp at h⟩
  | x :: xs, ys, h => by
    obtain ⟨y, e1, e2⟩ := Option.bind_eq_some_iff.mp h
    obtain ⟨us, e3, e4⟩ := Option.map_eq_some_iff.mp e2
    subst e4
    obtain ⟨l, g⟩ := mapO_get e3
    refine ⟨by simp [l], fun i a b h1 h2 => ?_⟩
    cases i with
    | zero =>
      cases h1
      cases h2
      exact e1
    | succ i => exact g i a b h1 h2
theorem deep_mono {A B : Store} (h : ∀ (j : Nat) (xs : List PV), A[j]? = some (.lst xs) → B[j]? = some (.lst xs)) : ∀ (n : Nat) (v : PV) (d : PyData), deep n A v = some d → deep n B v = some d
  | 0, _, _, e => by cases e
  | n + 1, v, d, e => by
    have ih := deep_mono h n
    cases v with
    | tup xs =>
      obtain ⟨ds, e1, e2⟩ := Option.map_eq_some_iff.mp e
      subst e2
      show (mapO (deep n B) xs).map PyData.tuple = _
      rw [mapO_mono (fun x y => ih x y) xs ds e1]
      rfl
    | frl xs =>
      obtain ⟨ds, e1, e2⟩ := Option.map_eq_some_iff.mp e
      subst e2
      show (mapO (deep n B) xs).map PyData.list = _
      rw [mapO_mono (fun x y => ih x y) xs ds e1]
      rfl
    | ref k =>
      simp only [deep] at e ⊢
      split at e
      · rename_i xs hk
        obtain ⟨ds, e1, e2⟩ := Option.map_eq_some_iff.mp e
        subst e2
        simp only [h k xs hk]
        rw [mapO_mono (fun x y => ih x y) xs ds e1]
        rfl
      · cases e
    | _ => exact e
/-- v holds d, and the object k has no part in it -/
def Dk (n k : Nat) (S : Store) (v : PV) (d : PyData) : Prop := deep n (S.set k (.st false [])) v = some d
theorem Dk.real {n k : Nat} {S : Store} {v : PV} {d : PyData} (h : Dk n k S v d) : deep n S v = some d := deep_mono (fun j xs e => by
  by_cases hj : k = j
  · subst hj
    by_cases hl : k < S.length
    · rw [List.getElem?_set_self hl] at e
      cases e
    · rw [List.getElem?_eq_none (by simp; omega)] at e
      cases e
  · rwa [List.getElem?_set_ne hj] at e) n v d h
theorem Dk.mono {n k : Nat} {S S' : Store} {v : PV} {d : PyData} (h : Dk n k S v d) (f : ∀ j, j < S.length → j ≠ k → S'[j]? = S[j]?) : Dk n k S' v d := deep_mono (fun j xs e => by
  by_cases hj : k = j
  · subst hj
    by_cases hl : k < S.length
    · rw [List.getElem?_set_self hl] at e
      cases e
    · rw [List.getElem?_eq_none (by simp; omega)] at e
      cases e
  · rw [List.getElem?_set_ne hj] at e
    rw [List.getElem?_set_ne hj, f j (List.getElem?_eq_some_iff.mp e).1 (Ne.symm hj)]
    exact e) n v d h
theorem Dk.int {n k : Nat} {S : Store} {i : Int} : Dk (n + 1) k S (.int i) (.int i) := rfl
theorem Dk.tup {n k : Nat} {S : Store} {xs : List PV} {ds : List PyData} (h : mapO (deep n (S.set k (.st false []))) xs = some ds) : Dk (n + 1) k S (.tup xs) (.tuple ds) := by
  show (mapO _ xs).map _ = _
  rw [h]
  rfl
theorem Dk.lst {n k r : Nat} {S : Store} {xs : List PV} {ds : List PyData} (hr : S[r]? = some (.lst xs)) (hk : k ≠ r) (h : mapO (deep n (S.set k (.st false []))) xs = some ds) : Dk (n + 1) k S (.ref r) (.list ds) := by
  show (match (S.set k (.st false []))[r]? with
    | some (.lst xs) => (mapO (deep n (S.set k (.st false []))) xs).map PyData.list
    | _ => none) = _
  rw [List.getElem?_set_ne hk, hr]
  show (mapO _ xs).map _ = _
  rw [h]
  rfl
/-- a sequence's items -/
theorem deep_items {n : Nat} {S : Store} {v : PV} {ds : List PyData} (h : deep (n + 1) S v = some (.tuple ds) ∨ deep (n + 1) S v = some (.list ds)) : ∃ ps, itemsOf v S = some ps ∧ mapO (deep n S) ps = some ds := by
  cases v with
  | tup xs =>
    rcases h with h | h
    · obtain ⟨es, e1, e2⟩ := Option.map_eq_some_iff.mp h
      cases e2
      exact ⟨xs, rfl, e1⟩
    · obtain ⟨es, e1, e2⟩ := Option.map_eq_some_iff.mp h
      cases e2
  | frl xs =>
    rcases h with h | h
    · obtain ⟨es, e1, e2⟩ := Option.map_eq_some_iff.mp h
      cases e2
    · obtain ⟨es, e1, e2⟩ := Option.map_eq_some_iff.mp h
      cases e2
      exact ⟨xs, rfl, e1⟩
  | ref k =>
    have e0 : deep (n + 1) S (.ref k) = match S[k]? with
      | some (.lst xs) => (mapO (deep n S) xs).map PyData.list
      | _ => none := rfl
    rw [e0] at h
    cases hk : S[k]? with
    | none =>
      rw [hk] at h
      rcases h with h | h <;> cases h
    | some o =>
      rw [hk] at h
      cases o with
      | lst xs =>
        rcases h with h | h
        · obtain ⟨es, e1, e2⟩ := Option.map_eq_some_iff.mp h
          cases e2
        · obtain ⟨es, e1, e2⟩ := Option.map_eq_some_iff.mp h
          cases e2
          exact ⟨xs, by simp [itemsOf, hk], e1⟩
      | dk _ => rcases h with h | h <;> cases h
      | st _ _ => rcases h with h | h <;> cases h
  | non => rcases h with h | h <;> cases h
  | bl b => rcases h with h | h <;> cases h
  | int i => rcases h with h | h <;> cases h
  | str x => rcases h with h | h <;> cases h
end Ip
set_option Elab.async false
set_option linter.all false
set_option maxRecDepth 100000
set_option maxHeartbeats 4000000
/-! Printed from the program's text: each def's text, what it does to a store, that it does. -/
namespace Kp
open PySem PySem.Spec PyProof.Rows L2 Ip
def topS (i : Nat) : Stmt := PySem.Challenge.pw_setitback_k04_whole_lots_partners_pieces.main.body.getD i (.Pass ⟨0, 0, 0, 0⟩)
abbrev s__law_take : Stmt := topS 37
abbrev N__law_take : List Str := ["box", "many", "raw", "digit"]
abbrev P__law_take : List Str := ["box", "many"]
theorem sc__law_take : FnScope N__law_take P__law_take (defScope s__law_take) := ⟨rfl, rfl, rfl, by decide +kernel, rfl, by decide +kernel, by decide +kernel⟩
abbrev s__law_pick : Stmt := topS 38
abbrev N__law_pick : List Str := ["box", "some"]
abbrev P__law_pick : List Str := ["box", "some"]
theorem sc__law_pick : FnScope N__law_pick P__law_pick (defScope s__law_pick) := ⟨rfl, rfl, rfl, by decide +kernel, rfl, by decide +kernel, by decide +kernel⟩
abbrev s__law_bond : Stmt := topS 39
abbrev N__law_bond : List Str := ["box", "table", "s", "t", "pairs", "m", "n", "thin", "row"]
abbrev P__law_bond : List Str := ["box"]
theorem sc__law_bond : FnScope N__law_bond P__law_bond (defScope s__law_bond) := ⟨rfl, rfl, rfl, by decide +kernel, rfl, by decide +kernel, by decide +kernel⟩
abbrev s__law_box : Stmt := topS 36
abbrev N__law_box : List Str := ["script", "k", "cell", "great"]
abbrev P__law_box : List Str := ["script", "k"]
theorem sc__law_box : FnScope N__law_box P__law_box (defScope s__law_box) := ⟨rfl, rfl, rfl, by decide +kernel, rfl, by decide +kernel, by decide +kernel⟩
abbrev s__law_listed : Stmt := topS 40
abbrev N__law_listed : List Str := ["box", "bond", "pairs", "one"]
abbrev P__law_listed : List Str := ["box", "bond"]
theorem sc__law_listed : FnScope N__law_listed P__law_listed (defScope s__law_listed) := ⟨rfl, rfl, rfl, by decide +kernel, rfl, by decide +kernel, by decide +kernel⟩
abbrev s__law_fraction : Stmt := topS 43
abbrev N__law_fraction : List Str := ["top", "bottom", "one"]
abbrev P__law_fraction : List Str := ["top", "bottom"]
theorem sc__law_fraction : FnScope N__law_fraction P__law_fraction (defScope s__law_fraction) := ⟨rfl, rfl, rfl, by decide +kernel, rfl, by decide +kernel, by decide +kernel⟩
abbrev s__law_lots : Stmt := topS 42
abbrev N__law_lots : List Str := ["box", "size", "found", "turn", "line", "one"]
abbrev P__law_lots : List Str := ["box", "size"]
theorem sc__law_lots : FnScope N__law_lots P__law_lots (defScope s__law_lots) := ⟨rfl, rfl, rfl, by decide +kernel, rfl, by decide +kernel, by decide +kernel⟩
abbrev s__law_table : Stmt := topS 41
abbrev N__law_table : List Str := ["bond", "side", "found", "pair", "one", "other"]
abbrev P__law_table : List Str := ["bond", "side"]
theorem sc__law_table : FnScope N__law_table P__law_table (defScope s__law_table) := ⟨rfl, rfl, rfl, by decide +kernel, rfl, by decide +kernel, by decide +kernel⟩
abbrev s_is_below : Stmt := topS 3
abbrev N_is_below : List Str := ["value", "limit"]
abbrev P_is_below : List Str := ["value", "limit"]
theorem sc_is_below : FnScope N_is_below P_is_below (defScope s_is_below) := ⟨rfl, rfl, rfl, by decide +kernel, rfl, by decide +kernel, by decide +kernel⟩
abbrev s_is_row : Stmt := topS 5
abbrev N_is_row : List Str := ["value", "many"]
abbrev P_is_row : List Str := ["value", "many"]
theorem sc_is_row : FnScope N_is_row P_is_row (defScope s_is_row) := ⟨rfl, rfl, rfl, by decide +kernel, rfl, by decide +kernel, by decide +kernel⟩
abbrev s_is_pair_below : Stmt := topS 6
abbrev N_is_pair_below : List Str := ["value", "limit", "other"]
abbrev P_is_pair_below : List Str := ["value", "limit", "other"]
theorem sc_is_pair_below : FnScope N_is_pair_below P_is_pair_below (defScope s_is_pair_below) := ⟨rfl, rfl, rfl, by decide +kernel, rfl, by decide +kernel, by decide +kernel⟩
abbrev s_check_pairs : Stmt := topS 25
abbrev N_check_pairs : List Str := ["m", "n", "value", "pairs", "at", "pair"]
abbrev P_check_pairs : List Str := ["m", "n", "value"]
theorem sc_check_pairs : FnScope N_check_pairs P_check_pairs (defScope s_check_pairs) := ⟨rfl, rfl, rfl, by decide +kernel, rfl, by decide +kernel, by decide +kernel⟩
abbrev s_is_sequence : Stmt := topS 4
abbrev N_is_sequence : List Str := ["value"]
abbrev P_is_sequence : List Str := ["value"]
theorem sc_is_sequence : FnScope N_is_sequence P_is_sequence (defScope s_is_sequence) := ⟨rfl, rfl, rfl, by decide +kernel, rfl, by decide +kernel, by decide +kernel⟩
abbrev s_is_within : Stmt := topS 2
abbrev N_is_within : List Str := ["value", "low", "high"]
abbrev P_is_within : List Str := ["value", "low", "high"]
theorem sc_is_within : FnScope N_is_within P_is_within (defScope s_is_within) := ⟨rfl, rfl, rfl, by decide +kernel, rfl, by decide +kernel, by decide +kernel⟩
abbrev s_check_bond : Stmt := topS 26
abbrev N_check_bond : List Str := ["value", "pairs", "m", "n", "pair"]
abbrev P_check_bond : List Str := ["value"]
theorem sc_check_bond : FnScope N_check_bond P_check_bond (defScope s_check_bond) := ⟨rfl, rfl, rfl, by decide +kernel, rfl, by decide +kernel, by decide +kernel⟩
abbrev s_is_side : Stmt := topS 8
abbrev N_is_side : List Str := ["value"]
abbrev P_is_side : List Str := ["value"]
theorem sc_is_side : FnScope N_is_side P_is_side (defScope s_is_side) := ⟨rfl, rfl, rfl, by decide +kernel, rfl, by decide +kernel, by decide +kernel⟩
abbrev s_check_side : Stmt := topS 27
abbrev N_check_side : List Str := ["side"]
abbrev P_check_side : List Str := ["side"]
theorem sc_check_side : FnScope N_check_side P_check_side (defScope s_check_side) := ⟨rfl, rfl, rfl, by decide +kernel, rfl, by decide +kernel, by decide +kernel⟩
abbrev s_partners_of : Stmt := topS 18
abbrev N_partners_of : List Str := ["bond", "side", "lot", "pair"]
abbrev P_partners_of : List Str := ["bond", "side", "lot"]
theorem sc_partners_of : FnScope N_partners_of P_partners_of (defScope s_partners_of) := ⟨rfl, rfl, rfl, by decide +kernel, rfl, by decide +kernel, by decide +kernel⟩
abbrev s_degrees_of : Stmt := topS 21
abbrev N_degrees_of : List Str := ["bond", "side", "filling"]
abbrev P_degrees_of : List Str := ["bond", "side"]
theorem sc_degrees_of : FnScope N_degrees_of P_degrees_of (defScope s_degrees_of) := ⟨rfl, rfl, rfl, by decide +kernel, rfl, by decide +kernel, by decide +kernel⟩
abbrev s_degrees : Stmt := topS 32
abbrev N_degrees : List Str := ["bond", "side"]
abbrev P_degrees : List Str := ["bond", "side"]
theorem sc_degrees : FnScope N_degrees P_degrees (defScope s_degrees) := ⟨rfl, rfl, rfl, by decide +kernel, rfl, by decide +kernel, by decide +kernel⟩
abbrev s_are_below : Stmt := topS 7
abbrev N_are_below : List Str := ["values", "limit", "value"]
abbrev P_are_below : List Str := ["values", "limit"]
theorem sc_are_below : FnScope N_are_below P_are_below (defScope s_are_below) := ⟨rfl, rfl, rfl, by decide +kernel, rfl, by decide +kernel, by decide +kernel⟩
abbrev s_is_lot : Stmt := topS 9
abbrev N_is_lot : List Str := ["value", "many", "at"]
abbrev P_is_lot : List Str := ["value", "many"]
theorem sc_is_lot : FnScope N_is_lot P_is_lot (defScope s_is_lot) := ⟨rfl, rfl, rfl, by decide +kernel, rfl, by decide +kernel, by decide +kernel⟩
abbrev s_size_of : Stmt := topS 28
abbrev N_size_of : List Str := ["bond", "side"]
abbrev P_size_of : List Str := ["bond", "side"]
theorem sc_size_of : FnScope N_size_of P_size_of (defScope s_size_of) := ⟨rfl, rfl, rfl, by decide +kernel, rfl, by decide +kernel, by decide +kernel⟩
abbrev s_check_lot : Stmt := topS 29
abbrev N_check_lot : List Str := ["bond", "side", "value"]
abbrev P_check_lot : List Str := ["bond", "side", "value"]
theorem sc_check_lot : FnScope N_check_lot P_check_lot (defScope s_check_lot) := ⟨rfl, rfl, rfl, by decide +kernel, rfl, by decide +kernel, by decide +kernel⟩
abbrev s_only_of : Stmt := topS 19
abbrev N_only_of : List Str := ["bond", "side", "lot", "outside", "pair", "filling"]
abbrev P_only_of : List Str := ["bond", "side", "lot"]
theorem sc_only_of : FnScope N_only_of P_only_of (defScope s_only_of) := ⟨rfl, rfl, rfl, by decide +kernel, rfl, by decide +kernel, by decide +kernel⟩
abbrev s_only : Stmt := topS 31
abbrev N_only : List Str := ["bond", "side", "lot"]
abbrev P_only : List Str := ["bond", "side", "lot"]
theorem sc_only : FnScope N_only P_only (defScope s_only) := ⟨rfl, rfl, rfl, by decide +kernel, rfl, by decide +kernel, by decide +kernel⟩
abbrev s_partners : Stmt := topS 30
abbrev N_partners : List Str := ["bond", "side", "lot"]
abbrev P_partners : List Str := ["bond", "side", "lot"]
theorem sc_partners : FnScope N_partners P_partners (defScope s_partners) := ⟨rfl, rfl, rfl, by decide +kernel, rfl, by decide +kernel, by decide +kernel⟩
abbrev s_lowest_terms : Stmt := topS 16
abbrev N_lowest_terms : List Str := ["top", "bottom", "common"]
abbrev P_lowest_terms : List Str := ["top", "bottom"]
theorem sc_lowest_terms : FnScope N_lowest_terms P_lowest_terms (defScope s_lowest_terms) := ⟨rfl, rfl, rfl, by decide +kernel, rfl, by decide +kernel, by decide +kernel⟩
abbrev s_quotient_of : Stmt := topS 20
abbrev N_quotient_of : List Str := ["bond", "side", "lot"]
abbrev P_quotient_of : List Str := ["bond", "side", "lot"]
theorem sc_quotient_of : FnScope N_quotient_of P_quotient_of (defScope s_quotient_of) := ⟨rfl, rfl, rfl, by decide +kernel, rfl, by decide +kernel, by decide +kernel⟩
abbrev s_quotient : Stmt := topS 33
abbrev N_quotient : List Str := ["bond", "side", "lot"]
abbrev P_quotient : List Str := ["bond", "side", "lot"]
theorem sc_quotient : FnScope N_quotient P_quotient (defScope s_quotient) := ⟨rfl, rfl, rfl, by decide +kernel, rfl, by decide +kernel, by decide +kernel⟩
abbrev s__law_lots_right : Stmt := topS 45
abbrev N__law_lots_right : List Str := ["box", "bond", "listed", "side", "table", "others", "lot", "due", "shape", "near", "held", "other", "back", "mine", "row", "one", "s"]
abbrev P__law_lots_right : List Str := ["box", "bond", "listed", "side"]
theorem sc__law_lots_right : FnScope N__law_lots_right P__law_lots_right (defScope s__law_lots_right) := ⟨rfl, rfl, rfl, by decide +kernel, rfl, by decide +kernel, by decide +kernel⟩
abbrev s__law_pieces : Stmt := topS 44
abbrev N__law_pieces : List Str := ["bond", "turn", "found", "one", "m", "n", "pairs", "left", "right", "s", "t", "low"]
abbrev P__law_pieces : List Str := ["bond"]
theorem sc__law_pieces : FnScope N__law_pieces P__law_pieces (defScope s__law_pieces) := ⟨rfl, rfl, rfl, by decide +kernel, rfl, by decide +kernel, by decide +kernel⟩
abbrev s_component : Stmt := topS 22
abbrev N_component : List Str := ["bond", "filling", "lot", "others", "wider"]
abbrev P_component : List Str := ["bond", "filling"]
theorem sc_component : FnScope N_component P_component (defScope s_component) := ⟨rfl, rfl, rfl, by decide +kernel, rfl, by decide +kernel, by decide +kernel⟩
abbrev s_pieces_of : Stmt := topS 23
abbrev N_pieces_of : List Str := ["bond", "found", "filling", "piece"]
abbrev P_pieces_of : List Str := ["bond"]
theorem sc_pieces_of : FnScope N_pieces_of P_pieces_of (defScope s_pieces_of) := ⟨rfl, rfl, rfl, by decide +kernel, rfl, by decide +kernel, by decide +kernel⟩
abbrev s_pieces : Stmt := topS 34
abbrev N_pieces : List Str := ["bond"]
abbrev P_pieces : List Str := ["bond"]
theorem sc_pieces : FnScope N_pieces P_pieces (defScope s_pieces) := ⟨rfl, rfl, rfl, by decide +kernel, rfl, by decide +kernel, by decide +kernel⟩
abbrev s_law : Stmt := topS 46
abbrev N_law : List Str := ["script", "k", "box", "bond", "listed", "copy", "side", "due", "one", "other"]
abbrev P_law : List Str := ["script"]
theorem sc_law : FnScope N_law P_law (defScope s_law) := ⟨rfl, rfl, rfl, by decide +kernel, rfl, by decide +kernel, by decide +kernel⟩
theorem ba__law_bond_1 : BA "_law_bond" s__law_bond P__law_bond 1 [] (List.range 1) := fun _ _ _ _ _ _ us ws h1 h2 => match us, ws, h1, h2 with
  | [_], [], _, _ => rfl
theorem ba__law_box_2 : BA "_law_box" s__law_box P__law_box 2 [] (List.range 2) := fun _ _ _ _ _ _ us ws h1 h2 => match us, ws, h1, h2 with
  | [_, _], [], _, _ => rfl
theorem ba__law_fraction_2 : BA "_law_fraction" s__law_fraction P__law_fraction 2 [] (List.range 2) := fun _ _ _ _ _ _ us ws h1 h2 => match us, ws, h1, h2 with
  | [_, _], [], _, _ => rfl
theorem ba__law_listed_2 : BA "_law_listed" s__law_listed P__law_listed 2 [] (List.range 2) := fun _ _ _ _ _ _ us ws h1 h2 => match us, ws, h1, h2 with
  | [_, _], [], _, _ => rfl
theorem ba__law_lots_2 : BA "_law_lots" s__law_lots P__law_lots 2 [] (List.range 2) := fun _ _ _ _ _ _ us ws h1 h2 => match us, ws, h1, h2 with
  | [_, _], [], _, _ => rfl
theorem ba__law_lots_right_4 : BA "_law_lots_right" s__law_lots_right P__law_lots_right 4 [] (List.range 4) := fun _ _ _ _ _ _ us ws h1 h2 => match us, ws, h1, h2 with
  | [_, _, _, _], [], _, _ => rfl
theorem ba__law_pick_2 : BA "_law_pick" s__law_pick P__law_pick 2 [] (List.range 2) := fun _ _ _ _ _ _ us ws h1 h2 => match us, ws, h1, h2 with
  | [_, _], [], _, _ => rfl
theorem ba__law_pieces_1 : BA "_law_pieces" s__law_pieces P__law_pieces 1 [] (List.range 1) := fun _ _ _ _ _ _ us ws h1 h2 => match us, ws, h1, h2 with
  | [_], [], _, _ => rfl
theorem ba__law_table_2 : BA "_law_table" s__law_table P__law_table 2 [] (List.range 2) := fun _ _ _ _ _ _ us ws h1 h2 => match us, ws, h1, h2 with
  | [_, _], [], _, _ => rfl
theorem ba__law_take_2 : BA "_law_take" s__law_take P__law_take 2 [] (List.range 2) := fun _ _ _ _ _ _ us ws h1 h2 => match us, ws, h1, h2 with
  | [_, _], [], _, _ => rfl
theorem ba_are_below_2 : BA "are_below" s_are_below P_are_below 2 [] (List.range 2) := fun _ _ _ _ _ _ us ws h1 h2 => match us, ws, h1, h2 with
  | [_, _], [], _, _ => rfl
theorem ba_check_bond_1 : BA "check_bond" s_check_bond P_check_bond 1 [] (List.range 1) := fun _ _ _ _ _ _ us ws h1 h2 => match us, ws, h1, h2 with
  | [_], [], _, _ => rfl
theorem ba_check_lot_3 : BA "check_lot" s_check_lot P_check_lot 3 [] (List.range 3) := fun _ _ _ _ _ _ us ws h1 h2 => match us, ws, h1, h2 with
  | [_, _, _], [], _, _ => rfl
theorem ba_check_pairs_3 : BA "check_pairs" s_check_pairs P_check_pairs 3 [] (List.range 3) := fun _ _ _ _ _ _ us ws h1 h2 => match us, ws, h1, h2 with
  | [_, _, _], [], _, _ => rfl
theorem ba_check_side_1 : BA "check_side" s_check_side P_check_side 1 [] (List.range 1) := fun _ _ _ _ _ _ us ws h1 h2 => match us, ws, h1, h2 with
  | [_], [], _, _ => rfl
theorem ba_component_2 : BA "component" s_component P_component 2 [] (List.range 2) := fun _ _ _ _ _ _ us ws h1 h2 => match us, ws, h1, h2 with
  | [_, _], [], _, _ => rfl
theorem ba_degrees_0_side_bond : BA "degrees" s_degrees P_degrees 0 ["side", "bond"] [1, 0] := fun _ _ _ _ _ _ us ws h1 h2 => match us, ws, h1, h2 with
  | [], [_, _], _, _ => rfl
theorem pk_degrees_0_side_bond : ∀ l : List PV, l.length = 0 + (["side", "bond"] : List Str).length → (pick [1, 0] l).length = P_degrees.length := fun l h => match l, h with
  | [_, _], _ => rfl
theorem ba_degrees_2 : BA "degrees" s_degrees P_degrees 2 [] (List.range 2) := fun _ _ _ _ _ _ us ws h1 h2 => match us, ws, h1, h2 with
  | [_, _], [], _, _ => rfl
theorem ba_degrees_of_2 : BA "degrees_of" s_degrees_of P_degrees_of 2 [] (List.range 2) := fun _ _ _ _ _ _ us ws h1 h2 => match us, ws, h1, h2 with
  | [_, _], [], _, _ => rfl
theorem ba_is_below_2 : BA "is_below" s_is_below P_is_below 2 [] (List.range 2) := fun _ _ _ _ _ _ us ws h1 h2 => match us, ws, h1, h2 with
  | [_, _], [], _, _ => rfl
theorem ba_is_lot_2 : BA "is_lot" s_is_lot P_is_lot 2 [] (List.range 2) := fun _ _ _ _ _ _ us ws h1 h2 => match us, ws, h1, h2 with
  | [_, _], [], _, _ => rfl
theorem ba_is_pair_below_3 : BA "is_pair_below" s_is_pair_below P_is_pair_below 3 [] (List.range 3) := fun _ _ _ _ _ _ us ws h1 h2 => match us, ws, h1, h2 with
  | [_, _, _], [], _, _ => rfl
theorem ba_is_row_2 : BA "is_row" s_is_row P_is_row 2 [] (List.range 2) := fun _ _ _ _ _ _ us ws h1 h2 => match us, ws, h1, h2 with
  | [_, _], [], _, _ => rfl
theorem ba_is_sequence_1 : BA "is_sequence" s_is_sequence P_is_sequence 1 [] (List.range 1) := fun _ _ _ _ _ _ us ws h1 h2 => match us, ws, h1, h2 with
  | [_], [], _, _ => rfl
theorem ba_is_side_1 : BA "is_side" s_is_side P_is_side 1 [] (List.range 1) := fun _ _ _ _ _ _ us ws h1 h2 => match us, ws, h1, h2 with
  | [_], [], _, _ => rfl
theorem ba_is_within_3 : BA "is_within" s_is_within P_is_within 3 [] (List.range 3) := fun _ _ _ _ _ _ us ws h1 h2 => match us, ws, h1, h2 with
  | [_, _, _], [], _, _ => rfl
theorem ba_law_1 : BA "law" s_law P_law 1 [] (List.range 1) := fun _ _ _ _ _ _ us ws h1 h2 => match us, ws, h1, h2 with
  | [_], [], _, _ => rfl
theorem ba_lowest_terms_2 : BA "lowest_terms" s_lowest_terms P_lowest_terms 2 [] (List.range 2) := fun _ _ _ _ _ _ us ws h1 h2 => match us, ws, h1, h2 with
  | [_, _], [], _, _ => rfl
theorem ba_only_0_lot_side_bond : BA "only" s_only P_only 0 ["lot", "side", "bond"] [2, 1, 0] := fun _ _ _ _ _ _ us ws h1 h2 => match us, ws, h1, h2 with
  | [], [_, _, _], _, _ => rfl
theorem pk_only_0_lot_side_bond : ∀ l : List PV, l.length = 0 + (["lot", "side", "bond"] : List Str).length → (pick [2, 1, 0] l).length = P_only.length := fun l h => match l, h with
  | [_, _, _], _ => rfl
theorem ba_only_3 : BA "only" s_only P_only 3 [] (List.range 3) := fun _ _ _ _ _ _ us ws h1 h2 => match us, ws, h1, h2 with
  | [_, _, _], [], _, _ => rfl
theorem ba_only_of_3 : BA "only_of" s_only_of P_only_of 3 [] (List.range 3) := fun _ _ _ _ _ _ us ws h1 h2 => match us, ws, h1, h2 with
  | [_, _, _], [], _, _ => rfl
theorem ba_partners_0_lot_side_bond : BA "partners" s_partners P_partners 0 ["lot", "side", "bond"] [2, 1, 0] := fun _ _ _ _ _ _ us ws h1 h2 => match us, ws, h1, h2 with
  | [], [_, _, _], _, _ => rfl
theorem pk_partners_0_lot_side_bond : ∀ l : List PV, l.length = 0 + (["lot", "side", "bond"] : List Str).length → (pick [2, 1, 0] l).length = P_partners.length := fun l h => match l, h with
  | [_, _, _], _ => rfl
theorem ba_partners_3 : BA "partners" s_partners P_partners 3 [] (List.range 3) := fun _ _ _ _ _ _ us ws h1 h2 => match us, ws, h1, h2 with
  | [_, _, _], [], _, _ => rfl
theorem ba_partners_of_3 : BA "partners_of" s_partners_of P_partners_of 3 [] (List.range 3) := fun _ _ _ _ _ _ us ws h1 h2 => match us, ws, h1, h2 with
  | [_, _, _], [], _, _ => rfl
theorem ba_pieces_0_bond : BA "pieces" s_pieces P_pieces 0 ["bond"] [0] := fun _ _ _ _ _ _ us ws h1 h2 => match us, ws, h1, h2 with
  | [], [_], _, _ => rfl
theorem pk_pieces_0_bond : ∀ l : List PV, l.length = 0 + (["bond"] : List Str).length → (pick [0] l).length = P_pieces.length := fun l h => match l, h with
  | [_], _ => rfl
theorem ba_pieces_1 : BA "pieces" s_pieces P_pieces 1 [] (List.range 1) := fun _ _ _ _ _ _ us ws h1 h2 => match us, ws, h1, h2 with
  | [_], [], _, _ => rfl
theorem ba_pieces_of_1 : BA "pieces_of" s_pieces_of P_pieces_of 1 [] (List.range 1) := fun _ _ _ _ _ _ us ws h1 h2 => match us, ws, h1, h2 with
  | [_], [], _, _ => rfl
theorem ba_quotient_0_lot_side_bond : BA "quotient" s_quotient P_quotient 0 ["lot", "side", "bond"] [2, 1, 0] := fun _ _ _ _ _ _ us ws h1 h2 => match us, ws, h1, h2 with
  | [], [_, _, _], _, _ => rfl
theorem pk_quotient_0_lot_side_bond : ∀ l : List PV, l.length = 0 + (["lot", "side", "bond"] : List Str).length → (pick [2, 1, 0] l).length = P_quotient.length := fun l h => match l, h with
  | [_, _, _], _ => rfl
theorem ba_quotient_3 : BA "quotient" s_quotient P_quotient 3 [] (List.range 3) := fun _ _ _ _ _ _ us ws h1 h2 => match us, ws, h1, h2 with
  | [_, _, _], [], _, _ => rfl
theorem ba_quotient_of_3 : BA "quotient_of" s_quotient_of P_quotient_of 3 [] (List.range 3) := fun _ _ _ _ _ _ us ws h1 h2 => match us, ws, h1, h2 with
  | [_, _, _], [], _, _ => rfl
theorem ba_size_of_2 : BA "size_of" s_size_of P_size_of 2 [] (List.range 2) := fun _ _ _ _ _ _ us ws h1 h2 => match us, ws, h1, h2 with
  | [_, _], [], _, _ => rfl
structure Cc (K : PySem.W.Frag) (mg : Str → Option Value) : Prop where
  d__law_take : Dn K mg "_law_take" s__law_take
  d__law_pick : Dn K mg "_law_pick" s__law_pick
  d__law_bond : Dn K mg "_law_bond" s__law_bond
  d__law_box : Dn K mg "_law_box" s__law_box
  d__law_listed : Dn K mg "_law_listed" s__law_listed
  d__law_fraction : Dn K mg "_law_fraction" s__law_fraction
  d__law_lots : Dn K mg "_law_lots" s__law_lots
  d__law_table : Dn K mg "_law_table" s__law_table
  d_is_below : Dn K mg "is_below" s_is_below
  d_is_row : Dn K mg "is_row" s_is_row
  d_is_pair_below : Dn K mg "is_pair_below" s_is_pair_below
  d_check_pairs : Dn K mg "check_pairs" s_check_pairs
  d_is_sequence : Dn K mg "is_sequence" s_is_sequence
  d_is_within : Dn K mg "is_within" s_is_within
  d_check_bond : Dn K mg "check_bond" s_check_bond
  d_is_side : Dn K mg "is_side" s_is_side
  d_check_side : Dn K mg "check_side" s_check_side
  d_partners_of : Dn K mg "partners_of" s_partners_of
  d_degrees_of : Dn K mg "degrees_of" s_degrees_of
  d_degrees : Dn K mg "degrees" s_degrees
  d_are_below : Dn K mg "are_below" s_are_below
  d_is_lot : Dn K mg "is_lot" s_is_lot
  d_size_of : Dn K mg "size_of" s_size_of
  d_check_lot : Dn K mg "check_lot" s_check_lot
  d_only_of : Dn K mg "only_of" s_only_of
  d_only : Dn K mg "only" s_only
  d_partners : Dn K mg "partners" s_partners
  d_lowest_terms : Dn K mg "lowest_terms" s_lowest_terms
  d_quotient_of : Dn K mg "quotient_of" s_quotient_of
  d_quotient : Dn K mg "quotient" s_quotient
  d__law_lots_right : Dn K mg "_law_lots_right" s__law_lots_right
  d__law_pieces : Dn K mg "_law_pieces" s__law_pieces
  d_component : Dn K mg "component" s_component
  d_pieces_of : Dn K mg "pieces_of" s_pieces_of
  d_pieces : Dn K mg "pieces" s_pieces
  d_law : Dn K mg "law" s_law
  fr : ∀ x : Str, x ∈ (["abs", "all", "any", "bool", "enumerate", "int", "isinstance", "len", "list", "max", "min", "range", "repr", "sorted", "sum", "tuple"] : List Str) → mg x = none
  gi_MOST_FILLINGS : ∃ t, mg "MOST_FILLINGS" = some (.int 6 t)
  gcd : mg "gcd" = some (.builtin "math.gcd")
def m__law_take (fo : Bool) : MF := fnM N__law_take
    (sSeq (sIf (mTest (mOp vGt (mOp vIdx (mVar 0) (mCon (.int 0))) (mCon (.int 0)))) (sSeq (sAsg (mOp vMod (mCall vInt (aCons (mOp vIdx (mVar 0) (mCon (.int 0))) aNil)) (mVar 1)) (gN 3))
    (sSeq (sAsg (mOp vDiv (mOp vIdx (mVar 0) (mCon (.int 0))) (mVar 1)) (gI (mVar 0) (mCon (.int 0))))
    (sRet (mVar 3)))) sSkip)
    (sSeq (sAsg (mOp vMod (mCall vInt (aCons (mOp vAdd (mOp vMul (mOp vIdx (mVar 0) (mCon (.int 1))) (mCon (.int 39373))) (mCon (.int 101))) aNil)) (mCon (.int 2147483647))) (gN 2))
    (sSeq (sAsg (mOp vAdd (mOp vMod (mCall vInt (aCons (mOp vAdd (mOp vMul (mVar 2) (mCon (.int 40692))) (mCon (.int 17))) aNil)) (mCon (.int 2147483563))) (mCon (.int 1))) (gI (mVar 0) (mCon (.int 1))))
    (sRet (mOp vMod (mCall vInt (aCons (mOp vDiv (mOp vAdd (mOp vMul (mVar 2) (mCon (.int 2147483629))) (mOp vIdx (mVar 0) (mCon (.int 1)))) (mCon (.int 8233))) aNil)) (mVar 1))))))
def m__law_pick (fo : Bool) : MF := fnM N__law_pick
    (sRet (mOp vIdx (mVar 1) (mFn (m__law_take fo) (aCons (mVar 0) (aCons (mCall vLen (aCons (mVar 1) aNil)) aNil)))))
def m__law_bond (fo : Bool) : MF := fnM N__law_bond
    (sSeq (sAsg (mTup (aCons (mOp vAdd (mCon (.int 1)) (mFn (m__law_take fo) (aCons (mVar 0) (aCons (mCon (.int 6)) aNil)))) (aCons (mOp vAdd (mCon (.int 1)) (mFn (m__law_take fo) (aCons (mVar 0) (aCons (mCon (.int 6)) aNil)))) (aCons (mFn (m__law_pick fo) (aCons (mVar 0) (aCons (mLst (aCons (mCon (.int 2)) (aCons (mCon (.int 2)) (aCons (mCon (.int 3)) (aCons (mCon (.int 6)) aNil))))) aNil))) aNil)))) (gT 3 (gsC (gN 5) (gsC (gN 6) (gsC (gN 7) gsN)))))
    (sSeq (sAsg (mLst aNil) (gN 1))
    (sSeq (sFor (iRange (aCons (mVar 5) aNil)) (gN 2) (sExpr (mMeth fAppend (mVar 1) (aCons (mLc (iRange (aCons (mVar 6) aNil)) (gN 3) tYesM (mIte (mTest (mOp (vEq false) (mFn (m__law_take fo) (aCons (mVar 0) (aCons (mVar 7) aNil))) (mCon (.int 0)))) (mCon (.int 1)) (mCon (.int 0))) [3]) aNil))))
    (sSeq (sFor (iRange (aCons (mVar 5) aNil)) (gN 2) (sIf (mTest (mOp (vEq false) (mCall vSum (aCons (mOp vIdx (mVar 1) (mVar 2)) aNil)) (mCon (.int 0)))) (sAsg (mCon (.int 1)) (gI (mOp vIdx (mVar 1) (mVar 2)) (mFn (m__law_take fo) (aCons (mVar 0) (aCons (mVar 6) aNil))))) sSkip))
    (sSeq (sFor (iRange (aCons (mVar 6) aNil)) (gN 3) (sIf (mTest (mOp (vEq false) (mCall vSum (aCons (mLc (iSeq (mVar 1)) (gN 8) tYesM (mOp vIdx (mVar 8) (mVar 3)) [8]) aNil)) (mCon (.int 0)))) (sAsg (mCon (.int 1)) (gI (mOp vIdx (mVar 1) (mFn (m__law_take fo) (aCons (mVar 0) (aCons (mVar 5) aNil)))) (mVar 3))) sSkip))
    (sSeq (sAsg (mLst aNil) (gN 4))
    (sSeq (sFor (iRange (aCons (mVar 5) aNil)) (gN 2) (sExpr (mMeth fExtend (mVar 4) (aCons (mLc (iRange (aCons (mVar 6) aNil)) (gN 3) (mTest (mOp (vEq false) (mOp vIdx (mOp vIdx (mVar 1) (mVar 2)) (mVar 3)) (mCon (.int 1)))) (mTup (aCons (mVar 2) (aCons (mVar 3) aNil))) [3]) aNil))))
    (sRet (mTup (aCons (mVar 5) (aCons (mVar 6) (aCons (mCall vTuple (aCons (mVar 4) aNil)) aNil))))))))))))
def m__law_box (fo : Bool) : MF := fnM N__law_box
    (sSeq (sAsg (mOp vAdd (mOp vMul (mCon (.int 19051)) (mVar 1)) (mCon (.int 7307))) (gN 2))
    (sSeq (sIf (mTest (mOp vLt (mVar 1) (mCall vLen (aCons (mVar 0) aNil)))) (sAsg (mCall vAbs (aCons (mCall vInt (aCons (mOp vIdx (mVar 0) (mVar 1)) aNil)) aNil)) (gN 2)) (sIf (mTest (mOp vGt (mCall vLen (aCons (mVar 0) aNil)) (mCon (.int 0)))) (sAsg (mOp vAdd (mVar 2) (mOp vMul (mOp vMod (mCall vInt (aCons (mCall vAbs (aCons (mCall vInt (aCons (mOp vIdx (mVar 0) (mOp vMod (mCall vInt (aCons (mVar 1) aNil)) (mCall vLen (aCons (mVar 0) aNil)))) aNil)) aNil)) aNil)) (mCon (.int 2147483563))) (mCon (.int 77003)))) (gN 2)) sSkip))
    (sSeq (sAsg (mIte (mTest (mOp vGe (mVar 2) (mOp vPow (mCon (.int 10)) (mCon (.int 18))))) (mVar 2) (mCon (.int 0))) (gN 3))
    (sRet (mLst (aCons (mVar 3) (aCons (mOp vAdd (mOp vMod (mCall vInt (aCons (mOp vAdd (mOp vMul (mOp vMod (mCall vInt (aCons (mVar 2) aNil)) (mCon (.int 2147483563))) (mCon (.int 54250003))) (mOp vMul (mCon (.int 7307)) (mVar 1))) aNil)) (mCon (.int 2147483563))) (mCon (.int 1))) aNil)))))))
def m__law_listed (fo : Bool) : MF := fnM N__law_listed
    (sSeq (sAsg (mLc (iSeq (mOp vIdx (mVar 1) (mCon (.int 2)))) (gN 3) tYesM (mFn (m__law_pick fo) (aCons (mVar 0) (aCons (mLst (aCons (mVar 3) (aCons (mCall vList (aCons (mVar 3) aNil)) aNil))) aNil))) [3]) (gN 2))
    (sRet (mFn (m__law_pick fo) (aCons (mVar 0) (aCons (mLst (aCons (mVar 1) (aCons (mLst (aCons (mOp vIdx (mVar 1) (mCon (.int 0))) (aCons (mOp vIdx (mVar 1) (mCon (.int 1))) (aCons (mVar 2) aNil)))) (aCons (mTup (aCons (mOp vIdx (mVar 1) (mCon (.int 0))) (aCons (mOp vIdx (mVar 1) (mCon (.int 1))) (aCons (mVar 2) aNil)))) (aCons (mLst (aCons (mOp vIdx (mVar 1) (mCon (.int 0))) (aCons (mOp vIdx (mVar 1) (mCon (.int 1))) (aCons (mCall vTuple (aCons (mVar 2) aNil)) aNil)))) aNil))))) aNil)))))
def m__law_fraction (fo : Bool) : MF := fnM N__law_fraction
    (sSeq (sFor (iRange3 (aCons (mCon (.int 6)) (aCons (mCon (.int 0)) (aCons (mOp vSub (mCon (.int 0)) (mCon (.int 1))) aNil)))) (gN 2) (sIf (tAndM (mTest (mOp (vEq false) (mOp vMod (mCall vInt (aCons (mVar 0) aNil)) (mVar 2)) (mCon (.int 0)))) (mTest (mOp (vEq false) (mOp vMod (mCall vInt (aCons (mVar 1) aNil)) (mVar 2)) (mCon (.int 0))))) (sRet (mTup (aCons (mOp vDiv (mVar 0) (mVar 2)) (aCons (mOp vDiv (mVar 1) (mVar 2)) aNil)))) sSkip))
    (sRet (mTup (aCons (mVar 0) (aCons (mVar 1) aNil)))))
def m__law_lots (fo : Bool) : MF := fnM N__law_lots
    (sSeq (sAsg (mLst (aCons (mRgT (aCons (mVar 1) aNil)) (aCons (mTup (aCons (mFn (m__law_take fo) (aCons (mVar 0) (aCons (mVar 1) aNil))) aNil)) aNil))) (gN 2))
    (sSeq (sFor (iRange (aCons (mCon (.int 5)) aNil)) (gN 3) (sSeq (sAsg (mLc (iRange (aCons (mVar 1) aNil)) (gN 5) (mTest (mOp (vEq false) (mFn (m__law_take fo) (aCons (mVar 0) (aCons (mCon (.int 2)) aNil))) (mCon (.int 0)))) (mVar 5) [5]) (gN 4))
    (sIf (mTest (mOp vGt (mCall vLen (aCons (mVar 4) aNil)) (mCon (.int 0)))) (sExpr (mMeth fAppend (mVar 2) (aCons (mCall vTuple (aCons (mVar 4) aNil)) aNil))) sSkip)))
    (sRet (mVar 2))))
def m__law_table (fo : Bool) : MF := fnM N__law_table
    (sSeq (sAsg (mLc (iRange (aCons (mOp vIdx (mVar 0) (mVar 1)) aNil)) (gN 4) tYesM (mLc (iRange (aCons (mOp vIdx (mVar 0) (mOp vSub (mCon (.int 1)) (mVar 1))) aNil)) (gN 5) tYesM (mCon (.int 0)) [5]) [4]) (gN 2))
    (sSeq (sFor (iSeq (mOp vIdx (mVar 0) (mCon (.int 2)))) (gN 3) (sAsg (mCon (.int 1)) (gI (mOp vIdx (mVar 2) (mOp vIdx (mVar 3) (mVar 1))) (mOp vIdx (mVar 3) (mOp vSub (mCon (.int 1)) (mVar 1))))))
    (sRet (mVar 2))))
def m_is_below (fo : Bool) : MF := fnM N_is_below
    (sRet (mAnd (mIsi "int" (mVar 0)) (mAnd (mNot (mIsi "bool" (mVar 0))) (mChain vLe vLt (mCon (.int 0)) (mVar 0) (mVar 1)))))
def m_is_row (fo : Bool) : MF := fnM N_is_row
    (sRet (mAnd (mOr (mIsi "tuple" (mVar 0)) (mIsi "list" (mVar 0))) (mOp (vEq false) (mCall vLen (aCons (mVar 0) aNil)) (mVar 1))))
def m_is_pair_below (fo : Bool) : MF := fnM N_is_pair_below
    (sRet (mAnd (mFn (m_is_row fo) (aCons (mVar 0) (aCons (mCon (.int 2)) aNil))) (mAnd (mFn (m_is_below fo) (aCons (mOp vIdx (mVar 0) (mCon (.int 0))) (aCons (mVar 1) aNil))) (mFn (m_is_below fo) (aCons (mOp vIdx (mVar 0) (mCon (.int 1))) (aCons (mVar 2) aNil))))))
def m_check_pairs (fo : Bool) : MF := fnM N_check_pairs
    (sSeq (sAsg (mLst aNil) (gN 3))
    (sSeq (sFor (iEnum' (aCons (mVar 2) aNil)) (gT 2 (gsC (gN 4) (gsC (gN 5) gsN))) (sSeq (sIf (tNotM (mTest (mFn (m_is_pair_below fo) (aCons (mVar 5) (aCons (mVar 0) (aCons (mVar 1) aNil)))))) sNever sSkip)
    (sSeq (sIf (tAndM (mTest (mOp vGt (mVar 4) (mCon (.int 0)))) (mTest (mOp vRankLe (mCall vTuple (aCons (mVar 5) aNil)) (mOp vIdx (mVar 3) (mOp vSub (mVar 4) (mCon (.int 1))))))) sNever sSkip)
    (sExpr (mMeth fAppend (mVar 3) (aCons (mCall vTuple (aCons (mVar 5) aNil)) aNil))))))
    (sRet (mCall vTuple (aCons (mVar 3) aNil)))))
def m_is_sequence (fo : Bool) : MF := fnM N_is_sequence
    (sRet (mOr (mIsi "tuple" (mVar 0)) (mIsi "list" (mVar 0))))
def m_is_within (fo : Bool) : MF := fnM N_is_within
    (sRet (mAnd (mIsi "int" (mVar 0)) (mAnd (mNot (mIsi "bool" (mVar 0))) (mChain vLe vLe (mVar 1) (mVar 0) (mVar 2)))))
def m_check_bond (fo : Bool) : MF := fnM N_check_bond
    (sSeq (sIf (tNotM (mTest (mFn (m_is_row fo) (aCons (mVar 0) (aCons (mCon (.int 3)) aNil))))) sNever sSkip)
    (sSeq (sAsg (mVar 0) (gT 3 (gsC (gN 2) (gsC (gN 3) (gsC (gN 1) gsN)))))
    (sSeq (sIf (tNotM (mTest (mFn (m_is_within fo) (aCons (mVar 2) (aCons (mCon (.int 1)) (aCons (mCon (.int 6)) aNil)))))) sNever sSkip)
    (sSeq (sIf (tNotM (mTest (mFn (m_is_within fo) (aCons (mVar 3) (aCons (mCon (.int 1)) (aCons (mCon (.int 6)) aNil)))))) sNever sSkip)
    (sSeq (sIf (tNotM (mTest (mFn (m_is_sequence fo) (aCons (mVar 1) aNil)))) sNever sSkip)
    (sSeq (sAsg (mFn (m_check_pairs fo) (aCons (mVar 2) (aCons (mVar 3) (aCons (mVar 1) aNil)))) (gN 1))
    (sSeq (sIf (tOrM (mTest (mOp vLt (mCall (vLenS fo) (aCons (mSi fo (iSeq (mVar 1)) (gN 4) tYesM (mOp vIdx (mVar 4) (mCon (.int 0))) [4]) aNil)) (mVar 2))) (mTest (mOp vLt (mCall (vLenS fo) (aCons (mSi fo (iSeq (mVar 1)) (gN 4) tYesM (mOp vIdx (mVar 4) (mCon (.int 1))) [4]) aNil)) (mVar 3)))) sNever sSkip)
    (sRet (mTup (aCons (mVar 2) (aCons (mVar 3) (aCons (mVar 1) aNil))))))))))))
def m_is_side (fo : Bool) : MF := fnM N_is_side
    (sRet (mFn (m_is_below fo) (aCons (mVar 0) (aCons (mCon (.int 2)) aNil))))
def m_check_side (fo : Bool) : MF := fnM N_check_side
    (sSeq (sIf (tNotM (mTest (mFn (m_is_side fo) (aCons (mVar 0) aNil)))) sNever sSkip)
    (sRet (mVar 0)))
def m_partners_of (fo : Bool) : MF := fnM N_partners_of
    (sRet (mCall vTuple (aCons (mCall (vSortS fo) (aCons (mSi fo (iSeq (mOp vIdx (mVar 0) (mCon (.int 2)))) (gN 3) (mTest (mOp (vIn false) (mOp vIdx (mVar 3) (mVar 1)) (mVar 2))) (mOp vIdx (mVar 3) (mOp vSub (mCon (.int 1)) (mVar 1))) [3]) aNil)) aNil)))
def m_degrees_of (fo : Bool) : MF := fnM N_degrees_of
    (sRet (mCall vTuple (aCons (mLc (iRange (aCons (mOp vIdx (mVar 0) (mVar 1)) aNil)) (gN 2) tYesM (mCall vLen (aCons (mFn (m_partners_of fo) (aCons (mVar 0) (aCons (mVar 1) (aCons (mTup (aCons (mVar 2) aNil)) aNil)))) aNil)) [2]) aNil)))
def m_degrees (fo : Bool) : MF := fnM N_degrees
    (sSeq (sAsg (mFn (m_check_bond fo) (aCons (mVar 0) aNil)) (gN 0))
    (sRet (mFn (m_degrees_of fo) (aCons (mVar 0) (aCons (mFn (m_check_side fo) (aCons (mVar 1) aNil)) aNil)))))
def m_are_below (fo : Bool) : MF := fnM N_are_below
    (sSeq (sIf (tNotM (mTest (mCall vAll (aCons (mLc (iSeq (mVar 0)) (gN 2) tYesM (mAnd (mIsi "int" (mVar 2)) (mAnd (mOp (vIsB true) (mVar 2) (mCon (.bl true))) (mOp (vIsB true) (mVar 2) (mCon (.bl false))))) [2]) aNil)))) (sRet (mCon (.bl false))) sSkip)
    (sRet (mAnd (mOp vGe (mCall vMinA (aCons (mVar 0) aNil)) (mCon (.int 0))) (mOp vLt (mCall vMaxA (aCons (mVar 0) aNil)) (mVar 1)))))
def m_is_lot (fo : Bool) : MF := fnM N_is_lot
    (sSeq (sIf (tOrM (tNotM (mTest (mFn (m_is_sequence fo) (aCons (mVar 0) aNil)))) (tOrM (mTest (mOp (vEq false) (mCall vLen (aCons (mVar 0) aNil)) (mCon (.int 0)))) (tNotM (mTest (mFn (m_are_below fo) (aCons (mVar 0) (aCons (mVar 1) aNil))))))) (sRet (mCon (.bl false))) sSkip)
    (sRet (mCall vAll (aCons (mLc (iRange (aCons (mCon (.int 1)) (aCons (mCall vLen (aCons (mVar 0) aNil)) aNil))) (gN 2) tYesM (mOp vLt (mOp vIdx (mVar 0) (mOp vSub (mVar 2) (mCon (.int 1)))) (mOp vIdx (mVar 0) (mVar 2))) [2]) aNil))))
def m_size_of (fo : Bool) : MF := fnM N_size_of
    (sSeq (sAsg (mFn (m_check_bond fo) (aCons (mVar 0) aNil)) (gN 0))
    (sRet (mOp vIdx (mVar 0) (mFn (m_check_side fo) (aCons (mVar 1) aNil)))))
def m_check_lot (fo : Bool) : MF := fnM N_check_lot
    (sSeq (sIf (tNotM (mTest (mFn (m_is_lot fo) (aCons (mVar 2) (aCons (mFn (m_size_of fo) (aCons (mVar 0) (aCons (mVar 1) aNil))) aNil))))) sNever sSkip)
    (sRet (mCall vTuple (aCons (mVar 2) aNil))))
def m_only_of (fo : Bool) : MF := fnM N_only_of
    (sSeq (sAsg (mDc (iSeq (mOp vIdx (mVar 0) (mCon (.int 2)))) (gN 4) (mTest (mOp (vIn true) (mOp vIdx (mVar 4) (mVar 1)) (mVar 2))) (mOp vIdx (mVar 4) (mOp vSub (mCon (.int 1)) (mVar 1))) (mCon (.bl true)) [4]) (gN 3))
    (sRet (mCall vTuple (aCons (mLc (iRange (aCons (mOp vIdx (mVar 0) (mOp vSub (mCon (.int 1)) (mVar 1))) aNil)) (gN 5) (mTest (mOp (vKey true) (mVar 5) (mVar 3))) (mVar 5) [5]) aNil))))
def m_only (fo : Bool) : MF := fnM N_only
    (sSeq (sAsg (mFn (m_check_bond fo) (aCons (mVar 0) aNil)) (gN 0))
    (sRet (mFn (m_only_of fo) (aCons (mVar 0) (aCons (mVar 1) (aCons (mFn (m_check_lot fo) (aCons (mVar 0) (aCons (mVar 1) (aCons (mVar 2) aNil)))) aNil))))))
def m_partners (fo : Bool) : MF := fnM N_partners
    (sSeq (sAsg (mFn (m_check_bond fo) (aCons (mVar 0) aNil)) (gN 0))
    (sRet (mFn (m_partners_of fo) (aCons (mVar 0) (aCons (mVar 1) (aCons (mFn (m_check_lot fo) (aCons (mVar 0) (aCons (mVar 1) (aCons (mVar 2) aNil)))) aNil))))))
def m_lowest_terms (fo : Bool) : MF := fnM N_lowest_terms
    (sSeq (sAsg (mCall vGcd (aCons (mVar 0) (aCons (mVar 1) aNil))) (gN 2))
    (sRet (mTup (aCons (mOp vDiv (mVar 0) (mVar 2)) (aCons (mOp vDiv (mVar 1) (mVar 2)) aNil)))))
def m_quotient_of (fo : Bool) : MF := fnM N_quotient_of
    (sRet (mFn (m_lowest_terms fo) (aCons (mCall vLen (aCons (mVar 2) aNil)) (aCons (mCall vLen (aCons (mFn (m_partners_of fo) (aCons (mVar 0) (aCons (mVar 1) (aCons (mVar 2) aNil)))) aNil)) aNil))))
def m_quotient (fo : Bool) : MF := fnM N_quotient
    (sSeq (sAsg (mFn (m_check_bond fo) (aCons (mVar 0) aNil)) (gN 0))
    (sRet (mFn (m_quotient_of fo) (aCons (mVar 0) (aCons (mVar 1) (aCons (mFn (m_check_lot fo) (aCons (mVar 0) (aCons (mVar 1) (aCons (mVar 2) aNil)))) aNil))))))
def m__law_lots_right (fo : Bool) : MF := fnM N__law_lots_right
    (sSeq (sAsg (mFn (m__law_table fo) (aCons (mVar 1) (aCons (mVar 3) aNil))) (gN 4))
    (sSeq (sAsg (mFn (m__law_lots fo) (aCons (mVar 0) (aCons (mOp vIdx (mVar 1) (mOp vSub (mCon (.int 1)) (mVar 3))) aNil))) (gN 5))
    (sSeq (sFor (iSeq (mFn (m__law_lots fo) (aCons (mVar 0) (aCons (mOp vIdx (mVar 1) (mVar 3)) aNil)))) (gN 6) (sSeq (sAsg (mFn (m__law_pick fo) (aCons (mVar 0) (aCons (mLst (aCons (mVar 6) (aCons (mCall vList (aCons (mVar 6) aNil)) aNil))) aNil))) (gN 8))
    (sSeq (sAsg (mCall vTuple (aCons (mLc (iRange (aCons (mOp vIdx (mVar 1) (mOp vSub (mCon (.int 1)) (mVar 3))) aNil)) (gN 15) (mTest (mOp vGt (mCall vSum (aCons (mLc (iSeq (mVar 6)) (gN 16) tYesM (mOp vIdx (mOp vIdx (mVar 4) (mVar 16)) (mVar 15)) [16]) aNil)) (mCon (.int 0)))) (mVar 15) [15]) aNil)) (gN 9))
    (sSeq (sAsg (mCall vTuple (aCons (mLc (iRange (aCons (mOp vIdx (mVar 1) (mOp vSub (mCon (.int 1)) (mVar 3))) aNil)) (gN 15) (mTest (mOp (vEq false) (mCall vSum (aCons (mLc (iSeq (mVar 4)) (gN 14) tYesM (mOp vIdx (mVar 14) (mVar 15)) [14]) aNil)) (mCall vSum (aCons (mLc (iSeq (mVar 6)) (gN 16) tYesM (mOp vIdx (mOp vIdx (mVar 4) (mVar 16)) (mVar 15)) [16]) aNil)))) (mVar 15) [15]) aNil)) (gN 10))
    (sSeq (sIf (tOrM (mTest (mOp (vEqT true) (mCall vRepr (aCons (mFn (m_partners fo) (aCons (mVar 2) (aCons (mVar 3) (aCons (mVar 8) aNil)))) aNil)) (mCall vRepr (aCons (mVar 9) aNil)))) (mTest (mOp (vEqT true) (mCall vRepr (aCons (mFn (m_only fo) (aCons (mVar 2) (aCons (mVar 3) (aCons (mVar 8) aNil)))) aNil)) (mCall vRepr (aCons (mVar 10) aNil))))) (sRet (mCon (.bl false))) sSkip)
    (sSeq (sIf (mTest (mOp (vEqT true) (mCall vRepr (aCons (mFn (m_quotient fo) (aCons (mVar 2) (aCons (mVar 3) (aCons (mVar 8) aNil)))) aNil)) (mCall vRepr (aCons (mFn (m__law_fraction fo) (aCons (mCall vLen (aCons (mVar 6) aNil)) (aCons (mCall vLen (aCons (mVar 9) aNil)) aNil))) aNil)))) (sRet (mCon (.bl false))) sSkip)
    (sSeq (sIf (mTest (mOp (vEq true) (mCall vList (aCons (mVar 8) aNil)) (mCall vList (aCons (mVar 6) aNil)))) (sRet (mCon (.bl false))) sSkip)
    (sSeq (sAsg (mFn (m__law_pick fo) (aCons (mVar 0) (aCons (mVar 5) aNil))) (gN 11))
    (sSeq (sAsg (mFnK (m_partners fo) [2, 1, 0] aNil (aCons (mVar 11) (aCons (mOp vSub (mCon (.int 1)) (mVar 3)) (aCons (mVar 1) aNil)))) (gN 12))
    (sSeq (sAsg (mFnK (m_only fo) [2, 1, 0] aNil (aCons (mVar 6) (aCons (mVar 3) (aCons (mVar 1) aNil)))) (gN 13))
    (sSeq (sIf (tAndM (mTest (mOp (vEq false) (mCall vLen (aCons (mLc (iSeq (mVar 11)) (gN 15) (mTest (mOp (vIn true) (mVar 15) (mVar 13))) (mVar 15) [15]) aNil)) (mCon (.int 0)))) (mTest (mOp vGt (mCall vLen (aCons (mLc (iSeq (mVar 12)) (gN 15) (mTest (mOp (vIn true) (mVar 15) (mVar 6))) (mVar 15) [15]) aNil)) (mCon (.int 0))))) (sRet (mCon (.bl false))) sSkip)
    (sIf (tAndM (mTest (mOp vGt (mCall vLen (aCons (mLc (iSeq (mVar 11)) (gN 15) (mTest (mOp (vIn true) (mVar 15) (mVar 13))) (mVar 15) [15]) aNil)) (mCon (.int 0)))) (mTest (mOp (vEq false) (mCall vLen (aCons (mLc (iSeq (mVar 12)) (gN 15) (mTest (mOp (vIn true) (mVar 15) (mVar 6))) (mVar 15) [15]) aNil)) (mCon (.int 0))))) (sRet (mCon (.bl false))) sSkip))))))))))))
    (sSeq (sAsg (mCall vTuple (aCons (mLc (iSeq (mVar 4)) (gN 14) tYesM (mCall vSum (aCons (mVar 14) aNil)) [14]) aNil)) (gN 7))
    (sRet (mAnd (mOp (vEqT false) (mCall vRepr (aCons (mFn (m_degrees fo) (aCons (mVar 2) (aCons (mVar 3) aNil))) aNil)) (mCall vRepr (aCons (mVar 7) aNil))) (mOp (vEqT false) (mCall vRepr (aCons (mFnK (m_degrees fo) [1, 0] aNil (aCons (mVar 3) (aCons (mVar 1) aNil))) aNil)) (mCall vRepr (aCons (mVar 7) aNil)))))))))
def m__law_pieces (fo : Bool) : MF := fnM N__law_pieces
    (sSeq (sAsg (mVar 0) (gT 3 (gsC (gN 4) (gsC (gN 5) (gsC (gN 6) gsN)))))
    (sSeq (sAsg (mTup (aCons (mRgL (aCons (mVar 4) aNil)) (aCons (mLc (iRange (aCons (mVar 5) aNil)) (gN 10) tYesM (mVar 4) [10]) aNil))) (gT 2 (gsC (gN 7) (gsC (gN 8) gsN))))
    (sSeq (sFor (iRange (aCons (mOp vAdd (mVar 4) (mVar 5)) aNil)) (gN 1) (sFor (iSeq (mVar 6)) (gT 2 (gsC (gN 9) (gsC (gN 10) gsN))) (sSeq (sAsg (mCall vMin2 (aCons (mOp vIdx (mVar 7) (mVar 9)) (aCons (mOp vIdx (mVar 8) (mVar 10)) aNil))) (gN 11))
    (sSeq (sAsg (mVar 11) (gI (mVar 7) (mVar 9)))
    (sAsg (mVar 11) (gI (mVar 8) (mVar 10)))))))
    (sSeq (sAsg (mLst aNil) (gN 2))
    (sSeq (sFor (iRange (aCons (mVar 4) aNil)) (gN 3) (sIf (mTest (mOp (vEq false) (mOp vIdx (mVar 7) (mVar 3)) (mVar 3))) (sExpr (mMeth fAppend (mVar 2) (aCons (mTup (aCons (mCall vTuple (aCons (mLc (iRange (aCons (mVar 4) aNil)) (gN 9) (mTest (mOp (vEq false) (mOp vIdx (mVar 7) (mVar 9)) (mVar 3))) (mVar 9) [9]) aNil)) (aCons (mCall vTuple (aCons (mLc (iRange (aCons (mVar 5) aNil)) (gN 10) (mTest (mOp (vEq false) (mOp vIdx (mVar 8) (mVar 10)) (mVar 3))) (mVar 10) [10]) aNil)) aNil))) aNil))) sSkip))
    (sRet (mCall vTuple (aCons (mVar 2) aNil))))))))
def m_component (fo : Bool) : MF := fnM N_component
    (sSeq (sAsg (mTup (aCons (mVar 1) aNil)) (gN 2))
    (sWhile 64 (mTest (mCon (.bl true))) (sSeq (sAsg (mFn (m_partners_of fo) (aCons (mVar 0) (aCons (mCon (.int 0)) (aCons (mVar 2) aNil)))) (gN 3))
    (sSeq (sAsg (mFn (m_partners_of fo) (aCons (mVar 0) (aCons (mCon (.int 1)) (aCons (mVar 3) aNil)))) (gN 4))
    (sSeq (sIf (mTest (mOp (vEq false) (mVar 4) (mVar 2))) (sRet (mTup (aCons (mVar 2) (aCons (mVar 3) aNil)))) sSkip)
    (sAsg (mVar 4) (gN 2)))))))
def m_pieces_of (fo : Bool) : MF := fnM N_pieces_of
    (sSeq (sAsg (mLst aNil) (gN 1))
    (sSeq (sFor (iRange (aCons (mOp vIdx (mVar 0) (mCon (.int 0))) aNil)) (gN 2) (sIf (tNotM (mTest (mCall vAny (aCons (mLc (iSeq (mVar 1)) (gN 3) tYesM (mOp (vIn false) (mVar 2) (mOp vIdx (mVar 3) (mCon (.int 0)))) [3]) aNil)))) (sExpr (mMeth fAppend (mVar 1) (aCons (mFn (m_component fo) (aCons (mVar 0) (aCons (mVar 2) aNil))) aNil))) sSkip))
    (sRet (mCall vTuple (aCons (mVar 1) aNil)))))
def m_pieces (fo : Bool) : MF := fnM N_pieces
    (sRet (mFn (m_pieces_of fo) (aCons (mFn (m_check_bond fo) (aCons (mVar 0) aNil)) aNil)))
def m_law (fo : Bool) : MF := fnM N_law
    (sSeq (sFor (iRange (aCons (mCall vMax2 (aCons (mCon (.int 3)) (aCons (mCall vMin2 (aCons (mCall vLen (aCons (mVar 0) aNil)) (aCons (mCon (.int 6)) aNil))) aNil))) aNil)) (gN 1) (sSeq (sAsg (mFn (m__law_box fo) (aCons (mVar 0) (aCons (mVar 1) aNil))) (gN 2))
    (sSeq (sAsg (mFn (m__law_bond fo) (aCons (mVar 2) aNil)) (gN 3))
    (sSeq (sAsg (mFn (m__law_listed fo) (aCons (mVar 2) (aCons (mVar 3) aNil))) (gN 4))
    (sSeq (sAsg (mCall vRepr (aCons (mVar 4) aNil)) (gN 5))
    (sSeq (sFor (iRange (aCons (mCon (.int 2)) aNil)) (gN 6) (sIf (tNotM (mTest (mFn (m__law_lots_right fo) (aCons (mVar 2) (aCons (mVar 3) (aCons (mVar 4) (aCons (mVar 6) aNil))))))) (sRet (mCon (.bl false))) sSkip))
    (sSeq (sAsg (mCall vRepr (aCons (mFn (m__law_pieces fo) (aCons (mVar 3) aNil)) aNil)) (gN 7))
    (sSeq (sIf (tOrM (mTest (mOp (vEqT true) (mCall vRepr (aCons (mFn (m_pieces fo) (aCons (mVar 4) aNil)) aNil)) (mVar 7))) (tOrM (mTest (mOp (vEqT true) (mCall vRepr (aCons (mFnK (m_pieces fo) [0] aNil (aCons (mVar 3) aNil)) aNil)) (mVar 7))) (mTest (mOp (vEqT true) (mCall vRepr (aCons (mVar 4) aNil)) (mVar 5))))) (sRet (mCon (.bl false))) sSkip)
    (sSeq (sPar [8, 9] (aCons (mFn (m_quotient fo) (aCons (mVar 3) (aCons (mCon (.int 0)) (aCons (mRgT (aCons (mOp vIdx (mVar 3) (mCon (.int 0))) aNil)) aNil)))) (aCons (mFnK (m_quotient fo) [2, 1, 0] aNil (aCons (mRgT (aCons (mOp vIdx (mVar 3) (mCon (.int 1))) aNil)) (aCons (mCon (.int 1)) (aCons (mVar 3) aNil)))) aNil)))
    (sIf (mTest (mOp (vEq true) (mOp vMul (mOp vIdx (mVar 8) (mCon (.int 0))) (mOp vIdx (mVar 9) (mCon (.int 0)))) (mOp vMul (mOp vIdx (mVar 8) (mCon (.int 1))) (mOp vIdx (mVar 9) (mCon (.int 1)))))) (sRet (mCon (.bl false))) sSkip))))))))))
    (sRet (mCon (.bl true))))
section
variable {P : Program} {w : World} {K : PySem.W.Frag} {mg : Str → Option Value} {base : Heap} {fo : Bool}
theorem p__law_take (c : Cc K mg) (hfo : w.params.followText "set-order" = fo) : Pm P w K mg base 1 "_law_take" s__law_take P__law_take (m__law_take fo) := by
  have nd := sc__law_take.nd
  exact pm_mk c.d__law_take sc__law_take fun cdv A outer s H gd =>
    (denb_cons (dens_if (dent_gt (den_idx (dv 0) den_int fun _ _ => rfl) den_int) (denb_cons (dens_set (ps_set (i := 3) nd rfl (by first | exact Or.inl rfl | exact Or.inr rfl) (den_mod (den_callTy call_int1 snd_int (by rfl) (c.fr "int" (by decide +kernel)) bt_int (dena_cons (den_idx (dv 0) den_int fun _ _ => rfl) dena_nil)) (dv 1))))
    (denb_cons (dens_asg (ps_asg (den_div (den_idx (dv 0) den_int fun _ _ => rfl) (dv 1)) (deng_sub (pg_sub (dv 0) den_int set_list))))
    (denb_one (dens_ret (dv 3))))) denb_nil)
    (denb_cons (dens_set (ps_set (i := 2) nd rfl (by first | exact Or.inl rfl | exact Or.inr rfl) (den_mod (den_callTy call_int1 snd_int (by rfl) (c.fr "int" (by decide +kernel)) bt_int (dena_cons (den_add (den_mul (den_idx (dv 0) den_int fun _ _ => rfl) den_int) den_int) dena_nil)) den_int)))
    (denb_cons (dens_asg (ps_asg (den_add (den_mod (den_callTy call_int1 snd_int (by rfl) (c.fr "int" (by decide +kernel)) bt_int (dena_cons (den_add (den_mul (dv 2) den_int) den_int) dena_nil)) den_int) den_int) (deng_sub (pg_sub (dv 0) den_int set_list))))
    (denb_one (dens_ret (den_mod (den_callTy call_int1 snd_int (by rfl) (c.fr "int" (by decide +kernel)) bt_int (dena_cons (den_div (den_add (den_mul (dv 2) den_int) (den_idx (dv 0) den_int fun _ _ => rfl)) den_int) dena_nil)) (dv 1)))))))
theorem p__law_pick (c : Cc K mg) (hfo : w.params.followText "set-order" = fo) : Pm P w K mg base 2 "_law_pick" s__law_pick P__law_pick (m__law_pick fo) := by
  have p__law_take := p__law_take (P := P) (base := base) c hfo
  have nd := sc__law_pick.nd
  exact pm_mk c.d__law_pick sc__law_pick fun cdv A outer s H gd =>
    (denb_one (dens_ret (den_idx (dv 1) (den_p p__law_take gd (by decide) ba__law_take_2 rfl rfl (dena_cons (dv 0) (dena_cons (den_callB call_len snd_len (by rfl) (c.fr "len" (by decide +kernel)) bt_len (dena_cons (dv 1) dena_nil)) dena_nil)) (al_cons (al_cons al_nil))) fun _ _ => rfl)))
theorem p__law_bond (c : Cc K mg) (hfo : w.params.followText "set-order" = fo) : Pm P w K mg base 3 "_law_bond" s__law_bond P__law_bond (m__law_bond fo) := by
  have p__law_pick := p__law_pick (P := P) (base := base) c hfo
  have p__law_take := p__law_take (P := P) (base := base) c hfo
  have nd := sc__law_bond.nd
  exact pm_mk c.d__law_bond sc__law_bond fun cdv A outer s H gd =>
    (denb_cons (dens_asg (ps_asg (den_tup (dena_cons (den_add den_int (den_p p__law_take gd (by decide) ba__law_take_2 rfl rfl (dena_cons (dv 0) (dena_cons den_int dena_nil)) (al_cons (al_cons al_nil)))) (dena_cons (den_add den_int (den_p p__law_take gd (by decide) ba__law_take_2 rfl rfl (dena_cons (dv 0) (dena_cons den_int dena_nil)) (al_cons (al_cons al_nil)))) (dena_cons (den_p p__law_pick gd (by decide) ba__law_pick_2 rfl rfl (dena_cons (dv 0) (dena_cons (den_lst (dena_cons den_int (dena_cons den_int (dena_cons den_int (dena_cons den_int dena_nil))))) dena_nil)) (al_cons (al_cons al_nil))) dena_nil)))) (deng_tup (pg_tup rfl (dengs_cons (pgs_cons (deng_name (pg_name (i := 5) nd rfl (by first | exact Or.inl rfl | exact Or.inr rfl))) (dengs_cons (pgs_cons (deng_name (pg_name (i := 6) nd rfl (by first | exact Or.inl rfl | exact Or.inr rfl))) (dengs_cons (pgs_cons (deng_name (pg_name (i := 7) nd rfl (by first | exact Or.inl rfl | exact Or.inr rfl))) dengs_nil))))))) (pg_unl rfl (dengs_cons (pgs_cons (deng_name (pg_name (i := 5) nd rfl (by first | exact Or.inl rfl | exact Or.inr rfl))) (dengs_cons (pgs_cons (deng_name (pg_name (i := 6) nd rfl (by first | exact Or.inl rfl | exact Or.inr rfl))) (dengs_cons (pgs_cons (deng_name (pg_name (i := 7) nd rfl (by first | exact Or.inl rfl | exact Or.inr rfl))) dengs_nil))))))))))
    (denb_cons (dens_set (ps_set (i := 1) nd rfl (by first | exact Or.inl rfl | exact Or.inr rfl) (den_lst dena_nil)))
    (denb_cons (dens_for (ps_for PassesOwn.never rfl (deni_range1 (pi_range1 (by rfl) (c.fr "range" (by decide +kernel)) (dena_cons (dv 5) dena_nil)) (al_cons al_nil)) (deng_name (pg_name (i := 2) nd rfl (by first | exact Or.inl rfl | exact Or.inr rfl))) (denb_one (dens_expr (ps_expr (den_append (pe_bm PySem.F.plainAttrs_list PySem.F.slot_list_append PySem.F.type_list_append mt_append (dv 1) (dena_cons (den_lc (pe_lc (own := [("t", 3)]) rfl nd (deni_range1 (pi_range1 (by rfl) (c.fr "range" (by decide +kernel)) (dena_cons (dv 6) dena_nil)) (al_cons al_nil)) (blkOk_by (own := [("t", 3)]) (N := N__law_bond) (sc := (defScope s__law_bond)) (by decide +kernel)) (fun _ _ _ _ _ => (deng_name (pg_name (i := 3) nd rfl (by first | exact Or.inl rfl | exact Or.inr rfl)))) (fun _ _ _ _ _ => dents_nil) (fun _ _ _ _ _ => (den_ite (dent_eq gd.blk.u64 (den_p p__law_take gd.blk (by decide) ba__law_take_2 rfl rfl (dena_cons (dv 0) (dena_cons (dv 7) dena_nil)) (al_cons (al_cons al_nil))) den_int) den_int den_int))) (by decide)) dena_nil))))))))
    (denb_cons (dens_for (ps_for PassesOwn.never rfl (deni_range1 (pi_range1 (by rfl) (c.fr "range" (by decide +kernel)) (dena_cons (dv 5) dena_nil)) (al_cons al_nil)) (deng_name (pg_name (i := 2) nd rfl (by first | exact Or.inl rfl | exact Or.inr rfl))) (denb_one (dens_if (dent_eq gd.u64 (den_callB (cr_sum rfl) snd_sum (by rfl) (c.fr "sum" (by decide +kernel)) bt_sum (dena_cons (den_idx (dv 1) (dv 2) fun _ _ => rfl) dena_nil)) den_int) (denb_one (dens_asg (ps_asg den_int (deng_sub (pg_sub (den_idx (dv 1) (dv 2) fun _ _ => rfl) (den_p p__law_take gd (by decide) ba__law_take_2 rfl rfl (dena_cons (dv 0) (dena_cons (dv 6) dena_nil)) (al_cons (al_cons al_nil))) set_list))))) denb_nil))))
    (denb_cons (dens_for (ps_for PassesOwn.never rfl (deni_range1 (pi_range1 (by rfl) (c.fr "range" (by decide +kernel)) (dena_cons (dv 6) dena_nil)) (al_cons al_nil)) (deng_name (pg_name (i := 3) nd rfl (by first | exact Or.inl rfl | exact Or.inr rfl))) (denb_one (dens_if (dent_eq gd.u64 (den_callB (cr_sum rfl) snd_sum (by rfl) (c.fr "sum" (by decide +kernel)) bt_sum (dena_cons (den_lc (pe_lc (own := [("row", 8)]) rfl nd (deni_seq (dv 1)) (blkOk_by (own := [("row", 8)]) (N := N__law_bond) (sc := (defScope s__law_bond)) (by decide +kernel)) (fun _ _ _ _ _ => (deng_name (pg_name (i := 8) nd rfl (by first | exact Or.inl rfl | exact Or.inr rfl)))) (fun _ _ _ _ _ => dents_nil) (fun _ _ _ _ _ => (den_idx (dv 8) (dv 3) fun _ _ => rfl))) (by decide)) dena_nil)) den_int) (denb_one (dens_asg (ps_asg den_int (deng_sub (pg_sub (den_idx (dv 1) (den_p p__law_take gd (by decide) ba__law_take_2 rfl rfl (dena_cons (dv 0) (dena_cons (dv 5) dena_nil)) (al_cons (al_cons al_nil))) fun _ _ => rfl) (dv 3) set_list))))) denb_nil))))
    (denb_cons (dens_set (ps_set (i := 4) nd rfl (by first | exact Or.inl rfl | exact Or.inr rfl) (den_lst dena_nil)))
    (denb_cons (dens_for (ps_for PassesOwn.never rfl (deni_range1 (pi_range1 (by rfl) (c.fr "range" (by decide +kernel)) (dena_cons (dv 5) dena_nil)) (al_cons al_nil)) (deng_name (pg_name (i := 2) nd rfl (by first | exact Or.inl rfl | exact Or.inr rfl))) (denb_one (dens_expr (ps_expr (den_extend (pe_bm PySem.F.plainAttrs_list PySem.F.slot_list_extend PySem.F.type_list_extend mt_extend (dv 4) (dena_cons (den_lc (pe_lc (own := [("t", 3)]) rfl nd (deni_range1 (pi_range1 (by rfl) (c.fr "range" (by decide +kernel)) (dena_cons (dv 6) dena_nil)) (al_cons al_nil)) (blkOk_by (own := [("t", 3)]) (N := N__law_bond) (sc := (defScope s__law_bond)) (by decide +kernel)) (fun _ _ _ _ _ => (deng_name (pg_name (i := 3) nd rfl (by first | exact Or.inl rfl | exact Or.inr rfl)))) (fun _ _ _ _ _ => (dents_one (dent_eq gd.blk.u64 (den_idx (den_idx (dv 1) (dv 2) fun _ _ => rfl) (dv 3) fun _ _ => rfl) den_int))) (fun _ _ _ _ _ => (den_tup (dena_cons (dv 2) (dena_cons (dv 3) dena_nil))))) (by decide)) dena_nil))))))))
    (denb_one (dens_ret (den_tup (dena_cons (dv 5) (dena_cons (dv 6) (dena_cons (den_callTy call_tuple_of snd_tuple (by rfl) (c.fr "tuple" (by decide +kernel)) bt_tuple (dena_cons (dv 4) dena_nil)) dena_nil)))))))))))))
theorem p__law_box (c : Cc K mg) (hfo : w.params.followText "set-order" = fo) : Pm P w K mg base 1 "_law_box" s__law_box P__law_box (m__law_box fo) := by
  have nd := sc__law_box.nd
  exact pm_mk c.d__law_box sc__law_box fun cdv A outer s H gd =>
    (denb_cons (dens_set (ps_set (i := 2) nd rfl (by first | exact Or.inl rfl | exact Or.inr rfl) (den_add (den_mul den_int (dv 1)) den_int)))
    (denb_cons (dens_if (dent_lt (dv 1) (den_callB call_len snd_len (by rfl) (c.fr "len" (by decide +kernel)) bt_len (dena_cons (dv 0) dena_nil))) (denb_one (dens_set (ps_set (i := 2) nd rfl (by first | exact Or.inl rfl | exact Or.inr rfl) (den_callB call_abs snd_abs (by rfl) (c.fr "abs" (by decide +kernel)) bt_abs (dena_cons (den_callTy call_int1 snd_int (by rfl) (c.fr "int" (by decide +kernel)) bt_int (dena_cons (den_idx (dv 0) (dv 1) fun _ _ => rfl) dena_nil)) dena_nil))))) (denb_one (dens_if (dent_gt (den_callB call_len snd_len (by rfl) (c.fr "len" (by decide +kernel)) bt_len (dena_cons (dv 0) dena_nil)) den_int) (denb_one (dens_set (ps_set (i := 2) nd rfl (by first | exact Or.inl rfl | exact Or.inr rfl) (den_add (dv 2) (den_mul (den_mod (den_callTy call_int1 snd_int (by rfl) (c.fr "int" (by decide +kernel)) bt_int (dena_cons (den_callB call_abs snd_abs (by rfl) (c.fr "abs" (by decide +kernel)) bt_abs (dena_cons (den_callTy call_int1 snd_int (by rfl) (c.fr "int" (by decide +kernel)) bt_int (dena_cons (den_idx (dv 0) (den_mod (den_callTy call_int1 snd_int (by rfl) (c.fr "int" (by decide +kernel)) bt_int (dena_cons (dv 1) dena_nil)) (den_callB call_len snd_len (by rfl) (c.fr "len" (by decide +kernel)) bt_len (dena_cons (dv 0) dena_nil))) fun _ _ => rfl) dena_nil)) dena_nil)) dena_nil)) den_int) den_int))))) denb_nil)))
    (denb_cons (dens_set (ps_set (i := 3) nd rfl (by first | exact Or.inl rfl | exact Or.inr rfl) (den_ite (dent_ge (dv 2) (den_pow den_int den_int)) (dv 2) den_int)))
    (denb_one (dens_ret (den_lst (dena_cons (dv 3) (dena_cons (den_add (den_mod (den_callTy call_int1 snd_int (by rfl) (c.fr "int" (by decide +kernel)) bt_int (dena_cons (den_add (den_mul (den_mod (den_callTy call_int1 snd_int (by rfl) (c.fr "int" (by decide +kernel)) bt_int (dena_cons (dv 2) dena_nil)) den_int) den_int) (den_mul den_int (dv 1))) dena_nil)) den_int) den_int) dena_nil))))))))
theorem p__law_listed (c : Cc K mg) (hfo : w.params.followText "set-order" = fo) : Pm P w K mg base 3 "_law_listed" s__law_listed P__law_listed (m__law_listed fo) := by
  have p__law_pick := p__law_pick (P := P) (base := base) c hfo
  have nd := sc__law_listed.nd
  exact pm_mk c.d__law_listed sc__law_listed fun cdv A outer s H gd =>
    (denb_cons (dens_setLc (ps_setLc (i := 2) (own := [("one", 3)]) rfl nd rfl rfl (sw_true rfl rfl rfl (by decide +kernel)) (deni_seq (den_idx (dv 1) den_int fun _ _ => rfl)) (blkOk_by (own := [("one", 3)]) (N := N__law_listed) (sc := (defScope s__law_listed)) (by decide +kernel)) (fun _ _ _ _ _ => (deng_name (pg_name (i := 3) nd rfl (by first | exact Or.inl rfl | exact Or.inr rfl)))) (fun _ _ _ _ _ => dents_nil) (fun _ _ _ _ _ => (den_p p__law_pick gd.blk (by decide) ba__law_pick_2 rfl rfl (dena_cons (dv 0) (dena_cons (den_lst (dena_cons (dv 3) (dena_cons (den_callTy call_list_of snd_list (by rfl) (c.fr "list" (by decide +kernel)) bt_list (dena_cons (dv 3) dena_nil)) dena_nil))) dena_nil)) (al_cons (al_cons al_nil))))) (by decide))
    (denb_one (dens_ret (den_p p__law_pick gd (by decide) ba__law_pick_2 rfl rfl (dena_cons (dv 0) (dena_cons (den_lst (dena_cons (dv 1) (dena_cons (den_lst (dena_cons (den_idx (dv 1) den_int fun _ _ => rfl) (dena_cons (den_idx (dv 1) den_int fun _ _ => rfl) (dena_cons (dv 2) dena_nil)))) (dena_cons (den_tup (dena_cons (den_idx (dv 1) den_int fun _ _ => rfl) (dena_cons (den_idx (dv 1) den_int fun _ _ => rfl) (dena_cons (dv 2) dena_nil)))) (dena_cons (den_lst (dena_cons (den_idx (dv 1) den_int fun _ _ => rfl) (dena_cons (den_idx (dv 1) den_int fun _ _ => rfl) (dena_cons (den_callTy call_tuple_of snd_tuple (by rfl) (c.fr "tuple" (by decide +kernel)) bt_tuple (dena_cons (dv 2) dena_nil)) dena_nil)))) dena_nil))))) dena_nil)) (al_cons (al_cons al_nil))))))
theorem p__law_fraction (c : Cc K mg) (hfo : w.params.followText "set-order" = fo) : Pm P w K mg base 1 "_law_fraction" s__law_fraction P__law_fraction (m__law_fraction fo) := by
  have nd := sc__law_fraction.nd
  exact pm_mk c.d__law_fraction sc__law_fraction fun cdv A outer s H gd =>
    (denb_cons (dens_for (ps_for PassesOwn.never rfl (deni_range3 (pi_range3 (by rfl) (c.fr "range" (by decide +kernel)) (dena_cons den_int (dena_cons den_int (dena_cons (den_sub den_int den_int) dena_nil))))) (deng_name (pg_name (i := 2) nd rfl (by first | exact Or.inl rfl | exact Or.inr rfl))) (denb_one (dens_if (PW.pt (denw_and (dent_eq gd.u64 (den_mod (den_callTy call_int1 snd_int (by rfl) (c.fr "int" (by decide +kernel)) bt_int (dena_cons (dv 0) dena_nil)) (dv 2)) den_int) (denw_and1 (dent_eq gd.u64 (den_mod (den_callTy call_int1 snd_int (by rfl) (c.fr "int" (by decide +kernel)) bt_int (dena_cons (dv 1) dena_nil)) (dv 2)) den_int)))) (denb_one (dens_ret (den_tup (dena_cons (den_div (dv 0) (dv 2)) (dena_cons (den_div (dv 1) (dv 2)) dena_nil))))) denb_nil))))
    (denb_one (dens_ret (den_tup (dena_cons (dv 0) (dena_cons (dv 1) dena_nil))))))
theorem p__law_lots (c : Cc K mg) (hfo : w.params.followText "set-order" = fo) : Pm P w K mg base 2 "_law_lots" s__law_lots P__law_lots (m__law_lots fo) := by
  have p__law_take := p__law_take (P := P) (base := base) c hfo
  have nd := sc__law_lots.nd
  exact pm_mk c.d__law_lots sc__law_lots fun cdv A outer s H gd =>
    (denb_cons (dens_set (ps_set (i := 2) nd rfl (by first | exact Or.inl rfl | exact Or.inr rfl) (den_lst (dena_cons (den_tupRg1 (by rfl) (c.fr "tuple" (by decide +kernel)) (by rfl) (c.fr "range" (by decide +kernel)) (dv 1) rfl) (dena_cons (den_tup (dena_cons (den_p p__law_take gd (by decide) ba__law_take_2 rfl rfl (dena_cons (dv 0) (dena_cons (dv 1) dena_nil)) (al_cons (al_cons al_nil))) dena_nil)) dena_nil)))))
    (denb_cons (dens_for (ps_for PassesOwn.never rfl (deni_range1 (pi_range1 (by rfl) (c.fr "range" (by decide +kernel)) (dena_cons den_int dena_nil)) (al_cons al_nil)) (deng_name (pg_name (i := 3) nd rfl (by first | exact Or.inl rfl | exact Or.inr rfl))) (denb_cons (dens_setLc (ps_setLc (i := 4) (own := [("one", 5)]) rfl nd rfl rfl (sw_true rfl rfl rfl (by decide +kernel)) (deni_range1 (pi_range1 (by rfl) (c.fr "range" (by decide +kernel)) (dena_cons (dv 1) dena_nil)) (al_cons al_nil)) (blkOk_by (own := [("one", 5)]) (N := N__law_lots) (sc := (defScope s__law_lots)) (by decide +kernel)) (fun _ _ _ _ _ => (deng_name (pg_name (i := 5) nd rfl (by first | exact Or.inl rfl | exact Or.inr rfl)))) (fun _ _ _ _ _ => (dents_one (dent_eq gd.blk.u64 (den_p p__law_take gd.blk (by decide) ba__law_take_2 rfl rfl (dena_cons (dv 0) (dena_cons den_int dena_nil)) (al_cons (al_cons al_nil))) den_int))) (fun _ _ _ _ _ => (dv 5))) (by decide))
    (denb_one (dens_if (dent_gt (den_callB call_len snd_len (by rfl) (c.fr "len" (by decide +kernel)) bt_len (dena_cons (dv 4) dena_nil)) den_int) (denb_one (dens_expr (ps_expr (den_append (pe_bm PySem.F.plainAttrs_list PySem.F.slot_list_append PySem.F.type_list_append mt_append (dv 2) (dena_cons (den_callTy call_tuple_of snd_tuple (by rfl) (c.fr "tuple" (by decide +kernel)) bt_tuple (dena_cons (dv 4) dena_nil)) dena_nil)))))) denb_nil)))))
    (denb_one (dens_ret (dv 2)))))
theorem p__law_table (c : Cc K mg) (hfo : w.params.followText "set-order" = fo) : Pm P w K mg base 1 "_law_table" s__law_table P__law_table (m__law_table fo) := by
  have nd := sc__law_table.nd
  exact pm_mk c.d__law_table sc__law_table fun cdv A outer s H gd =>
    (denb_cons (dens_setLc (ps_setLc (i := 2) (own := [("one", 4)]) rfl nd rfl rfl (sw_true rfl rfl rfl (by decide +kernel)) (deni_range1 (pi_range1 (by rfl) (c.fr "range" (by decide +kernel)) (dena_cons (den_idx (dv 0) (dv 1) fun _ _ => rfl) dena_nil)) (al_cons al_nil)) (blkOk_by (own := [("one", 4)]) (N := N__law_table) (sc := (defScope s__law_table)) (by decide +kernel)) (fun _ _ _ _ _ => (deng_name (pg_name (i := 4) nd rfl (by first | exact Or.inl rfl | exact Or.inr rfl)))) (fun _ _ _ _ _ => dents_nil) (fun _ _ _ _ _ => (den_lc (pe_lc (own := [("other", 5)]) rfl nd (deni_range1 (pi_range1 (by rfl) (c.fr "range" (by decide +kernel)) (dena_cons (den_idx (dv 0) (den_sub den_int (dv 1)) fun _ _ => rfl) dena_nil)) (al_cons al_nil)) (blkOk_by (own := [("other", 5)]) (N := N__law_table) (sc := (relS _ (defScope s__law_table))) (by decide +kernel)) (fun _ _ _ _ _ => (deng_name (pg_name (i := 5) nd rfl (by first | exact Or.inl rfl | exact Or.inr rfl)))) (fun _ _ _ _ _ => dents_nil) (fun _ _ _ _ _ => den_int)) (by decide)))) (by decide))
    (denb_cons (dens_for (ps_for PassesOwn.never rfl (deni_seq (den_idx (dv 0) den_int fun _ _ => rfl)) (deng_name (pg_name (i := 3) nd rfl (by first | exact Or.inl rfl | exact Or.inr rfl))) (denb_one (dens_asg (ps_asg den_int (deng_sub (pg_sub (den_idx (dv 2) (den_idx (dv 3) (dv 1) fun _ _ => rfl) fun _ _ => rfl) (den_idx (dv 3) (den_sub den_int (dv 1)) fun _ _ => rfl) set_list)))))))
    (denb_one (dens_ret (dv 2)))))
theorem p_is_below (c : Cc K mg) (hfo : w.params.followText "set-order" = fo) : Pm P w K mg base 1 "is_below" s_is_below P_is_below (m_is_below fo) := by
  have nd := sc_is_below.nd
  exact pm_mk c.d_is_below sc_is_below fun cdv A outer s H gd =>
    (denb_one (dens_ret (den_and (den_isi (by rfl) (c.fr "isinstance" (by decide +kernel)) (by rfl) (c.fr "int" (by decide +kernel)) bt_int (dv 0)) (den_and (den_not (den_isi (by rfl) (c.fr "isinstance" (by decide +kernel)) (by rfl) (c.fr "bool" (by decide +kernel)) bt_bool (dv 0))) (den_one (den_chain op_le op_lt s_le s_lt den_int (dv 0) (dv 1)))))))
theorem p_is_row (c : Cc K mg) (hfo : w.params.followText "set-order" = fo) : Pm P w K mg base 1 "is_row" s_is_row P_is_row (m_is_row fo) := by
  have nd := sc_is_row.nd
  exact pm_mk c.d_is_row sc_is_row fun cdv A outer s H gd =>
    (denb_one (dens_ret (den_and (den_or (den_isi (by rfl) (c.fr "isinstance" (by decide +kernel)) (by rfl) (c.fr "tuple" (by decide +kernel)) bt_tuple (dv 0)) (den_one (den_isi (by rfl) (c.fr "isinstance" (by decide +kernel)) (by rfl) (c.fr "list" (by decide +kernel)) bt_list (dv 0)))) (den_one (den_eq gd.u64 (den_callB call_len snd_len (by rfl) (c.fr "len" (by decide +kernel)) bt_len (dena_cons (dv 0) dena_nil)) (dv 1))))))
theorem p_is_pair_below (c : Cc K mg) (hfo : w.params.followText "set-order" = fo) : Pm P w K mg base 2 "is_pair_below" s_is_pair_below P_is_pair_below (m_is_pair_below fo) := by
  have p_is_below := p_is_below (P := P) (base := base) c hfo
  have p_is_row := p_is_row (P := P) (base := base) c hfo
  have nd := sc_is_pair_below.nd
  exact pm_mk c.d_is_pair_below sc_is_pair_below fun cdv A outer s H gd =>
    (denb_one (dens_ret (den_and (den_p p_is_row gd (by decide) ba_is_row_2 rfl rfl (dena_cons (dv 0) (dena_cons den_int dena_nil)) (al_cons (al_cons al_nil))) (den_and (den_p p_is_below gd (by decide) ba_is_below_2 rfl rfl (dena_cons (den_idx (dv 0) den_int fun _ _ => rfl) (dena_cons (dv 1) dena_nil)) (al_cons (al_cons al_nil))) (den_one (den_p p_is_below gd (by decide) ba_is_below_2 rfl rfl (dena_cons (den_idx (dv 0) den_int fun _ _ => rfl) (dena_cons (dv 2) dena_nil)) (al_cons (al_cons al_nil))))))))
theorem p_check_pairs (c : Cc K mg) (hfo : w.params.followText "set-order" = fo) : Pm P w K mg base 3 "check_pairs" s_check_pairs P_check_pairs (m_check_pairs fo) := by
  have p_is_pair_below := p_is_pair_below (P := P) (base := base) c hfo
  have nd := sc_check_pairs.nd
  exact pm_mk c.d_check_pairs sc_check_pairs fun cdv A outer s H gd =>
    (denb_cons (dens_set (ps_set (i := 3) nd rfl (by first | exact Or.inl rfl | exact Or.inr rfl) (den_lst dena_nil)))
    (denb_cons (dens_for (ps_for PassesOwn.never rfl (deni_enum (pi_enumK (by rfl) (c.fr "enumerate" (by decide +kernel)) (dena_cons (dv 2) dena_nil))) (deng_tup (pg_tup rfl (dengs_cons (pgs_cons (deng_name (pg_name (i := 4) nd rfl (by first | exact Or.inl rfl | exact Or.inr rfl))) (dengs_cons (pgs_cons (deng_name (pg_name (i := 5) nd rfl (by first | exact Or.inl rfl | exact Or.inr rfl))) dengs_nil))))) (pg_unl rfl (dengs_cons (pgs_cons (deng_name (pg_name (i := 4) nd rfl (by first | exact Or.inl rfl | exact Or.inr rfl))) (dengs_cons (pgs_cons (deng_name (pg_name (i := 5) nd rfl (by first | exact Or.inl rfl | exact Or.inr rfl))) dengs_nil)))))) (denb_cons (dens_if (dent_not (dent_val (den_p p_is_pair_below gd (by decide) ba_is_pair_below_3 rfl rfl (dena_cons (dv 5) (dena_cons (dv 0) (dena_cons (dv 1) dena_nil))) (al_cons (al_cons (al_cons al_nil)))))) (denb_one dens_never) denb_nil)
    (denb_cons (dens_if (PW.pt (denw_and (dent_gt (dv 4) den_int) (denw_and1 (dent_rankLe (Nat.lt_of_le_of_lt (Nat.le_add_right _ _) gd.u64) (den_callTy call_tuple_of snd_tuple (by rfl) (c.fr "tuple" (by decide +kernel)) bt_tuple (dena_cons (dv 5) dena_nil)) (den_idx (dv 3) (den_sub (dv 4) den_int) fun _ _ => rfl))))) (denb_one dens_never) denb_nil)
    (denb_one (dens_expr (ps_expr (den_append (pe_bm PySem.F.plainAttrs_list PySem.F.slot_list_append PySem.F.type_list_append mt_append (dv 3) (dena_cons (den_callTy call_tuple_of snd_tuple (by rfl) (c.fr "tuple" (by decide +kernel)) bt_tuple (dena_cons (dv 5) dena_nil)) dena_nil))))))))))
    (denb_one (dens_ret (den_callTy call_tuple_of snd_tuple (by rfl) (c.fr "tuple" (by decide +kernel)) bt_tuple (dena_cons (dv 3) dena_nil))))))
theorem p_is_sequence (c : Cc K mg) (hfo : w.params.followText "set-order" = fo) : Pm P w K mg base 1 "is_sequence" s_is_sequence P_is_sequence (m_is_sequence fo) := by
  have nd := sc_is_sequence.nd
  exact pm_mk c.d_is_sequence sc_is_sequence fun cdv A outer s H gd =>
    (denb_one (dens_ret (den_or (den_isi (by rfl) (c.fr "isinstance" (by decide +kernel)) (by rfl) (c.fr "tuple" (by decide +kernel)) bt_tuple (dv 0)) (den_one (den_isi (by rfl) (c.fr "isinstance" (by decide +kernel)) (by rfl) (c.fr "list" (by decide +kernel)) bt_list (dv 0))))))
theorem p_is_within (c : Cc K mg) (hfo : w.params.followText "set-order" = fo) : Pm P w K mg base 1 "is_within" s_is_within P_is_within (m_is_within fo) := by
  have nd := sc_is_within.nd
  exact pm_mk c.d_is_within sc_is_within fun cdv A outer s H gd =>
    (denb_one (dens_ret (den_and (den_isi (by rfl) (c.fr "isinstance" (by decide +kernel)) (by rfl) (c.fr "int" (by decide +kernel)) bt_int (dv 0)) (den_and (den_not (den_isi (by rfl) (c.fr "isinstance" (by decide +kernel)) (by rfl) (c.fr "bool" (by decide +kernel)) bt_bool (dv 0))) (den_one (den_chain op_le op_le s_le s_le (dv 1) (dv 0) (dv 2)))))))
theorem p_check_bond (c : Cc K mg) (hfo : w.params.followText "set-order" = fo) : Pm P w K mg base 4 "check_bond" s_check_bond P_check_bond (m_check_bond fo) := by
  have p_check_pairs := p_check_pairs (P := P) (base := base) c hfo
  have p_is_row := p_is_row (P := P) (base := base) c hfo
  have p_is_sequence := p_is_sequence (P := P) (base := base) c hfo
  have p_is_within := p_is_within (P := P) (base := base) c hfo
  have nd := sc_check_bond.nd
  exact pm_mk c.d_check_bond sc_check_bond fun cdv A outer s H gd =>
    (denb_cons (dens_if (dent_not (dent_val (den_p p_is_row gd (by decide) ba_is_row_2 rfl rfl (dena_cons (dv 0) (dena_cons den_int dena_nil)) (al_cons (al_cons al_nil))))) (denb_one dens_never) denb_nil)
    (denb_cons (dens_asg (ps_asg (dv 0) (deng_tup (pg_tup rfl (dengs_cons (pgs_cons (deng_name (pg_name (i := 2) nd rfl (by first | exact Or.inl rfl | exact Or.inr rfl))) (dengs_cons (pgs_cons (deng_name (pg_name (i := 3) nd rfl (by first | exact Or.inl rfl | exact Or.inr rfl))) (dengs_cons (pgs_cons (deng_name (pg_name (i := 1) nd rfl (by first | exact Or.inl rfl | exact Or.inr rfl))) dengs_nil))))))) (pg_unl rfl (dengs_cons (pgs_cons (deng_name (pg_name (i := 2) nd rfl (by first | exact Or.inl rfl | exact Or.inr rfl))) (dengs_cons (pgs_cons (deng_name (pg_name (i := 3) nd rfl (by first | exact Or.inl rfl | exact Or.inr rfl))) (dengs_cons (pgs_cons (deng_name (pg_name (i := 1) nd rfl (by first | exact Or.inl rfl | exact Or.inr rfl))) dengs_nil))))))))))
    (denb_cons (dens_if (dent_not (dent_val (den_p p_is_within gd (by decide) ba_is_within_3 rfl rfl (dena_cons (dv 2) (dena_cons den_int (dena_cons (den_gint (by rfl) c.gi_MOST_FILLINGS.choose_spec) dena_nil))) (al_cons (al_cons (al_cons al_nil)))))) (denb_one dens_never) denb_nil)
    (denb_cons (dens_if (dent_not (dent_val (den_p p_is_within gd (by decide) ba_is_within_3 rfl rfl (dena_cons (dv 3) (dena_cons den_int (dena_cons (den_gint (by rfl) c.gi_MOST_FILLINGS.choose_spec) dena_nil))) (al_cons (al_cons (al_cons al_nil)))))) (denb_one dens_never) denb_nil)
    (denb_cons (dens_if (dent_not (dent_val (den_p p_is_sequence gd (by decide) ba_is_sequence_1 rfl rfl (dena_cons (dv 1) dena_nil) (al_cons al_nil)))) (denb_one dens_never) denb_nil)
    (denb_cons (dens_set (ps_set (i := 1) nd rfl (by first | exact Or.inl rfl | exact Or.inr rfl) (den_p p_check_pairs gd (by decide) ba_check_pairs_3 rfl rfl (dena_cons (dv 2) (dena_cons (dv 3) (dena_cons (dv 1) dena_nil))) (al_cons (al_cons (al_cons al_nil))))))
    (denb_cons (dens_if (PW.pt (denw_or (dent_lt (den_callB cr_lenS (snd_lenS hfo) (by rfl) (c.fr "len" (by decide +kernel)) bt_len (dena_cons (den_si hfo (pe_si (own := [("pair", 4)]) rfl nd (deni_seq (dv 1)) (blkOk_by (own := [("pair", 4)]) (N := N_check_bond) (sc := (defScope s_check_bond)) (by decide +kernel)) (fun _ _ _ _ _ => (deng_name (pg_name (i := 4) nd rfl (by first | exact Or.inl rfl | exact Or.inr rfl)))) (fun _ _ _ _ _ => dents_nil) (fun _ _ _ _ _ => (den_idx (dv 4) den_int fun _ _ => rfl))) (by decide)) dena_nil)) (dv 2)) (denw_or1 (dent_lt (den_callB cr_lenS (snd_lenS hfo) (by rfl) (c.fr "len" (by decide +kernel)) bt_len (dena_cons (den_si hfo (pe_si (own := [("pair", 4)]) rfl nd (deni_seq (dv 1)) (blkOk_by (own := [("pair", 4)]) (N := N_check_bond) (sc := (defScope s_check_bond)) (by decide +kernel)) (fun _ _ _ _ _ => (deng_name (pg_name (i := 4) nd rfl (by first | exact Or.inl rfl | exact Or.inr rfl)))) (fun _ _ _ _ _ => dents_nil) (fun _ _ _ _ _ => (den_idx (dv 4) den_int fun _ _ => rfl))) (by decide)) dena_nil)) (dv 3))))) (denb_one dens_never) denb_nil)
    (denb_one (dens_ret (den_tup (dena_cons (dv 2) (dena_cons (dv 3) (dena_cons (dv 1) dena_nil)))))))))))))
theorem p_is_side (c : Cc K mg) (hfo : w.params.followText "set-order" = fo) : Pm P w K mg base 2 "is_side" s_is_side P_is_side (m_is_side fo) := by
  have p_is_below := p_is_below (P := P) (base := base) c hfo
  have nd := sc_is_side.nd
  exact pm_mk c.d_is_side sc_is_side fun cdv A outer s H gd =>
    (denb_one (dens_ret (den_p p_is_below gd (by decide) ba_is_below_2 rfl rfl (dena_cons (dv 0) (dena_cons den_int dena_nil)) (al_cons (al_cons al_nil)))))
theorem p_check_side (c : Cc K mg) (hfo : w.params.followText "set-order" = fo) : Pm P w K mg base 3 "check_side" s_check_side P_check_side (m_check_side fo) := by
  have p_is_side := p_is_side (P := P) (base := base) c hfo
  have nd := sc_check_side.nd
  exact pm_mk c.d_check_side sc_check_side fun cdv A outer s H gd =>
    (denb_cons (dens_if (dent_not (dent_val (den_p p_is_side gd (by decide) ba_is_side_1 rfl rfl (dena_cons (dv 0) dena_nil) (al_cons al_nil)))) (denb_one dens_never) denb_nil)
    (denb_one (dens_ret (dv 0))))
theorem p_partners_of (c : Cc K mg) (hfo : w.params.followText "set-order" = fo) : Pm P w K mg base 1 "partners_of" s_partners_of P_partners_of (m_partners_of fo) := by
  have nd := sc_partners_of.nd
  exact pm_mk c.d_partners_of sc_partners_of fun cdv A outer s H gd =>
    (denb_one (dens_ret (den_callTy call_tuple_of snd_tuple (by rfl) (c.fr "tuple" (by decide +kernel)) bt_tuple (dena_cons (den_callB (cr_sortedSet rfl) (snd_sortS hfo) (by rfl) (c.fr "sorted" (by decide +kernel)) bt_sorted (dena_cons (den_si hfo (pe_si (own := [("pair", 3)]) rfl nd (deni_seq (den_idx (dv 0) den_int fun _ _ => rfl)) (blkOk_by (own := [("pair", 3)]) (N := N_partners_of) (sc := (defScope s_partners_of)) (by decide +kernel)) (fun _ _ _ _ _ => (deng_name (pg_name (i := 3) nd rfl (by first | exact Or.inl rfl | exact Or.inr rfl)))) (fun _ _ _ _ _ => (dents_one (dent_in gd.blk.u65 (den_idx (dv 3) (dv 1) fun _ _ => rfl) (dv 2) (by rfl)))) (fun _ _ _ _ _ => (den_idx (dv 3) (den_sub den_int (dv 1)) fun _ _ => rfl))) (by decide)) dena_nil)) dena_nil))))
theorem p_degrees_of (c : Cc K mg) (hfo : w.params.followText "set-order" = fo) : Pm P w K mg base 2 "degrees_of" s_degrees_of P_degrees_of (m_degrees_of fo) := by
  have p_partners_of := p_partners_of (P := P) (base := base) c hfo
  have nd := sc_degrees_of.nd
  exact pm_mk c.d_degrees_of sc_degrees_of fun cdv A outer s H gd =>
    (denb_one (dens_ret (den_callTy call_tuple_of snd_tuple (by rfl) (c.fr "tuple" (by decide +kernel)) bt_tuple (dena_cons (den_lc (pe_lc (own := [("filling", 2)]) rfl nd (deni_range1 (pi_range1 (by rfl) (c.fr "range" (by decide +kernel)) (dena_cons (den_idx (dv 0) (dv 1) fun _ _ => rfl) dena_nil)) (al_cons al_nil)) (blkOk_by (own := [("filling", 2)]) (N := N_degrees_of) (sc := (defScope s_degrees_of)) (by decide +kernel)) (fun _ _ _ _ _ => (deng_name (pg_name (i := 2) nd rfl (by first | exact Or.inl rfl | exact Or.inr rfl)))) (fun _ _ _ _ _ => dents_nil) (fun _ _ _ _ _ => (den_callB call_len snd_len (by rfl) (c.fr "len" (by decide +kernel)) bt_len (dena_cons (den_p p_partners_of gd.blk (by decide) ba_partners_of_3 rfl rfl (dena_cons (dv 0) (dena_cons (dv 1) (dena_cons (den_tup (dena_cons (dv 2) dena_nil)) dena_nil))) (al_cons (al_cons (al_cons al_nil)))) dena_nil)))) (by decide)) dena_nil))))
theorem p_degrees (c : Cc K mg) (hfo : w.params.followText "set-order" = fo) : Pm P w K mg base 5 "degrees" s_degrees P_degrees (m_degrees fo) := by
  have p_check_bond := p_check_bond (P := P) (base := base) c hfo
  have p_check_side := p_check_side (P := P) (base := base) c hfo
  have p_degrees_of := p_degrees_of (P := P) (base := base) c hfo
  have nd := sc_degrees.nd
  exact pm_mk c.d_degrees sc_degrees fun cdv A outer s H gd =>
    (denb_cons (dens_set (ps_set (i := 0) nd rfl (by first | exact Or.inl rfl | exact Or.inr rfl) (den_p p_check_bond gd (by decide) ba_check_bond_1 rfl rfl (dena_cons (dv 0) dena_nil) (al_cons al_nil))))
    (denb_one (dens_ret (den_p p_degrees_of gd (by decide) ba_degrees_of_2 rfl rfl (dena_cons (dv 0) (dena_cons (den_p p_check_side gd (by decide) ba_check_side_1 rfl rfl (dena_cons (dv 1) dena_nil) (al_cons al_nil)) dena_nil)) (al_cons (al_cons al_nil))))))
theorem p_are_below (c : Cc K mg) (hfo : w.params.followText "set-order" = fo) : Pm P w K mg base 1 "are_below" s_are_below P_are_below (m_are_below fo) := by
  have nd := sc_are_below.nd
  exact pm_mk c.d_are_below sc_are_below fun cdv A outer s H gd =>
    (denb_cons (dens_if (dent_not (dent_val (den_callB (cr_all rfl) snd_all (by rfl) (c.fr "all" (by decide +kernel)) bt_all (dena_cons (den_lc (pe_lc (own := [("value", 2)]) rfl nd (deni_seq (dv 0)) (blkOk_by (own := [("value", 2)]) (N := N_are_below) (sc := (defScope s_are_below)) (by decide +kernel)) (fun _ _ _ _ _ => (deng_name (pg_name (i := 2) nd rfl (by first | exact Or.inl rfl | exact Or.inr rfl)))) (fun _ _ _ _ _ => dents_nil) (fun _ _ _ _ _ => (den_and (den_isi (by rfl) (c.fr "isinstance" (by decide +kernel)) (by rfl) (c.fr "int" (by decide +kernel)) bt_int (dv 2)) (den_and (den_notB (dv 2) den_bl (by rfl)) (den_one (den_notB (dv 2) den_bl (by rfl))))))) (by decide)) dena_nil)))) (denb_one (dens_ret den_bl)) denb_nil)
    (denb_one (dens_ret (den_and (den_ge (den_callB (cr_minA gd.u1 rfl) snd_minA (by rfl) (c.fr "min" (by decide +kernel)) bt_min (dena_cons (dv 0) dena_nil)) den_int) (den_one (den_lt (den_callB (cr_maxA gd.u1 rfl) snd_maxA (by rfl) (c.fr "max" (by decide +kernel)) bt_max (dena_cons (dv 0) dena_nil)) (dv 1)))))))
theorem p_is_lot (c : Cc K mg) (hfo : w.params.followText "set-order" = fo) : Pm P w K mg base 2 "is_lot" s_is_lot P_is_lot (m_is_lot fo) := by
  have p_are_below := p_are_below (P := P) (base := base) c hfo
  have p_is_sequence := p_is_sequence (P := P) (base := base) c hfo
  have nd := sc_is_lot.nd
  exact pm_mk c.d_is_lot sc_is_lot fun cdv A outer s H gd =>
    (denb_cons (dens_if (PW.pt (denw_or (dent_not (dent_val (den_p p_is_sequence gd (by decide) ba_is_sequence_1 rfl rfl (dena_cons (dv 0) dena_nil) (al_cons al_nil)))) (denw_or (dent_eq gd.u64 (den_callB call_len snd_len (by rfl) (c.fr "len" (by decide +kernel)) bt_len (dena_cons (dv 0) dena_nil)) den_int) (denw_or1 (dent_not (dent_val (den_p p_are_below gd (by decide) ba_are_below_2 rfl rfl (dena_cons (dv 0) (dena_cons (dv 1) dena_nil)) (al_cons (al_cons al_nil))))))))) (denb_one (dens_ret den_bl)) denb_nil)
    (denb_one (dens_ret (den_callB (cr_all rfl) snd_all (by rfl) (c.fr "all" (by decide +kernel)) bt_all (dena_cons (den_lc (pe_lc (own := [("at", 2)]) rfl nd (deni_range2 (pi_range2 (by rfl) (c.fr "range" (by decide +kernel)) (dena_cons den_int (dena_cons (den_callB call_len snd_len (by rfl) (c.fr "len" (by decide +kernel)) bt_len (dena_cons (dv 0) dena_nil)) dena_nil))) (al_cons (al_cons al_nil))) (blkOk_by (own := [("at", 2)]) (N := N_is_lot) (sc := (defScope s_is_lot)) (by decide +kernel)) (fun _ _ _ _ _ => (deng_name (pg_name (i := 2) nd rfl (by first | exact Or.inl rfl | exact Or.inr rfl)))) (fun _ _ _ _ _ => dents_nil) (fun _ _ _ _ _ => (den_lt (den_idx (dv 0) (den_sub (dv 2) den_int) fun _ _ => rfl) (den_idx (dv 0) (dv 2) fun _ _ => rfl)))) (by decide)) dena_nil)))))
theorem p_size_of (c : Cc K mg) (hfo : w.params.followText "set-order" = fo) : Pm P w K mg base 5 "size_of" s_size_of P_size_of (m_size_of fo) := by
  have p_check_bond := p_check_bond (P := P) (base := base) c hfo
  have p_check_side := p_check_side (P := P) (base := base) c hfo
  have nd := sc_size_of.nd
  exact pm_mk c.d_size_of sc_size_of fun cdv A outer s H gd =>
    (denb_cons (dens_set (ps_set (i := 0) nd rfl (by first | exact Or.inl rfl | exact Or.inr rfl) (den_p p_check_bond gd (by decide) ba_check_bond_1 rfl rfl (dena_cons (dv 0) dena_nil) (al_cons al_nil))))
    (denb_one (dens_ret (den_idx (dv 0) (den_p p_check_side gd (by decide) ba_check_side_1 rfl rfl (dena_cons (dv 1) dena_nil) (al_cons al_nil)) fun _ _ => rfl))))
theorem p_check_lot (c : Cc K mg) (hfo : w.params.followText "set-order" = fo) : Pm P w K mg base 6 "check_lot" s_check_lot P_check_lot (m_check_lot fo) := by
  have p_is_lot := p_is_lot (P := P) (base := base) c hfo
  have p_size_of := p_size_of (P := P) (base := base) c hfo
  have nd := sc_check_lot.nd
  exact pm_mk c.d_check_lot sc_check_lot fun cdv A outer s H gd =>
    (denb_cons (dens_if (dent_not (dent_val (den_p p_is_lot gd (by decide) ba_is_lot_2 rfl rfl (dena_cons (dv 2) (dena_cons (den_p p_size_of gd (by decide) ba_size_of_2 rfl rfl (dena_cons (dv 0) (dena_cons (dv 1) dena_nil)) (al_cons (al_cons al_nil))) dena_nil)) (al_cons (al_cons al_nil))))) (denb_one dens_never) denb_nil)
    (denb_one (dens_ret (den_callTy call_tuple_of snd_tuple (by rfl) (c.fr "tuple" (by decide +kernel)) bt_tuple (dena_cons (dv 2) dena_nil)))))
theorem p_only_of (c : Cc K mg) (hfo : w.params.followText "set-order" = fo) : Pm P w K mg base 1 "only_of" s_only_of P_only_of (m_only_of fo) := by
  have nd := sc_only_of.nd
  exact pm_mk c.d_only_of sc_only_of fun cdv A outer s H gd =>
    (denb_cons (dens_set (ps_set (i := 3) nd rfl (by first | exact Or.inl rfl | exact Or.inr rfl) (den_dc (pe_dc (own := [("pair", 4)]) rfl nd (deni_seq (den_idx (dv 0) den_int fun _ _ => rfl)) (blkOk_by (own := [("pair", 4)]) (N := N_only_of) (sc := (defScope s_only_of)) (by decide +kernel)) (fun _ _ _ _ _ => (deng_name (pg_name (i := 4) nd rfl (by first | exact Or.inl rfl | exact Or.inr rfl)))) (fun _ _ _ _ _ => (dents_one (dent_notIn gd.blk.u65 (den_idx (dv 4) (dv 1) fun _ _ => rfl) (dv 2) (by rfl)))) (fun _ _ _ _ _ => (den_idx (dv 4) (den_sub den_int (dv 1)) fun _ _ => rfl)) (fun _ _ _ _ _ => den_bl)) (by decide))))
    (denb_one (dens_ret (den_callTy call_tuple_of snd_tuple (by rfl) (c.fr "tuple" (by decide +kernel)) bt_tuple (dena_cons (den_lc (pe_lc (own := [("filling", 5)]) rfl nd (deni_range1 (pi_range1 (by rfl) (c.fr "range" (by decide +kernel)) (dena_cons (den_idx (dv 0) (den_sub den_int (dv 1)) fun _ _ => rfl) dena_nil)) (al_cons al_nil)) (blkOk_by (own := [("filling", 5)]) (N := N_only_of) (sc := (defScope s_only_of)) (by decide +kernel)) (fun _ _ _ _ _ => (deng_name (pg_name (i := 5) nd rfl (by first | exact Or.inl rfl | exact Or.inr rfl)))) (fun _ _ _ _ _ => (dents_one (dent_notInD gd.blk.u1 (dv 5) (dv 3) (by rfl)))) (fun _ _ _ _ _ => (dv 5))) (by decide)) dena_nil)))))
theorem p_only (c : Cc K mg) (hfo : w.params.followText "set-order" = fo) : Pm P w K mg base 7 "only" s_only P_only (m_only fo) := by
  have p_check_bond := p_check_bond (P := P) (base := base) c hfo
  have p_check_lot := p_check_lot (P := P) (base := base) c hfo
  have p_only_of := p_only_of (P := P) (base := base) c hfo
  have nd := sc_only.nd
  exact pm_mk c.d_only sc_only fun cdv A outer s H gd =>
    (denb_cons (dens_set (ps_set (i := 0) nd rfl (by first | exact Or.inl rfl | exact Or.inr rfl) (den_p p_check_bond gd (by decide) ba_check_bond_1 rfl rfl (dena_cons (dv 0) dena_nil) (al_cons al_nil))))
    (denb_one (dens_ret (den_p p_only_of gd (by decide) ba_only_of_3 rfl rfl (dena_cons (dv 0) (dena_cons (dv 1) (dena_cons (den_p p_check_lot gd (by decide) ba_check_lot_3 rfl rfl (dena_cons (dv 0) (dena_cons (dv 1) (dena_cons (dv 2) dena_nil))) (al_cons (al_cons (al_cons al_nil)))) dena_nil))) (al_cons (al_cons (al_cons al_nil)))))))
theorem p_partners (c : Cc K mg) (hfo : w.params.followText "set-order" = fo) : Pm P w K mg base 7 "partners" s_partners P_partners (m_partners fo) := by
  have p_check_bond := p_check_bond (P := P) (base := base) c hfo
  have p_check_lot := p_check_lot (P := P) (base := base) c hfo
  have p_partners_of := p_partners_of (P := P) (base := base) c hfo
  have nd := sc_partners.nd
  exact pm_mk c.d_partners sc_partners fun cdv A outer s H gd =>
    (denb_cons (dens_set (ps_set (i := 0) nd rfl (by first | exact Or.inl rfl | exact Or.inr rfl) (den_p p_check_bond gd (by decide) ba_check_bond_1 rfl rfl (dena_cons (dv 0) dena_nil) (al_cons al_nil))))
    (denb_one (dens_ret (den_p p_partners_of gd (by decide) ba_partners_of_3 rfl rfl (dena_cons (dv 0) (dena_cons (dv 1) (dena_cons (den_p p_check_lot gd (by decide) ba_check_lot_3 rfl rfl (dena_cons (dv 0) (dena_cons (dv 1) (dena_cons (dv 2) dena_nil))) (al_cons (al_cons (al_cons al_nil)))) dena_nil))) (al_cons (al_cons (al_cons al_nil)))))))
theorem p_lowest_terms (c : Cc K mg) (hfo : w.params.followText "set-order" = fo) : Pm P w K mg base 1 "lowest_terms" s_lowest_terms P_lowest_terms (m_lowest_terms fo) := by
  have nd := sc_lowest_terms.nd
  exact pm_mk c.d_lowest_terms sc_lowest_terms fun cdv A outer s H gd =>
    (denb_cons (dens_set (ps_set (i := 2) nd rfl (by first | exact Or.inl rfl | exact Or.inr rfl) (den_callM cr_gcd snd_gcd (by rfl) c.gcd (dena_cons (dv 0) (dena_cons (dv 1) dena_nil)))))
    (denb_one (dens_ret (den_tup (dena_cons (den_div (dv 0) (dv 2)) (dena_cons (den_div (dv 1) (dv 2)) dena_nil))))))
theorem p_quotient_of (c : Cc K mg) (hfo : w.params.followText "set-order" = fo) : Pm P w K mg base 2 "quotient_of" s_quotient_of P_quotient_of (m_quotient_of fo) := by
  have p_lowest_terms := p_lowest_terms (P := P) (base := base) c hfo
  have p_partners_of := p_partners_of (P := P) (base := base) c hfo
  have nd := sc_quotient_of.nd
  exact pm_mk c.d_quotient_of sc_quotient_of fun cdv A outer s H gd =>
    (denb_one (dens_ret (den_p p_lowest_terms gd (by decide) ba_lowest_terms_2 rfl rfl (dena_cons (den_callB call_len snd_len (by rfl) (c.fr "len" (by decide +kernel)) bt_len (dena_cons (dv 2) dena_nil)) (dena_cons (den_callB call_len snd_len (by rfl) (c.fr "len" (by decide +kernel)) bt_len (dena_cons (den_p p_partners_of gd (by decide) ba_partners_of_3 rfl rfl (dena_cons (dv 0) (dena_cons (dv 1) (dena_cons (dv 2) dena_nil))) (al_cons (al_cons (al_cons al_nil)))) dena_nil)) dena_nil)) (al_cons (al_cons al_nil)))))
theorem p_quotient (c : Cc K mg) (hfo : w.params.followText "set-order" = fo) : Pm P w K mg base 7 "quotient" s_quotient P_quotient (m_quotient fo) := by
  have p_check_bond := p_check_bond (P := P) (base := base) c hfo
  have p_check_lot := p_check_lot (P := P) (base := base) c hfo
  have p_quotient_of := p_quotient_of (P := P) (base := base) c hfo
  have nd := sc_quotient.nd
  exact pm_mk c.d_quotient sc_quotient fun cdv A outer s H gd =>
    (denb_cons (dens_set (ps_set (i := 0) nd rfl (by first | exact Or.inl rfl | exact Or.inr rfl) (den_p p_check_bond gd (by decide) ba_check_bond_1 rfl rfl (dena_cons (dv 0) dena_nil) (al_cons al_nil))))
    (denb_one (dens_ret (den_p p_quotient_of gd (by decide) ba_quotient_of_3 rfl rfl (dena_cons (dv 0) (dena_cons (dv 1) (dena_cons (den_p p_check_lot gd (by decide) ba_check_lot_3 rfl rfl (dena_cons (dv 0) (dena_cons (dv 1) (dena_cons (dv 2) dena_nil))) (al_cons (al_cons (al_cons al_nil)))) dena_nil))) (al_cons (al_cons (al_cons al_nil)))))))
theorem p__law_lots_right (c : Cc K mg) (hfo : w.params.followText "set-order" = fo) : Pm P w K mg base 8 "_law_lots_right" s__law_lots_right P__law_lots_right (m__law_lots_right fo) := by
  have p__law_fraction := p__law_fraction (P := P) (base := base) c hfo
  have p__law_lots := p__law_lots (P := P) (base := base) c hfo
  have p__law_pick := p__law_pick (P := P) (base := base) c hfo
  have p__law_table := p__law_table (P := P) (base := base) c hfo
  have p_degrees := p_degrees (P := P) (base := base) c hfo
  have p_only := p_only (P := P) (base := base) c hfo
  have p_partners := p_partners (P := P) (base := base) c hfo
  have p_quotient := p_quotient (P := P) (base := base) c hfo
  have nd := sc__law_lots_right.nd
  exact pm_mk c.d__law_lots_right sc__law_lots_right fun cdv A outer s H gd =>
    (denb_cons (dens_set (ps_set (i := 4) nd rfl (by first | exact Or.inl rfl | exact Or.inr rfl) (den_p p__law_table gd (by decide) ba__law_table_2 rfl rfl (dena_cons (dv 1) (dena_cons (dv 3) dena_nil)) (al_cons (al_cons al_nil)))))
    (denb_cons (dens_set (ps_set (i := 5) nd rfl (by first | exact Or.inl rfl | exact Or.inr rfl) (den_p p__law_lots gd (by decide) ba__law_lots_2 rfl rfl (dena_cons (dv 0) (dena_cons (den_idx (dv 1) (den_sub den_int (dv 3)) fun _ _ => rfl) dena_nil)) (al_cons (al_cons al_nil)))))
    (denb_cons (dens_for (ps_for PassesOwn.never rfl (deni_seq (den_p p__law_lots gd (by decide) ba__law_lots_2 rfl rfl (dena_cons (dv 0) (dena_cons (den_idx (dv 1) (dv 3) fun _ _ => rfl) dena_nil)) (al_cons (al_cons al_nil)))) (deng_name (pg_name (i := 6) nd rfl (by first | exact Or.inl rfl | exact Or.inr rfl))) (denb_cons (dens_set (ps_set (i := 8) nd rfl (by first | exact Or.inl rfl | exact Or.inr rfl) (den_p p__law_pick gd (by decide) ba__law_pick_2 rfl rfl (dena_cons (dv 0) (dena_cons (den_lst (dena_cons (dv 6) (dena_cons (den_callTy call_list_of snd_list (by rfl) (c.fr "list" (by decide +kernel)) bt_list (dena_cons (dv 6) dena_nil)) dena_nil))) dena_nil)) (al_cons (al_cons al_nil)))))
    (denb_cons (dens_set (ps_set (i := 9) nd rfl (by first | exact Or.inl rfl | exact Or.inr rfl) (den_callTy call_tuple_of snd_tuple (by rfl) (c.fr "tuple" (by decide +kernel)) bt_tuple (dena_cons (den_lc (pe_lc (own := [("one", 15)]) rfl nd (deni_range1 (pi_range1 (by rfl) (c.fr "range" (by decide +kernel)) (dena_cons (den_idx (dv 1) (den_sub den_int (dv 3)) fun _ _ => rfl) dena_nil)) (al_cons al_nil)) (blkOk_by (own := [("one", 15)]) (N := N__law_lots_right) (sc := (defScope s__law_lots_right)) (by decide +kernel)) (fun _ _ _ _ _ => (deng_name (pg_name (i := 15) nd rfl (by first | exact Or.inl rfl | exact Or.inr rfl)))) (fun _ _ _ _ _ => (dents_one (dent_gt (den_callB (cr_sum rfl) snd_sum (by rfl) (c.fr "sum" (by decide +kernel)) bt_sum (dena_cons (den_lc (pe_lc (own := [("s", 16)]) rfl nd (deni_seq (dv 6)) (blkOk_by (own := [("s", 16)]) (N := N__law_lots_right) (sc := (relS _ (defScope s__law_lots_right))) (by decide +kernel)) (fun _ _ _ _ _ => (deng_name (pg_name (i := 16) nd rfl (by first | exact Or.inl rfl | exact Or.inr rfl)))) (fun _ _ _ _ _ => dents_nil) (fun _ _ _ _ _ => (den_idx (den_idx (dv 4) (dv 16) fun _ _ => rfl) (dv 15) fun _ _ => rfl))) (by decide)) dena_nil)) den_int))) (fun _ _ _ _ _ => (dv 15))) (by decide)) dena_nil))))
    (denb_cons (dens_set (ps_set (i := 10) nd rfl (by first | exact Or.inl rfl | exact Or.inr rfl) (den_callTy call_tuple_of snd_tuple (by rfl) (c.fr "tuple" (by decide +kernel)) bt_tuple (dena_cons (den_lc (pe_lc (own := [("one", 15)]) rfl nd (deni_range1 (pi_range1 (by rfl) (c.fr "range" (by decide +kernel)) (dena_cons (den_idx (dv 1) (den_sub den_int (dv 3)) fun _ _ => rfl) dena_nil)) (al_cons al_nil)) (blkOk_by (own := [("one", 15)]) (N := N__law_lots_right) (sc := (defScope s__law_lots_right)) (by decide +kernel)) (fun _ _ _ _ _ => (deng_name (pg_name (i := 15) nd rfl (by first | exact Or.inl rfl | exact Or.inr rfl)))) (fun _ _ _ _ _ => (dents_one (dent_eq gd.blk.u64 (den_callB (cr_sum rfl) snd_sum (by rfl) (c.fr "sum" (by decide +kernel)) bt_sum (dena_cons (den_lc (pe_lc (own := [("row", 14)]) rfl nd (deni_seq (dv 4)) (blkOk_by (own := [("row", 14)]) (N := N__law_lots_right) (sc := (relS _ (defScope s__law_lots_right))) (by decide +kernel)) (fun _ _ _ _ _ => (deng_name (pg_name (i := 14) nd rfl (by first | exact Or.inl rfl | exact Or.inr rfl)))) (fun _ _ _ _ _ => dents_nil) (fun _ _ _ _ _ => (den_idx (dv 14) (dv 15) fun _ _ => rfl))) (by decide)) dena_nil)) (den_callB (cr_sum rfl) snd_sum (by rfl) (c.fr "sum" (by decide +kernel)) bt_sum (dena_cons (den_lc (pe_lc (own := [("s", 16)]) rfl nd (deni_seq (dv 6)) (blkOk_by (own := [("s", 16)]) (N := N__law_lots_right) (sc := (relS _ (defScope s__law_lots_right))) (by decide +kernel)) (fun _ _ _ _ _ => (deng_name (pg_name (i := 16) nd rfl (by first | exact Or.inl rfl | exact Or.inr rfl)))) (fun _ _ _ _ _ => dents_nil) (fun _ _ _ _ _ => (den_idx (den_idx (dv 4) (dv 16) fun _ _ => rfl) (dv 15) fun _ _ => rfl))) (by decide)) dena_nil))))) (fun _ _ _ _ _ => (dv 15))) (by decide)) dena_nil))))
    (denb_cons (dens_if (PW.pt (denw_or (dent_neT (den_callB (cr_repr gd) snd_repr (by rfl) (c.fr "repr" (by decide +kernel)) bt_repr (dena_cons (den_p p_partners gd (by decide) ba_partners_3 rfl rfl (dena_cons (dv 2) (dena_cons (dv 3) (dena_cons (dv 8) dena_nil))) (al_cons (al_cons (al_cons al_nil)))) dena_nil)) (den_callB (cr_repr gd) snd_repr (by rfl) (c.fr "repr" (by decide +kernel)) bt_repr (dena_cons (dv 9) dena_nil))) (denw_or1 (dent_neT (den_callB (cr_repr gd) snd_repr (by rfl) (c.fr "repr" (by decide +kernel)) bt_repr (dena_cons (den_p p_only gd (by decide) ba_only_3 rfl rfl (dena_cons (dv 2) (dena_cons (dv 3) (dena_cons (dv 8) dena_nil))) (al_cons (al_cons (al_cons al_nil)))) dena_nil)) (den_callB (cr_repr gd) snd_repr (by rfl) (c.fr "repr" (by decide +kernel)) bt_repr (dena_cons (dv 10) dena_nil)))))) (denb_one (dens_ret den_bl)) denb_nil)
    (denb_cons (dens_if (dent_neT (den_callB (cr_repr gd) snd_repr (by rfl) (c.fr "repr" (by decide +kernel)) bt_repr (dena_cons (den_p p_quotient gd (by decide) ba_quotient_3 rfl rfl (dena_cons (dv 2) (dena_cons (dv 3) (dena_cons (dv 8) dena_nil))) (al_cons (al_cons (al_cons al_nil)))) dena_nil)) (den_callB (cr_repr gd) snd_repr (by rfl) (c.fr "repr" (by decide +kernel)) bt_repr (dena_cons (den_p p__law_fraction gd (by decide) ba__law_fraction_2 rfl rfl (dena_cons (den_callB call_len snd_len (by rfl) (c.fr "len" (by decide +kernel)) bt_len (dena_cons (dv 6) dena_nil)) (dena_cons (den_callB call_len snd_len (by rfl) (c.fr "len" (by decide +kernel)) bt_len (dena_cons (dv 9) dena_nil)) dena_nil)) (al_cons (al_cons al_nil))) dena_nil))) (denb_one (dens_ret den_bl)) denb_nil)
    (denb_cons (dens_if (dent_ne gd.u64 (den_callTy call_list_of snd_list (by rfl) (c.fr "list" (by decide +kernel)) bt_list (dena_cons (dv 8) dena_nil)) (den_callTy call_list_of snd_list (by rfl) (c.fr "list" (by decide +kernel)) bt_list (dena_cons (dv 6) dena_nil))) (denb_one (dens_ret den_bl)) denb_nil)
    (denb_cons (dens_set (ps_set (i := 11) nd rfl (by first | exact Or.inl rfl | exact Or.inr rfl) (den_p p__law_pick gd (by decide) ba__law_pick_2 rfl rfl (dena_cons (dv 0) (dena_cons (dv 5) dena_nil)) (al_cons (al_cons al_nil)))))
    (denb_cons (dens_set (ps_set (i := 12) nd rfl (by first | exact Or.inl rfl | exact Or.inr rfl) (den_pK0 p_partners gd (by decide) ba_partners_0_lot_side_bond (pk_partners_0_lot_side_bond) (denk_cons (dv 11) (denk_cons (den_sub den_int (dv 3)) (denk_cons (dv 1) denk_nil))) (al_cons (al_cons (al_cons al_nil))))))
    (denb_cons (dens_set (ps_set (i := 13) nd rfl (by first | exact Or.inl rfl | exact Or.inr rfl) (den_pK0 p_only gd (by decide) ba_only_0_lot_side_bond (pk_only_0_lot_side_bond) (denk_cons (dv 6) (denk_cons (dv 3) (denk_cons (dv 1) denk_nil))) (al_cons (al_cons (al_cons al_nil))))))
    (denb_cons (dens_if (PW.pt (denw_and (dent_eq gd.u64 (den_callB call_len snd_len (by rfl) (c.fr "len" (by decide +kernel)) bt_len (dena_cons (den_lc (pe_lc (own := [("one", 15)]) rfl nd (deni_seq (dv 11)) (blkOk_by (own := [("one", 15)]) (N := N__law_lots_right) (sc := (defScope s__law_lots_right)) (by decide +kernel)) (fun _ _ _ _ _ => (deng_name (pg_name (i := 15) nd rfl (by first | exact Or.inl rfl | exact Or.inr rfl)))) (fun _ _ _ _ _ => (dents_one (dent_notIn gd.blk.u65 (dv 15) (dv 13) (by rfl)))) (fun _ _ _ _ _ => (dv 15))) (by decide)) dena_nil)) den_int) (denw_and1 (dent_gt (den_callB call_len snd_len (by rfl) (c.fr "len" (by decide +kernel)) bt_len (dena_cons (den_lc (pe_lc (own := [("one", 15)]) rfl nd (deni_seq (dv 12)) (blkOk_by (own := [("one", 15)]) (N := N__law_lots_right) (sc := (defScope s__law_lots_right)) (by decide +kernel)) (fun _ _ _ _ _ => (deng_name (pg_name (i := 15) nd rfl (by first | exact Or.inl rfl | exact Or.inr rfl)))) (fun _ _ _ _ _ => (dents_one (dent_notIn gd.blk.u65 (dv 15) (dv 6) (by rfl)))) (fun _ _ _ _ _ => (dv 15))) (by decide)) dena_nil)) den_int)))) (denb_one (dens_ret den_bl)) denb_nil)
    (denb_one (dens_if (PW.pt (denw_and (dent_gt (den_callB call_len snd_len (by rfl) (c.fr "len" (by decide +kernel)) bt_len (dena_cons (den_lc (pe_lc (own := [("one", 15)]) rfl nd (deni_seq (dv 11)) (blkOk_by (own := [("one", 15)]) (N := N__law_lots_right) (sc := (defScope s__law_lots_right)) (by decide +kernel)) (fun _ _ _ _ _ => (deng_name (pg_name (i := 15) nd rfl (by first | exact Or.inl rfl | exact Or.inr rfl)))) (fun _ _ _ _ _ => (dents_one (dent_notIn gd.blk.u65 (dv 15) (dv 13) (by rfl)))) (fun _ _ _ _ _ => (dv 15))) (by decide)) dena_nil)) den_int) (denw_and1 (dent_eq gd.u64 (den_callB call_len snd_len (by rfl) (c.fr "len" (by decide +kernel)) bt_len (dena_cons (den_lc (pe_lc (own := [("one", 15)]) rfl nd (deni_seq (dv 12)) (blkOk_by (own := [("one", 15)]) (N := N__law_lots_right) (sc := (defScope s__law_lots_right)) (by decide +kernel)) (fun _ _ _ _ _ => (deng_name (pg_name (i := 15) nd rfl (by first | exact Or.inl rfl | exact Or.inr rfl)))) (fun _ _ _ _ _ => (dents_one (dent_notIn gd.blk.u65 (dv 15) (dv 6) (by rfl)))) (fun _ _ _ _ _ => (dv 15))) (by decide)) dena_nil)) den_int)))) (denb_one (dens_ret den_bl)) denb_nil))))))))))))))
    (denb_cons (dens_set (ps_set (i := 7) nd rfl (by first | exact Or.inl rfl | exact Or.inr rfl) (den_callTy call_tuple_of snd_tuple (by rfl) (c.fr "tuple" (by decide +kernel)) bt_tuple (dena_cons (den_lc (pe_lc (own := [("row", 14)]) rfl nd (deni_seq (dv 4)) (blkOk_by (own := [("row", 14)]) (N := N__law_lots_right) (sc := (defScope s__law_lots_right)) (by decide +kernel)) (fun _ _ _ _ _ => (deng_name (pg_name (i := 14) nd rfl (by first | exact Or.inl rfl | exact Or.inr rfl)))) (fun _ _ _ _ _ => dents_nil) (fun _ _ _ _ _ => (den_callB (cr_sum rfl) snd_sum (by rfl) (c.fr "sum" (by decide +kernel)) bt_sum (dena_cons (dv 14) dena_nil)))) (by decide)) dena_nil))))
    (denb_one (dens_ret (den_and (den_eqT (den_callB (cr_repr gd) snd_repr (by rfl) (c.fr "repr" (by decide +kernel)) bt_repr (dena_cons (den_p p_degrees gd (by decide) ba_degrees_2 rfl rfl (dena_cons (dv 2) (dena_cons (dv 3) dena_nil)) (al_cons (al_cons al_nil))) dena_nil)) (den_callB (cr_repr gd) snd_repr (by rfl) (c.fr "repr" (by decide +kernel)) bt_repr (dena_cons (dv 7) dena_nil))) (den_one (den_eqT (den_callB (cr_repr gd) snd_repr (by rfl) (c.fr "repr" (by decide +kernel)) bt_repr (dena_cons (den_pK0 p_degrees gd (by decide) ba_degrees_0_side_bond (pk_degrees_0_side_bond) (denk_cons (dv 3) (denk_cons (dv 1) denk_nil)) (al_cons (al_cons al_nil))) dena_nil)) (den_callB (cr_repr gd) snd_repr (by rfl) (c.fr "repr" (by decide +kernel)) bt_repr (dena_cons (dv 7) dena_nil)))))))))))
theorem p__law_pieces (c : Cc K mg) (hfo : w.params.followText "set-order" = fo) : Pm P w K mg base 1 "_law_pieces" s__law_pieces P__law_pieces (m__law_pieces fo) := by
  have nd := sc__law_pieces.nd
  exact pm_mk c.d__law_pieces sc__law_pieces fun cdv A outer s H gd =>
    (denb_cons (dens_asg (ps_asg (dv 0) (deng_tup (pg_tup rfl (dengs_cons (pgs_cons (deng_name (pg_name (i := 4) nd rfl (by first | exact Or.inl rfl | exact Or.inr rfl))) (dengs_cons (pgs_cons (deng_name (pg_name (i := 5) nd rfl (by first | exact Or.inl rfl | exact Or.inr rfl))) (dengs_cons (pgs_cons (deng_name (pg_name (i := 6) nd rfl (by first | exact Or.inl rfl | exact Or.inr rfl))) dengs_nil))))))) (pg_unl rfl (dengs_cons (pgs_cons (deng_name (pg_name (i := 4) nd rfl (by first | exact Or.inl rfl | exact Or.inr rfl))) (dengs_cons (pgs_cons (deng_name (pg_name (i := 5) nd rfl (by first | exact Or.inl rfl | exact Or.inr rfl))) (dengs_cons (pgs_cons (deng_name (pg_name (i := 6) nd rfl (by first | exact Or.inl rfl | exact Or.inr rfl))) dengs_nil))))))))))
    (denb_cons (dens_asg (ps_asg (den_tup (dena_cons (den_listRg1 (by rfl) (c.fr "list" (by decide +kernel)) (by rfl) (c.fr "range" (by decide +kernel)) (dv 4) rfl) (dena_cons (den_lc (pe_lc (own := [("t", 10)]) rfl nd (deni_range1 (pi_range1 (by rfl) (c.fr "range" (by decide +kernel)) (dena_cons (dv 5) dena_nil)) (al_cons al_nil)) (blkOk_by (own := [("t", 10)]) (N := N__law_pieces) (sc := (defScope s__law_pieces)) (by decide +kernel)) (fun _ _ _ _ _ => (deng_name (pg_name (i := 10) nd rfl (by first | exact Or.inl rfl | exact Or.inr rfl)))) (fun _ _ _ _ _ => dents_nil) (fun _ _ _ _ _ => (dv 4))) (by decide)) dena_nil))) (deng_tup (pg_tup rfl (dengs_cons (pgs_cons (deng_name (pg_name (i := 7) nd rfl (by first | exact Or.inl rfl | exact Or.inr rfl))) (dengs_cons (pgs_cons (deng_name (pg_name (i := 8) nd rfl (by first | exact Or.inl rfl | exact Or.inr rfl))) dengs_nil))))) (pg_unl rfl (dengs_cons (pgs_cons (deng_name (pg_name (i := 7) nd rfl (by first | exact Or.inl rfl | exact Or.inr rfl))) (dengs_cons (pgs_cons (deng_name (pg_name (i := 8) nd rfl (by first | exact Or.inl rfl | exact Or.inr rfl))) dengs_nil))))))))
    (denb_cons (dens_for (ps_for PassesOwn.never rfl (deni_range1 (pi_range1 (by rfl) (c.fr "range" (by decide +kernel)) (dena_cons (den_add (dv 4) (dv 5)) dena_nil)) (al_cons al_nil)) (deng_name (pg_name (i := 1) nd rfl (by first | exact Or.inl rfl | exact Or.inr rfl))) (denb_one (dens_for (ps_for PassesOwn.never rfl (deni_seq (dv 6)) (deng_tup (pg_tup rfl (dengs_cons (pgs_cons (deng_name (pg_name (i := 9) nd rfl (by first | exact Or.inl rfl | exact Or.inr rfl))) (dengs_cons (pgs_cons (deng_name (pg_name (i := 10) nd rfl (by first | exact Or.inl rfl | exact Or.inr rfl))) dengs_nil))))) (pg_unl rfl (dengs_cons (pgs_cons (deng_name (pg_name (i := 9) nd rfl (by first | exact Or.inl rfl | exact Or.inr rfl))) (dengs_cons (pgs_cons (deng_name (pg_name (i := 10) nd rfl (by first | exact Or.inl rfl | exact Or.inr rfl))) dengs_nil)))))) (denb_cons (dens_set (ps_set (i := 11) nd rfl (by first | exact Or.inl rfl | exact Or.inr rfl) (den_callB (call_min2 rfl) snd_min2 (by rfl) (c.fr "min" (by decide +kernel)) bt_min (dena_cons (den_idx (dv 7) (dv 9) fun _ _ => rfl) (dena_cons (den_idx (dv 8) (dv 10) fun _ _ => rfl) dena_nil)))))
    (denb_cons (dens_asg (ps_asg (dv 11) (deng_sub (pg_sub (dv 7) (dv 9) set_list))))
    (denb_one (dens_asg (ps_asg (dv 11) (deng_sub (pg_sub (dv 8) (dv 10) set_list))))))))))))
    (denb_cons (dens_set (ps_set (i := 2) nd rfl (by first | exact Or.inl rfl | exact Or.inr rfl) (den_lst dena_nil)))
    (denb_cons (dens_for (ps_for PassesOwn.never rfl (deni_range1 (pi_range1 (by rfl) (c.fr "range" (by decide +kernel)) (dena_cons (dv 4) dena_nil)) (al_cons al_nil)) (deng_name (pg_name (i := 3) nd rfl (by first | exact Or.inl rfl | exact Or.inr rfl))) (denb_one (dens_if (dent_eq gd.u64 (den_idx (dv 7) (dv 3) fun _ _ => rfl) (dv 3)) (denb_one (dens_expr (ps_expr (den_append (pe_bm PySem.F.plainAttrs_list PySem.F.slot_list_append PySem.F.type_list_append mt_append (dv 2) (dena_cons (den_tup (dena_cons (den_callTy call_tuple_of snd_tuple (by rfl) (c.fr "tuple" (by decide +kernel)) bt_tuple (dena_cons (den_lc (pe_lc (own := [("s", 9)]) rfl nd (deni_range1 (pi_range1 (by rfl) (c.fr "range" (by decide +kernel)) (dena_cons (dv 4) dena_nil)) (al_cons al_nil)) (blkOk_by (own := [("s", 9)]) (N := N__law_pieces) (sc := (defScope s__law_pieces)) (by decide +kernel)) (fun _ _ _ _ _ => (deng_name (pg_name (i := 9) nd rfl (by first | exact Or.inl rfl | exact Or.inr rfl)))) (fun _ _ _ _ _ => (dents_one (dent_eq gd.blk.u64 (den_idx (dv 7) (dv 9) fun _ _ => rfl) (dv 3)))) (fun _ _ _ _ _ => (dv 9))) (by decide)) dena_nil)) (dena_cons (den_callTy call_tuple_of snd_tuple (by rfl) (c.fr "tuple" (by decide +kernel)) bt_tuple (dena_cons (den_lc (pe_lc (own := [("t", 10)]) rfl nd (deni_range1 (pi_range1 (by rfl) (c.fr "range" (by decide +kernel)) (dena_cons (dv 5) dena_nil)) (al_cons al_nil)) (blkOk_by (own := [("t", 10)]) (N := N__law_pieces) (sc := (defScope s__law_pieces)) (by decide +kernel)) (fun _ _ _ _ _ => (deng_name (pg_name (i := 10) nd rfl (by first | exact Or.inl rfl | exact Or.inr rfl)))) (fun _ _ _ _ _ => (dents_one (dent_eq gd.blk.u64 (den_idx (dv 8) (dv 10) fun _ _ => rfl) (dv 3)))) (fun _ _ _ _ _ => (dv 10))) (by decide)) dena_nil)) dena_nil))) dena_nil)))))) denb_nil))))
    (denb_one (dens_ret (den_callTy call_tuple_of snd_tuple (by rfl) (c.fr "tuple" (by decide +kernel)) bt_tuple (dena_cons (dv 2) dena_nil)))))))))
theorem p_component (c : Cc K mg) (hfo : w.params.followText "set-order" = fo) : Pm P w K mg base 2 "component" s_component P_component (m_component fo) := by
  have p_partners_of := p_partners_of (P := P) (base := base) c hfo
  have nd := sc_component.nd
  exact pm_mk c.d_component sc_component fun cdv A outer s H gd =>
    (denb_cons (dens_set (ps_set (i := 2) nd rfl (by first | exact Or.inl rfl | exact Or.inr rfl) (den_tup (dena_cons (dv 1) dena_nil))))
    (denb_one (dens_while (n := 64) (ps_while PassesOwn.never (dent_val den_bl) (denb_cons (dens_set (ps_set (i := 3) nd rfl (by first | exact Or.inl rfl | exact Or.inr rfl) (den_p p_partners_of gd (by decide) ba_partners_of_3 rfl rfl (dena_cons (dv 0) (dena_cons den_int (dena_cons (dv 2) dena_nil))) (al_cons (al_cons (al_cons al_nil))))))
    (denb_cons (dens_set (ps_set (i := 4) nd rfl (by first | exact Or.inl rfl | exact Or.inr rfl) (den_p p_partners_of gd (by decide) ba_partners_of_3 rfl rfl (dena_cons (dv 0) (dena_cons den_int (dena_cons (dv 3) dena_nil))) (al_cons (al_cons (al_cons al_nil))))))
    (denb_cons (dens_if (dent_eq gd.u64 (dv 4) (dv 2)) (denb_one (dens_ret (den_tup (dena_cons (dv 2) (dena_cons (dv 3) dena_nil))))) denb_nil)
    (denb_one (dens_set (ps_set (i := 2) nd rfl (by first | exact Or.inl rfl | exact Or.inr rfl) (dv 4)))))))))))
theorem p_pieces_of (c : Cc K mg) (hfo : w.params.followText "set-order" = fo) : Pm P w K mg base 3 "pieces_of" s_pieces_of P_pieces_of (m_pieces_of fo) := by
  have p_component := p_component (P := P) (base := base) c hfo
  have nd := sc_pieces_of.nd
  exact pm_mk c.d_pieces_of sc_pieces_of fun cdv A outer s H gd =>
    (denb_cons (dens_set (ps_set (i := 1) nd rfl (by first | exact Or.inl rfl | exact Or.inr rfl) (den_lst dena_nil)))
    (denb_cons (dens_for (ps_for PassesOwn.never rfl (deni_range1 (pi_range1 (by rfl) (c.fr "range" (by decide +kernel)) (dena_cons (den_idx (dv 0) den_int fun _ _ => rfl) dena_nil)) (al_cons al_nil)) (deng_name (pg_name (i := 2) nd rfl (by first | exact Or.inl rfl | exact Or.inr rfl))) (denb_one (dens_if (dent_not (dent_val (den_callB (cr_any rfl) snd_any (by rfl) (c.fr "any" (by decide +kernel)) bt_any (dena_cons (den_lc (pe_lc (own := [("piece", 3)]) rfl nd (deni_seq (dv 1)) (blkOk_by (own := [("piece", 3)]) (N := N_pieces_of) (sc := (defScope s_pieces_of)) (by decide +kernel)) (fun _ _ _ _ _ => (deng_name (pg_name (i := 3) nd rfl (by first | exact Or.inl rfl | exact Or.inr rfl)))) (fun _ _ _ _ _ => dents_nil) (fun _ _ _ _ _ => (den_in gd.blk.u65 (dv 2) (den_idx (dv 3) den_int fun _ _ => rfl) (by rfl)))) (by decide)) dena_nil)))) (denb_one (dens_expr (ps_expr (den_append (pe_bm PySem.F.plainAttrs_list PySem.F.slot_list_append PySem.F.type_list_append mt_append (dv 1) (dena_cons (den_p p_component gd (by decide) ba_component_2 rfl rfl (dena_cons (dv 0) (dena_cons (dv 2) dena_nil)) (al_cons (al_cons al_nil))) dena_nil)))))) denb_nil))))
    (denb_one (dens_ret (den_callTy call_tuple_of snd_tuple (by rfl) (c.fr "tuple" (by decide +kernel)) bt_tuple (dena_cons (dv 1) dena_nil))))))
theorem p_pieces (c : Cc K mg) (hfo : w.params.followText "set-order" = fo) : Pm P w K mg base 5 "pieces" s_pieces P_pieces (m_pieces fo) := by
  have p_check_bond := p_check_bond (P := P) (base := base) c hfo
  have p_pieces_of := p_pieces_of (P := P) (base := base) c hfo
  have nd := sc_pieces.nd
  exact pm_mk c.d_pieces sc_pieces fun cdv A outer s H gd =>
    (denb_one (dens_ret (den_p p_pieces_of gd (by decide) ba_pieces_of_1 rfl rfl (dena_cons (den_p p_check_bond gd (by decide) ba_check_bond_1 rfl rfl (dena_cons (dv 0) dena_nil) (al_cons al_nil)) dena_nil) (al_cons al_nil))))
theorem p_law (c : Cc K mg) (hfo : w.params.followText "set-order" = fo) : Pm P w K mg base 9 "law" s_law P_law (m_law fo) := by
  have p__law_bond := p__law_bond (P := P) (base := base) c hfo
  have p__law_box := p__law_box (P := P) (base := base) c hfo
  have p__law_listed := p__law_listed (P := P) (base := base) c hfo
  have p__law_lots_right := p__law_lots_right (P := P) (base := base) c hfo
  have p__law_pieces := p__law_pieces (P := P) (base := base) c hfo
  have p_pieces := p_pieces (P := P) (base := base) c hfo
  have p_quotient := p_quotient (P := P) (base := base) c hfo
  have nd := sc_law.nd
  exact pm_mk c.d_law sc_law fun cdv A outer s H gd =>
    (denb_cons (dens_for (ps_for PassesOwn.never rfl (deni_range1 (pi_range1 (by rfl) (c.fr "range" (by decide +kernel)) (dena_cons (den_callB (call_max2 rfl) snd_max2 (by rfl) (c.fr "max" (by decide +kernel)) bt_max (dena_cons den_int (dena_cons (den_callB (call_min2 rfl) snd_min2 (by rfl) (c.fr "min" (by decide +kernel)) bt_min (dena_cons (den_callB call_len snd_len (by rfl) (c.fr "len" (by decide +kernel)) bt_len (dena_cons (dv 0) dena_nil)) (dena_cons den_int dena_nil))) dena_nil))) dena_nil)) (al_cons al_nil)) (deng_name (pg_name (i := 1) nd rfl (by first | exact Or.inl rfl | exact Or.inr rfl))) (denb_cons (dens_set (ps_set (i := 2) nd rfl (by first | exact Or.inl rfl | exact Or.inr rfl) (den_p p__law_box gd (by decide) ba__law_box_2 rfl rfl (dena_cons (dv 0) (dena_cons (dv 1) dena_nil)) (al_cons (al_cons al_nil)))))
    (denb_cons (dens_set (ps_set (i := 3) nd rfl (by first | exact Or.inl rfl | exact Or.inr rfl) (den_p p__law_bond gd (by decide) ba__law_bond_1 rfl rfl (dena_cons (dv 2) dena_nil) (al_cons al_nil))))
    (denb_cons (dens_set (ps_set (i := 4) nd rfl (by first | exact Or.inl rfl | exact Or.inr rfl) (den_p p__law_listed gd (by decide) ba__law_listed_2 rfl rfl (dena_cons (dv 2) (dena_cons (dv 3) dena_nil)) (al_cons (al_cons al_nil)))))
    (denb_cons (dens_set (ps_set (i := 5) nd rfl (by first | exact Or.inl rfl | exact Or.inr rfl) (den_callB (cr_repr gd) snd_repr (by rfl) (c.fr "repr" (by decide +kernel)) bt_repr (dena_cons (dv 4) dena_nil))))
    (denb_cons (dens_for (ps_for PassesOwn.never rfl (deni_range1 (pi_range1 (by rfl) (c.fr "range" (by decide +kernel)) (dena_cons den_int dena_nil)) (al_cons al_nil)) (deng_name (pg_name (i := 6) nd rfl (by first | exact Or.inl rfl | exact Or.inr rfl))) (denb_one (dens_if (dent_not (dent_val (den_p p__law_lots_right gd (by decide) ba__law_lots_right_4 rfl rfl (dena_cons (dv 2) (dena_cons (dv 3) (dena_cons (dv 4) (dena_cons (dv 6) dena_nil)))) (al_cons (al_cons (al_cons (al_cons al_nil))))))) (denb_one (dens_ret den_bl)) denb_nil))))
    (denb_cons (dens_set (ps_set (i := 7) nd rfl (by first | exact Or.inl rfl | exact Or.inr rfl) (den_callB (cr_repr gd) snd_repr (by rfl) (c.fr "repr" (by decide +kernel)) bt_repr (dena_cons (den_p p__law_pieces gd (by decide) ba__law_pieces_1 rfl rfl (dena_cons (dv 3) dena_nil) (al_cons al_nil)) dena_nil))))
    (denb_cons (dens_if (PW.pt (denw_or (dent_neT (den_callB (cr_repr gd) snd_repr (by rfl) (c.fr "repr" (by decide +kernel)) bt_repr (dena_cons (den_p p_pieces gd (by decide) ba_pieces_1 rfl rfl (dena_cons (dv 4) dena_nil) (al_cons al_nil)) dena_nil)) (dv 7)) (denw_or (dent_neT (den_callB (cr_repr gd) snd_repr (by rfl) (c.fr "repr" (by decide +kernel)) bt_repr (dena_cons (den_pK0 p_pieces gd (by decide) ba_pieces_0_bond (pk_pieces_0_bond) (denk_cons (dv 3) denk_nil) (al_cons al_nil)) dena_nil)) (dv 7)) (denw_or1 (dent_neT (den_callB (cr_repr gd) snd_repr (by rfl) (c.fr "repr" (by decide +kernel)) bt_repr (dena_cons (dv 4) dena_nil)) (dv 5)))))) (denb_one (dens_ret den_bl)) denb_nil)
    (denb_cons (dens_par (ps_par (i := 8) (j := 9) rfl nd rfl rfl (by decide) rfl rfl (dena_cons (den_p p_quotient gd (by decide) ba_quotient_3 rfl rfl (dena_cons (dv 3) (dena_cons den_int (dena_cons (den_tupRg1 (by rfl) (c.fr "tuple" (by decide +kernel)) (by rfl) (c.fr "range" (by decide +kernel)) (den_idx (dv 3) den_int fun _ _ => rfl) rfl) dena_nil))) (al_cons (al_cons (al_cons al_nil)))) (dena_cons (den_pK0 p_quotient gd (by decide) ba_quotient_0_lot_side_bond (pk_quotient_0_lot_side_bond) (denk_cons (den_tupRg1 (by rfl) (c.fr "tuple" (by decide +kernel)) (by rfl) (c.fr "range" (by decide +kernel)) (den_idx (dv 3) den_int fun _ _ => rfl) rfl) (denk_cons den_int (denk_cons (dv 3) denk_nil))) (al_cons (al_cons (al_cons al_nil)))) dena_nil)) (by rfl)))
    (denb_one (dens_if (dent_ne gd.u64 (den_mul (den_idx (dv 8) den_int fun _ _ => rfl) (den_idx (dv 9) den_int fun _ _ => rfl)) (den_mul (den_idx (dv 8) den_int fun _ _ => rfl) (den_idx (dv 9) den_int fun _ _ => rfl))) (denb_one (dens_ret den_bl)) denb_nil))))))))))))
    (denb_one (dens_ret den_bl)))
end
end Kp
set_option Elab.async false
set_option linter.all false
set_option maxRecDepth 100000
set_option maxHeartbeats 2000000
namespace Kp
open PySem PySem.Spec L2 Ip


structure Box (S : Store) (k : Nat) : Prop where
  ex : ∃ g r : Int, S[k]? = some (.lst [.int g, .int r]) ∧ 0 ≤ g ∧ 1 ≤ r ∧ r ≤ 2147483563
theorem items_ref {S : Store} {k : Nat} {xs : List PV} (h : S[k]? = some (.lst xs)) : itemsOf (.ref k) S = some xs := by simp [itemsOf, h]
theorem items_set {S : Store} {k : Nat} {xs : List PV} (h : k < S.length) : itemsOf (.ref k) (S.set k (.lst xs)) = some xs := items_ref (by simp [h])
theorem mut_ref {S : Store} {k : Nat} {xs : List PV} (h : S[k]? = some (.lst xs)) : mutAt (.ref k) S = some (k, xs) := by simp [mutAt, h]
theorem at20 {a b : PV} : atI [a, b] 0 = some a := rfl
theorem at21 {a b : PV} : atI [a, b] 1 = some b := rfl
theorem ix20 : ixN 2 0 = some 0 := rfl
theorem ix21 : ixN 2 1 = some 1 := rfl
theorem take_spec {fo : Bool} {S : Store} {k : Nat} {many : Int} {Q : PV → Store → Prop} (b : Box S k) (h0 : 0 < many) (h1 : many < 1073741824)
    (q : ∀ d g r : Int, 0 ≤ d → d < many → 0 ≤ g → 1 ≤ r → r ≤ 2147483563 → Q (.int d) (S.set k (.lst [.int g, .int r]))) : W (m__law_take fo [.ref k, .int many] S) Q := by
  obtain ⟨g, r, hb, hg, hr, hr2⟩ := b.ex
  have hk : k < S.length := (List.getElem?_eq_some_iff.mp hb).1
  unfold m__law_take
  have hi := items_ref hb
  have hm := mut_ref hb
  simp only [W_def, (show startP N__law_take [PV.ref k, PV.int many] = [some (.ref k), some (.int many), none, none] from rfl), W_seq, W_if, W_test, W_op, W_var, W_con, W_set, W_put, W_ret, W_call, W_cons, W_nil, W_skip, List.set_cons_zero, List.set_cons_succ, List.getElem?_cons_zero, List.getElem?_cons_succ, Option.some.injEq, exists_eq_left', exists_eq_left, W_idx, hi, hm, at20, at21, W_gt, W_int, W_mod, W_div, W_mul, W_add, PV.bl.injEq, PV.int.injEq, Prod.mk.injEq, List.length_cons, List.length_nil, ix20, ix21, Nat.zero_add, Nat.reduceAdd, items_set hk, decide_eq_true_eq]
  split
  · exact ⟨h0, ⟨h0, h1⟩, q _ _ _ (Int.emod_nonneg _ (by omega)) (Int.emod_lt_of_pos _ h0) (Int.ediv_nonneg hg (by omega)) hr hr2⟩
  · refine ⟨.inr (by decide), by decide, .inr (by decide), by decide, .inr (by decide), by decide, h0, q _ _ _ (Int.emod_nonneg _ (by omega)) (Int.emod_lt_of_pos _ h0) hg ?_ ?_⟩
    · omega
    · omega
theorem Box.set {S : Store} {k : Nat} {g r : Int} (h : k < S.length) (hg : 0 ≤ g) (h1 : 1 ≤ r) (h2 : r ≤ 2147483563) : Box (S.set k (.lst [.int g, .int r])) k := ⟨⟨g, r, by simp [h], hg, h1, h2⟩⟩
theorem Box.lt {S : Store} {k : Nat} (b : Box S k) : k < S.length := by
  obtain ⟨g, r, hb, _⟩ := b.ex
  exact (List.getElem?_eq_some_iff.mp hb).1
theorem items_other {S : Store} {k : Nat} {p : PV} {o : Ob} (h : p ≠ .ref k) : itemsOf p (S.set k o) = itemsOf p S := by
  cases p with
  | ref n =>
    have hn : k ≠ n := fun e => h (by rw [e])
    simp only [itemsOf, List.getElem?_set_ne hn]
  | _ => rfl
theorem atI_lt {xs : List PV} {d : Int} (h0 : 0 ≤ d) (h1 : d < xs.length) : ∃ v, atI xs d = some v ∧ xs[d.toNat]? = some v := by
  have hl : d.toNat < xs.length := by omega
  obtain ⟨n, rfl⟩ := Int.eq_ofNat_of_zero_le h0
  have hn : n < xs.length := by omega
  exact ⟨xs[n], atI_nat (List.getElem?_eq_getElem hn), by simp [hn]⟩
theorem atI_int {ns : List Int} {d : Int} (h0 : 0 ≤ d) (h1 : d < (ns.map PV.int).length) : ∃ x : Int, atI (ns.map PV.int) d = some (.int x) := by
  obtain ⟨v, e1, e2⟩ := atI_lt h0 h1
  rw [List.getElem?_map] at e2
  obtain ⟨x, _, rfl⟩ := Option.map_eq_some_iff.mp e2
  exact ⟨x, e1⟩
theorem pick_spec {fo : Bool} {S : Store} {k : Nat} {p : PV} {xs : List PV} {Q : PV → Store → Prop} (b : Box S k) (hp : p ≠ .ref k) (hx : itemsOf p S = some xs) (h0 : 0 < xs.length) (h1 : xs.length < 1000000)
    (q : ∀ (j : Nat) (v : PV) (g r : Int), xs[j]? = some v → 0 ≤ g → 1 ≤ r → r ≤ 2147483563 → Q v (S.set k (.lst [.int g, .int r]))) : W (m__law_pick fo [.ref k, p] S) Q := by
  unfold m__law_pick
  simp only [W_def, W_seq, W_if, W_ite, W_test, W_op, W_var, W_con, W_set, W_put, W_ret, W_expr, W_call, W_fn, W_cons, W_nil, W_skip, W_tup, W_lst, List.set_cons_zero, List.set_cons_succ, List.getElem?_cons_zero, List.getElem?_cons_succ, Option.some.injEq, exists_eq_left', exists_eq_left, W_idx, W_gt, W_lt, W_ge, W_le, W_int, W_abs, W_mod, W_div, W_mul, W_pow, W_add, W_sub, W_eqI, Bool.false_xor, Bool.true_xor, PV.bl.injEq, PV.int.injEq, Prod.mk.injEq, List.length_cons, List.length_nil, Nat.zero_add, Nat.reduceAdd, decide_eq_true_eq, (show startP N__law_pick [PV.ref k, p] = [some (.ref k), some p] from rfl), W_len hx]
  refine take_spec b (by omega) (by omega) fun d g r hd0 hd1 hg hr hr2 => ?_
  obtain ⟨v, e1, e2⟩ := atI_lt hd0 hd1
  simp only [W_def, W_seq, W_if, W_ite, W_test, W_op, W_var, W_con, W_set, W_put, W_ret, W_expr, W_call, W_fn, W_cons, W_nil, W_skip, W_tup, W_lst, List.set_cons_zero, List.set_cons_succ, List.getElem?_cons_zero, List.getElem?_cons_succ, Option.some.injEq, exists_eq_left', exists_eq_left, W_idx, W_gt, W_lt, W_ge, W_le, W_int, W_abs, W_mod, W_div, W_mul, W_pow, W_add, W_sub, W_eqI, Bool.false_xor, Bool.true_xor, PV.bl.injEq, PV.int.injEq, Prod.mk.injEq, List.length_cons, List.length_nil, Nat.zero_add, Nat.reduceAdd, decide_eq_true_eq, items_other hp, hx, e1]
  exact q _ v g r e2 hg hr hr2
theorem box_spec {fo : Bool} {S : Store} {ns : List Int} {k : Int} {Q : PV → Store → Prop} (hk : 0 ≤ k) (hk2 : k < 1000000) (hn : ns.length < 1000)
    (q : ∀ g r : Int, 0 ≤ g → 1 ≤ r → r ≤ 2147483563 → Q (.ref S.length) (S ++ [.lst [.int g, .int r]])) : W (m__law_box fo [.frl (ns.map .int), .int k] S) Q := by
  have hi : itemsOf (.frl (ns.map .int)) S = some (ns.map PV.int) := rfl
  unfold m__law_box
  simp only [W_def, W_seq, W_if, W_ite, W_test, W_op, W_var, W_con, W_set, W_put, W_ret, W_expr, W_call, W_fn, W_cons, W_nil, W_skip, W_tup, W_lst, List.set_cons_zero, List.set_cons_succ, List.getElem?_cons_zero, List.getElem?_cons_succ, Option.some.injEq, exists_eq_left', exists_eq_left, W_idx, W_gt, W_lt, W_ge, W_le, W_int, W_abs, W_mod, W_div, W_mul, W_pow, W_add, W_sub, W_eqI, Bool.false_xor, Bool.true_xor, PV.bl.injEq, PV.int.injEq, Prod.mk.injEq, List.length_cons, List.length_nil, Nat.zero_add, Nat.reduceAdd, decide_eq_true_eq, (show startP N__law_box [PV.frl (ns.map .int), PV.int k] = [some (.frl (ns.map .int)), some (.int k), none, none] from rfl), W_len hi, hi]
  refine ⟨.inl (by decide), ?_⟩
  split
  · rename_i h
    obtain ⟨x, hx⟩ := atI_int hk h
    simp only [W_def, W_seq, W_if, W_ite, W_test, W_op, W_var, W_con, W_set, W_put, W_ret, W_expr, W_call, W_fn, W_cons, W_nil, W_skip, W_tup, W_lst, List.set_cons_zero, List.set_cons_succ, List.getElem?_cons_zero, List.getElem?_cons_succ, Option.some.injEq, exists_eq_left', exists_eq_left, W_idx, W_gt, W_lt, W_ge, W_le, W_int, W_abs, W_mod, W_div, W_mul, W_pow, W_add, W_sub, W_eqI, Bool.false_xor, Bool.true_xor, PV.bl.injEq, PV.int.injEq, Prod.mk.injEq, List.length_cons, List.length_nil, Nat.zero_add, Nat.reduceAdd, decide_eq_true_eq, hx]
    generalize hc : (if x < 0 then -x else x) = c
    have hc0 : 0 ≤ c := by rw [← hc]; split <;> omega
    refine ⟨by decide, ?_⟩
    split
    · exact ⟨by decide, .inr (by decide), .inl (by decide), by decide, by decide, q _ _ hc0 (by omega) (by omega)⟩
    · exact ⟨by decide, .inr (by decide), .inl (by decide), by decide, by decide, q _ _ (by omega) (by omega) (by omega)⟩
  · split
    · rename_i h0
      obtain ⟨x, hx⟩ := atI_int (ns := ns) (d := k % ((ns.map PV.int).length : Nat)) (Int.emod_nonneg _ (by omega)) (Int.emod_lt_of_pos _ h0)
      refine ⟨h0, ?_⟩
      simp only [W_def, W_seq, W_if, W_ite, W_test, W_op, W_var, W_con, W_set, W_put, W_ret, W_expr, W_call, W_fn, W_cons, W_nil, W_skip, W_tup, W_lst, List.set_cons_zero, List.set_cons_succ, List.getElem?_cons_zero, List.getElem?_cons_succ, Option.some.injEq, exists_eq_left', exists_eq_left, W_idx, W_gt, W_lt, W_ge, W_le, W_int, W_abs, W_mod, W_div, W_mul, W_pow, W_add, W_sub, W_eqI, Bool.false_xor, Bool.true_xor, PV.bl.injEq, PV.int.injEq, Prod.mk.injEq, List.length_cons, List.length_nil, Nat.zero_add, Nat.reduceAdd, decide_eq_true_eq, hx]
      generalize hc : (if x < 0 then -x else x) = c
      have hc0 : 0 ≤ c := by rw [← hc]; split <;> omega
      refine ⟨by decide, .inr (by decide), by decide, ?_⟩
      split
      · exact ⟨by decide, .inr (by decide), .inl (by decide), by decide, by decide, q _ _ (by omega) (by omega) (by omega)⟩
      · exact ⟨by decide, .inr (by decide), .inl (by decide), by decide, by decide, q _ _ (by omega) (by omega) (by omega)⟩
    · refine ⟨by decide, ?_⟩
      split
      · exact ⟨by decide, .inr (by decide), .inl (by decide), by decide, by decide, q _ _ (by omega) (by omega) (by omega)⟩
      · exact ⟨by decide, .inr (by decide), .inl (by decide), by decide, by decide, q _ _ (by omega) (by omega) (by omega)⟩
end Kp
set_option Elab.async false
set_option linter.all false
set_option maxRecDepth 100000
set_option maxHeartbeats 2000000
namespace Kp
open PySem PySem.Spec L2 Ip

/-- of what was there, the object k alone may have changed -/
structure Fr1 (k : Nat) (S S' : Store) : Prop where
  len : S.length ≤ S'.length
  old : ∀ j, j < S.length → j ≠ k → S'[j]? = S[j]?
theorem Fr1.refl {k : Nat} {S : Store} : Fr1 k S S := ⟨Nat.le_refl _, fun _ _ _ => rfl⟩
theorem Fr1.trans {k : Nat} {S S1 S2 : Store} (a : Fr1 k S S1) (b : Fr1 k S1 S2) : Fr1 k S S2 := ⟨Nat.le_trans a.len b.len, fun j h n => by rw [b.old j (Nat.lt_of_lt_of_le h a.len) n, a.old j h n]⟩
theorem Fr1.app {k : Nat} {S G : Store} : Fr1 k S (S ++ G) := ⟨by simp, fun j h _ => List.getElem?_append_left h⟩
theorem Fr1.box {k : Nat} {S : Store} {o : Ob} : Fr1 k S (S.set k o) := ⟨by simp, fun j _ n => List.getElem?_set_ne (Ne.symm n)⟩
theorem Fr1.put {k n : Nat} {S S' : Store} {o : Ob} (a : Fr1 k S S') (h : S.length ≤ n) : Fr1 k S (S'.set n o) := ⟨by simpa using a.len, fun j hj hn => by rw [List.getElem?_set_ne (by omega), a.old j hj hn]⟩
theorem Box.keep {k n : Nat} {S : Store} {o : Ob} (b : Box S k) (h : n ≠ k) : Box (S.set n o) k := by
  obtain ⟨g, r, h1, h2⟩ := b.ex
  exact ⟨⟨g, r, by rw [List.getElem?_set_ne h, h1], h2⟩⟩
theorem Box.app {k : Nat} {S G : Store} (b : Box S k) : Box (S ++ G) k := by
  obtain ⟨g, r, h1, h2⟩ := b.ex
  exact ⟨⟨g, r, by rw [List.getElem?_append_left b.lt, h1], h2⟩⟩
def bits (row : List Int) : Prop := ∀ x ∈ row, x = 0 ∨ x = 1
/-- take, with what it leaves told by Box and Fr1 -/
theorem take_fr {fo : Bool} {S : Store} {k : Nat} {many : Int} {Q : PV → Store → Prop} (b : Box S k) (h0 : 0 < many) (h1 : many < 1073741824)
    (q : ∀ (d : Int) (S' : Store), 0 ≤ d → d < many → Box S' k → Fr1 k S S' → S'.length = S.length → Q (.int d) S') : W (m__law_take fo [.ref k, .int many] S) Q :=
  take_spec b h0 h1 fun d g r a1 a2 a3 a4 a5 => q d _ a1 a2 (Box.set b.lt a3 a4 a5) Fr1.box (by simp)
theorem row_spec {fo : Bool} {σ : PEnv} {S : Store} {k : Nat} {n thin : Int} {Q : PV → Store → Prop} (h0 : σ[0]? = some (some (.ref k))) (h6 : σ[6]? = some (some (.int n))) (h7 : σ[7]? = some (some (.int thin))) (b : Box S k) (hn : 0 ≤ n ∧ n ≤ 6) (ht : 0 < thin ∧ thin ≤ 6)
    (q : ∀ (row : List Int) (S' : Store), row.length = n.toNat → bits row → S'[S.length]? = some (.lst (row.map .int)) → Box S' k → Fr1 k S S' → Q (.ref S.length) S') :
    W (mLc (iRange (aCons (mVar 6) aNil)) (gN 3) tYesM (mIte (mTest (mOp (vEq false) (mFn (m__law_take fo) (aCons (mVar 0) (aCons (mVar 7) aNil))) (mCon (.int 0)))) (mCon (.int 1)) (mCon (.int 0))) [3] σ S) Q := by
  rw [W_lc]
  refine W_range1 ?_
  simp only [W_def, W_seq, W_if, W_ite, W_test, W_op, W_var, W_con, W_set, W_put, W_ret, W_expr, W_call, W_fn, W_cons, W_nil, W_skip, W_tup, W_lst, List.set_cons_zero, List.set_cons_succ, List.getElem?_cons_zero, List.getElem?_cons_succ, Option.some.injEq, exists_eq_left', exists_eq_left, W_idx, W_gt, W_lt, W_ge, W_le, W_int, W_abs, W_mod, W_div, W_mul, W_pow, W_add, W_sub, W_eqI, Bool.false_xor, Bool.true_xor, PV.bl.injEq, PV.int.injEq, Prod.mk.injEq, List.length_cons, List.length_nil, Nat.zero_add, Nat.reduceAdd, decide_eq_true_eq, h6]
  refine ⟨n, rfl, by omega, ?_⟩
  have hl : k < S.length := b.lt
  refine W_lcM (fun ys acc S2 => ∃ row : List Int, acc = row.map .int ∧ bits row ∧ row.length + ys.length = n.toNat ∧ S2[S.length]? = some (.lst acc) ∧ Box S2 k ∧ Fr1 k S S2) (fun _ _ _ _ => rfl) (fun x ys acc S2 h => ?_) (fun acc S2 h => ?_) _ _ _ ⟨[], rfl, (fun _ h => nomatch h), by simp [rangeP], by simp, b.app, Fr1.app⟩
  · obtain ⟨row, rfl, hb, hlen, hs, bx, fr⟩ := h
    have hk : S.length ≠ k := by omega
    show W (some ((wipeP σ [3]).set 3 (some x), S2)) _
    rw [W_some]
    show W (some (true, S2)) _
    rw [W_some]
    simp only [if_true]
    have g0 : ((wipeP σ [3]).set 3 (some x))[0]? = some (some (.ref k)) := by simp [wipeP, h0]
    have g7 : ((wipeP σ [3]).set 3 (some x))[7]? = some (some (.int thin)) := by simp [wipeP, h7]
    simp only [W_def, W_seq, W_if, W_ite, W_test, W_op, W_var, W_con, W_set, W_put, W_ret, W_expr, W_call, W_fn, W_cons, W_nil, W_skip, W_tup, W_lst, List.set_cons_zero, List.set_cons_succ, List.getElem?_cons_zero, List.getElem?_cons_succ, Option.some.injEq, exists_eq_left', exists_eq_left, W_idx, W_gt, W_lt, W_ge, W_le, W_int, W_abs, W_mod, W_div, W_mul, W_pow, W_add, W_sub, W_eqI, Bool.false_xor, Bool.true_xor, PV.bl.injEq, PV.int.injEq, Prod.mk.injEq, List.length_cons, List.length_nil, Nat.zero_add, Nat.reduceAdd, decide_eq_true_eq, g0, g7]
    refine take_fr bx ht.1 (by omega) fun d S3 d0 d1 b3 f3 l3 => ?_
    simp only [W_def, W_seq, W_if, W_ite, W_test, W_op, W_var, W_con, W_set, W_put, W_ret, W_expr, W_call, W_fn, W_cons, W_nil, W_skip, W_tup, W_lst, List.set_cons_zero, List.set_cons_succ, List.getElem?_cons_zero, List.getElem?_cons_succ, Option.some.injEq, exists_eq_left', exists_eq_left, W_idx, W_gt, W_lt, W_ge, W_le, W_int, W_abs, W_mod, W_div, W_mul, W_pow, W_add, W_sub, W_eqI, Bool.false_xor, Bool.true_xor, PV.bl.injEq, PV.int.injEq, Prod.mk.injEq, List.length_cons, List.length_nil, Nat.zero_add, Nat.reduceAdd, decide_eq_true_eq]
    have s3 : S3[S.length]? = some (.lst (row.map .int)) := by
      rw [f3.old _ (Nat.lt_of_lt_of_le (by rw [List.getElem?_eq_some_iff] at hs; exact hs.1) (Nat.le_refl _)) hk, hs]
    have l4 : row.length < 6 := by
      simp only [List.length_cons] at hlen
      omega
    have z : szB ((row.map PV.int).length + 1) = true := by
      rw [List.length_map]
      exact decide_eq_true (by omega)
    have fin : ∀ y : Int, y = 0 ∨ y = 1 → S3[S.length]? = some (.lst (row.map .int)) ∧ szB ((row.map PV.int).length + 1) = true ∧ ∃ row' : List Int, row.map PV.int ++ [PV.int y] = row'.map .int ∧ bits row' ∧ row'.length + ys.length = n.toNat ∧ (S3.set S.length (.lst (row.map PV.int ++ [PV.int y])))[S.length]? = some (.lst (row.map PV.int ++ [PV.int y])) ∧ Box (S3.set S.length (.lst (row.map PV.int ++ [PV.int y]))) k ∧ Fr1 k S (S3.set S.length (.lst (row.map PV.int ++ [PV.int y]))) := fun y hy => by
      refine ⟨s3, z, row ++ [y], by simp, ?_, ?_, ?_, b3.keep hk, (fr.trans f3).put (Nat.le_refl _)⟩
      · intro v hv
        rcases List.mem_append.mp hv with h | h
        · exact hb v h
        · simp only [List.mem_singleton] at h
          rw [h]; exact hy
      · simp only [List.length_append, List.length_cons, List.length_nil] at hlen ⊢
        omega
      · have : S.length < S3.length := by
          rw [List.getElem?_eq_some_iff] at s3
          exact s3.1
        simp [this]
    split
    · exact fin 1 (.inr rfl)
    · exact fin 0 (.inl rfl)
  · obtain ⟨row, rfl, hb, hlen, hs, bx, fr⟩ := h
    exact q row S2 (by simpa using hlen) hb hs bx fr
end Kp
set_option Elab.async false
set_option linter.all false
set_option maxRecDepth 100000
set_option maxHeartbeats 2000000
namespace Kp
open PySem PySem.Spec L2 Ip

theorem rangeP_succ {i : Int} {n : Nat} : rangeP i (n + 1) = .int i :: rangeP (i + 1) n := by
  unfold rangeP
  rw [List.range_succ_eq_map]
  simp only [List.map_cons, List.map_map]
  congr 1
  · simp
  · apply List.map_congr_left
    intro a _
    simp only [Function.comp, PV.int.injEq]
    omega
theorem rangeP_zero {i : Int} : rangeP i 0 = [] := rfl
/-- the rest of a range from i on -/
theorem rest_cons {x : PV} {ys : List PV} {i m : Nat} (hi : i ≤ m) (h : x :: ys = rangeP (i : Int) (m - i)) : i < m ∧ x = .int i ∧ ys = rangeP ((i + 1 : Nat) : Int) (m - (i + 1)) := by
  rcases Nat.lt_or_ge i m with h1 | h1
  · refine ⟨h1, ?_⟩
    rw [show m - i = (m - (i + 1)) + 1 by omega, rangeP_succ] at h
    cases h
    exact ⟨rfl, rfl⟩
  · rw [show m - i = 0 by omega] at h
    cases h
theorem rest_nil {i m : Nat} (hi : i ≤ m) (h : [] = rangeP (i : Int) (m - i)) : i = m := by
  rcases Nat.lt_or_ge i m with h1 | h1
  · rw [show m - i = (m - (i + 1)) + 1 by omega, rangeP_succ] at h
    cases h
  · omega
/-- a table of rows of whole numbers -/
structure Tab (S : Store) (T k : Nat) (rs : List Nat) (rows : List (List Int)) : Prop where
  top : S[T]? = some (.lst (rs.map .ref))
  len : rs.length = rows.length
  nd : rs.Nodup
  off : ∀ r ∈ rs, r ≠ k ∧ r ≠ T
  row : ∀ (i : Nat) (r : Nat) (xs : List Int), rs[i]? = some r → rows[i]? = some xs → S[r]? = some (.lst (xs.map .int))
  tk : T ≠ k
theorem Tab.lt {S : Store} {T k : Nat} {rs : List Nat} {rows : List (List Int)} (t : Tab S T k rs rows) {i r : Nat} (h : rs[i]? = some r) : r < S.length := by
  have hi := (List.getElem?_eq_some_iff.mp h).1
  obtain ⟨xs, hx⟩ : ∃ xs, rows[i]? = some xs := ⟨rows[i]'(by rw [← t.len]; exact hi), List.getElem?_eq_getElem _⟩
  have := t.row i r xs h hx
  exact (List.getElem?_eq_some_iff.mp this).1
theorem Tab.topLt {S : Store} {T k : Nat} {rs : List Nat} {rows : List (List Int)} (t : Tab S T k rs rows) : T < S.length := (List.getElem?_eq_some_iff.mp t.top).1
theorem Tab.fr {S S' : Store} {T k : Nat} {rs : List Nat} {rows : List (List Int)} (t : Tab S T k rs rows) (f : Fr1 k S S') : Tab S' T k rs rows :=
  ⟨by rw [f.old _ t.topLt t.tk, t.top], t.len, t.nd, t.off, fun i r xs h1 h2 => by
    have hr := List.mem_of_getElem? h1
    rw [f.old _ (t.lt h1) (t.off r hr).1]
    exact t.row i r xs h1 h2, t.tk⟩
/-- one row more -/
theorem Tab.add {S S' : Store} {T k : Nat} {rs : List Nat} {rows : List (List Int)} {xs : List Int} (t : Tab S T k rs rows) (f : Fr1 k S S') (h : S'[S.length]? = some (.lst (xs.map .int))) (hk : k < S.length) :
    Tab (S'.set T (.lst ((rs ++ [S.length]).map .ref))) T k (rs ++ [S.length]) (rows ++ [xs]) := by
  have t' := t.fr f
  have hT := t.topLt
  refine ⟨by simp [t'.topLt], by simp [t.len], ?_, ?_, ?_, t.tk⟩
  · rw [List.nodup_append]
    refine ⟨t.nd, by simp, fun a ha b hb e => ?_⟩
    simp only [List.mem_singleton] at hb
    obtain ⟨i, hi⟩ := List.getElem?_of_mem ha
    have := t.lt hi
    omega
  · intro r hr
    rcases List.mem_append.mp hr with h1 | h1
    · exact t.off r h1
    · simp only [List.mem_singleton] at h1
      omega
  · intro i r ys h1 h2
    by_cases hi : i < rs.length
    · rw [List.getElem?_append_left hi] at h1
      rw [List.getElem?_append_left (by rw [← t.len]; exact hi)] at h2
      rw [List.getElem?_set_ne (Ne.symm (t.off r (List.mem_of_getElem? h1)).2)]
      exact t'.row i r ys h1 h2
    · have e : i = rs.length := by
        have := (List.getElem?_eq_some_iff.mp h1).1
        simp at this
        omega
      subst e
      rw [List.getElem?_append_right (Nat.le_refl _)] at h1
      rw [List.getElem?_append_right (by rw [t.len]; exact Nat.le_refl _)] at h2
      simp only [Nat.sub_self, List.getElem?_cons_zero, Option.some.injEq, t.len] at h1 h2
      subst h1
      subst h2
      rw [List.getElem?_set_ne (by omega)]
      exact h
/-- one place of one row is set -/
theorem Tab.put {S : Store} {T k : Nat} {rs : List Nat} {rows : List (List Int)} {i j r : Nat} {xs : List Int} {y : Int} (t : Tab S T k rs rows) (h1 : rs[i]? = some r) (h2 : rows[i]? = some xs) :
    Tab (S.set r (.lst ((xs.map PV.int).set j (.int y)))) T k rs (rows.set i (xs.set j y)) := by
  have hr := List.mem_of_getElem? h1
  have hi := (List.getElem?_eq_some_iff.mp h1).1
  refine ⟨by rw [List.getElem?_set_ne (t.off r hr).2]; exact t.top, by simp [t.len], t.nd, t.off, ?_, t.tk⟩
  intro i' r' ys g1 g2
  by_cases e : i' = i
  · subst e
    rw [h1] at g1
    cases g1
    have l1 : i' < rows.length := by rw [← t.len]; exact hi
    rw [List.getElem?_set_self l1] at g2
    cases g2
    rw [List.getElem?_set_self (t.lt h1), List.map_set]
  · rw [List.getElem?_set_ne (Ne.symm e)] at g2
    have hne : r ≠ r' := fun z => e (by
      subst z
      have l' := (List.getElem?_eq_some_iff.mp g1).1
      have e1 := (List.getElem?_eq_some_iff.mp h1).2
      have e2 := (List.getElem?_eq_some_iff.mp g1).2
      have pw := List.pairwise_iff_getElem.mp t.nd
      rcases Nat.lt_trichotomy i' i with q | q | q
      · exact absurd (e2.trans e1.symm) (pw i' i l' hi q)
      · exact q
      · exact absurd (e1.trans e2.symm) (pw i i' hi l' q))
    rw [List.getElem?_set_ne hne]
    exact t.row i' r' ys g1 g2
theorem bits_sum {row : List Int} (h : bits row) : 0 ≤ row.sum ∧ (row.sum = 0 ↔ (1 : Int) ∉ row) := by
  induction row with
  | nil => simp
  | cons x r ih =>
    have ih := ih fun y hy => h y (List.mem_cons_of_mem _ hy)
    rcases h x (List.mem_cons_self ..) with e | e
    · subst e
      rw [List.sum_cons, Int.zero_add]
      simpa using ih
    · subst e
      rw [List.sum_cons]
      refine ⟨by omega, fun z => by omega, fun z => absurd (List.mem_cons_self ..) z⟩
theorem intsOf_map : ∀ {ns : List Int}, intsOf (ns.map PV.int) = some ns
  | [] => rfl
  | n :: ns => by
    show (intsOf (ns.map PV.int)).map (n :: ·) = _
    rw [intsOf_map]
    rfl
/-- rows of n bits each -/
def Rows (rows : List (List Int)) (m n : Nat) : Prop := rows.length = m ∧ ∀ r ∈ rows, bits r ∧ r.length = n
end Kp
set_option Elab.async false
set_option linter.all false
set_option maxRecDepth 100000
set_option maxHeartbeats 4000000
namespace Kp
open PySem PySem.Spec L2 Ip

structure TS (S0 S : Store) (T k n : Nat) (rs : List Nat) (rows : List (List Int)) : Prop where
  tab : Tab S T k rs rows
  ok : ∀ r ∈ rows, bits r ∧ r.length = n
  box : Box S k
  fr : Fr1 k S0 S
  newT : S0.length ≤ T
  newR : ∀ r ∈ rs, S0.length ≤ r
theorem TS.frame {S0 S S' : Store} {T k n : Nat} {rs : List Nat} {rows : List (List Int)} (t : TS S0 S T k n rs rows) (f : Fr1 k S S') (b : Box S' k) : TS S0 S' T k n rs rows := ⟨t.tab.fr f, t.ok, b, t.fr.trans f, t.newT, t.newR⟩
theorem TS.put {S0 S : Store} {T k n : Nat} {rs : List Nat} {rows : List (List Int)} {i j r : Nat} {xs : List Int} (t : TS S0 S T k n rs rows) (h1 : rs[i]? = some r) (h2 : rows[i]? = some xs) :
    TS S0 (S.set r (.lst ((xs.map PV.int).set j (.int 1)))) T k n rs (rows.set i (xs.set j 1)) := by
  have hr := List.mem_of_getElem? h1
  refine ⟨t.tab.put h1 h2, fun q hq => ?_, t.box.keep (t.tab.off r hr).1, t.fr.put (t.newR r hr), t.newT, t.newR⟩
  rcases List.mem_or_eq_of_mem_set hq with h | h
  · exact t.ok q h
  · subst h
    obtain ⟨hb, hl⟩ := t.ok xs (List.mem_of_getElem? h2)
    refine ⟨fun x hx => ?_, by rw [List.length_set]; exact hl⟩
    rcases List.mem_or_eq_of_mem_set hx with h | h
    · exact hb x h
    · exact .inr h
theorem TS.rowAt {S0 S : Store} {T k n : Nat} {rs : List Nat} {rows : List (List Int)} {i : Nat} (t : TS S0 S T k n rs rows) (hi : i < rows.length) : ∃ r xs, rs[i]? = some r ∧ rows[i]? = some xs ∧ S[r]? = some (.lst (xs.map .int)) ∧ bits xs ∧ xs.length = n := by
  have hr : i < rs.length := by rw [t.tab.len]; exact hi
  obtain ⟨hb, hl⟩ := t.ok _ (List.mem_of_getElem? (List.getElem?_eq_getElem hi))
  exact ⟨rs[i], rows[i], List.getElem?_eq_getElem hr, List.getElem?_eq_getElem hi, t.tab.row i _ _ (List.getElem?_eq_getElem hr) (List.getElem?_eq_getElem hi), hb, hl⟩
variable {fo : Bool} {S0 S : Store} {T k m n th : Nat} {rs : List Nat} {rows : List (List Int)} {x2 x3 x4 x8 : Option PV} {F : Fl → Store → Prop}
abbrev slots (k T m n th : Nat) (x2 x3 x4 x8 : Option PV) : PEnv := [some (.ref k), some (.ref T), x2, x3, x4, some (.int m), some (.int n), some (.int th), x8]
theorem loop1 (hm : 1 ≤ m ∧ m ≤ 6) (hn : 1 ≤ n ∧ n ≤ 6) (ht : 1 ≤ th ∧ th ≤ 6) (t : TS S0 S T k n [] [])
    (q : ∀ y2 S' rs rows, TS S0 S' T k n rs rows → rows.length = m → F (.nx (slots k T m n th y2 x3 x4 x8)) S') :
    W (sFor (iRange (aCons (mVar 5) aNil)) (gN 2) (sExpr (mMeth fAppend (mVar 1) (aCons (mLc (iRange (aCons (mVar 6) aNil)) (gN 3) tYesM (mIte (mTest (mOp (vEq false) (mFn (m__law_take fo) (aCons (mVar 0) (aCons (mVar 7) aNil))) (mCon (.int 0)))) (mCon (.int 1)) (mCon (.int 0))) [3]) aNil))) (slots k T m n th x2 x3 x4 x8) S) F := by
  rw [W_for]
  refine W_range1 ?_
  simp only [W_def, W_seq, W_if, W_ite, W_test, W_op, W_var, W_con, W_set, W_put, W_ret, W_expr, W_call, W_fn, W_cons, W_nil, W_skip, W_tup, W_lst, List.set_cons_zero, List.set_cons_succ, List.getElem?_cons_zero, List.getElem?_cons_succ, Option.some.injEq, exists_eq_left', exists_eq_left, W_idx, W_gt, W_lt, W_ge, W_le, W_int, W_abs, W_mod, W_div, W_mul, W_pow, W_add, W_sub, W_eqI, Bool.false_xor, Bool.true_xor, PV.bl.injEq, PV.int.injEq, Prod.mk.injEq, List.length_cons, List.length_nil, Nat.zero_add, Nat.reduceAdd, decide_eq_true_eq, slots]
  refine ⟨m, rfl, by omega, ?_⟩
  rw [Int.toNat_natCast]
  refine W_forM (xs := []) (fun ys σ S2 => ∃ i y2 rs rows, i ≤ m ∧ ys = rangeP (i : Int) (m - i) ∧ σ = slots k T m n th y2 x3 x4 x8 ∧ TS S0 S2 T k n rs rows ∧ rows.length = i) (fun _ _ _ _ => rfl) (fun x ys σ S2 h => ?_) (fun σ S2 h => ?_) _ _ _ ⟨0, x2, [], [], by omega, by simp, rfl, t, rfl⟩
  · obtain ⟨i, y2, rs, rows, hi, hx, rfl, ts, hl⟩ := h
    obtain ⟨h1, rfl, h3⟩ := rest_cons hi hx
    show W (some _) _
    rw [W_some]
    simp only [W_def, W_seq, W_if, W_ite, W_test, W_op, W_var, W_con, W_set, W_put, W_ret, W_expr, W_call, W_fn, W_cons, W_nil, W_skip, W_tup, W_lst, List.set_cons_zero, List.set_cons_succ, List.getElem?_cons_zero, List.getElem?_cons_succ, Option.some.injEq, exists_eq_left', exists_eq_left, W_idx, W_gt, W_lt, W_ge, W_le, W_int, W_abs, W_mod, W_div, W_mul, W_pow, W_add, W_sub, W_eqI, Bool.false_xor, Bool.true_xor, PV.bl.injEq, PV.int.injEq, Prod.mk.injEq, List.length_cons, List.length_nil, Nat.zero_add, Nat.reduceAdd, decide_eq_true_eq, W_append]
    refine ⟨⟨_, mut_ref ts.tab.top⟩, row_spec (σ := slots k T m n th (some (.int i)) x3 x4 x8) rfl rfl rfl ts.box (by omega) (by omega) fun row S3 r1 r2 r3 b3 f3 => ?_⟩
    have t3 := ts.tab.fr f3
    refine ⟨_, mut_ref t3.top, _, rfl, ?_, i + 1, some (.int i), rs ++ [S2.length], rows ++ [row], h1, h3, rfl, ⟨?_, ?_, ?_, ?_, ts.newT, ?_⟩, by simp [hl]⟩
    · rw [List.length_map, ts.tab.len]
      exact decide_eq_true (by omega)
    · have := ts.tab.add f3 r3 ts.box.lt
      rwa [List.map_append] at this
    · intro r hr
      rcases List.mem_append.mp hr with h | h
      · exact ts.ok r h
      · simp only [List.mem_singleton] at h
        subst h
        exact ⟨r2, by rw [r1]; simp⟩
    · exact b3.keep ts.tab.tk
    · exact (ts.fr.trans f3).put ts.newT
    · intro r hr
      rcases List.mem_append.mp hr with h | h
      · exact ts.newR r h
      · simp only [List.mem_singleton] at h
        subst h
        exact ts.fr.len
  · obtain ⟨i, y2, rs, rows, hi, hx, rfl, ts, hl⟩ := h
    have e := rest_nil hi hx
    exact q y2 S2 rs rows ts (by omega)
end Kp
set_option Elab.async false
set_option linter.all false
set_option maxRecDepth 100000
set_option maxHeartbeats 4000000
namespace Kp
open PySem PySem.Spec L2 Ip

def Has (rows : List (List Int)) (a b : Nat) : Prop := ∃ xs, rows[a]? = some xs ∧ xs[b]? = some 1
theorem Has.set {rows : List (List Int)} {a b i j : Nat} {xs : List Int} (h : Has rows a b) (hx : rows[i]? = some xs) : Has (rows.set i (xs.set j 1)) a b := by
  obtain ⟨ys, h1, h2⟩ := h
  by_cases e : i = a
  · subst e
    rw [hx] at h1
    cases h1
    refine ⟨xs.set j 1, by rw [List.getElem?_set_self (List.getElem?_eq_some_iff.mp hx).1], ?_⟩
    by_cases e2 : j = b
    · subst e2
      rw [List.getElem?_set_self (List.getElem?_eq_some_iff.mp h2).1]
    · rw [List.getElem?_set_ne e2]
      exact h2
  · exact ⟨ys, by rw [List.getElem?_set_ne e]; exact h1, h2⟩
theorem Has.new {rows : List (List Int)} {i j : Nat} {xs : List Int} (hx : rows[i]? = some xs) (hj : j < xs.length) : Has (rows.set i (xs.set j 1)) i j :=
  ⟨xs.set j 1, by rw [List.getElem?_set_self (List.getElem?_eq_some_iff.mp hx).1], by rw [List.getElem?_set_self hj]⟩
theorem ixN_lt {n : Nat} {d : Int} (h0 : 0 ≤ d) (h1 : d < n) : ixN n d = some d.toNat := by simp [ixN, h0, h1]
theorem atRef {rs : List Nat} {i r : Nat} (h : rs[i]? = some r) : atI (rs.map PV.ref) (i : Int) = some (.ref r) := atI_nat (by simp [h])
variable {fo : Bool} {S0 S : Store} {T k m n th : Nat} {rs : List Nat} {rows : List (List Int)} {x2 x3 x4 x8 : Option PV} {F : Fl → Store → Prop} {Q : PV → Store → Prop}
theorem loop2 (hm : 1 ≤ m ∧ m ≤ 6) (hn : 1 ≤ n ∧ n ≤ 6) (t : TS S0 S T k n rs rows) (hl : rows.length = m)
    (q : ∀ y2 S' rows, TS S0 S' T k n rs rows → rows.length = m → (∀ a < m, ∃ b, Has rows a b) → F (.nx (slots k T m n th y2 x3 x4 x8)) S') :
    W (sFor (iRange (aCons (mVar 5) aNil)) (gN 2) (sIf (mTest (mOp (vEq false) (mCall vSum (aCons (mOp vIdx (mVar 1) (mVar 2)) aNil)) (mCon (.int 0)))) (sAsg (mCon (.int 1)) (gI (mOp vIdx (mVar 1) (mVar 2)) (mFn (m__law_take fo) (aCons (mVar 0) (aCons (mVar 6) aNil))))) sSkip) (slots k T m n th x2 x3 x4 x8) S) F := by
  rw [W_for]
  refine W_range1 ?_
  simp only [W_def, W_seq, W_if, W_ite, W_test, W_op, W_var, W_con, W_set, W_put, W_ret, W_expr, W_call, W_fn, W_cons, W_nil, W_skip, W_tup, W_lst, List.set_cons_zero, List.set_cons_succ, List.getElem?_cons_zero, List.getElem?_cons_succ, Option.some.injEq, exists_eq_left', exists_eq_left, W_idx, W_gt, W_lt, W_ge, W_le, W_int, W_abs, W_mod, W_div, W_mul, W_pow, W_add, W_sub, W_eqI, Bool.false_xor, Bool.true_xor, PV.bl.injEq, PV.int.injEq, Prod.mk.injEq, List.length_cons, List.length_nil, Nat.zero_add, Nat.reduceAdd, decide_eq_true_eq, slots]
  refine ⟨m, rfl, by omega, ?_⟩
  rw [Int.toNat_natCast]
  refine W_forM (xs := []) (fun ys σ S2 => ∃ i y2 rows, i ≤ m ∧ ys = rangeP (i : Int) (m - i) ∧ σ = slots k T m n th y2 x3 x4 x8 ∧ TS S0 S2 T k n rs rows ∧ rows.length = m ∧ ∀ a < i, ∃ b, Has rows a b) (fun _ _ _ _ => rfl) (fun x ys σ S2 h => ?_) (fun σ S2 h => ?_) _ _ _ ⟨0, x2, rows, by omega, by simp, rfl, t, hl, fun a h => absurd h (Nat.not_lt_zero _)⟩
  · obtain ⟨i, y2, rows, hi, hx, rfl, ts, hl, hh⟩ := h
    obtain ⟨h1, rfl, h3⟩ := rest_cons hi hx
    show W (some _) _
    rw [W_some]
    obtain ⟨r, xs, e1, e2, e3, hb, hxl⟩ := ts.rowAt (i := i) (by omega)
    have it := items_ref ts.tab.top
    have hs : listOf (.ref r) S2 = some (xs.map PV.int) := items_ref e3
    simp only [W_def, W_seq, W_if, W_ite, W_test, W_op, W_var, W_con, W_set, W_put, W_ret, W_expr, W_call, W_fn, W_cons, W_nil, W_skip, W_tup, W_lst, List.set_cons_zero, List.set_cons_succ, List.getElem?_cons_zero, List.getElem?_cons_succ, Option.some.injEq, exists_eq_left', exists_eq_left, W_idx, W_gt, W_lt, W_ge, W_le, W_int, W_abs, W_mod, W_div, W_mul, W_pow, W_add, W_sub, W_eqI, Bool.false_xor, Bool.true_xor, PV.bl.injEq, PV.int.injEq, Prod.mk.injEq, List.length_cons, List.length_nil, Nat.zero_add, Nat.reduceAdd, decide_eq_true_eq, it, atRef e1, W_sum hs intsOf_map]
    obtain ⟨s0, s1⟩ := bits_sum hb
    split
    · rename_i hz
      refine take_fr ts.box (by omega) (by omega) fun d S3 d0 d1 b3 f3 l3 => ?_
      have t3 := ts.frame f3 b3
      have e3' := t3.tab.row i r xs e1 e2
      have hd : d.toNat < xs.length := by omega
      simp only [W_def, W_seq, W_if, W_ite, W_test, W_op, W_var, W_con, W_set, W_put, W_ret, W_expr, W_call, W_fn, W_cons, W_nil, W_skip, W_tup, W_lst, List.set_cons_zero, List.set_cons_succ, List.getElem?_cons_zero, List.getElem?_cons_succ, Option.some.injEq, exists_eq_left', exists_eq_left, W_idx, W_gt, W_lt, W_ge, W_le, W_int, W_abs, W_mod, W_div, W_mul, W_pow, W_add, W_sub, W_eqI, Bool.false_xor, Bool.true_xor, PV.bl.injEq, PV.int.injEq, Prod.mk.injEq, List.length_cons, List.length_nil, Nat.zero_add, Nat.reduceAdd, decide_eq_true_eq, mut_ref e3', ixN_lt (n := (xs.map PV.int).length) d0 (by rw [List.length_map]; omega)]
      refine ⟨i + 1, some (.int i), _, h1, h3, rfl, t3.put e1 e2, by simp [hl], fun a ha => ?_⟩
      rcases Nat.lt_or_ge a i with q1 | q1
      · obtain ⟨b, hb'⟩ := hh a q1
        exact ⟨b, hb'.set e2⟩
      · have e : a = i := by omega
        subst e
        exact ⟨_, Has.new e2 hd⟩
    · rename_i hz
      refine ⟨i + 1, some (.int i), rows, h1, h3, rfl, ts, hl, fun a ha => ?_⟩
      rcases Nat.lt_or_ge a i with q1 | q1
      · exact hh a q1
      · have e : a = i := by omega
        subst e
        have h1m : (1 : Int) ∈ xs := Classical.byContradiction fun z => hz (s1.mpr z)
        obtain ⟨b, hb'⟩ := List.getElem?_of_mem h1m
        exact ⟨b, xs, e2, hb'⟩
  · obtain ⟨i, y2, rows, hi, hx, rfl, ts, hl, hh⟩ := h
    have e := rest_nil hi hx
    subst e
    exact q y2 S2 rows ts hl hh
theorem set_last {S : Store} {a b : Ob} : (S ++ [a]).set S.length b = S ++ [b] := by
  rw [List.set_append_right _ _ (Nat.le_refl _)]
  simp
theorem col_spec {j : Nat} (t : TS S0 S T k n rs rows) (hj : j < n) (hm : rows.length ≤ 6) (q : ∀ col : List Int, bits col → (∀ a, Has rows a j → (1 : Int) ∈ col) → ((1 : Int) ∈ col → ∃ a, Has rows a j) → Q (.ref S.length) (S ++ [.lst (col.map .int)])) :
    W (mLc (iSeq (mVar 1)) (gN 8) tYesM (mOp vIdx (mVar 8) (mVar 3)) [8] (slots k T m n th x2 (some (.int j)) x4 x8) S) Q := by
  rw [W_lc]
  refine W_seqI ?_
  simp only [W_def, W_seq, W_if, W_ite, W_test, W_op, W_var, W_con, W_set, W_put, W_ret, W_expr, W_call, W_fn, W_cons, W_nil, W_skip, W_tup, W_lst, List.set_cons_zero, List.set_cons_succ, List.getElem?_cons_zero, List.getElem?_cons_succ, Option.some.injEq, exists_eq_left', exists_eq_left, W_idx, W_gt, W_lt, W_ge, W_le, W_int, W_abs, W_mod, W_div, W_mul, W_pow, W_add, W_sub, W_eqI, Bool.false_xor, Bool.true_xor, PV.bl.injEq, PV.int.injEq, Prod.mk.injEq, List.length_cons, List.length_nil, Nat.zero_add, Nat.reduceAdd, decide_eq_true_eq, slots]
  refine ⟨_, _, ⟨t.tab.top, rfl⟩, ?_⟩
  refine W_lcM (fun ys acc S2 => ∃ i col, i ≤ rs.length ∧ ys = (rs.drop i).map PV.ref ∧ acc = col.map PV.int ∧ S2 = S ++ [.lst acc] ∧ col.length = i ∧ bits col ∧ (∀ a < i, Has rows a j → (1 : Int) ∈ col) ∧ ((1 : Int) ∈ col → ∃ a, Has rows a j)) (fun ys acc S2 h => ?_) (fun x ys acc S2 h => ?_) (fun acc S2 h => ?_) _ _ _ ⟨0, [], Nat.zero_le _, by simp, rfl, rfl, rfl, (fun _ h => nomatch h), (fun a h => absurd h (Nat.not_lt_zero _)), fun h => nomatch h⟩
  · obtain ⟨i, col, _, _, _, rfl, _⟩ := h
    exact lk_one.mpr (by rw [List.getElem?_append_left t.tab.topLt]; exact t.tab.top)
  · obtain ⟨i, col, hi, hy, rfl, rfl, hc, hb, h1, h2⟩ := h
    have il : i < rs.length := by
      rcases Nat.lt_or_ge i rs.length with z | z
      · exact z
      · rw [List.drop_of_length_le z] at hy
        cases hy
    rw [List.drop_eq_getElem_cons il, List.map_cons] at hy
    cases hy
    obtain ⟨r, xs, e1, e2, e3, hbx, hxl⟩ := t.rowAt (i := i) (by rw [← t.tab.len]; exact il)
    rw [List.getElem?_eq_getElem il] at e1
    cases e1
    show W (some _) _
    rw [W_some]
    show W (some (true, _)) _
    rw [W_some]
    simp only [if_true]
    have e3' : (S ++ [Ob.lst (col.map PV.int)])[rs[i]]? = some (.lst (xs.map .int)) := by
      rw [List.getElem?_append_left (List.getElem?_eq_some_iff.mp e3).1]
      exact e3
    have hjx : j < xs.length := by omega
    have ea : atI (xs.map PV.int) (j : Int) = some (.int xs[j]) := atI_nat (by simp [hjx])
    show W (mOp vIdx (mVar 8) (mVar 3) [some (.ref k), some (.ref T), x2, some (.int j), x4, some (.int m), some (.int n), some (.int th), some (.ref rs[i])] _) _
    simp only [W_def, W_seq, W_if, W_ite, W_test, W_op, W_var, W_con, W_set, W_put, W_ret, W_expr, W_call, W_fn, W_cons, W_nil, W_skip, W_tup, W_lst, List.set_cons_zero, List.set_cons_succ, List.getElem?_cons_zero, List.getElem?_cons_succ, Option.some.injEq, exists_eq_left', exists_eq_left, W_idx, W_gt, W_lt, W_ge, W_le, W_int, W_abs, W_mod, W_div, W_mul, W_pow, W_add, W_sub, W_eqI, Bool.false_xor, Bool.true_xor, PV.bl.injEq, PV.int.injEq, Prod.mk.injEq, List.length_cons, List.length_nil, Nat.zero_add, Nat.reduceAdd, decide_eq_true_eq, items_ref e3', ea]
    refine ⟨by simp, ?_, i + 1, col ++ [xs[j]], il, rfl, by simp, ?_, by simp [hc], ?_, ?_, ?_⟩
    · rw [List.length_map]
      exact decide_eq_true (by have := t.tab.len; omega)
    · rw [set_last]
    · intro v hv
      rcases List.mem_append.mp hv with z | z
      · exact hb v z
      · simp only [List.mem_singleton] at z
        rw [z]
        exact hbx _ (List.getElem_mem hjx)
    · intro a ha hh
      rcases Nat.lt_or_ge a i with z | z
      · exact List.mem_append_left _ (h1 a z hh)
      · have e : a = i := by omega
        subst e
        obtain ⟨ys, g1, g2⟩ := hh
        rw [e2] at g1
        cases g1
        rw [List.getElem?_eq_getElem hjx] at g2
        refine List.mem_append_right _ ?_
        rw [Option.some.inj g2]
        exact List.mem_singleton.mpr rfl
    · intro hv
      rcases List.mem_append.mp hv with z | z
      · exact h2 z
      · simp only [List.mem_singleton] at z
        exact ⟨i, xs, e2, by rw [List.getElem?_eq_getElem hjx, ← z]⟩
  · obtain ⟨i, col, hi, hy, rfl, rfl, hc, hb, h1, h2⟩ := h
    have e : rs.length ≤ i := by
      rcases Nat.lt_or_ge i rs.length with z | z
      · rw [List.drop_eq_getElem_cons z] at hy
        cases hy
      · exact z
    refine q col hb (fun a ha => h1 a ?_ ha) h2
    obtain ⟨ys, g1, _⟩ := ha
    have := (List.getElem?_eq_some_iff.mp g1).1
    have := t.tab.len
    omega
end Kp
set_option Elab.async false
set_option linter.all false
set_option maxRecDepth 100000
set_option maxHeartbeats 4000000
namespace Kp
open PySem PySem.Spec L2 Ip
variable {fo : Bool} {S0 S : Store} {T k m n th : Nat} {rs : List Nat} {rows : List (List Int)} {x2 x3 x4 x8 : Option PV} {F : Fl → Store → Prop} {Q : PV → Store → Prop}
theorem TS.app {G : Store} (t : TS S0 S T k n rs rows) : TS S0 (S ++ G) T k n rs rows := t.frame Fr1.app t.box.app
theorem loop3 (hm : 1 ≤ m ∧ m ≤ 6) (hn : 1 ≤ n ∧ n ≤ 6) (t : TS S0 S T k n rs rows) (hl : rows.length = m) (hr : ∀ a < m, ∃ b, Has rows a b)
    (q : ∀ y3 S' rows, TS S0 S' T k n rs rows → rows.length = m → (∀ a < m, ∃ b, Has rows a b) → (∀ b < n, ∃ a, Has rows a b) → F (.nx (slots k T m n th x2 y3 x4 x8)) S') :
    W (sFor (iRange (aCons (mVar 6) aNil)) (gN 3) (sIf (mTest (mOp (vEq false) (mCall vSum (aCons (mLc (iSeq (mVar 1)) (gN 8) tYesM (mOp vIdx (mVar 8) (mVar 3)) [8]) aNil)) (mCon (.int 0)))) (sAsg (mCon (.int 1)) (gI (mOp vIdx (mVar 1) (mFn (m__law_take fo) (aCons (mVar 0) (aCons (mVar 5) aNil)))) (mVar 3))) sSkip) (slots k T m n th x2 x3 x4 x8) S) F := by
  rw [W_for]
  refine W_range1 ?_
  simp only [W_def, W_seq, W_if, W_ite, W_test, W_op, W_var, W_con, W_set, W_put, W_ret, W_expr, W_call, W_fn, W_cons, W_nil, W_skip, W_tup, W_lst, List.set_cons_zero, List.set_cons_succ, List.getElem?_cons_zero, List.getElem?_cons_succ, Option.some.injEq, exists_eq_left', exists_eq_left, W_idx, W_gt, W_lt, W_ge, W_le, W_int, W_abs, W_mod, W_div, W_mul, W_pow, W_add, W_sub, W_eqI, Bool.false_xor, Bool.true_xor, PV.bl.injEq, PV.int.injEq, Prod.mk.injEq, List.length_cons, List.length_nil, Nat.zero_add, Nat.reduceAdd, decide_eq_true_eq, slots]
  refine ⟨n, rfl, by omega, ?_⟩
  rw [Int.toNat_natCast]
  refine W_forM (xs := []) (fun ys σ S2 => ∃ i y3 rows, i ≤ n ∧ ys = rangeP (i : Int) (n - i) ∧ σ = slots k T m n th x2 y3 x4 x8 ∧ TS S0 S2 T k n rs rows ∧ rows.length = m ∧ (∀ a < m, ∃ b, Has rows a b) ∧ ∀ b < i, ∃ a, Has rows a b) (fun _ _ _ _ => rfl) (fun x ys σ S2 h => ?_) (fun σ S2 h => ?_) _ _ _ ⟨0, x3, rows, by omega, by simp, rfl, t, hl, hr, fun a h => absurd h (Nat.not_lt_zero _)⟩
  · obtain ⟨i, y3, rows, hi, hx, rfl, ts, hl, hr, hh⟩ := h
    obtain ⟨h1, rfl, h3⟩ := rest_cons hi hx
    show W (some _) _
    rw [W_some]
    simp only [W_def, W_seq, W_if, W_ite, W_test, W_op, W_var, W_con, W_set, W_put, W_ret, W_expr, W_call, W_fn, W_cons, W_nil, W_skip, W_tup, W_lst, List.set_cons_zero, List.set_cons_succ, List.getElem?_cons_zero, List.getElem?_cons_succ, Option.some.injEq, exists_eq_left', exists_eq_left, W_idx, W_gt, W_lt, W_ge, W_le, W_int, W_abs, W_mod, W_div, W_mul, W_pow, W_add, W_sub, W_eqI, Bool.false_xor, Bool.true_xor, PV.bl.injEq, PV.int.injEq, Prod.mk.injEq, List.length_cons, List.length_nil, Nat.zero_add, Nat.reduceAdd, decide_eq_true_eq]
    refine col_spec ts h1 (by omega) fun col hb c1 c2 => ?_
    have hs : listOf (.ref S2.length) (S2 ++ [Ob.lst (col.map PV.int)]) = some (col.map PV.int) := items_ref (by simp)
    simp only [W_def, W_seq, W_if, W_ite, W_test, W_op, W_var, W_con, W_set, W_put, W_ret, W_expr, W_call, W_fn, W_cons, W_nil, W_skip, W_tup, W_lst, List.set_cons_zero, List.set_cons_succ, List.getElem?_cons_zero, List.getElem?_cons_succ, Option.some.injEq, exists_eq_left', exists_eq_left, W_idx, W_gt, W_lt, W_ge, W_le, W_int, W_abs, W_mod, W_div, W_mul, W_pow, W_add, W_sub, W_eqI, Bool.false_xor, Bool.true_xor, PV.bl.injEq, PV.int.injEq, Prod.mk.injEq, List.length_cons, List.length_nil, Nat.zero_add, Nat.reduceAdd, decide_eq_true_eq, W_sum hs intsOf_map]
    obtain ⟨s0, s1⟩ := bits_sum hb
    have ta : TS S0 (S2 ++ [Ob.lst (col.map PV.int)]) T k n rs rows := ts.app
    have it := items_ref ta.tab.top
    split
    · rename_i hz
      refine take_fr ta.box (by omega) (by omega) fun d S3 d0 d1 b3 f3 l3 => ?_
      have t3 := ta.frame f3 b3
      have hd : d.toNat < rows.length := by omega
      obtain ⟨r, xs, e1, e2, e3, hbx, hxl⟩ := t3.rowAt hd
      have er : atI (rs.map PV.ref) d = some (.ref r) := by
        have := atRef e1
        rwa [Int.toNat_of_nonneg d0] at this
      have it3 := items_ref t3.tab.top
      simp only [W_def, W_seq, W_if, W_ite, W_test, W_op, W_var, W_con, W_set, W_put, W_ret, W_expr, W_call, W_fn, W_cons, W_nil, W_skip, W_tup, W_lst, List.set_cons_zero, List.set_cons_succ, List.getElem?_cons_zero, List.getElem?_cons_succ, Option.some.injEq, exists_eq_left', exists_eq_left, W_idx, W_gt, W_lt, W_ge, W_le, W_int, W_abs, W_mod, W_div, W_mul, W_pow, W_add, W_sub, W_eqI, Bool.false_xor, Bool.true_xor, PV.bl.injEq, PV.int.injEq, Prod.mk.injEq, List.length_cons, List.length_nil, Nat.zero_add, Nat.reduceAdd, decide_eq_true_eq, it3, er, mut_ref e3, ixN_lt (n := (xs.map PV.int).length) (d := (i : Int)) (by omega) (by rw [List.length_map]; omega), Int.toNat_natCast]
      refine ⟨i + 1, some (.int i), _, h1, h3, rfl, t3.put e1 e2, by simp [hl], fun a ha => ?_, fun b hb' => ?_⟩
      · obtain ⟨b, hb'⟩ := hr a ha
        exact ⟨b, hb'.set e2⟩
      · rcases Nat.lt_or_ge b i with q1 | q1
        · obtain ⟨a, ha⟩ := hh b q1
          exact ⟨a, ha.set e2⟩
        · have e : b = i := by omega
          subst e
          exact ⟨_, Has.new e2 (by omega)⟩
    · rename_i hz
      refine ⟨i + 1, some (.int i), rows, h1, h3, rfl, ta, hl, hr, fun b hb' => ?_⟩
      rcases Nat.lt_or_ge b i with q1 | q1
      · exact hh b q1
      · have e : b = i := by omega
        subst e
        exact c2 (Classical.byContradiction fun z => hz (s1.mpr z))
  · obtain ⟨i, y3, rows, hi, hx, rfl, ts, hl, hr, hh⟩ := h
    have e := rest_nil hi hx
    subst e
    exact q y3 S2 rows ts hl hr hh
end Kp
set_option Elab.async false
set_option linter.all false
set_option maxRecDepth 100000
set_option maxHeartbeats 4000000
namespace Kp
open PySem PySem.Spec L2 Ip
variable {fo : Bool} {S0 S : Store} {T k m n th : Nat} {rs : List Nat} {rows : List (List Int)} {x2 x3 x4 x8 : Option PV} {F : Fl → Store → Prop} {Q : PV → Store → Prop}
def bit (rows : List (List Int)) (a b : Nat) : Bool := decide ((rows[a]?.bind fun xs => xs[b]?) = some 1)
theorem bit_has {a b : Nat} : bit rows a b = true ↔ Has rows a b := by
  unfold bit Has
  rw [decide_eq_true_eq, Option.bind_eq_some_iff]
def pv (e : Nat × Nat) : PV := .tup [.int e.1, .int e.2]
def prs (f : Nat → Nat → Bool) (m n : Nat) : List (Nat × Nat) := (List.range m).flatMap fun a => ((List.range n).filter (f a)).map fun b => (a, b)
theorem prs_succ {f : Nat → Nat → Bool} : prs f (m + 1) n = prs f m n ++ ((List.range n).filter (f m)).map fun b => (m, b) := by
  unfold prs
  rw [List.range_succ, List.flatMap_append]
  simp
theorem prs_len {f : Nat → Nat → Bool} : ∀ {m : Nat}, (prs f m n).length ≤ m * n
  | 0 => by simp [prs]
  | m + 1 => by
    rw [prs_succ, List.length_append, List.length_map]
    have h1 := prs_len (f := f) (m := m)
    have h2 : ((List.range n).filter (f m)).length ≤ n := by
      have := List.length_filter_le (f m) (List.range n)
      rwa [List.length_range] at this
    rw [Nat.succ_mul]
    omega
theorem cut_spec {a : Nat} (t : TS S0 S T k n rs rows) (ha : a < rows.length) (hn : n ≤ 6) (q : Q (.ref S.length) (S ++ [.lst ((((List.range n).filter (bit rows a)).map fun b => (a, b)).map pv)])) :
    W (mLc (iRange (aCons (mVar 6) aNil)) (gN 3) (mTest (mOp (vEq false) (mOp vIdx (mOp vIdx (mVar 1) (mVar 2)) (mVar 3)) (mCon (.int 1)))) (mTup (aCons (mVar 2) (aCons (mVar 3) aNil))) [3] (slots k T m n th (some (.int a)) x3 x4 x8) S) Q := by
  rw [W_lc]
  refine W_range1 ?_
  simp only [W_def, W_seq, W_if, W_ite, W_test, W_op, W_var, W_con, W_set, W_put, W_ret, W_expr, W_call, W_fn, W_cons, W_nil, W_skip, W_tup, W_lst, List.set_cons_zero, List.set_cons_succ, List.getElem?_cons_zero, List.getElem?_cons_succ, Option.some.injEq, exists_eq_left', exists_eq_left, W_idx, W_gt, W_lt, W_ge, W_le, W_int, W_abs, W_mod, W_div, W_mul, W_pow, W_add, W_sub, W_eqI, Bool.false_xor, Bool.true_xor, PV.bl.injEq, PV.int.injEq, Prod.mk.injEq, List.length_cons, List.length_nil, Nat.zero_add, Nat.reduceAdd, decide_eq_true_eq, slots]
  refine ⟨n, rfl, by omega, ?_⟩
  rw [Int.toNat_natCast]
  refine W_lcM (fun ys acc S2 => ∃ i, i ≤ n ∧ ys = rangeP (i : Int) (n - i) ∧ acc = (((List.range i).filter (bit rows a)).map fun b => (a, b)).map pv ∧ S2 = S ++ [.lst acc]) (fun _ _ _ _ => rfl) (fun x ys acc S2 h => ?_) (fun acc S2 h => ?_) _ _ _ ⟨0, by omega, by simp, rfl, rfl⟩
  · obtain ⟨i, hi, hx, rfl, rfl⟩ := h
    obtain ⟨h1, rfl, h3⟩ := rest_cons hi hx
    show W (some _) _
    rw [W_some]
    obtain ⟨r, xs, e1, e2, e3, hbx, hxl⟩ := t.rowAt ha
    have hix : i < xs.length := by omega
    have top' : itemsOf (.ref T) (S ++ [Ob.lst ((((List.range i).filter (bit rows a)).map fun b => (a, b)).map pv)]) = some (rs.map .ref) := items_ref (by rw [List.getElem?_append_left t.tab.topLt]; exact t.tab.top)
    have row' : itemsOf (.ref r) (S ++ [Ob.lst ((((List.range i).filter (bit rows a)).map fun b => (a, b)).map pv)]) = some (xs.map .int) := items_ref (by rw [List.getElem?_append_left (List.getElem?_eq_some_iff.mp e3).1]; exact e3)
    have ea : atI (xs.map PV.int) (i : Int) = some (.int xs[i]) := atI_nat (by simp [hix])
    have hbit : bit rows a i = decide (xs[i] = 1) := by
      unfold bit
      rw [e2]
      show decide (xs[i]? = some 1) = _
      rw [List.getElem?_eq_getElem hix]
      simp
    show W (mTest (mOp (vEq false) (mOp vIdx (mOp vIdx (mVar 1) (mVar 2)) (mVar 3)) (mCon (.int 1))) [some (.ref k), some (.ref T), some (.int a), some (.int i), x4, some (.int m), some (.int n), some (.int th), x8] _) _
    have hw : List.set (wipeP [some (.ref k), some (.ref T), some (.int a), x3, x4, some (.int m), some (.int n), some (.int th), x8] [3]) 3 (some (PV.int i)) = [some (.ref k), some (.ref T), some (.int a), some (.int i), x4, some (.int m), some (.int n), some (.int th), x8] := rfl
    simp only [W_def, W_seq, W_if, W_ite, W_test, W_op, W_var, W_con, W_set, W_put, W_ret, W_expr, W_call, W_fn, W_cons, W_nil, W_skip, W_tup, W_lst, List.set_cons_zero, List.set_cons_succ, List.getElem?_cons_zero, List.getElem?_cons_succ, Option.some.injEq, exists_eq_left', exists_eq_left, W_idx, W_gt, W_lt, W_ge, W_le, W_int, W_abs, W_mod, W_div, W_mul, W_pow, W_add, W_sub, W_eqI, Bool.false_xor, Bool.true_xor, PV.bl.injEq, PV.int.injEq, Prod.mk.injEq, List.length_cons, List.length_nil, Nat.zero_add, Nat.reduceAdd, decide_eq_true_eq, top', atRef e1, row', ea, hw]
    by_cases h : xs[i] = 1
    · rw [if_pos h]
      have hb1 : bit rows a i = true := by rw [hbit]; exact decide_eq_true h
      refine ⟨by decide, by simp, ?_, i + 1, h1, h3, ?_, ?_⟩
      · rw [List.length_map, List.length_map]
        have := List.length_filter_le (bit rows a) (List.range i)
        rw [List.length_range] at this
        exact decide_eq_true (by omega)
      · rw [List.range_succ, List.filter_append]
        simp [hb1, pv]
      · rw [set_last]
    · rw [if_neg h]
      have hb1 : bit rows a i = false := by rw [hbit]; exact decide_eq_false h
      refine ⟨i + 1, h1, h3, ?_, trivial⟩
      rw [List.range_succ, List.filter_append]
      simp [hb1]
  · obtain ⟨i, hi, hx, rfl, rfl⟩ := h
    have e := rest_nil hi hx
    subst e
    exact q
end Kp
set_option Elab.async false
set_option linter.all false
set_option maxRecDepth 100000
set_option maxHeartbeats 4000000
namespace Kp
open PySem PySem.Spec L2 Ip
variable {fo : Bool} {S0 S : Store} {T k m n th : Nat} {rs : List Nat} {rows : List (List Int)} {x2 x3 x4 x8 : Option PV} {F : Fl → Store → Prop} {Q : PV → Store → Prop}
theorem TS.out {p : Nat} {o : Ob} (t : TS S0 S T k n rs rows) (h1 : p ≠ k) (h2 : p ≠ T) (h3 : p ∉ rs) (h4 : S0.length ≤ p) : TS S0 (S.set p o) T k n rs rows :=
  ⟨⟨by rw [List.getElem?_set_ne h2]; exact t.tab.top, t.tab.len, t.tab.nd, t.tab.off, fun i r xs e1 e2 => by
    have hne : p ≠ r := fun z => h3 (by rw [z]; exact List.mem_of_getElem? e1)
    rw [List.getElem?_set_ne hne]
    exact t.tab.row i r xs e1 e2, t.tab.tk⟩, t.ok, t.box.keep h1, t.fr.put h4, t.newT, t.newR⟩
abbrev slots4 (k T p m n th : Nat) (x2 x3 x8 : Option PV) : PEnv := slots k T m n th x2 x3 (some (.ref p)) x8
theorem loop4 {p : Nat} (hm : 1 ≤ m ∧ m ≤ 6) (hn : 1 ≤ n ∧ n ≤ 6) (t : TS S0 S T k n rs rows) (hl : rows.length = m) (hp : S[p]? = some (.lst [])) (h1 : p ≠ k) (h2 : p ≠ T) (h3 : p ∉ rs) (h4 : S0.length ≤ p)
    (q : ∀ y2 S', Box S' k → Fr1 k S0 S' → S'[p]? = some (.lst ((prs (bit rows) m n).map pv)) → F (.nx (slots4 k T p m n th y2 x3 x8)) S') :
    W (sFor (iRange (aCons (mVar 5) aNil)) (gN 2) (sExpr (mMeth fExtend (mVar 4) (aCons (mLc (iRange (aCons (mVar 6) aNil)) (gN 3) (mTest (mOp (vEq false) (mOp vIdx (mOp vIdx (mVar 1) (mVar 2)) (mVar 3)) (mCon (.int 1)))) (mTup (aCons (mVar 2) (aCons (mVar 3) aNil))) [3]) aNil))) (slots4 k T p m n th x2 x3 x8) S) F := by
  rw [W_for]
  refine W_range1 ?_
  simp only [W_def, W_seq, W_if, W_ite, W_test, W_op, W_var, W_con, W_set, W_put, W_ret, W_expr, W_call, W_fn, W_cons, W_nil, W_skip, W_tup, W_lst, List.set_cons_zero, List.set_cons_succ, List.getElem?_cons_zero, List.getElem?_cons_succ, Option.some.injEq, exists_eq_left', exists_eq_left, W_idx, W_gt, W_lt, W_ge, W_le, W_int, W_abs, W_mod, W_div, W_mul, W_pow, W_add, W_sub, W_eqI, Bool.false_xor, Bool.true_xor, PV.bl.injEq, PV.int.injEq, Prod.mk.injEq, List.length_cons, List.length_nil, Nat.zero_add, Nat.reduceAdd, decide_eq_true_eq, slots4, slots]
  refine ⟨m, rfl, by omega, ?_⟩
  rw [Int.toNat_natCast]
  refine W_forM (xs := []) (fun ys σ S2 => ∃ i y2, i ≤ m ∧ ys = rangeP (i : Int) (m - i) ∧ σ = slots4 k T p m n th y2 x3 x8 ∧ TS S0 S2 T k n rs rows ∧ S2[p]? = some (.lst ((prs (bit rows) i n).map pv))) (fun _ _ _ _ => rfl) (fun x ys σ S2 h => ?_) (fun σ S2 h => ?_) _ _ _ ⟨0, x2, by omega, by simp, rfl, t, hp⟩
  · obtain ⟨i, y2, hi, hx, rfl, ts, hpp⟩ := h
    obtain ⟨g1, rfl, g3⟩ := rest_cons hi hx
    show W (some _) _
    rw [W_some]
    simp only [W_def, W_seq, W_if, W_ite, W_test, W_op, W_var, W_con, W_set, W_put, W_ret, W_expr, W_call, W_fn, W_cons, W_nil, W_skip, W_tup, W_lst, List.set_cons_zero, List.set_cons_succ, List.getElem?_cons_zero, List.getElem?_cons_succ, Option.some.injEq, exists_eq_left', exists_eq_left, W_idx, W_gt, W_lt, W_ge, W_le, W_int, W_abs, W_mod, W_div, W_mul, W_pow, W_add, W_sub, W_eqI, Bool.false_xor, Bool.true_xor, PV.bl.injEq, PV.int.injEq, Prod.mk.injEq, List.length_cons, List.length_nil, Nat.zero_add, Nat.reduceAdd, decide_eq_true_eq, W_extend]
    refine ⟨⟨_, mut_ref hpp⟩, ?_⟩
    have pl := (List.getElem?_eq_some_iff.mp hpp).1
    refine cut_spec ts (by omega) hn.2 ?_
    generalize hC : (((List.range n).filter (bit rows i)).map fun b => (i, b)) = C
    have hCl : C.length ≤ n := by
      rw [← hC, List.length_map]
      have := List.length_filter_le (bit rows i) (List.range n)
      rwa [List.length_range] at this
    have hpp' : (S2 ++ [Ob.lst (C.map pv)])[p]? = some (.lst ((prs (bit rows) i n).map pv)) := by rw [List.getElem?_append_left pl]; exact hpp
    have hlast : mutAt (.ref S2.length) (S2 ++ [Ob.lst (C.map pv)]) = some (S2.length, C.map pv) := mut_ref (by simp)
    refine ⟨_, mut_ref hpp', (.non, (prs (bit rows) i n).map pv ++ C.map pv), ?_, i + 1, some (.int i), g1, g3, rfl, ts.app.out h1 h2 h3 h4, ?_⟩
    · show (mutAt (.ref S2.length) (S2 ++ [Ob.lst (C.map pv)])).bind (fun z => if szB (((prs (bit rows) i n).map pv).length + z.2.length) then some (PV.non, (prs (bit rows) i n).map pv ++ z.2) else none) = _
      rw [hlast]
      show (if szB (((prs (bit rows) i n).map pv).length + (C.map pv).length) = true then some (PV.non, (prs (bit rows) i n).map pv ++ C.map pv) else none) = _
      have b1 := prs_len (f := bit rows) (n := n) (m := i)
      have b2 : i * n ≤ 6 * 6 := Nat.mul_le_mul (by omega) hn.2
      rw [if_pos]
      rw [List.length_map, List.length_map]
      exact decide_eq_true (by omega)
    · have : p < (S2 ++ [Ob.lst (C.map pv)]).length := by simp; omega
      rw [List.getElem?_set_self this, prs_succ, hC, List.map_append]
  · obtain ⟨i, y2, hi, hx, rfl, ts, hpp⟩ := h
    have e := rest_nil hi hx
    subst e
    exact q y2 S2 ts.box ts.fr hpp
/-- a bond as the law draws it -/
structure Bd where
  m : Nat
  n : Nat
  f : Nat → Nat → Bool
structure Bd.Ok (B : Bd) : Prop where
  m1 : 1 ≤ B.m
  m6 : B.m ≤ 6
  n1 : 1 ≤ B.n
  n6 : B.n ≤ 6
  rows : ∀ a < B.m, ∃ b < B.n, B.f a b = true
  cols : ∀ b < B.n, ∃ a < B.m, B.f a b = true
def Bd.ps (B : Bd) : List (Nat × Nat) := prs B.f B.m B.n
def Bd.v (B : Bd) : PV := .tup [.int B.m, .int B.n, .tup (B.ps.map pv)]
end Kp
set_option Elab.async false
set_option linter.all false
set_option maxRecDepth 100000
set_option maxHeartbeats 4000000
namespace Kp
open PySem PySem.Spec L2 Ip
variable {fo : Bool} {S0 S : Store} {T k m n th : Nat} {rs : List Nat} {rows : List (List Int)} {x2 x3 x4 x8 : Option PV} {F : Fl → Store → Prop} {Q : PV → Store → Prop}
theorem W_asg {σ : PEnv} {ma : ME} {g : MG} : W (sAsg ma g σ S) F = W (ma σ S) fun p S1 => W (g p σ S1) fun σ' S2 => F (.nx σ') S2 := by
  unfold sAsg
  rw [W_m2]
  congr 1
  funext p S1
  rw [W_map]
theorem W_gT3 {σ : PEnv} {a b c : PV} {i j l : Nat} {R : PEnv → Store → Prop} : W (gT 3 (gsC (gN i) (gsC (gN j) (gsC (gN l) gsN))) (.tup [a, b, c]) σ S) R = R (((σ.set i (some a)).set j (some b)).set l (some c)) S := W_some
theorem pick_fr {p : PV} {xs : List PV} (b : Box S k) (hp : p ≠ .ref k) (hx : itemsOf p S = some xs) (h0 : 0 < xs.length) (h1 : xs.length < 1000000)
    (q : ∀ (j : Nat) (v : PV) (S' : Store), xs[j]? = some v → Box S' k → Fr1 k S S' → S'.length = S.length → Q v S') : W (m__law_pick fo [.ref k, p] S) Q :=
  pick_spec b hp hx h0 h1 fun j v g r e a3 a4 a5 => q j v _ e (Box.set b.lt a3 a4 a5) Fr1.box (by simp)
theorem bond_spec (b : Box S k) (q : ∀ (B : Bd) (S' : Store), B.Ok → Box S' k → Fr1 k S S' → Q B.v S') : W (m__law_bond fo [.ref k] S) Q := by
  unfold m__law_bond
  simp only [W_def, W_seq, W_asg, W_gT3]
  simp only [W_def, W_seq, W_if, W_ite, W_test, W_op, W_var, W_con, W_set, W_put, W_ret, W_expr, W_call, W_fn, W_cons, W_nil, W_skip, W_tup, W_lst, List.set_cons_zero, List.set_cons_succ, List.getElem?_cons_zero, List.getElem?_cons_succ, Option.some.injEq, exists_eq_left', exists_eq_left, W_idx, W_gt, W_lt, W_ge, W_le, W_int, W_abs, W_mod, W_div, W_mul, W_pow, W_add, W_sub, W_eqI, Bool.false_xor, Bool.true_xor, PV.bl.injEq, PV.int.injEq, Prod.mk.injEq, List.length_cons, List.length_nil, Nat.zero_add, Nat.reduceAdd, decide_eq_true_eq, (show startP N__law_bond [PV.ref k] = [some (.ref k), none, none, none, none, none, none, none, none] from rfl)]
  refine take_fr b (by omega) (by omega) fun d1 S1 a1 a2 b1 f1 l1 => ?_
  simp only [W_def, W_seq, W_if, W_ite, W_test, W_op, W_var, W_con, W_set, W_put, W_ret, W_expr, W_call, W_fn, W_cons, W_nil, W_skip, W_tup, W_lst, List.set_cons_zero, List.set_cons_succ, List.getElem?_cons_zero, List.getElem?_cons_succ, Option.some.injEq, exists_eq_left', exists_eq_left, W_idx, W_gt, W_lt, W_ge, W_le, W_int, W_abs, W_mod, W_div, W_mul, W_pow, W_add, W_sub, W_eqI, Bool.false_xor, Bool.true_xor, PV.bl.injEq, PV.int.injEq, Prod.mk.injEq, List.length_cons, List.length_nil, Nat.zero_add, Nat.reduceAdd, decide_eq_true_eq]
  refine take_fr b1 (by omega) (by omega) fun d2 S2 a3 a4 b2 f2 l2 => ?_
  simp only [W_def, W_seq, W_if, W_ite, W_test, W_op, W_var, W_con, W_set, W_put, W_ret, W_expr, W_call, W_fn, W_cons, W_nil, W_skip, W_tup, W_lst, List.set_cons_zero, List.set_cons_succ, List.getElem?_cons_zero, List.getElem?_cons_succ, Option.some.injEq, exists_eq_left', exists_eq_left, W_idx, W_gt, W_lt, W_ge, W_le, W_int, W_abs, W_mod, W_div, W_mul, W_pow, W_add, W_sub, W_eqI, Bool.false_xor, Bool.true_xor, PV.bl.injEq, PV.int.injEq, Prod.mk.injEq, List.length_cons, List.length_nil, Nat.zero_add, Nat.reduceAdd, decide_eq_true_eq]
  refine ⟨by decide, ?_⟩
  have k2 := b2.lt
  have b3 : Box (S2 ++ [Ob.lst [PV.int 2, PV.int 2, PV.int 3, PV.int 6]]) k := b2.app
  refine pick_fr (xs := [PV.int 2, PV.int 2, PV.int 3, PV.int 6]) b3 (fun z => by cases z; omega) (items_ref (by simp)) (by decide) (by decide) fun j v S4 hv b4 f4 l4 => ?_
  obtain ⟨th, rfl, ht⟩ : ∃ th : Nat, v = .int th ∧ 1 ≤ th ∧ th ≤ 6 := by
    rcases j with _ | _ | _ | _ | j
    · cases hv; exact ⟨2, rfl, by decide, by decide⟩
    · cases hv; exact ⟨2, rfl, by decide, by decide⟩
    · cases hv; exact ⟨3, rfl, by decide, by decide⟩
    · cases hv; exact ⟨6, rfl, by decide, by decide⟩
    · simp at hv
  obtain ⟨m, em, hm⟩ : ∃ m : Nat, 1 + d1 = (m : Int) ∧ 1 ≤ m ∧ m ≤ 6 := ⟨(1 + d1).toNat, by omega, by omega, by omega⟩
  obtain ⟨n, en, hn⟩ : ∃ n : Nat, 1 + d2 = (n : Int) ∧ 1 ≤ n ∧ n ≤ 6 := ⟨(1 + d2).toNat, by omega, by omega, by omega⟩
  rw [em, en, W_gT3]
  refine ⟨by decide, by decide, ?_⟩
  show W (some _) _
  rw [W_some]
  have F4 : Fr1 k S S4 := ((f1.trans f2).trans (Fr1.app (G := [Ob.lst [PV.int 2, PV.int 2, PV.int 3, PV.int 6]]))).trans f4
  have k4 := b4.lt
  have t0 : TS S (S4 ++ [Ob.lst []]) S4.length k n [] [] :=
    ⟨⟨by simp, rfl, .nil, (fun r h => nomatch h), (fun i r xs h => by simp at h), by omega⟩, (fun r h => nomatch h), b4.app, F4.trans Fr1.app, F4.len, fun r h => nomatch h⟩
  refine loop1 (m := m) (th := th) hm hn ht t0 fun y2 S5 rs rows t5 hl5 => ?_
  refine loop2 (th := th) hm hn t5 hl5 fun z2 S6 rows t6 hl6 hr6 => ?_
  refine loop3 (th := th) hm hn t6 hl6 hr6 fun y3 S7 rows t7 hl7 hr7 hc7 => ?_
  refine ⟨by decide, ?_⟩
  show W (some _) _
  rw [W_some]
  have k7 := t7.box.lt
  have T7 := t7.tab.topLt
  refine loop4 (m := m) (th := th) (p := S7.length) hm hn t7.app hl7 (by simp) (by omega) (by omega) (fun z => ?_) t7.fr.len fun w2 S8 b8 f8 p8 => ?_
  · obtain ⟨i, hi⟩ := List.getElem?_of_mem z
    have := t7.tab.lt hi
    omega
  · refine ⟨.int m, rfl, .int n, rfl, .ref S7.length, rfl, ?_⟩
    rw [W_vtuple (items_ref p8)]
    refine ⟨by decide, ?_⟩
    have has_lt : ∀ {a c : Nat}, Has rows a c → a < m ∧ c < n := fun {a c} ⟨xs, h1, h2⟩ => by
      have u1 := (List.getElem?_eq_some_iff.mp h1).1
      have u2 := (List.getElem?_eq_some_iff.mp h2).1
      have u3 := (t7.ok xs (List.mem_of_getElem? h1)).2
      omega
    exact q ⟨m, n, bit rows⟩ S8 ⟨hm.1, hm.2, hn.1, hn.2, fun a ha => by
      obtain ⟨c, hc⟩ := hr7 a ha
      exact ⟨c, (has_lt hc).2, bit_has.mpr hc⟩, fun c hc => by
      obtain ⟨a, ha⟩ := hc7 c hc
      exact ⟨a, (has_lt ha).1, bit_has.mpr ha⟩⟩ b8 f8
end Kp
set_option Elab.async false
set_option linter.all false
set_option maxRecDepth 100000
set_option maxHeartbeats 4000000
namespace Kp
open PySem PySem.Spec L2 Ip
variable {fo : Bool} {S0 S : Store} {k : Nat} {F : Fl → Store → Prop} {Q : PV → Store → Prop}
/-- a list or a tuple of these -/
def Sq (d : PyData) (ds : List PyData) : Prop := d = .tuple ds ∨ d = .list ds
inductive PrD : List (Nat × Nat) → List PyData → Prop
  | nil : PrD [] []
  | cons {e : Nat × Nat} {es : List (Nat × Nat)} {d : PyData} {ds : List PyData} : Sq d [.int e.1, .int e.2] → PrD es ds → PrD (e :: es) (d :: ds)
def BdD (B : Bd) (d : PyData) : Prop := ∃ w qs, Sq d [.int B.m, .int B.n, w] ∧ Sq w qs ∧ PrD B.ps qs
theorem PrD.snoc {e : Nat × Nat} {d : PyData} (h : Sq d [.int e.1, .int e.2]) : ∀ {es : List (Nat × Nat)} {ds : List PyData}, PrD es ds → PrD (es ++ [e]) (ds ++ [d])
  | _, _, .nil => .cons h .nil
  | _, _, .cons a b => .cons a (b.snoc h)
theorem Dk.fr {n : Nat} {S S' : Store} {v : PV} {d : PyData} (h : Dk n k S v d) (f : Fr1 k S S') : Dk n k S' v d := h.mono f.old
theorem mapDk {n : Nat} {S S' : Store} (f : Fr1 k S S') : ∀ {xs : List PV} {ds : List PyData}, mapO (deep n (S.set k (.st false []))) xs = some ds → mapO (deep n (S'.set k (.st false []))) xs = some ds :=
  fun h => mapO_mono (fun x y e => (show Dk n k S' x y from (show Dk n k S x y from e).mono f.old)) _ _ h
theorem pv_D {n : Nat} {e : Nat × Nat} : Dk (n + 2) k S (pv e) (.tuple [.int e.1, .int e.2]) := rfl
theorem items_app {S G : Store} {p : PV} {xs : List PV} (h : itemsOf p S = some xs) : itemsOf p (S ++ G) = some xs := by
  cases p with
  | ref r =>
    simp only [itemsOf] at h ⊢
    split at h
    · rename_i ys hr
      rw [List.getElem?_append_left (List.getElem?_eq_some_iff.mp hr).1, hr]
      exact h
    · cases h
  | _ => exact h
theorem Fr1.both {n0 : Nat} {A B : Store} {o : Ob} (f : Fr1 k A B) : Fr1 k (A.set n0 o) (B.set n0 o) := ⟨by simpa using f.len, fun j hj hk => by
  rw [List.length_set] at hj
  by_cases e : n0 = j
  · subst e
    have := f.len
    rw [List.getElem?_set_self hj, List.getElem?_set_self (by omega)]
  · rw [List.getElem?_set_ne e, List.getElem?_set_ne e, f.old j hj hk]⟩
theorem PrD.canon : ∀ {es : List (Nat × Nat)}, PrD es (es.map fun e => .tuple [.int e.1, .int e.2])
  | [] => .nil
  | _ :: _ => .cons (.inl rfl) PrD.canon
theorem mapO_canon {n : Nat} {A : Store} : ∀ {es : List (Nat × Nat)}, mapO (deep (n + 2) A) (es.map pv) = some (es.map fun e => .tuple [.int e.1, .int e.2])
  | [] => rfl
  | _ :: es => mapO_cons rfl mapO_canon
theorem Dk.ofMap {n : Nat} {A : Store} {xs : List PV} {ds : List PyData} {n0 : Nat} (h : mapO (deep n ((A.set n0 (.st false [])).set k (.st false []))) xs = some ds) : mapO (deep n (A.set k (.st false []))) xs = some ds :=
  mapO_mono (fun x y e => deep_mono (fun j ys z => by
    by_cases hj : k = j
    · subst hj
      by_cases hl : k < A.length
      · rw [List.getElem?_set_self (by simpa using hl)] at z
        cases z
      · rw [List.getElem?_eq_none (by simp; omega)] at z
        cases z
    · rw [List.getElem?_set_ne hj] at z ⊢
      by_cases h2 : n0 = j
      · subst h2
        by_cases hl : n0 < A.length
        · rw [List.getElem?_set_self hl] at z
          cases z
        · rw [List.getElem?_eq_none (by simp; omega)] at z
          cases z
      · rwa [List.getElem?_set_ne h2] at z) n x y e) _ _ h
theorem listed_spec {B : Bd} (b : Box S k) (hB : B.Ok) (q : ∀ (v : PV) (d : PyData) (S' : Store), Dk 16 k S' v d → BdD B d → Box S' k → Fr1 k S S' → Q v S') : W (m__law_listed fo [.ref k, B.v] S) Q := by
  have hl : B.ps.length ≤ 36 := by
    have h1 := prs_len (f := B.f) (n := B.n) (m := B.m)
    have h2 : B.m * B.n ≤ 6 * 6 := Nat.mul_le_mul hB.m6 hB.n6
    exact Nat.le_trans h1 h2
  unfold m__law_listed
  simp only [W_def, W_seq, W_if, W_ite, W_test, W_op, W_var, W_con, W_set, W_put, W_ret, W_expr, W_call, W_fn, W_cons, W_nil, W_skip, W_tup, W_lst, List.set_cons_zero, List.set_cons_succ, List.getElem?_cons_zero, List.getElem?_cons_succ, Option.some.injEq, exists_eq_left', exists_eq_left, W_idx, W_gt, W_lt, W_ge, W_le, W_int, W_abs, W_mod, W_div, W_mul, W_pow, W_add, W_sub, W_eqI, Bool.false_xor, Bool.true_xor, PV.bl.injEq, PV.int.injEq, Prod.mk.injEq, List.length_cons, List.length_nil, Nat.zero_add, Nat.reduceAdd, decide_eq_true_eq, (show startP N__law_listed [PV.ref k, B.v] = [some (.ref k), some B.v, none, none] from rfl), W_lc]
  refine W_seqI ?_
  have i0 : itemsOf B.v S = some [.int B.m, .int B.n, .tup (B.ps.map pv)] := rfl
  simp only [W_def, W_seq, W_if, W_ite, W_test, W_op, W_var, W_con, W_set, W_put, W_ret, W_expr, W_call, W_fn, W_cons, W_nil, W_skip, W_tup, W_lst, List.set_cons_zero, List.set_cons_succ, List.getElem?_cons_zero, List.getElem?_cons_succ, Option.some.injEq, exists_eq_left', exists_eq_left, W_idx, W_gt, W_lt, W_ge, W_le, W_int, W_abs, W_mod, W_div, W_mul, W_pow, W_add, W_sub, W_eqI, Bool.false_xor, Bool.true_xor, PV.bl.injEq, PV.int.injEq, Prod.mk.injEq, List.length_cons, List.length_nil, Nat.zero_add, Nat.reduceAdd, decide_eq_true_eq, i0, (show ∀ a b c : PV, atI [a, b, c] 2 = some c from fun _ _ _ => rfl)]
  refine ⟨_, _, ⟨rfl, rfl⟩, ?_⟩
  refine W_lcM (fun ys acc S2 => ∃ es fs ds, B.ps = es ++ fs ∧ ys = fs.map pv ∧ acc.length = es.length ∧ mapO (deep 14 ((S2.set S.length (.st false [])).set k (.st false []))) acc = some ds ∧ PrD es ds ∧ S2[S.length]? = some (.lst acc) ∧ Box S2 k ∧ Fr1 k S S2) (fun _ _ _ _ => rfl) (fun x ys acc S2 h => ?_) (fun acc S2 h => ?_) _ _ _ ⟨[], B.ps, [], rfl, rfl, rfl, rfl, .nil, by simp, b.app, Fr1.app⟩
  · obtain ⟨es, fs, ds, hps, hys, hal, hd, hp, hn, bx, fr⟩ := h
    obtain ⟨e, fs, rfl⟩ : ∃ e fs', fs = e :: fs' := by
      cases fs with
      | nil => cases hys
      | cons e fs => exact ⟨e, fs, rfl⟩
    cases hys
    have n2 : S.length < S2.length := (List.getElem?_eq_some_iff.mp hn).1
    have kk := bx.lt
    have k0 := b.lt
    show W (some _) _
    rw [W_some]
    show W (some (true, _)) _
    rw [W_some]
    simp only [if_true]
    have ip : itemsOf (pv e) S2 = some [.int e.1, .int e.2] := rfl
    show W (mFn (m__law_pick fo) (aCons (mVar 0) (aCons (mLst (aCons (mVar 3) (aCons (mCall vList (aCons (mVar 3) aNil)) aNil))) aNil)) [some (.ref k), some B.v, none, some (pv e)] S2) _
    simp only [W_def, W_seq, W_if, W_ite, W_test, W_op, W_var, W_con, W_set, W_put, W_ret, W_expr, W_call, W_fn, W_cons, W_nil, W_skip, W_tup, W_lst, List.set_cons_zero, List.set_cons_succ, List.getElem?_cons_zero, List.getElem?_cons_succ, Option.some.injEq, exists_eq_left', exists_eq_left, W_idx, W_gt, W_lt, W_ge, W_le, W_int, W_abs, W_mod, W_div, W_mul, W_pow, W_add, W_sub, W_eqI, Bool.false_xor, Bool.true_xor, PV.bl.injEq, PV.int.injEq, Prod.mk.injEq, List.length_cons, List.length_nil, Nat.zero_add, Nat.reduceAdd, decide_eq_true_eq, W_vlist ip]
    refine ⟨by decide, ?_⟩
    generalize hE : S2 ++ [Ob.lst [PV.int e.1, PV.int e.2]] = S3
    have l3 : S3.length = S2.length + 1 := by rw [← hE]; simp
    have f3 : Fr1 k S2 S3 := by rw [← hE]; exact Fr1.app
    have b3 : Box S3 k := by rw [← hE]; exact bx.app
    have e3 : S3[S2.length]? = some (.lst [PV.int e.1, PV.int e.2]) := by rw [← hE]; simp
    refine pick_fr (xs := [pv e, .ref S2.length]) b3.app (fun z => by cases z; omega) (items_ref (by simp)) (by simp) (by simp) fun j v S5 hv b5 f5 l5 => ?_
    have F : Fr1 k S2 S5 := (f3.trans Fr1.app).trans f5
    have h5 : S5[S.length]? = some (.lst acc) := by rw [F.old _ n2 (by omega), hn]
    have l6 : S.length < S5.length := (List.getElem?_eq_some_iff.mp h5).1
    have hlen : es.length + 1 ≤ 36 := by
      have := congrArg List.length hps
      simp only [List.length_append, List.length_cons] at this
      omega
    have e5 : S5[S2.length]? = some (.lst [PV.int e.1, PV.int e.2]) := by
      rw [f5.old _ (by simp; omega) (by omega), List.getElem?_append_left (by omega), e3]
    obtain ⟨d, hdv, hsq⟩ : ∃ d, Dk 14 k (S5.set S.length (.st false [])) v d ∧ Sq d [.int e.1, .int e.2] := by
      rcases j with _ | _ | j
      · cases hv
        exact ⟨_, pv_D, .inl rfl⟩
      · cases hv
        refine ⟨.list [.int e.1, .int e.2], Dk.lst (n := 13) (by rw [List.getElem?_set_ne (by omega)]; exact e5) (by omega) rfl, .inr rfl⟩
      · simp at hv
    refine ⟨h5, ?_, es ++ [e], fs, ds ++ [d], by rw [hps]; simp, rfl, by simp [hal], ?_, hp.snoc hsq, ?_, b5.keep (by omega), (fr.trans F).put (Nat.le_refl _)⟩
    · rw [hal]
      exact decide_eq_true (by omega)
    · rw [List.set_set]
      exact mapO_app (mapDk (Fr1.both F) hd) (mapO_cons hdv rfl)
    · rw [List.getElem?_set_self l6]
  · obtain ⟨es, fs, ds, hps, hys, hal, hd, hp, hn, bx, fr⟩ := h
    have hfs : fs = [] := by
      cases fs with
      | nil => rfl
      | cons _ _ => cases hys
    subst hfs
    rw [List.append_nil] at hps
    have hd2 := Dk.ofMap hd
    have k2 := bx.lt
    have k0 := b.lt
    have n2 : S.length < S2.length := (List.getElem?_eq_some_iff.mp hn).1
    have t0 : ∀ a b c : PV, atI [a, b, c] 0 = some a := fun _ _ _ => rfl
    have t1 : ∀ a b c : PV, atI [a, b, c] 1 = some b := fun _ _ _ => rfl
    have iB : ∀ A : Store, itemsOf B.v A = some [.int B.m, .int B.n, .tup (B.ps.map pv)] := fun _ => rfl
    simp only [W_def, W_seq, W_if, W_ite, W_test, W_op, W_var, W_con, W_set, W_put, W_ret, W_expr, W_call, W_fn, W_cons, W_nil, W_skip, W_tup, W_lst, List.set_cons_zero, List.set_cons_succ, List.getElem?_cons_zero, List.getElem?_cons_succ, Option.some.injEq, exists_eq_left', exists_eq_left, W_idx, W_gt, W_lt, W_ge, W_le, W_int, W_abs, W_mod, W_div, W_mul, W_pow, W_add, W_sub, W_eqI, Bool.false_xor, Bool.true_xor, PV.bl.injEq, PV.int.injEq, Prod.mk.injEq, List.length_cons, List.length_nil, Nat.zero_add, Nat.reduceAdd, decide_eq_true_eq, iB, t0, t1]
    refine ⟨by decide, by decide, ?_⟩
    generalize hA : S2 ++ [Ob.lst [PV.int B.m, PV.int B.n, PV.ref S.length]] = A
    have lA : A.length = S2.length + 1 := by rw [← hA]; simp
    have fA : Fr1 k S2 A := by rw [← hA]; exact Fr1.app
    have bA : Box A k := by rw [← hA]; exact bx.app
    have aA : A[S2.length]? = some (.lst [.int B.m, .int B.n, .ref S.length]) := by rw [← hA]; simp
    have nA : A[S.length]? = some (.lst acc) := by rw [fA.old _ n2 (by omega), hn]
    rw [W_vtuple (items_ref nA)]
    refine ⟨by decide, by decide, ?_⟩
    generalize hC : A ++ [Ob.lst [PV.int B.m, PV.int B.n, PV.tup acc]] = C
    have lC : C.length = A.length + 1 := by rw [← hC]; simp
    have fC : Fr1 k A C := by rw [← hC]; exact Fr1.app
    have bC : Box C k := by rw [← hC]; exact bA.app
    have aC : C[A.length]? = some (.lst [.int B.m, .int B.n, .tup acc]) := by rw [← hC]; simp
    refine pick_fr (xs := [B.v, .ref S2.length, .tup [.int B.m, .int B.n, .ref S.length], .ref A.length]) bC.app (fun z => by cases z; omega) (items_ref (by simp)) (by simp) (by simp) fun j v S5 hv b5 f5 l5 => ?_
    have g5 : Fr1 k C S5 := Fr1.app.trans f5
    have F : Fr1 k S2 S5 := (fA.trans fC).trans g5
    have dacc : mapO (deep 14 (S5.set k (.st false []))) acc = some ds := mapDk F hd2
    have dn : Dk 15 k S5 (.ref S.length) (.list ds) := Dk.lst (by rw [F.old _ n2 (by omega), hn]) (by omega) dacc
    have dt : Dk 15 k S5 (.tup acc) (.tuple ds) := Dk.tup dacc
    have c3 : ∀ {w : PV} {d : PyData}, Dk 15 k S5 w d → mapO (deep 15 (S5.set k (.st false []))) [PV.int B.m, PV.int B.n, w] = some [.int B.m, .int B.n, d] := fun h => mapO_cons rfl (mapO_cons rfl (mapO_cons h rfl))
    have fin : ∀ d, Dk 16 k S5 v d → BdD B d → Q v S5 := fun d h1 h2 => q v d S5 h1 h2 b5 (fr.trans F)
    rw [← hps] at hp
    rcases j with _ | _ | _ | _ | j
    · cases hv
      exact fin _ (Dk.tup (c3 (Dk.tup mapO_canon))) ⟨_, _, .inl rfl, .inl rfl, PrD.canon⟩
    · cases hv
      exact fin _ (Dk.lst (by rw [(fC.trans g5).old _ (by omega) (by omega), aA]) (by omega) (c3 dn)) ⟨_, _, .inr rfl, .inr rfl, hp⟩
    · cases hv
      exact fin _ (Dk.tup (c3 dn)) ⟨_, _, .inl rfl, .inr rfl, hp⟩
    · cases hv
      exact fin _ (Dk.lst (by rw [g5.old _ (by omega) (by omega), aC]) (by omega) (c3 dt)) ⟨_, _, .inr rfl, .inl rfl, hp⟩
    · simp at hv
end Kp
set_option Elab.async false
set_option linter.all false
set_option maxRecDepth 100000
set_option maxHeartbeats 4000000
namespace Kp
open PySem PySem.Spec L2 Ip
variable {fo : Bool} {S0 S : Store} {k : Nat} {F : Fl → Store → Prop} {Q : PV → Store → Prop}
def natV (x : Nat) : PV := .int (x : Int)
def lotv (l : List Nat) : PV := .tup (l.map natV)
structure LotOk (size : Nat) (l : List Nat) : Prop where
  ne : l ≠ []
  asc : l.Pairwise (· < ·)
  lt : ∀ x ∈ l, x < size
theorem asc_len {size : Nat} {l : List Nat} (h : l.Pairwise (· < ·)) (hl : ∀ x ∈ l, x < size) : l.length ≤ size := by
  induction size generalizing l with
  | zero =>
    cases l with
    | nil => simp
    | cons x r => exact absurd (hl x (List.mem_cons_self ..)) (by omega)
  | succ n ih =>
    rcases List.eq_nil_or_concat l with e | ⟨r, x, e⟩
    · simp [e]
    · subst e
      rw [List.concat_eq_append] at h hl ⊢
      rw [List.pairwise_append] at h
      have := ih h.1 fun y hy => by
        have h1 := h.2.2 y hy x (List.mem_singleton.mpr rfl)
        have h2 := hl x (by simp)
        omega
      simp
      omega
theorem line_spec {size : Nat} {x2 x3 x4 x5 : Option PV} (b : Box S k) (hs : 1 ≤ size ∧ size ≤ 6)
    (q : ∀ (l : List Nat) (S' : Store), l.Pairwise (· < ·) → (∀ x ∈ l, x < size) → S'[S.length]? = some (.lst (l.map natV)) → Box S' k → Fr1 k S S' → Q (.ref S.length) S') :
    W (mLc (iRange (aCons (mVar 1) aNil)) (gN 5) (mTest (mOp (vEq false) (mFn (m__law_take fo) (aCons (mVar 0) (aCons (mCon (.int 2)) aNil))) (mCon (.int 0)))) (mVar 5) [5] [some (.ref k), some (.int size), x2, x3, x4, x5] S) Q := by
  rw [W_lc]
  refine W_range1 ?_
  simp only [W_def, W_seq, W_if, W_ite, W_test, W_op, W_var, W_con, W_set, W_put, W_ret, W_expr, W_call, W_fn, W_cons, W_nil, W_skip, W_tup, W_lst, List.set_cons_zero, List.set_cons_succ, List.getElem?_cons_zero, List.getElem?_cons_succ, Option.some.injEq, exists_eq_left', exists_eq_left, W_idx, W_gt, W_lt, W_ge, W_le, W_int, W_abs, W_mod, W_div, W_mul, W_pow, W_add, W_sub, W_eqI, Bool.false_xor, Bool.true_xor, PV.bl.injEq, PV.int.injEq, Prod.mk.injEq, List.length_cons, List.length_nil, Nat.zero_add, Nat.reduceAdd, decide_eq_true_eq]
  refine ⟨size, rfl, by omega, ?_⟩
  rw [Int.toNat_natCast]
  have hl := b.lt
  refine W_lcM (fun ys acc S2 => ∃ i l, i ≤ size ∧ ys = rangeP (i : Int) (size - i) ∧ acc = l.map natV ∧ l.Pairwise (· < ·) ∧ (∀ x ∈ l, x < i) ∧ S2[S.length]? = some (.lst acc) ∧ Box S2 k ∧ Fr1 k S S2) (fun _ _ _ _ => rfl) (fun x ys acc S2 h => ?_) (fun acc S2 h => ?_) _ _ _ ⟨0, [], by omega, by simp, rfl, .nil, (fun _ h => nomatch h), by simp, b.app, Fr1.app⟩
  · obtain ⟨i, l, hi, hx, rfl, ha, hlt, hn, bx, fr⟩ := h
    obtain ⟨h1, rfl, h3⟩ := rest_cons hi hx
    show W (some _) _
    rw [W_some]
    have hw : List.set (wipeP [some (.ref k), some (.int size), x2, x3, x4, x5] [5]) 5 (some (PV.int i)) = [some (.ref k), some (.int size), x2, x3, x4, some (.int i)] := rfl
    simp only [W_def, W_seq, W_if, W_ite, W_test, W_op, W_var, W_con, W_set, W_put, W_ret, W_expr, W_call, W_fn, W_cons, W_nil, W_skip, W_tup, W_lst, List.set_cons_zero, List.set_cons_succ, List.getElem?_cons_zero, List.getElem?_cons_succ, Option.some.injEq, exists_eq_left', exists_eq_left, W_idx, W_gt, W_lt, W_ge, W_le, W_int, W_abs, W_mod, W_div, W_mul, W_pow, W_add, W_sub, W_eqI, Bool.false_xor, Bool.true_xor, PV.bl.injEq, PV.int.injEq, Prod.mk.injEq, List.length_cons, List.length_nil, Nat.zero_add, Nat.reduceAdd, decide_eq_true_eq, hw]
    refine take_fr bx (by omega) (by omega) fun d S3 d0 d1 b3 f3 l3 => ?_
    have n2 : S.length < S2.length := (List.getElem?_eq_some_iff.mp hn).1
    have h3n : S3[S.length]? = some (.lst (l.map natV)) := by rw [f3.old _ n2 (by omega), hn]
    have hll := asc_len ha hlt
    simp only [W_def, W_seq, W_if, W_ite, W_test, W_op, W_var, W_con, W_set, W_put, W_ret, W_expr, W_call, W_fn, W_cons, W_nil, W_skip, W_tup, W_lst, List.set_cons_zero, List.set_cons_succ, List.getElem?_cons_zero, List.getElem?_cons_succ, Option.some.injEq, exists_eq_left', exists_eq_left, W_idx, W_gt, W_lt, W_ge, W_le, W_int, W_abs, W_mod, W_div, W_mul, W_pow, W_add, W_sub, W_eqI, Bool.false_xor, Bool.true_xor, PV.bl.injEq, PV.int.injEq, Prod.mk.injEq, List.length_cons, List.length_nil, Nat.zero_add, Nat.reduceAdd, decide_eq_true_eq]
    split
    · refine ⟨h3n, ?_, i + 1, l ++ [i], h1, h3, by simp [natV], ?_, ?_, ?_, b3.keep (by omega), (fr.trans f3).put (Nat.le_refl _)⟩
      · rw [List.length_map]
        exact decide_eq_true (by omega)
      · rw [List.pairwise_append]
        refine ⟨ha, by simp, fun a h b hb => ?_⟩
        rw [List.mem_singleton.mp hb]
        exact hlt a h
      · intro a h
        rcases List.mem_append.mp h with z | z
        · have := hlt a z
          omega
        · rw [List.mem_singleton.mp z]
          omega
      · rw [List.getElem?_set_self (by omega)]
    · exact ⟨i + 1, l, h1, h3, rfl, ha, fun a h => Nat.lt_succ_of_lt (hlt a h), h3n, b3, fr.trans f3⟩
  · obtain ⟨i, l, hi, hx, rfl, ha, hlt, hn, bx, fr⟩ := h
    have e := rest_nil hi hx
    subst e
    exact q l S2 ha hlt hn bx fr
/-- tuple(range(n)) -/
theorem W_rgT {σ : PEnv} {me : MA} {n : Nat} (hn : n ≤ 1000) (h : W (me σ S) fun ps S1 => ps = [.int n] ∧ Q (lotv (List.range n)) S1) : W (mRgT me σ S) Q := by
  unfold mRgT
  rw [W_m2]
  refine h.mono fun ps S1 ⟨e, q⟩ => ?_
  subst e
  have ok : RgOk 0 (n : Int) := ⟨by omega, by omega, by omega, by omega, by omega⟩
  have e0 : ends [PV.int n] = some (0, (n : Int)) := rfl
  rw [e0, Option.bind_some]
  dsimp only
  rw [if_pos ok, W_some]
  have e : PV.tup (rangeP 0 ((n : Int) - 0).toNat) = lotv (List.range n) := by
    rw [Int.sub_zero, Int.toNat_natCast]
    show PV.tup ((List.range n).map fun i : Nat => PV.int (0 + (i : Int))) = PV.tup ((List.range n).map natV)
    congr 1
    apply List.map_congr_left
    intro a _
    show PV.int (0 + (a : Int)) = PV.int (a : Int)
    rw [Int.zero_add]
  rw [e]
  exact q
theorem lots_spec {size : Nat} (b : Box S k) (hs : 1 ≤ size ∧ size ≤ 6)
    (q : ∀ (ls : List (List Nat)) (S' : Store), (∀ l ∈ ls, LotOk size l) → ls ≠ [] → ls.length ≤ 10 → S'[S.length]? = some (.lst (ls.map lotv)) → Box S' k → Fr1 k S S' → Q (.ref S.length) S') : W (m__law_lots fo [.ref k, .int size] S) Q := by
  have hl := b.lt
  unfold m__law_lots
  simp only [W_def, W_seq, W_if, W_ite, W_test, W_op, W_var, W_con, W_set, W_put, W_ret, W_expr, W_call, W_fn, W_cons, W_nil, W_skip, W_tup, W_lst, List.set_cons_zero, List.set_cons_succ, List.getElem?_cons_zero, List.getElem?_cons_succ, Option.some.injEq, exists_eq_left', exists_eq_left, W_idx, W_gt, W_lt, W_ge, W_le, W_int, W_abs, W_mod, W_div, W_mul, W_pow, W_add, W_sub, W_eqI, Bool.false_xor, Bool.true_xor, PV.bl.injEq, PV.int.injEq, Prod.mk.injEq, List.length_cons, List.length_nil, Nat.zero_add, Nat.reduceAdd, decide_eq_true_eq, (show startP N__law_lots [PV.ref k, PV.int size] = [some (.ref k), some (.int size), none, none, none, none] from rfl)]
  refine W_rgT (n := size) (by omega) ?_
  simp only [W_def, W_seq, W_if, W_ite, W_test, W_op, W_var, W_con, W_set, W_put, W_ret, W_expr, W_call, W_fn, W_cons, W_nil, W_skip, W_tup, W_lst, List.set_cons_zero, List.set_cons_succ, List.getElem?_cons_zero, List.getElem?_cons_succ, Option.some.injEq, exists_eq_left', exists_eq_left, W_idx, W_gt, W_lt, W_ge, W_le, W_int, W_abs, W_mod, W_div, W_mul, W_pow, W_add, W_sub, W_eqI, Bool.false_xor, Bool.true_xor, PV.bl.injEq, PV.int.injEq, Prod.mk.injEq, List.length_cons, List.length_nil, Nat.zero_add, Nat.reduceAdd, decide_eq_true_eq]
  refine ⟨trivial, ?_⟩
  refine take_fr b (by omega) (by omega) fun d S1 d0 d1 b1 f1 l1 => ?_
  refine ⟨by decide, by decide, ?_⟩
  rw [W_for]
  refine W_range1 ?_
  simp only [W_def, W_seq, W_if, W_ite, W_test, W_op, W_var, W_con, W_set, W_put, W_ret, W_expr, W_call, W_fn, W_cons, W_nil, W_skip, W_tup, W_lst, List.set_cons_zero, List.set_cons_succ, List.getElem?_cons_zero, List.getElem?_cons_succ, Option.some.injEq, exists_eq_left', exists_eq_left, W_idx, W_gt, W_lt, W_ge, W_le, W_int, W_abs, W_mod, W_div, W_mul, W_pow, W_add, W_sub, W_eqI, Bool.false_xor, Bool.true_xor, PV.bl.injEq, PV.int.injEq, Prod.mk.injEq, List.length_cons, List.length_nil, Nat.zero_add, Nat.reduceAdd, decide_eq_true_eq]
  refine ⟨5, rfl, by omega, ?_⟩
  rw [l1]
  have dn : PV.tup [PV.int d] = lotv [d.toNat] := by
    show PV.tup [PV.int d] = PV.tup [PV.int (d.toNat : Int)]
    rw [Int.toNat_of_nonneg d0]
  rw [dn]
  have i1 : (S1 ++ [Ob.lst [lotv (List.range size), lotv [d.toNat]]])[S.length]? = some (.lst [lotv (List.range size), lotv [d.toNat]]) := by rw [← l1]; simp
  refine W_forM (xs := []) (fun ys σ S2 => ∃ (i : Nat) (y3 y4 y5 : Option PV) (ls : List (List Nat)), i ≤ 5 ∧ ys = rangeP (i : Int) (5 - i) ∧ σ = [some (.ref k), some (.int size), some (.ref S.length), y3, y4, y5] ∧ (∀ l ∈ ls, LotOk size l) ∧ ls ≠ [] ∧ ls.length ≤ i + 2 ∧ S2[S.length]? = some (.lst (ls.map lotv)) ∧ Box S2 k ∧ Fr1 k S S2) (fun _ _ _ _ => rfl) (fun x ys σ S2 h => ?_) (fun σ S2 h => ?_) _ _ _
    ⟨0, none, none, none, [List.range size, [d.toNat]], by omega, rfl, rfl, ?_, by simp, by simp, i1, b1.app, f1.trans Fr1.app⟩
  · obtain ⟨i, y3, y4, y5, ls, hi, hx, rfl, hok, hne, hll, hn, bx, fr⟩ := h
    obtain ⟨h1, rfl, h3⟩ := rest_cons hi hx
    show W (some _) _
    rw [W_some]
    simp only [W_def, W_seq, W_if, W_ite, W_test, W_op, W_var, W_con, W_set, W_put, W_ret, W_expr, W_call, W_fn, W_cons, W_nil, W_skip, W_tup, W_lst, List.set_cons_zero, List.set_cons_succ, List.getElem?_cons_zero, List.getElem?_cons_succ, Option.some.injEq, exists_eq_left', exists_eq_left, W_idx, W_gt, W_lt, W_ge, W_le, W_int, W_abs, W_mod, W_div, W_mul, W_pow, W_add, W_sub, W_eqI, Bool.false_xor, Bool.true_xor, PV.bl.injEq, PV.int.injEq, Prod.mk.injEq, List.length_cons, List.length_nil, Nat.zero_add, Nat.reduceAdd, decide_eq_true_eq]
    refine line_spec bx hs fun l S3 ha hlt hn3 b3 f3 => ?_
    have n2 : S.length < S2.length := (List.getElem?_eq_some_iff.mp hn).1
    have hn' : S3[S.length]? = some (.lst (ls.map lotv)) := by rw [f3.old _ n2 (by omega), hn]
    simp only [W_def, W_seq, W_if, W_ite, W_test, W_op, W_var, W_con, W_set, W_put, W_ret, W_expr, W_call, W_fn, W_cons, W_nil, W_skip, W_tup, W_lst, List.set_cons_zero, List.set_cons_succ, List.getElem?_cons_zero, List.getElem?_cons_succ, Option.some.injEq, exists_eq_left', exists_eq_left, W_idx, W_gt, W_lt, W_ge, W_le, W_int, W_abs, W_mod, W_div, W_mul, W_pow, W_add, W_sub, W_eqI, Bool.false_xor, Bool.true_xor, PV.bl.injEq, PV.int.injEq, Prod.mk.injEq, List.length_cons, List.length_nil, Nat.zero_add, Nat.reduceAdd, decide_eq_true_eq, W_len (items_ref hn3)]
    split
    · rename_i hpos
      simp only [W_def, W_seq, W_if, W_ite, W_test, W_op, W_var, W_con, W_set, W_put, W_ret, W_expr, W_call, W_fn, W_cons, W_nil, W_skip, W_tup, W_lst, List.set_cons_zero, List.set_cons_succ, List.getElem?_cons_zero, List.getElem?_cons_succ, Option.some.injEq, exists_eq_left', exists_eq_left, W_idx, W_gt, W_lt, W_ge, W_le, W_int, W_abs, W_mod, W_div, W_mul, W_pow, W_add, W_sub, W_eqI, Bool.false_xor, Bool.true_xor, PV.bl.injEq, PV.int.injEq, Prod.mk.injEq, List.length_cons, List.length_nil, Nat.zero_add, Nat.reduceAdd, decide_eq_true_eq, W_append]
      refine ⟨⟨_, mut_ref hn'⟩, ?_⟩
      rw [W_vtuple (items_ref hn3)]
      refine ⟨_, mut_ref hn', _, rfl, ?_, i + 1, some (.int i), some (.ref S2.length), y5, ls ++ [l], h1, h3, rfl, ?_, by simp, by simp; omega, ?_, b3.keep (by omega), (fr.trans f3).put (Nat.le_refl _)⟩
      · rw [List.length_map]
        exact decide_eq_true (by omega)
      · intro r hr
        rcases List.mem_append.mp hr with z | z
        · exact hok r z
        · rw [List.mem_singleton.mp z]
          refine ⟨fun e => ?_, ha, hlt⟩
          subst e
          simp at hpos
      · have := (List.getElem?_eq_some_iff.mp hn').1
        rw [List.getElem?_set_self this, List.map_append]
        rfl
    · exact ⟨i + 1, some (.int i), some (.ref S2.length), y5, ls, h1, h3, rfl, hok, hne, by omega, hn', b3, fr.trans f3⟩
  · obtain ⟨i, y3, y4, y5, ls, hi, hx, rfl, hok, hne, hll, hn, bx, fr⟩ := h
    refine ⟨.ref S.length, rfl, q ls S2 hok hne (by omega) hn bx fr⟩
  · intro l h
    simp only [List.mem_cons, List.not_mem_nil, or_false] at h
    rcases h with rfl | rfl
    · exact ⟨by simp; omega, List.pairwise_lt_range, fun x hx => List.mem_range.mp hx⟩
    · exact ⟨by simp, by simp, fun x hx => by simp at hx; omega⟩
theorem fraction_spec : ∀ a b : Nat, 1 ≤ a → a ≤ 6 → 1 ≤ b → b ≤ 6 → m__law_fraction fo [.int a, .int b] S = some (.tup [.int ((a / Nat.gcd a b : Nat) : Int), .int ((b / Nat.gcd a b : Nat) : Int)], S)
  | 1, 1, _, _, _, _ | 1, 2, _, _, _, _ | 1, 3, _, _, _, _ | 1, 4, _, _, _, _ | 1, 5, _, _, _, _ | 1, 6, _, _, _, _ => by rfl
  | 2, 1, _, _, _, _ | 2, 2, _, _, _, _ | 2, 3, _, _, _, _ | 2, 4, _, _, _, _ | 2, 5, _, _, _, _ | 2, 6, _, _, _, _ => by rfl
  | 3, 1, _, _, _, _ | 3, 2, _, _, _, _ | 3, 3, _, _, _, _ | 3, 4, _, _, _, _ | 3, 5, _, _, _, _ | 3, 6, _, _, _, _ => by rfl
  | 4, 1, _, _, _, _ | 4, 2, _, _, _, _ | 4, 3, _, _, _, _ | 4, 4, _, _, _, _ | 4, 5, _, _, _, _ | 4, 6, _, _, _, _ => by rfl
  | 5, 1, _, _, _, _ | 5, 2, _, _, _, _ | 5, 3, _, _, _, _ | 5, 4, _, _, _, _ | 5, 5, _, _, _, _ | 5, 6, _, _, _, _ => by rfl
  | 6, 1, _, _, _, _ | 6, 2, _, _, _, _ | 6, 3, _, _, _, _ | 6, 4, _, _, _, _ | 6, 5, _, _, _, _ | 6, 6, _, _, _, _ => by rfl
  | 0, _, h, _, _, _ => absurd h (by omega)
  | _, 0, _, _, h, _ => absurd h (by omega)
  | a + 7, _, _, h, _, _ => absurd h (by omega)
  | _, b + 7, _, _, _, h => absurd h (by omega)
end Kp
set_option Elab.async false
set_option linter.all false
set_option maxRecDepth 100000
set_option maxHeartbeats 4000000
namespace Kp
open PySem PySem.Spec L2 Ip
variable {fo : Bool} {S0 S : Store} {T k m n th : Nat} {rs : List Nat} {rows : List (List Int)} {F : Fl → Store → Prop} {Q : PV → Store → Prop}
def Bd.sz (B : Bd) (s : Nat) : Nat := if s = 0 then B.m else B.n
def Bd.fit (B : Bd) (s a b : Nat) : Bool := if s = 0 then B.f a b else B.f b a
def co (s : Nat) (e : Nat × Nat) : Nat := if s = 0 then e.1 else e.2
theorem mem_prs {f : Nat → Nat → Bool} {m n : Nat} {e : Nat × Nat} : e ∈ prs f m n ↔ e.1 < m ∧ e.2 < n ∧ f e.1 e.2 = true := by
  unfold prs
  rw [List.mem_flatMap]
  constructor
  · rintro ⟨a, ha, h⟩
    obtain ⟨b, hb, rfl⟩ := List.mem_map.mp h
    rw [List.mem_filter] at hb
    exact ⟨List.mem_range.mp ha, List.mem_range.mp hb.1, hb.2⟩
  · rintro ⟨h1, h2, h3⟩
    exact ⟨e.1, List.mem_range.mpr h1, List.mem_map.mpr ⟨e.2, List.mem_filter.mpr ⟨List.mem_range.mpr h2, h3⟩, rfl⟩⟩
theorem Bd.at_ {B : Bd} {s : Nat} {w : PV} (hs : s = 0 ∨ s = 1) : atI [PV.int B.m, PV.int B.n, w] (s : Int) = some (.int (B.sz s)) := by
  rcases hs with rfl | rfl <;> rfl
theorem pair_at {e : Nat × Nat} {s : Nat} (hs : s = 0 ∨ s = 1) : atI [PV.int e.1, PV.int e.2] (s : Int) = some (.int (co s e)) := by
  rcases hs with rfl | rfl <;> rfl
theorem oneless {s : Nat} (hs : s = 0 ∨ s = 1) : (1 : Int) - (s : Int) = ((1 - s : Nat) : Int) := by omega
theorem zero_row {σ : PEnv} {me : MA} {n : Nat} (hn : n ≤ 6) (h : W (me σ S) fun ps S1 => ps = [.int n] ∧ S1 = S) (q : Q (.ref S.length) (S ++ [.lst ((List.replicate n (0 : Int)).map .int)])) :
    W (mLc (iRange me) (gN 5) tYesM (mCon (.int 0)) [5] σ S) Q := by
  rw [W_lc]
  refine W_range1 (h.mono fun ps S1 ⟨e, e2⟩ => ⟨n, e, by omega, ?_⟩)
  subst e2
  rw [Int.toNat_natCast]
  refine W_lcM (fun ys acc S2 => ∃ i, i ≤ n ∧ ys = rangeP (i : Int) (n - i) ∧ acc = (List.replicate i (0 : Int)).map .int ∧ S2 = S1 ++ [.lst acc]) (fun _ _ _ _ => rfl) (fun x ys acc S2 h => ?_) (fun acc S2 h => ?_) _ _ _ ⟨0, by omega, by simp, rfl, rfl⟩
  · obtain ⟨i, hi, hx, rfl, rfl⟩ := h
    obtain ⟨h1, rfl, h3⟩ := rest_cons hi hx
    show W (some _) _
    rw [W_some]
    show W (some (true, _)) _
    rw [W_some]
    simp only [if_true]
    simp only [W_def, W_seq, W_if, W_ite, W_test, W_op, W_var, W_con, W_set, W_put, W_ret, W_expr, W_call, W_fn, W_cons, W_nil, W_skip, W_tup, W_lst, List.set_cons_zero, List.set_cons_succ, List.getElem?_cons_zero, List.getElem?_cons_succ, Option.some.injEq, exists_eq_left', exists_eq_left, W_idx, W_gt, W_lt, W_ge, W_le, W_int, W_abs, W_mod, W_div, W_mul, W_pow, W_add, W_sub, W_eqI, Bool.false_xor, Bool.true_xor, PV.bl.injEq, PV.int.injEq, Prod.mk.injEq, List.length_cons, List.length_nil, Nat.zero_add, Nat.reduceAdd, decide_eq_true_eq]
    refine ⟨by simp, by rw [List.length_map, List.length_replicate]; exact decide_eq_true (by omega), i + 1, h1, h3, ?_, ?_⟩
    · rw [List.replicate_succ']
      simp
    · rw [set_last]
  · obtain ⟨i, hi, hx, rfl, rfl⟩ := h
    have e := rest_nil hi hx
    subst e
    exact q
theorem table_spec {B : Bd} {s : Nat} (b : Box S k) (hB : B.Ok) (hs : s = 0 ∨ s = 1)
    (q : ∀ (rs : List Nat) (rows : List (List Int)) (S' : Store), TS S S' S.length k (B.sz (1 - s)) rs rows → rows.length = B.sz s → (∀ a b, Has rows a b ↔ a < B.sz s ∧ b < B.sz (1 - s) ∧ B.fit s a b = true) → Q (.ref S.length) S') : W (m__law_table fo [B.v, .int s] S) Q := by
  have k0 := b.lt
  have hz : ∀ s, B.sz s ≤ 6 := fun s => by unfold Bd.sz; split <;> first | exact hB.m6 | exact hB.n6
  have iB : ∀ A : Store, itemsOf B.v A = some [.int B.m, .int B.n, .tup (B.ps.map pv)] := fun _ => rfl
  have hs' : 1 - s = 0 ∨ 1 - s = 1 := by omega
  unfold m__law_table
  simp only [W_def, W_seq, W_if, W_ite, W_test, W_op, W_var, W_con, W_set, W_put, W_ret, W_expr, W_call, W_fn, W_cons, W_nil, W_skip, W_tup, W_lst, List.set_cons_zero, List.set_cons_succ, List.getElem?_cons_zero, List.getElem?_cons_succ, Option.some.injEq, exists_eq_left', exists_eq_left, W_idx, W_gt, W_lt, W_ge, W_le, W_int, W_abs, W_mod, W_div, W_mul, W_pow, W_add, W_sub, W_eqI, Bool.false_xor, Bool.true_xor, PV.bl.injEq, PV.int.injEq, Prod.mk.injEq, List.length_cons, List.length_nil, Nat.zero_add, Nat.reduceAdd, decide_eq_true_eq, (show startP N__law_table [B.v, PV.int s] = [some B.v, some (.int s), none, none, none, none] from rfl), W_lc]
  refine W_range1 ?_
  simp only [W_def, W_seq, W_if, W_ite, W_test, W_op, W_var, W_con, W_set, W_put, W_ret, W_expr, W_call, W_fn, W_cons, W_nil, W_skip, W_tup, W_lst, List.set_cons_zero, List.set_cons_succ, List.getElem?_cons_zero, List.getElem?_cons_succ, Option.some.injEq, exists_eq_left', exists_eq_left, W_idx, W_gt, W_lt, W_ge, W_le, W_int, W_abs, W_mod, W_div, W_mul, W_pow, W_add, W_sub, W_eqI, Bool.false_xor, Bool.true_xor, PV.bl.injEq, PV.int.injEq, Prod.mk.injEq, List.length_cons, List.length_nil, Nat.zero_add, Nat.reduceAdd, decide_eq_true_eq, iB, Bd.at_ hs]
  refine ⟨B.sz s, rfl, by have := hz s; omega, ?_⟩
  rw [Int.toNat_natCast]
  have t0 : TS S (S ++ [Ob.lst []]) S.length k (B.sz (1 - s)) [] [] :=
    ⟨⟨by simp, rfl, .nil, (fun r h => nomatch h), (fun i r xs h => by simp at h), by omega⟩, (fun r h => nomatch h), b.app, Fr1.app, Nat.le_refl _, fun r h => nomatch h⟩
  refine W_lcM (fun ys acc S2 => ∃ i rs rows, i ≤ B.sz s ∧ ys = rangeP (i : Int) (B.sz s - i) ∧ acc = rs.map .ref ∧ TS S S2 S.length k (B.sz (1 - s)) rs rows ∧ rows.length = i ∧ ∀ a b, ¬ Has rows a b) (fun _ _ _ _ => rfl) (fun x ys acc S2 h => ?_) (fun acc S2 h => ?_) _ _ _ ⟨0, [], [], by omega, by simp, rfl, t0, rfl, fun a b ⟨xs, h, _⟩ => by simp at h⟩
  · obtain ⟨i, rs, rows, hi, hx, rfl, ts, hl, hno⟩ := h
    obtain ⟨h1, rfl, h3⟩ := rest_cons hi hx
    show W (some _) _
    rw [W_some]
    show W (some (true, _)) _
    rw [W_some]
    simp only [if_true]
    refine zero_row (n := B.sz (1 - s)) (hz _) ?_ ?_
    · show W ((aCons (mOp vIdx (mVar 0) (mOp vSub (mCon (.int 1)) (mVar 1))) aNil) [some B.v, some (.int s), none, none, some (.int i), none] S2) _
      simp only [W_def, W_seq, W_if, W_ite, W_test, W_op, W_var, W_con, W_set, W_put, W_ret, W_expr, W_call, W_fn, W_cons, W_nil, W_skip, W_tup, W_lst, List.set_cons_zero, List.set_cons_succ, List.getElem?_cons_zero, List.getElem?_cons_succ, Option.some.injEq, exists_eq_left', exists_eq_left, W_idx, W_gt, W_lt, W_ge, W_le, W_int, W_abs, W_mod, W_div, W_mul, W_pow, W_add, W_sub, W_eqI, Bool.false_xor, Bool.true_xor, PV.bl.injEq, PV.int.injEq, Prod.mk.injEq, List.length_cons, List.length_nil, Nat.zero_add, Nat.reduceAdd, decide_eq_true_eq, iB, oneless hs, Bd.at_ hs']
      exact ⟨trivial, trivial⟩
    · have hrow : (S2 ++ [Ob.lst ((List.replicate (B.sz (1 - s)) (0 : Int)).map .int)])[S2.length]? = some (.lst ((List.replicate (B.sz (1 - s)) (0 : Int)).map .int)) := by simp
      have l6 := hz s
      refine ⟨?_, ?_, i + 1, rs ++ [S2.length], rows ++ [List.replicate (B.sz (1 - s)) 0], h1, h3, by simp, ⟨?_, ?_, ?_, ?_, ts.newT, ?_⟩, by simp [hl], ?_⟩
      · rw [List.getElem?_append_left ts.tab.topLt]
        exact ts.tab.top
      · rw [List.length_map, ts.tab.len]
        exact decide_eq_true (by omega)
      · have := ts.tab.add (Fr1.app (G := [Ob.lst ((List.replicate (B.sz (1 - s)) (0 : Int)).map .int)])) hrow ts.box.lt
        rwa [List.map_append] at this
      · intro r hr
        rcases List.mem_append.mp hr with h | h
        · exact ts.ok r h
        · rw [List.mem_singleton.mp h]
          exact ⟨fun x hx => .inl (List.eq_of_mem_replicate hx), List.length_replicate⟩
      · exact (ts.box.app).keep ts.tab.tk
      · exact (ts.fr.trans Fr1.app).put ts.newT
      · intro r hr
        rcases List.mem_append.mp hr with h | h
        · exact ts.newR r h
        · rw [List.mem_singleton.mp h]
          exact ts.fr.len
      · rintro a b ⟨xs, g1, g2⟩
        by_cases ha : a < rows.length
        · rw [List.getElem?_append_left ha] at g1
          exact hno a b ⟨xs, g1, g2⟩
        · have ea : a = rows.length := by
            have := (List.getElem?_eq_some_iff.mp g1).1
            simp at this
            omega
          subst ea
          rw [List.getElem?_append_right (Nat.le_refl _), Nat.sub_self, List.getElem?_cons_zero] at g1
          cases g1
          have := List.mem_of_getElem? g2
          have := List.eq_of_mem_replicate this
          omega
  · obtain ⟨i, rs, rows, hi, hx, rfl, ts, hl, hno⟩ := h
    have e := rest_nil hi hx
    subst e
    rw [W_for]
    refine W_seqI ?_
    simp only [W_def, W_seq, W_if, W_ite, W_test, W_op, W_var, W_con, W_set, W_put, W_ret, W_expr, W_call, W_fn, W_cons, W_nil, W_skip, W_tup, W_lst, List.set_cons_zero, List.set_cons_succ, List.getElem?_cons_zero, List.getElem?_cons_succ, Option.some.injEq, exists_eq_left', exists_eq_left, W_idx, W_gt, W_lt, W_ge, W_le, W_int, W_abs, W_mod, W_div, W_mul, W_pow, W_add, W_sub, W_eqI, Bool.false_xor, Bool.true_xor, PV.bl.injEq, PV.int.injEq, Prod.mk.injEq, List.length_cons, List.length_nil, Nat.zero_add, Nat.reduceAdd, decide_eq_true_eq, iB, (show ∀ a b c : PV, atI [a, b, c] 2 = some c from fun _ _ _ => rfl)]
    refine ⟨_, _, ⟨rfl, rfl⟩, ?_⟩
    refine W_forM (xs := []) (fun ys σ S2 => ∃ y3 es fs rows, B.ps = es ++ fs ∧ ys = fs.map pv ∧ σ = [some B.v, some (.int s), some (.ref S.length), y3, none, none] ∧ TS S S2 S.length k (B.sz (1 - s)) rs rows ∧ rows.length = B.sz s ∧ ∀ a b, Has rows a b ↔ ∃ e ∈ es, co s e = a ∧ co (1 - s) e = b) (fun _ _ _ _ => rfl) (fun x ys σ S3 h => ?_) (fun σ S3 h => ?_) _ _ _
      ⟨none, [], B.ps, rows, rfl, rfl, rfl, ts, hl, fun a b => ⟨fun h => absurd h (hno a b), fun ⟨_, h, _⟩ => nomatch h⟩⟩
    · obtain ⟨y3, es, fs, rows, hps, hys, rfl, ts, hl, hh⟩ := h
      obtain ⟨e, fs, rfl⟩ : ∃ e fs', fs = e :: fs' := by
        cases fs with
        | nil => cases hys
        | cons e fs => exact ⟨e, fs, rfl⟩
      cases hys
      have he : e ∈ B.ps := by rw [hps]; simp
      obtain ⟨c1, c2, _⟩ := mem_prs.mp he
      have cs : ∀ t, t = 0 ∨ t = 1 → co t e < B.sz t := fun t ht => by
        rcases ht with rfl | rfl
        · exact c1
        · exact c2
      have c3 := cs s hs
      have c4 := cs (1 - s) hs'
      show W (some _) _
      rw [W_some]
      obtain ⟨r, xs, e1, e2, e3, hbx, hxl⟩ := ts.rowAt (i := co s e) (by omega)
      have ip : ∀ A : Store, itemsOf (pv e) A = some [.int e.1, .int e.2] := fun _ => rfl
      simp only [W_def, W_seq, W_if, W_ite, W_test, W_op, W_var, W_con, W_set, W_put, W_ret, W_expr, W_call, W_fn, W_cons, W_nil, W_skip, W_tup, W_lst, List.set_cons_zero, List.set_cons_succ, List.getElem?_cons_zero, List.getElem?_cons_succ, Option.some.injEq, exists_eq_left', exists_eq_left, W_idx, W_gt, W_lt, W_ge, W_le, W_int, W_abs, W_mod, W_div, W_mul, W_pow, W_add, W_sub, W_eqI, Bool.false_xor, Bool.true_xor, PV.bl.injEq, PV.int.injEq, Prod.mk.injEq, List.length_cons, List.length_nil, Nat.zero_add, Nat.reduceAdd, decide_eq_true_eq, ip, pair_at hs, pair_at hs', oneless hs, items_ref ts.tab.top, atRef e1, mut_ref e3, ixN_lt (n := (xs.map PV.int).length) (d := ((co (1 - s) e : Nat) : Int)) (by omega) (by rw [List.length_map]; omega), Int.toNat_natCast]
      refine ⟨some (pv e), es ++ [e], fs, _, by rw [hps]; simp, rfl, rfl, ts.put e1 e2, by simp [hl], fun a b => ?_⟩
      constructor
      · intro h
        obtain ⟨ys, g1, g2⟩ := h
        by_cases ha : co s e = a
        · subst ha
          rw [List.getElem?_set_self (by omega)] at g1
          cases g1
          by_cases hb : co (1 - s) e = b
          · exact ⟨e, by simp, rfl, hb⟩
          · rw [List.getElem?_set_ne hb] at g2
            obtain ⟨e', h1, h2⟩ := (hh _ b).mp ⟨xs, e2, g2⟩
            exact ⟨e', List.mem_append_left _ h1, h2⟩
        · rw [List.getElem?_set_ne ha] at g1
          obtain ⟨e', h1, h2⟩ := (hh a b).mp ⟨ys, g1, g2⟩
          exact ⟨e', List.mem_append_left _ h1, h2⟩
      · rintro ⟨e', h1, h2, h3⟩
        rcases List.mem_append.mp h1 with z | z
        · exact ((hh a b).mpr ⟨e', z, h2, h3⟩).set e2
        · rw [List.mem_singleton] at z
          subst z
          subst h2
          subst h3
          exact Has.new e2 (by omega)
    · obtain ⟨y3, es, fs, rows, hps, hys, rfl, ts, hl, hh⟩ := h
      have hfs : fs = [] := by
        cases fs with
        | nil => rfl
        | cons _ _ => cases hys
      subst hfs
      rw [List.append_nil] at hps
      refine ⟨.ref S.length, rfl, q rs rows S3 ts hl fun a b => ?_⟩
      rw [hh, ← hps]
      unfold Bd.ps Bd.fit
      rcases hs with rfl | rfl
      · constructor
        · rintro ⟨e, h1, rfl, rfl⟩
          exact mem_prs.mp h1
        · rintro ⟨h1, h2, h3⟩
          exact ⟨(a, b), mem_prs.mpr ⟨h1, h2, h3⟩, rfl, rfl⟩
      · constructor
        · rintro ⟨e, h1, rfl, rfl⟩
          obtain ⟨g1, g2, g3⟩ := mem_prs.mp h1
          exact ⟨g2, g1, g3⟩
        · rintro ⟨h1, h2, h3⟩
          exact ⟨(b, a), mem_prs.mpr ⟨h2, h1, h3⟩, rfl, rfl⟩
end Kp
set_option Elab.async false
set_option linter.all false
/-! Ma: labels that go down along pairs find the pieces. -/
namespace Ma

structure Lab where
  l : Nat → Nat
  r : Nat → Nat
def up (g : Nat → Nat) (i v : Nat) : Nat → Nat := fun j => if j = i then v else g j
def step (x : Lab) (e : Nat × Nat) : Lab := ⟨up x.l e.1 (min (x.l e.1) (x.r e.2)), up x.r e.2 (min (x.l e.1) (x.r e.2))⟩
def pass (ps : List (Nat × Nat)) (x : Lab) : Lab := ps.foldl step x
def passes (ps : List (Nat × Nat)) : Nat → Lab → Lab
  | 0, x => x
  | k + 1, x => passes ps k (pass ps x)
inductive Cn (ps : List (Nat × Nat)) : Nat → Nat → Prop
  | refl (s : Nat) : Cn ps s s
  | step {a b c t : Nat} : Cn ps a b → (b, t) ∈ ps → (c, t) ∈ ps → Cn ps a c
variable {ps : List (Nat × Nat)} {rt rr : Nat → Nat} {x : Lab} {m n : Nat}
/-- the labels are never below the roots -/
structure Ge (rt rr : Nat → Nat) (x : Lab) : Prop where
  l : ∀ s, rt s ≤ x.l s
  r : ∀ t, rr t ≤ x.r t
theorem step_ge {e : Nat × Nat} (h : Ge rt rr x) (he : rr e.2 = rt e.1) : Ge rt rr (step x e) := by
  refine ⟨fun s => ?_, fun t => ?_⟩
  · show rt s ≤ up x.l e.1 _ s
    unfold up
    split
    · rename_i q
      subst q
      have h1 := h.l e.1
      have h2 := h.r e.2
      omega
    · exact h.l s
  · show rr t ≤ up x.r e.2 _ t
    unfold up
    split
    · rename_i q
      subst q
      have h1 := h.l e.1
      have h2 := h.r e.2
      omega
    · exact h.r t
theorem step_keepL {e : Nat × Nat} {s : Nat} (h : Ge rt rr x) (he : rr e.2 = rt e.1) (g : x.l s = rt s) : (step x e).l s = rt s := by
  show up x.l e.1 _ s = _
  unfold up
  split
  · rename_i q
    subst q
    have h2 := h.r e.2
    omega
  · exact g
theorem step_keepR {e : Nat × Nat} {t : Nat} (h : Ge rt rr x) (he : rr e.2 = rt e.1) (g : x.r t = rr t) : (step x e).r t = rr t := by
  show up x.r e.2 _ t = _
  unfold up
  split
  · rename_i q
    subst q
    have h1 := h.l e.1
    omega
  · exact g
theorem step_fix {e : Nat × Nat} (h : Ge rt rr x) (he : rr e.2 = rt e.1) (g : x.l e.1 = rt e.1 ∨ x.r e.2 = rr e.2) : (step x e).l e.1 = rt e.1 ∧ (step x e).r e.2 = rr e.2 := by
  have h1 := h.l e.1
  have h2 := h.r e.2
  have a : (step x e).l e.1 = min (x.l e.1) (x.r e.2) := by
    show up _ _ _ _ = _
    unfold up
    rw [if_pos rfl]
  have b : (step x e).r e.2 = min (x.l e.1) (x.r e.2) := by
    show up _ _ _ _ = _
    unfold up
    rw [if_pos rfl]
  rw [a, b]
  omega
theorem pass_all : ∀ (qs : List (Nat × Nat)) (x : Lab), (∀ e ∈ qs, rr e.2 = rt e.1) → Ge rt rr x →
    Ge rt rr (pass qs x) ∧ (∀ s, x.l s = rt s → (pass qs x).l s = rt s) ∧ (∀ t, x.r t = rr t → (pass qs x).r t = rr t) ∧ ∀ e ∈ qs, (x.l e.1 = rt e.1 ∨ x.r e.2 = rr e.2) → (pass qs x).l e.1 = rt e.1 ∧ (pass qs x).r e.2 = rr e.2
  | [], x, _, h => ⟨h, fun _ g => g, fun _ g => g, fun _ z => nomatch z⟩
  | e :: qs, x, he, h => by
    have h0 := he e (List.mem_cons_self ..)
    obtain ⟨g1, g2, g3, g4⟩ := pass_all qs (step x e) (fun q hq => he q (List.mem_cons_of_mem _ hq)) (step_ge h h0)
    refine ⟨g1, fun s g => g2 s (step_keepL h h0 g), fun t g => g3 t (step_keepR h h0 g), fun q hq g => ?_⟩
    rcases List.mem_cons.mp hq with z | z
    · subst z
      obtain ⟨a, b⟩ := step_fix h h0 g
      exact ⟨g2 _ a, g3 _ b⟩
    · exact g4 q z (g.imp (step_keepL h h0) (step_keepR h h0))
/-- how many are not at their root yet -/
def cnt (m n : Nat) (rt rr : Nat → Nat) (x : Lab) : Nat := ((List.range m).filter fun s => decide (x.l s ≠ rt s)).length + ((List.range n).filter fun t => decide (x.r t ≠ rr t)).length
theorem filter_le {p q : Nat → Bool} : ∀ (xs : List Nat), (∀ a, q a = true → p a = true) → (xs.filter q).length ≤ (xs.filter p).length
  | [], _ => Nat.le_refl _
  | a :: xs, h => by
    have ih := filter_le xs h
    cases hq : q a with
    | true =>
      rw [List.filter_cons_of_pos hq, List.filter_cons_of_pos (h a hq)]
      simp only [List.length_cons]
      omega
    | false =>
      rw [List.filter_cons_of_neg (by rw [hq]; exact Bool.false_ne_true)]
      cases hp : p a with
      | true =>
        rw [List.filter_cons_of_pos hp]
        simp only [List.length_cons]
        omega
      | false =>
        rw [List.filter_cons_of_neg (by rw [hp]; exact Bool.false_ne_true)]
        exact ih
theorem filter_lt {p q : Nat → Bool} : ∀ (xs : List Nat), (∀ a, q a = true → p a = true) → ∀ b ∈ xs, p b = true → q b = false → (xs.filter q).length < (xs.filter p).length
  | a :: xs, h, b, hb, h1, h2 => by
    rcases List.mem_cons.mp hb with z | z
    · subst z
      rw [List.filter_cons_of_neg (by rw [h2]; exact Bool.false_ne_true), List.filter_cons_of_pos h1]
      have := filter_le xs h
      simp only [List.length_cons]
      omega
    · have ih := filter_lt xs h b z h1 h2
      cases hq : q a with
      | true =>
        rw [List.filter_cons_of_pos hq, List.filter_cons_of_pos (h a hq)]
        simp only [List.length_cons]
        omega
      | false =>
        rw [List.filter_cons_of_neg (by rw [hq]; exact Bool.false_ne_true)]
        cases hp : p a with
        | true =>
          rw [List.filter_cons_of_pos hp]
          simp only [List.length_cons]
          omega
        | false =>
          rw [List.filter_cons_of_neg (by rw [hp]; exact Bool.false_ne_true)]
          exact ih
/-- what the roots are -/
structure Rt (ps : List (Nat × Nat)) (m n : Nat) (rt rr : Nat → Nat) : Prop where
  edge : ∀ e ∈ ps, rr e.2 = rt e.1
  inm : ∀ e ∈ ps, e.1 < m ∧ e.2 < n
  cn : ∀ s < m, Cn ps (rt s) s
  idem : ∀ s < m, rt (rt s) = rt s
theorem all_good (R : Rt ps m n rt rr) (h0 : ∀ s < m, x.l (rt s) = rt (rt s)) (h : ∀ e ∈ ps, x.l e.1 = rt e.1 ↔ x.r e.2 = rr e.2) : ∀ s < m, x.l s = rt s := by
  have key : ∀ a b, Cn ps a b → x.l a = rt a → x.l b = rt b := by
    intro a b c
    induction c with
    | refl => exact id
    | step _ h1 h2 ih => exact fun g => (h _ h2).mpr ((h _ h1).mp (ih g))
  exact fun s hs => key _ _ (R.cn s hs) (h0 s hs)
theorem pass_cnt (R : Rt ps m n rt rr) (g : Ge rt rr x) (h0 : ∀ s < m, x.l (rt s) = rt (rt s)) : cnt m n rt rr (pass ps x) < cnt m n rt rr x ∨ (∀ s < m, x.l s = rt s) := by
  obtain ⟨g1, g2, g3, g4⟩ := pass_all ps x R.edge g
  by_cases hm : ∀ e ∈ ps, (x.l e.1 = rt e.1 ↔ x.r e.2 = rr e.2)
  · exact .inr (all_good R h0 hm)
  · refine .inl ?_
    obtain ⟨e, he, hne⟩ : ∃ e ∈ ps, ¬ (x.l e.1 = rt e.1 ↔ x.r e.2 = rr e.2) := by
      refine Classical.byContradiction fun z => hm fun e he => ?_
      exact Classical.byContradiction fun w => z ⟨e, he, w⟩
    have hl : ∀ a, decide ((pass ps x).l a ≠ rt a) = true → decide (x.l a ≠ rt a) = true := fun a z => by
      rw [decide_eq_true_eq] at z ⊢
      exact fun w => z (g2 a w)
    have hr : ∀ a, decide ((pass ps x).r a ≠ rr a) = true → decide (x.r a ≠ rr a) = true := fun a z => by
      rw [decide_eq_true_eq] at z ⊢
      exact fun w => z (g3 a w)
    obtain ⟨i1, i2⟩ := R.inm e he
    unfold cnt
    by_cases q : x.l e.1 = rt e.1
    · have q2 : ¬ x.r e.2 = rr e.2 := fun w => hne ⟨fun _ => w, fun _ => q⟩
      obtain ⟨_, b⟩ := g4 e he (.inl q)
      have u1 := filter_le (List.range m) hl
      have u2 := filter_lt (List.range n) hr e.2 (List.mem_range.mpr i2) (by rw [decide_eq_true_eq]; exact q2) (by rw [decide_eq_false_iff_not]; exact fun w => w b)
      omega
    · have q2 : x.r e.2 = rr e.2 := Classical.byContradiction fun w => hne ⟨fun z => absurd z q, fun z => absurd z w⟩
      obtain ⟨b, _⟩ := g4 e he (.inr q2)
      have u1 := filter_lt (List.range m) hl e.1 (List.mem_range.mpr i1) (by rw [decide_eq_true_eq]; exact q) (by rw [decide_eq_false_iff_not]; exact fun w => w b)
      have u2 := filter_le (List.range n) hr
      omega
theorem passes_good (R : Rt ps m n rt rr) : ∀ (k : Nat) (x : Lab), Ge rt rr x → (∀ s < m, x.l (rt s) = rt (rt s)) → cnt m n rt rr x ≤ k → (∀ s < m, (passes ps k x).l s = rt s)
  | 0, x, g, h0, hk => by
    intro s hs
    show x.l s = rt s
    refine Classical.byContradiction fun z => ?_
    have : 0 < ((List.range m).filter fun s => decide (x.l s ≠ rt s)).length := List.length_pos_of_mem (List.mem_filter.mpr ⟨List.mem_range.mpr hs, by rw [decide_eq_true_eq]; exact z⟩)
    unfold cnt at hk
    omega
  | k + 1, x, g, h0, hk => by
    obtain ⟨g1, g2, _, _⟩ := pass_all ps x R.edge g
    have h0' : ∀ s < m, (pass ps x).l (rt s) = rt (rt s) := fun s hs => g2 _ (h0 s hs)
    rcases pass_cnt R g h0 with z | z
    · exact passes_good R k (pass ps x) g1 h0' (by omega)
    · have keep : ∀ (k : Nat) (y : Lab), Ge rt rr y → (∀ s < m, y.l s = rt s) → ∀ s < m, (passes ps k y).l s = rt s := by
        intro k
        induction k with
        | zero => exact fun y _ h => h
        | succ k ih =>
          intro y gy h
          obtain ⟨a1, a2, _, _⟩ := pass_all ps y R.edge gy
          exact ih (pass ps y) a1 fun s hs => a2 s (h s hs)
      exact keep (k + 1) x g z
theorem cnt_le : cnt m n rt rr x ≤ m + n := by
  unfold cnt
  have h1 := List.length_filter_le (fun s => decide (x.l s ≠ rt s)) (List.range m)
  have h2 := List.length_filter_le (fun t => decide (x.r t ≠ rr t)) (List.range n)
  rw [List.length_range] at h1 h2
  omega
end Ma
namespace Ma
variable {ps : List (Nat × Nat)} {rt rr : Nat → Nat} {x : Lab} {m n : Nat}
theorem passes_last : ∀ (k : Nat) (x : Lab), passes ps (k + 1) x = pass ps (passes ps k x)
  | 0, x => rfl
  | k + 1, x => passes_last k (pass ps x)
theorem passes_ge (R : Rt ps m n rt rr) : ∀ (k : Nat) (x : Lab), Ge rt rr x → Ge rt rr (passes ps k x)
  | 0, _, g => g
  | k + 1, x, g => passes_ge R k (pass ps x) (pass_all ps x R.edge g).1
theorem passes_goodR (R : Rt ps m n rt rr) {k : Nat} (g : Ge rt rr x) (h0 : ∀ s < m, x.l (rt s) = rt (rt s)) (hk : cnt m n rt rr x ≤ k) {e : Nat × Nat} (he : e ∈ ps) : (passes ps (k + 1) x).r e.2 = rr e.2 := by
  rw [passes_last]
  exact ((pass_all ps (passes ps k x) R.edge (passes_ge R k x g)).2.2.2 e he (.inl (passes_good R k x g h0 hk e.1 (R.inm e he).1))).2
theorem cnt_lt {s : Nat} (hs : s < m) (h : x.l s = rt s) : cnt m n rt rr x + 1 ≤ m + n := by
  unfold cnt
  have h2 := List.length_filter_le (fun t => decide (x.r t ≠ rr t)) (List.range n)
  rw [List.length_range] at h2
  have h1 := filter_lt (p := fun _ => true) (q := fun s => decide (x.l s ≠ rt s)) (List.range m) (fun _ _ => rfl) s (List.mem_range.mpr hs) rfl (by rw [decide_eq_false_iff_not]; exact fun w => w h)
  have h3 : ((List.range m).filter fun _ => true).length = m := by rw [List.filter_eq_self.mpr fun _ _ => rfl, List.length_range]
  omega
end Ma
set_option Elab.async false
set_option linter.all false
/-! Mb: roots of pieces. -/
namespace Ma
variable {ps : List (Nat × Nat)} {m n : Nat}
theorem Cn.trans {a b c : Nat} (h : Cn ps a b) (k : Cn ps b c) : Cn ps a c := by
  induction k with
  | refl => exact h
  | step _ h1 h2 ih => exact .step ih h1 h2
theorem Cn.symm {a b : Nat} (h : Cn ps a b) : Cn ps b a := by
  induction h with
  | refl => exact .refl _
  | step _ h1 h2 ih => exact (Cn.step (.refl _) h2 h1).trans ih
theorem Cn.edge {a b t : Nat} (h1 : (a, t) ∈ ps) (h2 : (b, t) ∈ ps) : Cn ps a b := .step (.refl a) h1 h2
noncomputable instance {a b : Nat} : Decidable (Cn ps a b) := Classical.propDecidable _
noncomputable def root (ps : List (Nat × Nat)) (m s : Nat) : Nat := ((List.range m).find? fun a => decide (Cn ps a s)).getD s
theorem root_spec {s : Nat} (hs : s < m) : root ps m s < m ∧ Cn ps (root ps m s) s ∧ ∀ a, a < m → Cn ps a s → root ps m s ≤ a := by
  unfold root
  cases h : (List.range m).find? fun a => decide (Cn ps a s) with
  | none =>
    have := List.find?_eq_none.mp h s (List.mem_range.mpr hs)
    exact absurd (decide_eq_true (Cn.refl s)) this
  | some b =>
    have hb : decide (Cn ps b s) = true := by
      have := List.find?_some h
      simpa using this
    have hm := List.mem_range.mp (List.mem_of_find?_eq_some h)
    refine ⟨hm, of_decide_eq_true hb, fun a ha hc => ?_⟩
    show b ≤ a
    rcases Nat.lt_or_ge a b with z | z
    · obtain ⟨_, as, bs, e1, e2⟩ := List.find?_eq_some_iff_append.mp h
      have ma : a ∈ as := by
        have := congrArg (·[a]?) e1
        simp only [List.getElem?_range ha] at this
        by_cases la : a < as.length
        · rw [List.getElem?_append_left la] at this
          exact List.mem_of_getElem? this.symm
        · have hb2 := congrArg (·[as.length]?) e1
          simp only [List.getElem?_append_right (Nat.le_refl _), Nat.sub_self, List.getElem?_cons_zero] at hb2
          have hl : as.length < m := by
            have := congrArg List.length e1
            simp at this
            omega
          rw [List.getElem?_range hl] at hb2
          cases hb2
          omega
      have := e2 a ma
      rw [decide_eq_true hc] at this
      cases this
    · exact z
theorem root_eq {a b : Nat} (ha : a < m) (hb : b < m) (h : Cn ps a b) : root ps m a = root ps m b := by
  obtain ⟨a1, a2, a3⟩ := root_spec (ps := ps) ha
  obtain ⟨b1, b2, b3⟩ := root_spec (ps := ps) hb
  exact Nat.le_antisymm (a3 _ b1 (b2.trans h.symm)) (b3 _ a1 (a2.trans h))
theorem root_le {s : Nat} (hs : s < m) : root ps m s ≤ s := (root_spec hs).2.2 s hs (.refl s)
theorem root_idem {s : Nat} (hs : s < m) : root ps m (root ps m s) = root ps m s := root_eq (root_spec hs).1 hs (root_spec hs).2.1
/-- the root of what fits t -/
noncomputable def rootR (ps : List (Nat × Nat)) (m t : Nat) : Nat := match ps.find? fun e => decide (e.2 = t) with
  | some e => root ps m e.1
  | none => 0
theorem rootR_edge (hin : ∀ e ∈ ps, e.1 < m ∧ e.2 < n) {e : Nat × Nat} (he : e ∈ ps) : rootR ps m e.2 = root ps m e.1 := by
  unfold rootR
  cases h : ps.find? fun q => decide (q.2 = e.2) with
  | none => exact absurd (decide_eq_true rfl) (List.find?_eq_none.mp h e he)
  | some q =>
    have h1 : q.2 = e.2 := by
      have := List.find?_some h
      simpa using this
    have h2 := List.mem_of_find?_eq_some h
    show root ps m q.1 = _
    refine root_eq (hin q h2).1 (hin e he).1 (Cn.edge (t := e.2) ?_ he)
    rw [← h1]
    exact h2
theorem roots (hin : ∀ e ∈ ps, e.1 < m ∧ e.2 < n) : Rt ps m n (root ps m) (rootR ps m) := ⟨fun e he => rootR_edge hin he, hin, fun s hs => (root_spec hs).2.1, fun s hs => root_idem hs⟩
/-- the labels at the start -/
def lab0 (m : Nat) : Lab := ⟨fun s => s, fun _ => m⟩
theorem root_big {s : Nat} (hs : m ≤ s) : root ps m s ≤ s := by
  unfold root
  cases h : (List.range m).find? fun a => decide (Cn ps a s) with
  | none => exact Nat.le_refl _
  | some b =>
    have := List.mem_range.mp (List.mem_of_find?_eq_some h)
    show b ≤ s
    omega
theorem lab0_ge (hin : ∀ e ∈ ps, e.1 < m ∧ e.2 < n) : Ge (root ps m) (rootR ps m) (lab0 m) := by
  refine ⟨fun s => ?_, fun t => ?_⟩
  · rcases Nat.lt_or_ge s m with z | z
    · exact root_le z
    · exact root_big z
  · show rootR ps m t ≤ m
    unfold rootR
    split
    · rename_i e h
      exact Nat.le_of_lt (root_spec (hin e (List.mem_of_find?_eq_some h)).1).1
    · exact Nat.zero_le _
/-- behind as many passes as there are fillings all labels are roots -/
theorem labels (hin : ∀ e ∈ ps, e.1 < m ∧ e.2 < n) (hm : 1 ≤ m) (hn : 1 ≤ n) : (∀ s < m, (passes ps (m + n) (lab0 m)).l s = root ps m s) ∧ ∀ e ∈ ps, (passes ps (m + n) (lab0 m)).r e.2 = rootR ps m e.2 := by
  have R := roots hin
  have g := lab0_ge hin
  have h0 : ∀ s < m, (lab0 m).l (root ps m s) = root ps m (root ps m s) := fun s hs => (root_idem hs).symm
  refine ⟨passes_good R (m + n) _ g h0 cnt_le, fun e he => ?_⟩
  obtain ⟨k, hk⟩ : ∃ k, m + n = k + 1 := ⟨m + n - 1, by omega⟩
  have c := cnt_lt (n := n) (rr := rootR ps m) (root_spec (ps := ps) (m := m) (s := 0) (by omega)).1 (h0 0 (by omega))
  rw [hk]
  exact passes_goodR R g h0 (by omega) he
end Ma
set_option Elab.async false
set_option linter.all false
set_option maxRecDepth 100000
set_option maxHeartbeats 4000000
namespace Kp
open PySem PySem.Spec L2 Ip
variable {fo : Bool} {S0 S : Store} {m n : Nat} {F : Fl → Store → Prop} {Q : PV → Store → Prop}
structure Fr0 (S S' : Store) : Prop where
  len : S.length ≤ S'.length
  old : ∀ j, j < S.length → S'[j]? = S[j]?
theorem Fr0.refl : Fr0 S S := ⟨Nat.le_refl _, fun _ _ => rfl⟩
theorem Fr0.app {G : Store} : Fr0 S (S ++ G) := ⟨by simp, fun j h => List.getElem?_append_left h⟩
theorem Fr0.trans {S1 S2 : Store} (a : Fr0 S S1) (b : Fr0 S1 S2) : Fr0 S S2 := ⟨Nat.le_trans a.len b.len, fun j h => by rw [b.old j (Nat.lt_of_lt_of_le h a.len), a.old j h]⟩
theorem Fr0.put {S1 : Store} {i : Nat} {o : Ob} (a : Fr0 S S1) (h : S.length ≤ i) : Fr0 S (S1.set i o) := ⟨by simpa using a.len, fun j hj => by rw [List.getElem?_set_ne (by omega), a.old j hj]⟩
def tbl (g : Nat → Nat) (m : Nat) : List PV := (List.range m).map fun j => natV (g j)
theorem tbl_at {g : Nat → Nat} {i : Nat} (h : i < m) : atI (tbl g m) (i : Int) = some (natV (g i)) := atI_nat (by simp [tbl, h])
theorem tbl_len {g : Nat → Nat} : (tbl g m).length = m := by simp [tbl]
theorem tbl_set {g : Nat → Nat} {i v : Nat} (h : i < m) : (tbl g m).set i (natV v) = tbl (Ma.up g i v) m := by
  apply List.ext_getElem?
  intro j
  by_cases hj : i = j
  · subst hj
    rw [List.getElem?_set_self (by rw [tbl_len]; exact h)]
    simp [tbl, h, Ma.up]
  · rw [List.getElem?_set_ne hj]
    have hne : ¬ j = i := fun z => hj z.symm
    by_cases hl : j < m
    · simp [tbl, hl, Ma.up, hne]
    · rw [List.getElem?_eq_none (by rw [tbl_len]; omega), List.getElem?_eq_none (by rw [tbl_len]; omega)]
abbrev ps12 (B : Bd) (x1 x2 x3 : Option PV) (a b : Nat) (x9 x10 x11 : Option PV) : PEnv :=
  [some B.v, x1, x2, x3, some (.int B.m), some (.int B.n), some (.tup (B.ps.map pv)), some (.ref a), some (.ref b), x9, x10, x11]
theorem W_gT2 {σ : PEnv} {a b : PV} {i j : Nat} {R : PEnv → Store → Prop} : W (gT 2 (gsC (gN i) (gsC (gN j) gsN)) (.tup [a, b]) σ S) R = R ((σ.set i (some a)).set j (some b)) S := W_some
theorem one_pass {B : Bd} {a b : Nat} {x : Ma.Lab} {x1 x2 x3 x9 x10 x11 : Option PV} (hab : a ≠ b) (ha0 : S0.length ≤ a) (hb0 : S0.length ≤ b) (f0 : Fr0 S0 S) (ha : S[a]? = some (.lst (tbl x.l B.m))) (hb : S[b]? = some (.lst (tbl x.r B.n)))
    (q : ∀ y9 y10 y11 S', Fr0 S0 S' → S'[a]? = some (.lst (tbl (Ma.pass B.ps x).l B.m)) → S'[b]? = some (.lst (tbl (Ma.pass B.ps x).r B.n)) → F (.nx (ps12 B x1 x2 x3 a b y9 y10 y11)) S') :
    W (sFor (iSeq (mVar 6)) (gT 2 (gsC (gN 9) (gsC (gN 10) gsN))) (sSeq (sAsg (mCall vMin2 (aCons (mOp vIdx (mVar 7) (mVar 9)) (aCons (mOp vIdx (mVar 8) (mVar 10)) aNil))) (gN 11)) (sSeq (sAsg (mVar 11) (gI (mVar 7) (mVar 9))) (sAsg (mVar 11) (gI (mVar 8) (mVar 10))))) (ps12 B x1 x2 x3 a b x9 x10 x11) S) F := by
  rw [W_for]
  refine W_seqI ?_
  simp only [W_def, W_seq, W_if, W_ite, W_test, W_op, W_var, W_con, W_set, W_put, W_ret, W_expr, W_call, W_fn, W_cons, W_nil, W_skip, W_tup, W_lst, List.set_cons_zero, List.set_cons_succ, List.getElem?_cons_zero, List.getElem?_cons_succ, Option.some.injEq, exists_eq_left', exists_eq_left, W_idx, W_gt, W_lt, W_ge, W_le, W_int, W_abs, W_mod, W_div, W_mul, W_pow, W_add, W_sub, W_eqI, Bool.false_xor, Bool.true_xor, PV.bl.injEq, PV.int.injEq, Prod.mk.injEq, List.length_cons, List.length_nil, Nat.zero_add, Nat.reduceAdd, decide_eq_true_eq, ps12]
  refine ⟨_, _, ⟨rfl, rfl⟩, ?_⟩
  refine W_forM (xs := []) (fun ys σ S2 => ∃ es fs y9 y10 y11, B.ps = es ++ fs ∧ ys = fs.map pv ∧ σ = ps12 B x1 x2 x3 a b y9 y10 y11 ∧ Fr0 S0 S2 ∧ S2[a]? = some (.lst (tbl (Ma.pass es x).l B.m)) ∧ S2[b]? = some (.lst (tbl (Ma.pass es x).r B.n))) (fun _ _ _ _ => rfl) (fun z ys σ S2 h => ?_) (fun σ S2 h => ?_) _ _ _
    ⟨[], B.ps, x9, x10, x11, rfl, rfl, rfl, f0, ha, hb⟩
  · obtain ⟨es, fs, y9, y10, y11, hps, hys, rfl, fr, ha, hb⟩ := h
    obtain ⟨e, fs, rfl⟩ : ∃ e fs', fs = e :: fs' := by
      cases fs with
      | nil => cases hys
      | cons e fs => exact ⟨e, fs, rfl⟩
    cases hys
    obtain ⟨c1, c2, _⟩ := mem_prs.mp (show e ∈ B.ps by rw [hps]; simp)
    generalize hx : Ma.pass es x = w at ha hb
    rw [show pv e = .tup [.int e.1, .int e.2] from rfl, W_gT2]
    have la := (List.getElem?_eq_some_iff.mp ha).1
    have lb := (List.getElem?_eq_some_iff.mp hb).1
    have mn : (if (w.r e.2 : Int) < (w.l e.1 : Int) then (w.r e.2 : Int) else (w.l e.1 : Int)) = ((min (w.l e.1) (w.r e.2) : Nat) : Int) := by
      split <;> omega
    have W_mn : ∀ (A : Store) (R : PV → Store → Prop), W (vMin2 [natV (w.l e.1), natV (w.r e.2)] A) R = R (natV (min (w.l e.1) (w.r e.2))) A := fun A R => by
      show W (vMin2 [.int (w.l e.1), .int (w.r e.2)] A) R = _
      rw [W_min2, mn]
      rfl
    have hb' : ∀ o : Ob, (S2.set a o)[b]? = some (.lst (tbl w.r B.n)) := fun o => by rw [List.getElem?_set_ne hab]; exact hb
    simp only [W_def, W_seq, W_if, W_ite, W_test, W_op, W_var, W_con, W_set, W_put, W_ret, W_expr, W_call, W_fn, W_cons, W_nil, W_skip, W_tup, W_lst, List.set_cons_zero, List.set_cons_succ, List.getElem?_cons_zero, List.getElem?_cons_succ, Option.some.injEq, exists_eq_left', exists_eq_left, W_idx, W_gt, W_lt, W_ge, W_le, W_int, W_abs, W_mod, W_div, W_mul, W_pow, W_add, W_sub, W_eqI, Bool.false_xor, Bool.true_xor, PV.bl.injEq, PV.int.injEq, Prod.mk.injEq, List.length_cons, List.length_nil, Nat.zero_add, Nat.reduceAdd, decide_eq_true_eq, ps12, items_ref ha, items_ref hb, tbl_at c1, tbl_at c2, W_mn, mut_ref ha, tbl_len, ixN_lt (n := B.m) (d := (e.1 : Int)) (by omega) (by omega), mut_ref (hb' _), ixN_lt (n := B.n) (d := (e.2 : Int)) (by omega) (by omega), Int.toNat_natCast, tbl_set c1, tbl_set c2]
    refine ⟨es ++ [e], fs, some (.int e.1), some (.int e.2), some (natV (min (w.l e.1) (w.r e.2))), by rw [hps]; simp, rfl, rfl, (fr.put ha0).put hb0, ?_, ?_⟩
    · rw [List.getElem?_set_ne (Ne.symm hab), List.getElem?_set_self la]
      have : Ma.pass (es ++ [e]) x = Ma.step w e := by rw [← hx]; simp [Ma.pass]
      rw [this]
      rfl
    · rw [List.getElem?_set_self (by simpa using lb)]
      have : Ma.pass (es ++ [e]) x = Ma.step w e := by rw [← hx]; simp [Ma.pass]
      rw [this]
      rfl
  · obtain ⟨es, fs, y9, y10, y11, hps, hys, rfl, fr, ha, hb⟩ := h
    have hfs : fs = [] := by
      cases fs with
      | nil => rfl
      | cons _ _ => cases hys
    subst hfs
    rw [List.append_nil] at hps
    subst hps
    exact q y9 y10 y11 S2 fr ha hb
end Kp
set_option Elab.async false
set_option linter.all false
set_option maxRecDepth 100000
set_option maxHeartbeats 4000000
namespace Kp
open PySem PySem.Spec L2 Ip
variable {fo : Bool} {S0 S : Store} {m n : Nat} {F : Fl → Store → Prop} {Q : PV → Store → Prop}
theorem all_passes {B : Bd} {a b : Nat} {x : Ma.Lab} {x1 x2 x3 x9 x10 x11 : Option PV} (hB : B.Ok) (hab : a ≠ b) (ha0 : S0.length ≤ a) (hb0 : S0.length ≤ b) (f0 : Fr0 S0 S) (ha : S[a]? = some (.lst (tbl x.l B.m))) (hb : S[b]? = some (.lst (tbl x.r B.n)))
    (q : ∀ y1 y9 y10 y11 S', Fr0 S0 S' → S'[a]? = some (.lst (tbl (Ma.passes B.ps (B.m + B.n) x).l B.m)) → S'[b]? = some (.lst (tbl (Ma.passes B.ps (B.m + B.n) x).r B.n)) → F (.nx (ps12 B y1 x2 x3 a b y9 y10 y11)) S') :
    W (sFor (iRange (aCons (mOp vAdd (mVar 4) (mVar 5)) aNil)) (gN 1) (sFor (iSeq (mVar 6)) (gT 2 (gsC (gN 9) (gsC (gN 10) gsN))) (sSeq (sAsg (mCall vMin2 (aCons (mOp vIdx (mVar 7) (mVar 9)) (aCons (mOp vIdx (mVar 8) (mVar 10)) aNil))) (gN 11)) (sSeq (sAsg (mVar 11) (gI (mVar 7) (mVar 9))) (sAsg (mVar 11) (gI (mVar 8) (mVar 10)))))) (ps12 B x1 x2 x3 a b x9 x10 x11) S) F := by
  rw [W_for]
  refine W_range1 ?_
  simp only [W_def, W_seq, W_if, W_ite, W_test, W_op, W_var, W_con, W_set, W_put, W_ret, W_expr, W_call, W_fn, W_cons, W_nil, W_skip, W_tup, W_lst, List.set_cons_zero, List.set_cons_succ, List.getElem?_cons_zero, List.getElem?_cons_succ, Option.some.injEq, exists_eq_left', exists_eq_left, W_idx, W_gt, W_lt, W_ge, W_le, W_int, W_abs, W_mod, W_div, W_mul, W_pow, W_add, W_sub, W_eqI, Bool.false_xor, Bool.true_xor, PV.bl.injEq, PV.int.injEq, Prod.mk.injEq, List.length_cons, List.length_nil, Nat.zero_add, Nat.reduceAdd, decide_eq_true_eq, ps12]
  have h1 := hB.m6
  have h2 := hB.n6
  refine ⟨(B.m + B.n : Nat), by simp, by omega, ?_⟩
  rw [Int.toNat_natCast]
  refine W_forM (xs := []) (fun ys σ S2 => ∃ i y1 y9 y10 y11, i ≤ B.m + B.n ∧ ys = rangeP (i : Int) (B.m + B.n - i) ∧ σ = ps12 B y1 x2 x3 a b y9 y10 y11 ∧ Fr0 S0 S2 ∧ S2[a]? = some (.lst (tbl (Ma.passes B.ps i x).l B.m)) ∧ S2[b]? = some (.lst (tbl (Ma.passes B.ps i x).r B.n))) (fun _ _ _ _ => rfl) (fun z ys σ S2 h => ?_) (fun σ S2 h => ?_) _ _ _
    ⟨0, x1, x9, x10, x11, by omega, by simp, rfl, f0, ha, hb⟩
  · obtain ⟨i, y1, y9, y10, y11, hi, hx, rfl, fr, ha, hb⟩ := h
    obtain ⟨g1, rfl, g3⟩ := rest_cons hi hx
    show W (some _) _
    rw [W_some]
    refine one_pass (x1 := some (.int i)) hab ha0 hb0 fr ha hb fun z9 z10 z11 S3 fr3 ha3 hb3 => ?_
    refine ⟨i + 1, some (.int i), z9, z10, z11, g1, g3, rfl, fr3, ?_, ?_⟩
    · rw [Ma.passes_last]; exact ha3
    · rw [Ma.passes_last]; exact hb3
  · obtain ⟨i, y1, y9, y10, y11, hi, hx, rfl, fr, ha, hb⟩ := h
    have e := rest_nil hi hx
    subst e
    exact q y1 y9 y10 y11 S2 fr ha hb
/-- the comprehension [x for x in range(n) if t[x] == o] -/
theorem pick_row {σ : PEnv} {me : MA} {tt : MT} {ev_ : ME} {j n : Nat} {f : Nat → Bool} {g : Nat → PV} (hn : n ≤ 6) (hme : W (me σ S) fun ps S1 => ps = [.int n] ∧ S1 = S)
    (ht : ∀ i < n, ∀ G : Store, W (tt ((wipeP σ [j]).set j (some (.int (i : Int)))) (S ++ G)) fun c S2 => c = f i ∧ S2 = S ++ G) (he : ∀ i < n, ∀ G : Store, W (ev_ ((wipeP σ [j]).set j (some (.int (i : Int)))) (S ++ G)) fun y S2 => y = g i ∧ S2 = S ++ G)
    (q : Q (.ref S.length) (S ++ [.lst (((List.range n).filter f).map g)])) : W (mLc (iRange me) (gN j) tt ev_ [j] σ S) Q := by
  rw [W_lc]
  refine W_range1 (hme.mono fun ps S1 ⟨e, e2⟩ => ⟨n, e, by omega, ?_⟩)
  subst e2
  rw [Int.toNat_natCast]
  refine W_lcM (fun ys acc S2 => ∃ i, i ≤ n ∧ ys = rangeP (i : Int) (n - i) ∧ acc = ((List.range i).filter f).map g ∧ S2 = S1 ++ [.lst acc]) (fun _ _ _ _ => rfl) (fun x ys acc S2 h => ?_) (fun acc S2 h => ?_) _ _ _ ⟨0, by omega, by simp, rfl, rfl⟩
  · obtain ⟨i, hi, hx, rfl, rfl⟩ := h
    obtain ⟨h1, rfl, h3⟩ := rest_cons hi hx
    show W (some _) _
    rw [W_some]
    refine (ht i h1 _).mono fun c S3 ⟨e1, e2⟩ => ?_
    subst e1
    subst e2
    cases hf : f i with
    | true =>
      rw [if_pos rfl]
      refine (he i h1 _).mono fun y S3 ⟨e1, e2⟩ => ?_
      subst e1
      subst e2
      refine ⟨by simp, ?_, i + 1, h1, h3, ?_, ?_⟩
      · rw [List.length_map]
        have := List.length_filter_le f (List.range i)
        rw [List.length_range] at this
        exact decide_eq_true (by omega)
      · rw [List.range_succ, List.filter_append]
        simp [hf]
      · rw [set_last]
    | false =>
      rw [if_neg Bool.false_ne_true]
      refine ⟨i + 1, h1, h3, ?_, rfl⟩
      rw [List.range_succ, List.filter_append]
      simp [hf]
  · obtain ⟨i, hi, hx, rfl, rfl⟩ := h
    have e := rest_nil hi hx
    subst e
    exact q
end Kp
set_option Elab.async false
set_option linter.all false
set_option maxRecDepth 100000
set_option maxHeartbeats 4000000
namespace Kp
open PySem PySem.Spec L2 Ip
variable {fo : Bool} {S0 S : Store} {m n : Nat} {F : Fl → Store → Prop} {Q : PV → Store → Prop}
theorem W_rgL {σ : PEnv} {me : MA} {n : Nat} (hn : n ≤ 1000) (h : W (me σ S) fun ps S1 => ps = [.int n] ∧ Q (.ref S1.length) (S1 ++ [.lst ((List.range n).map natV)])) : W (mRgL me σ S) Q := by
  unfold mRgL
  rw [W_m2]
  refine h.mono fun ps S1 ⟨e, q⟩ => ?_
  subst e
  have ok : RgOk 0 (n : Int) := ⟨by omega, by omega, by omega, by omega, by omega⟩
  have e0 : ends [PV.int n] = some (0, (n : Int)) := rfl
  rw [e0, Option.bind_some]
  dsimp only
  rw [if_pos ok, W_some]
  have e : rangeP 0 ((n : Int) - 0).toNat = (List.range n).map natV := by
    rw [Int.sub_zero, Int.toNat_natCast]
    show (List.range n).map (fun i : Nat => PV.int (0 + (i : Int))) = (List.range n).map natV
    apply List.map_congr_left
    intro a _
    show PV.int (0 + (a : Int)) = PV.int (a : Int)
    rw [Int.zero_add]
  rw [e]
  exact q
noncomputable def Bd.rt (B : Bd) : Nat → Nat := Ma.root B.ps B.m
noncomputable def Bd.rr (B : Bd) : Nat → Nat := Ma.rootR B.ps B.m
/-- a piece, by its root -/
noncomputable def Bd.piece (B : Bd) (o : Nat) : PV := .tup [.tup (((List.range B.m).filter fun s => decide (B.rt s = o)).map natV), .tup (((List.range B.n).filter fun t => decide (B.rr t = o)).map natV)]
noncomputable def Bd.pieces (B : Bd) : List PV := ((List.range B.m).filter fun o => decide (B.rt o = o)).map B.piece
theorem Bd.lab {B : Bd} (hB : B.Ok) : tbl (Ma.passes B.ps (B.m + B.n) (Ma.lab0 B.m)).l B.m = tbl B.rt B.m ∧ tbl (Ma.passes B.ps (B.m + B.n) (Ma.lab0 B.m)).r B.n = tbl B.rr B.n := by
  obtain ⟨h1, h2⟩ := Ma.labels (ps := B.ps) (m := B.m) (n := B.n) (fun e he => ⟨(mem_prs.mp he).1, (mem_prs.mp he).2.1⟩) hB.m1 hB.n1
  constructor
  · apply List.map_congr_left
    intro s hs
    rw [h1 s (List.mem_range.mp hs)]
    rfl
  · apply List.map_congr_left
    intro t ht
    obtain ⟨a, ha, hf⟩ := hB.cols t (List.mem_range.mp ht)
    have := h2 (a, t) (mem_prs.mpr ⟨ha, List.mem_range.mp ht, hf⟩)
    show natV _ = natV _
    rw [this]
    rfl
theorem pieces_law {B : Bd} (hB : B.Ok) (q : ∀ S', Fr0 S S' → Q (.tup B.pieces) S') : W (m__law_pieces fo [B.v] S) Q := by
  have m6 := hB.m6
  have n6 := hB.n6
  unfold m__law_pieces
  simp only [W_def, W_seq, W_asg]
  rw [(show startP N__law_pieces [B.v] = [some B.v, none, none, none, none, none, none, none, none, none, none, none] from rfl)]
  simp only [W_def, W_seq, W_if, W_ite, W_test, W_op, W_var, W_con, W_set, W_put, W_ret, W_expr, W_call, W_fn, W_cons, W_nil, W_skip, W_tup, W_lst, List.set_cons_zero, List.set_cons_succ, List.getElem?_cons_zero, List.getElem?_cons_succ, Option.some.injEq, exists_eq_left', exists_eq_left, W_idx, W_gt, W_lt, W_ge, W_le, W_int, W_abs, W_mod, W_div, W_mul, W_pow, W_add, W_sub, W_eqI, Bool.false_xor, Bool.true_xor, PV.bl.injEq, PV.int.injEq, Prod.mk.injEq, List.length_cons, List.length_nil, Nat.zero_add, Nat.reduceAdd, decide_eq_true_eq, (show B.v = .tup [.int B.m, .int B.n, .tup (B.ps.map pv)] from rfl), W_gT3]
  refine W_rgL (n := B.m) (by omega) ?_
  simp only [W_def, W_seq, W_if, W_ite, W_test, W_op, W_var, W_con, W_set, W_put, W_ret, W_expr, W_call, W_fn, W_cons, W_nil, W_skip, W_tup, W_lst, List.set_cons_zero, List.set_cons_succ, List.getElem?_cons_zero, List.getElem?_cons_succ, Option.some.injEq, exists_eq_left', exists_eq_left, W_idx, W_gt, W_lt, W_ge, W_le, W_int, W_abs, W_mod, W_div, W_mul, W_pow, W_add, W_sub, W_eqI, Bool.false_xor, Bool.true_xor, PV.bl.injEq, PV.int.injEq, Prod.mk.injEq, List.length_cons, List.length_nil, Nat.zero_add, Nat.reduceAdd, decide_eq_true_eq]
  refine ⟨trivial, ?_⟩
  refine pick_row (n := B.n) (f := fun _ => true) (g := fun _ => natV B.m) n6 ?_ ?_ ?_ ?_
  · simp only [W_def, W_seq, W_if, W_ite, W_test, W_op, W_var, W_con, W_set, W_put, W_ret, W_expr, W_call, W_fn, W_cons, W_nil, W_skip, W_tup, W_lst, List.set_cons_zero, List.set_cons_succ, List.getElem?_cons_zero, List.getElem?_cons_succ, Option.some.injEq, exists_eq_left', exists_eq_left, W_idx, W_gt, W_lt, W_ge, W_le, W_int, W_abs, W_mod, W_div, W_mul, W_pow, W_add, W_sub, W_eqI, Bool.false_xor, Bool.true_xor, PV.bl.injEq, PV.int.injEq, Prod.mk.injEq, List.length_cons, List.length_nil, Nat.zero_add, Nat.reduceAdd, decide_eq_true_eq]
    exact ⟨trivial, trivial⟩
  · intro i hi G
    exact ⟨true, _, rfl, rfl, rfl⟩
  · intro i hi G
    exact ⟨natV B.m, _, rfl, rfl, rfl⟩
  refine ⟨by decide, ?_⟩
  rw [W_gT2]
  generalize hA : S ++ [Ob.lst ((List.range B.m).map natV)] ++ [Ob.lst (((List.range B.n).filter fun _ => true).map fun _ => natV B.m)] = A
  have e1 : (S ++ [Ob.lst ((List.range B.m).map natV)]).length = S.length + 1 := by simp
  have hf : ((List.range B.n).filter fun _ => true) = List.range B.n := List.filter_eq_self.mpr fun _ _ => rfl
  have a1 : A[S.length]? = some (.lst (tbl (Ma.lab0 B.m).l B.m)) := by
    rw [← hA, List.getElem?_append_left (by simp)]
    simp [tbl, Ma.lab0]
  have a2 : A[S.length + 1]? = some (.lst (tbl (Ma.lab0 B.m).r B.n)) := by
    rw [← hA, ← e1, hf]
    simp [tbl, Ma.lab0]
  have f0 : Fr0 S A := by rw [← hA]; exact Fr0.app.trans Fr0.app
  rw [e1]
  refine all_passes (S0 := S) hB (by omega) (Nat.le_refl _) (by omega) f0 a1 a2 fun y1 y9 y10 y11 S5 f5 b1 b2 => ?_
  rw [(Bd.lab hB).1] at b1
  rw [(Bd.lab hB).2] at b2
  refine ⟨by decide, ?_⟩
  show W (some _) _
  rw [W_some]
  have l1 := (List.getElem?_eq_some_iff.mp b1).1
  have l2 := (List.getElem?_eq_some_iff.mp b2).1
  have l0 := f5.len
  show W (sFor _ _ _ [some B.v, y1, some (.ref S5.length), none, some (.int B.m), some (.int B.n), some (.tup (B.ps.map pv)), some (.ref S.length), some (.ref (S.length + 1)), y9, y10, y11] _) _
  rw [W_for]
  refine W_range1 ?_
  simp only [W_def, W_seq, W_if, W_ite, W_test, W_op, W_var, W_con, W_set, W_put, W_ret, W_expr, W_call, W_fn, W_cons, W_nil, W_skip, W_tup, W_lst, List.set_cons_zero, List.set_cons_succ, List.getElem?_cons_zero, List.getElem?_cons_succ, Option.some.injEq, exists_eq_left', exists_eq_left, W_idx, W_gt, W_lt, W_ge, W_le, W_int, W_abs, W_mod, W_div, W_mul, W_pow, W_add, W_sub, W_eqI, Bool.false_xor, Bool.true_xor, PV.bl.injEq, PV.int.injEq, Prod.mk.injEq, List.length_cons, List.length_nil, Nat.zero_add, Nat.reduceAdd, decide_eq_true_eq]
  refine ⟨B.m, rfl, by omega, ?_⟩
  rw [Int.toNat_natCast]
  refine W_forM (xs := []) (fun ys σ S2 => ∃ i y3, i ≤ B.m ∧ ys = rangeP (i : Int) (B.m - i) ∧ σ = [some B.v, y1, some (.ref S5.length), y3, some (.int B.m), some (.int B.n), some (.tup (B.ps.map pv)), some (.ref S.length), some (.ref (S.length + 1)), y9, y10, y11] ∧ Fr0 S S2 ∧ S2[S.length]? = some (.lst (tbl B.rt B.m)) ∧ S2[S.length + 1]? = some (.lst (tbl B.rr B.n)) ∧ S2[S5.length]? = some (.lst (((List.range i).filter fun o => decide (B.rt o = o)).map B.piece))) (fun _ _ _ _ => rfl) (fun z ys σ S2 h => ?_) (fun σ S2 h => ?_) _ _ _
    ⟨0, none, by omega, by simp, rfl, f5.trans Fr0.app, by rw [List.getElem?_append_left l1]; exact b1, by rw [List.getElem?_append_left l2]; exact b2, by simp⟩
  · obtain ⟨i, y3, hi, hx, rfl, fr, c1, c2, c3⟩ := h
    obtain ⟨g1, rfl, g3⟩ := rest_cons hi hx
    have k1 := (List.getElem?_eq_some_iff.mp c1).1
    have k2 := (List.getElem?_eq_some_iff.mp c2).1
    have k3 := (List.getElem?_eq_some_iff.mp c3).1
    have W_eqN : ∀ (x : Nat) (y : Nat) (A : Store) (R : PV → Store → Prop), W (vEq false (natV x) (.int (y : Int)) A) R = R (.bl (decide (x = y))) A := fun x y A R => by
      show W (vEq false (.int (x : Int)) (.int (y : Int)) A) R = _
      rw [W_eqI, Bool.false_xor]
      have : decide ((x : Int) = (y : Int)) = decide (x = y) := by
        by_cases h : x = y
        · simp [h]
        · have h2 : ¬ (x : Int) = (y : Int) := by omega
          simp [h, h2]
      rw [this]
    show W (some _) _
    rw [W_some]
    simp only [W_def, W_seq, W_if, W_ite, W_test, W_op, W_var, W_con, W_set, W_put, W_ret, W_expr, W_call, W_fn, W_cons, W_nil, W_skip, W_tup, W_lst, List.set_cons_zero, List.set_cons_succ, List.getElem?_cons_zero, List.getElem?_cons_succ, Option.some.injEq, exists_eq_left', exists_eq_left, W_idx, W_gt, W_lt, W_ge, W_le, W_int, W_abs, W_mod, W_div, W_mul, W_pow, W_add, W_sub, W_eqI, Bool.false_xor, Bool.true_xor, PV.bl.injEq, PV.int.injEq, Prod.mk.injEq, List.length_cons, List.length_nil, Nat.zero_add, Nat.reduceAdd, decide_eq_true_eq, items_ref c1, tbl_at g1, W_eqN]
    by_cases hr : B.rt i = i
    · rw [if_pos hr]
      simp only [W_def, W_seq, W_if, W_ite, W_test, W_op, W_var, W_con, W_set, W_put, W_ret, W_expr, W_call, W_fn, W_cons, W_nil, W_skip, W_tup, W_lst, List.set_cons_zero, List.set_cons_succ, List.getElem?_cons_zero, List.getElem?_cons_succ, Option.some.injEq, exists_eq_left', exists_eq_left, W_idx, W_gt, W_lt, W_ge, W_le, W_int, W_abs, W_mod, W_div, W_mul, W_pow, W_add, W_sub, W_eqI, Bool.false_xor, Bool.true_xor, PV.bl.injEq, PV.int.injEq, Prod.mk.injEq, List.length_cons, List.length_nil, Nat.zero_add, Nat.reduceAdd, decide_eq_true_eq, W_append]
      refine ⟨⟨_, mut_ref c3⟩, ?_⟩
      refine pick_row (n := B.m) (f := fun s => decide (B.rt s = i)) (g := natV) m6 ?_ ?_ ?_ ?_
      · simp only [W_def, W_seq, W_if, W_ite, W_test, W_op, W_var, W_con, W_set, W_put, W_ret, W_expr, W_call, W_fn, W_cons, W_nil, W_skip, W_tup, W_lst, List.set_cons_zero, List.set_cons_succ, List.getElem?_cons_zero, List.getElem?_cons_succ, Option.some.injEq, exists_eq_left', exists_eq_left, W_idx, W_gt, W_lt, W_ge, W_le, W_int, W_abs, W_mod, W_div, W_mul, W_pow, W_add, W_sub, W_eqI, Bool.false_xor, Bool.true_xor, PV.bl.injEq, PV.int.injEq, Prod.mk.injEq, List.length_cons, List.length_nil, Nat.zero_add, Nat.reduceAdd, decide_eq_true_eq]
        exact ⟨trivial, trivial⟩
      · intro s hs G
        show W (mTest (mOp (vEq false) (mOp vIdx (mVar 7) (mVar 9)) (mVar 3)) [some B.v, y1, some (.ref S5.length), some (.int i), some (.int B.m), some (.int B.n), some (.tup (B.ps.map pv)), some (.ref S.length), some (.ref (S.length + 1)), some (.int s), y10, y11] _) _
        have it : itemsOf (.ref S.length) (S2 ++ G) = some (tbl B.rt B.m) := items_ref (by rw [List.getElem?_append_left k1]; exact c1)
        simp only [W_def, W_seq, W_if, W_ite, W_test, W_op, W_var, W_con, W_set, W_put, W_ret, W_expr, W_call, W_fn, W_cons, W_nil, W_skip, W_tup, W_lst, List.set_cons_zero, List.set_cons_succ, List.getElem?_cons_zero, List.getElem?_cons_succ, Option.some.injEq, exists_eq_left', exists_eq_left, W_idx, W_gt, W_lt, W_ge, W_le, W_int, W_abs, W_mod, W_div, W_mul, W_pow, W_add, W_sub, W_eqI, Bool.false_xor, Bool.true_xor, PV.bl.injEq, PV.int.injEq, Prod.mk.injEq, List.length_cons, List.length_nil, Nat.zero_add, Nat.reduceAdd, decide_eq_true_eq, it, tbl_at hs, W_eqN]
        exact ⟨trivial, trivial⟩
      · intro s hs G
        exact ⟨natV s, _, rfl, rfl, rfl⟩
      rw [W_vtuple (xs := ((List.range B.m).filter fun s => decide (B.rt s = i)).map natV) (items_ref (by simp))]
      generalize hC : S2 ++ [Ob.lst (((List.range B.m).filter fun s => decide (B.rt s = i)).map natV)] = C
      have d1 : C[S.length]? = some (.lst (tbl B.rt B.m)) := by rw [← hC, List.getElem?_append_left k1]; exact c1
      have d2 : C[S.length + 1]? = some (.lst (tbl B.rr B.n)) := by rw [← hC, List.getElem?_append_left k2]; exact c2
      have d3 : C[S5.length]? = some (.lst (((List.range i).filter fun o => decide (B.rt o = o)).map B.piece)) := by rw [← hC, List.getElem?_append_left k3]; exact c3
      have fC : Fr0 S C := by rw [← hC]; exact fr.trans Fr0.app
      have j2 := (List.getElem?_eq_some_iff.mp d2).1
      have j1 := (List.getElem?_eq_some_iff.mp d1).1
      have j3 := (List.getElem?_eq_some_iff.mp d3).1
      refine pick_row (n := B.n) (f := fun t => decide (B.rr t = i)) (g := natV) n6 ?_ ?_ ?_ ?_
      · simp only [W_def, W_seq, W_if, W_ite, W_test, W_op, W_var, W_con, W_set, W_put, W_ret, W_expr, W_call, W_fn, W_cons, W_nil, W_skip, W_tup, W_lst, List.set_cons_zero, List.set_cons_succ, List.getElem?_cons_zero, List.getElem?_cons_succ, Option.some.injEq, exists_eq_left', exists_eq_left, W_idx, W_gt, W_lt, W_ge, W_le, W_int, W_abs, W_mod, W_div, W_mul, W_pow, W_add, W_sub, W_eqI, Bool.false_xor, Bool.true_xor, PV.bl.injEq, PV.int.injEq, Prod.mk.injEq, List.length_cons, List.length_nil, Nat.zero_add, Nat.reduceAdd, decide_eq_true_eq]
        exact ⟨trivial, trivial⟩
      · intro t ht G
        show W (mTest (mOp (vEq false) (mOp vIdx (mVar 8) (mVar 10)) (mVar 3)) [some B.v, y1, some (.ref S5.length), some (.int i), some (.int B.m), some (.int B.n), some (.tup (B.ps.map pv)), some (.ref S.length), some (.ref (S.length + 1)), y9, some (.int t), y11] _) _
        have it : itemsOf (.ref (S.length + 1)) (C ++ G) = some (tbl B.rr B.n) := items_ref (by rw [List.getElem?_append_left j2]; exact d2)
        simp only [W_def, W_seq, W_if, W_ite, W_test, W_op, W_var, W_con, W_set, W_put, W_ret, W_expr, W_call, W_fn, W_cons, W_nil, W_skip, W_tup, W_lst, List.set_cons_zero, List.set_cons_succ, List.getElem?_cons_zero, List.getElem?_cons_succ, Option.some.injEq, exists_eq_left', exists_eq_left, W_idx, W_gt, W_lt, W_ge, W_le, W_int, W_abs, W_mod, W_div, W_mul, W_pow, W_add, W_sub, W_eqI, Bool.false_xor, Bool.true_xor, PV.bl.injEq, PV.int.injEq, Prod.mk.injEq, List.length_cons, List.length_nil, Nat.zero_add, Nat.reduceAdd, decide_eq_true_eq, it, tbl_at ht, W_eqN]
        exact ⟨trivial, trivial⟩
      · intro t ht G
        exact ⟨natV t, _, rfl, rfl, rfl⟩
      rw [W_vtuple (xs := ((List.range B.n).filter fun t => decide (B.rr t = i)).map natV) (items_ref (by simp))]
      refine ⟨by decide, ?_⟩
      generalize hD : C ++ [Ob.lst (((List.range B.n).filter fun t => decide (B.rr t = i)).map natV)] = D
      have q3 : D[S5.length]? = some (.lst (((List.range i).filter fun o => decide (B.rt o = o)).map B.piece)) := by rw [← hD, List.getElem?_append_left j3]; exact d3
      have q1 : D[S.length]? = some (.lst (tbl B.rt B.m)) := by rw [← hD, List.getElem?_append_left j1]; exact d1
      have q2 : D[S.length + 1]? = some (.lst (tbl B.rr B.n)) := by rw [← hD, List.getElem?_append_left j2]; exact d2
      have fD : Fr0 S D := by rw [← hD]; exact fC.trans Fr0.app
      have p3 := (List.getElem?_eq_some_iff.mp q3).1
      refine ⟨_, mut_ref q3, _, rfl, ?_, i + 1, some (.int i), g1, g3, rfl, fD.put l0, ?_, ?_, ?_⟩
      · rw [List.length_map]
        have := List.length_filter_le (fun o => decide (B.rt o = o)) (List.range i)
        rw [List.length_range] at this
        exact decide_eq_true (by omega)
      · rw [List.getElem?_set_ne (by omega)]; exact q1
      · rw [List.getElem?_set_ne (by omega)]; exact q2
      · rw [List.getElem?_set_self p3, List.range_succ, List.filter_append]
        simp [hr, Bd.piece]
    · rw [if_neg hr]
      refine ⟨i + 1, some (.int i), g1, g3, rfl, fr, c1, c2, ?_⟩
      rw [c3, List.range_succ, List.filter_append]
      simp [hr]
  · obtain ⟨i, y3, hi, hx, rfl, fr, c1, c2, c3⟩ := h
    have e := rest_nil hi hx
    subst e
    refine ⟨.ref S5.length, rfl, ?_⟩
    rw [W_vtuple (items_ref c3)]
    exact q S2 fr
end Kp
set_option Elab.async false
set_option linter.all false
set_option maxRecDepth 100000
set_option maxHeartbeats 4000000
namespace Kp
open PySem PySem.Spec L2 Ip
variable {fo : Bool} {S0 S : Store} {m n : Nat} {F : Fl → Store → Prop} {Q : PV → Store → Prop}
theorem W_chain {f g : V2} {ma mb mc : ME} {σ : PEnv} : W (mChain f g ma mb mc σ S) Q = W (ma σ S) fun p S1 => W (mb σ S1) fun q S2 => W (f p q S2) fun r S3 => match r with
    | .bl true => W (mc σ S3) fun z S4 => W (g q z S4) Q
    | .bl false => Q (.bl false) S3
    | _ => False := by
  unfold mChain
  rw [W_m2]
  congr 1
  funext p S1
  rw [W_m2]
  congr 1
  funext q S2
  rw [W_m2]
  congr 1
  funext r S3
  cases r with
  | bl b => cases b with
    | true => exact W_m2
    | false => exact W_con
  | _ => exact W_none
theorem isi_int {i : Int} {σ : List (Option PV)} : W (mIsi "int" (mVar 0) (some (.int i) :: σ) S) Q = Q (.bl true) S := by
  have e : mIsi "int" (mVar 0) (some (.int i) :: σ) S = some (.bl true, S) := rfl
  rw [e, W_some]
theorem isi_bool {i : Int} {σ : List (Option PV)} : W (mIsi "bool" (mVar 0) (some (.int i) :: σ) S) Q = Q (.bl false) S := by
  have e : mIsi "bool" (mVar 0) (some (.int i) :: σ) S = some (.bl false, S) := rfl
  rw [e, W_some]
theorem W_below {i j : Int} : W (m_is_below fo [.int i, .int j] S) Q = Q (.bl (decide (0 ≤ i) && decide (i < j))) S := by
  unfold m_is_below
  simp only [W_def, W_seq, W_if, W_ite, W_test, W_op, W_var, W_con, W_set, W_put, W_ret, W_expr, W_call, W_fn, W_cons, W_nil, W_skip, W_tup, W_lst, List.set_cons_zero, List.set_cons_succ, List.getElem?_cons_zero, List.getElem?_cons_succ, Option.some.injEq, exists_eq_left', exists_eq_left, W_idx, W_gt, W_lt, W_ge, W_le, W_int, W_abs, W_mod, W_div, W_mul, W_pow, W_add, W_sub, W_eqI, Bool.false_xor, Bool.true_xor, PV.bl.injEq, PV.int.injEq, Prod.mk.injEq, List.length_cons, List.length_nil, Nat.zero_add, Nat.reduceAdd, decide_eq_true_eq, (show startP N_is_below [PV.int i, PV.int j] = [some (.int i), some (.int j)] from rfl), W_and, isi_int, isi_bool, W_not, W_chain, if_true, Bool.not_false]
  by_cases h : 0 ≤ i
  · simp only [decide_eq_true h, if_true, Bool.true_and, W_var, W_lt, List.getElem?_cons_zero, List.getElem?_cons_succ, Option.some.injEq, exists_eq_left']
  · simp only [decide_eq_false h, if_true, Bool.false_and]
theorem W_within {i j l : Int} (h1 : j ≤ i) (h2 : i ≤ l) : W (m_is_within fo [.int i, .int j, .int l] S) Q = Q (.bl true) S := by
  unfold m_is_within
  simp only [W_def, W_seq, W_if, W_ite, W_test, W_op, W_var, W_con, W_set, W_put, W_ret, W_expr, W_call, W_fn, W_cons, W_nil, W_skip, W_tup, W_lst, List.set_cons_zero, List.set_cons_succ, List.getElem?_cons_zero, List.getElem?_cons_succ, Option.some.injEq, exists_eq_left', exists_eq_left, W_idx, W_gt, W_lt, W_ge, W_le, W_int, W_abs, W_mod, W_div, W_mul, W_pow, W_add, W_sub, W_eqI, Bool.false_xor, Bool.true_xor, PV.bl.injEq, PV.int.injEq, Prod.mk.injEq, List.length_cons, List.length_nil, Nat.zero_add, Nat.reduceAdd, decide_eq_true_eq, (show startP N_is_within [PV.int i, PV.int j, PV.int l] = [some (.int i), some (.int j), some (.int l)] from rfl), W_and, isi_int, isi_bool, W_not, W_chain, if_true, Bool.not_false]
  simp only [decide_eq_true h1, decide_eq_true h2, W_var, W_le, List.getElem?_cons_zero, List.getElem?_cons_succ, Option.some.injEq, exists_eq_left']
theorem W_side {s : Nat} (hs : s = 0 ∨ s = 1) : W (m_is_side fo [.int s] S) Q = Q (.bl true) S := by
  unfold m_is_side
  simp only [W_def, W_seq, W_if, W_ite, W_test, W_op, W_var, W_con, W_set, W_put, W_ret, W_expr, W_call, W_fn, W_cons, W_nil, W_skip, W_tup, W_lst, List.set_cons_zero, List.set_cons_succ, List.getElem?_cons_zero, List.getElem?_cons_succ, Option.some.injEq, exists_eq_left', exists_eq_left, W_idx, W_gt, W_lt, W_ge, W_le, W_int, W_abs, W_mod, W_div, W_mul, W_pow, W_add, W_sub, W_eqI, Bool.false_xor, Bool.true_xor, PV.bl.injEq, PV.int.injEq, Prod.mk.injEq, List.length_cons, List.length_nil, Nat.zero_add, Nat.reduceAdd, decide_eq_true_eq, (show startP N_is_side [PV.int s] = [some (.int s)] from rfl), W_below]
  rcases hs with rfl | rfl <;> rfl
theorem W_check_side {s : Nat} (hs : s = 0 ∨ s = 1) : W (m_check_side fo [.int s] S) Q = Q (.int s) S := by
  unfold m_check_side
  simp only [W_def, W_seq, W_if, W_ite, W_test, W_op, W_var, W_con, W_set, W_put, W_ret, W_expr, W_call, W_fn, W_cons, W_nil, W_skip, W_tup, W_lst, List.set_cons_zero, List.set_cons_succ, List.getElem?_cons_zero, List.getElem?_cons_succ, Option.some.injEq, exists_eq_left', exists_eq_left, W_idx, W_gt, W_lt, W_ge, W_le, W_int, W_abs, W_mod, W_div, W_mul, W_pow, W_add, W_sub, W_eqI, Bool.false_xor, Bool.true_xor, PV.bl.injEq, PV.int.injEq, Prod.mk.injEq, List.length_cons, List.length_nil, Nat.zero_add, Nat.reduceAdd, decide_eq_true_eq, (show startP N_check_side [PV.int s] = [some (.int s)] from rfl), W_notM, W_side hs]
  rfl
/-- a list or a tuple of these -/
structure SqV (S : Store) (v : PV) (ps : List PV) : Prop where
  items : itemsOf v S = some ps
  ty : tyName v S = some "tuple" ∨ tyName v S = some "list"
theorem SqV.of {n : Nat} {v : PV} {d : PyData} {ds : List PyData} (h : deep (n + 1) S v = some d) (hs : Sq d ds) : ∃ ps, SqV S v ps ∧ mapO (deep n S) ps = some ds := by
  obtain ⟨ps, h1, h2⟩ := deep_items (n := n) (S := S) (v := v) (ds := ds) (by
    rcases hs with e | e
    · rw [e] at h; exact .inl h
    · rw [e] at h; exact .inr h)
  refine ⟨ps, ⟨h1, ?_⟩, h2⟩
  cases v with
  | tup xs => exact .inl rfl
  | frl xs => exact .inr rfl
  | ref k =>
    simp only [itemsOf] at h1
    split at h1
    · rename_i ys hk
      exact .inr (by simp [tyName, hk])
    · cases h1
  | _ => cases h1
theorem SqV.app {v : PV} {ps : List PV} {G : Store} (h : SqV S v ps) : SqV (S ++ G) v ps := by
  refine ⟨items_app h.items, ?_⟩
  cases v with
  | ref k =>
    have := h.items
    simp only [itemsOf] at this
    split at this
    · rename_i ys hk
      exact .inr (by simp [tyName, List.getElem?_append_left (List.getElem?_eq_some_iff.mp hk).1, hk])
    · cases this
  | tup xs => exact .inl rfl
  | frl xs => exact .inr rfl
  | _ => exact nomatch h.items
theorem W_isSeq {v : PV} {ps : List PV} {σ : List (Option PV)} (h : SqV S v ps) : W (mOr (mIsi "tuple" (mVar 0)) (mIsi "list" (mVar 0)) (some v :: σ) S) Q = Q (.bl true) S := by
  have e : mOr (mIsi "tuple" (mVar 0)) (mIsi "list" (mVar 0)) (some v :: σ) S = some (.bl true, S) := by
    have e1 : ∀ t : String, mIsi t (mVar 0) (some v :: σ) S = ((tyName v S).bind fun u => kitB u t).map fun b => (PV.bl b, S) := fun t => rfl
    have e2 : mOr (mIsi "tuple" (mVar 0)) (mIsi "list" (mVar 0)) (some v :: σ) S = ((mIsi "tuple" (mVar 0) (some v :: σ) S).bind fun r => ((asB r.1).map fun b => (b, r.2)).bind fun r => (if r.1 then mCon (.bl true) else mIsi "list" (mVar 0)) (some v :: σ) r.2) := by
      show (((mIsi "tuple" (mVar 0) (some v :: σ) S).bind fun r => (asB r.1).map fun b => (b, r.2)).bind _) = _
      rw [Option.bind_assoc]
    rw [e2, e1]
    rcases h.ty with e | e
    · rw [e]; rfl
    · rw [e]
      show ((mIsi "list" (mVar 0) (some v :: σ) S)) = _
      rw [e1, e]; rfl
  rw [e, W_some]
theorem W_sequence {v : PV} {ps : List PV} (h : SqV S v ps) : W (m_is_sequence fo [v] S) Q = Q (.bl true) S := by
  unfold m_is_sequence
  simp only [W_def, W_seq, W_if, W_ite, W_test, W_op, W_var, W_con, W_set, W_put, W_ret, W_expr, W_call, W_fn, W_cons, W_nil, W_skip, W_tup, W_lst, List.set_cons_zero, List.set_cons_succ, List.getElem?_cons_zero, List.getElem?_cons_succ, Option.some.injEq, exists_eq_left', exists_eq_left, W_idx, W_gt, W_lt, W_ge, W_le, W_int, W_abs, W_mod, W_div, W_mul, W_pow, W_add, W_sub, W_eqI, Bool.false_xor, Bool.true_xor, PV.bl.injEq, PV.int.injEq, Prod.mk.injEq, List.length_cons, List.length_nil, Nat.zero_add, Nat.reduceAdd, decide_eq_true_eq, (show startP N_is_sequence [v] = [some v] from rfl), W_isSeq h]
theorem W_row {v : PV} {ps : List PV} {n : Nat} (h : SqV S v ps) : W (m_is_row fo [v, .int n] S) Q = Q (.bl (decide (ps.length = n))) S := by
  unfold m_is_row
  simp only [W_def, W_seq, W_if, W_ite, W_test, W_op, W_var, W_con, W_set, W_put, W_ret, W_expr, W_call, W_fn, W_cons, W_nil, W_skip, W_tup, W_lst, List.set_cons_zero, List.set_cons_succ, List.getElem?_cons_zero, List.getElem?_cons_succ, Option.some.injEq, exists_eq_left', exists_eq_left, W_idx, W_gt, W_lt, W_ge, W_le, W_int, W_abs, W_mod, W_div, W_mul, W_pow, W_add, W_sub, W_eqI, Bool.false_xor, Bool.true_xor, PV.bl.injEq, PV.int.injEq, Prod.mk.injEq, List.length_cons, List.length_nil, Nat.zero_add, Nat.reduceAdd, decide_eq_true_eq, (show startP N_is_row [v, PV.int n] = [some v, some (.int n)] from rfl), W_and, W_isSeq h, W_len h.items]
  rw [if_pos trivial]
  have : decide ((ps.length : Int) = (n : Int)) = decide (ps.length = n) := by
    by_cases h : ps.length = n
    · simp [h]
    · have h2 : ¬ (ps.length : Int) = (n : Int) := by omega
      simp [h, h2]
  rw [this]
end Kp
set_option Elab.async false
set_option linter.all false
set_option maxRecDepth 100000
set_option maxHeartbeats 4000000
namespace Kp
open PySem PySem.Spec L2 Ip
variable {fo : Bool} {S0 S : Store} {m n : Nat} {F : Fl → Store → Prop} {Q : PV → Store → Prop}
theorem lkOf_ok {q : PV} {xs : List PV} {G : Store} (h : itemsOf q S = some xs) : lkOk (lkOf q xs) (S ++ G) = true := by
  cases q with
  | ref r =>
    simp only [itemsOf] at h
    split at h
    · rename_i ys hr
      cases h
      exact lk_one.mpr (by rw [List.getElem?_append_left (List.getElem?_eq_some_iff.mp hr).1]; exact hr)
    · cases h
  | _ => exact lk_nil
theorem W_pair_below {v : PV} {a b m n : Nat} (h : SqV S v [.int a, .int b]) : W (m_is_pair_below fo [v, .int m, .int n] S) Q = Q (.bl (decide (a < m) && decide (b < n))) S := by
  have ng : ∀ x : Nat, decide ((0 : Int) ≤ (x : Int)) = true := fun x => decide_eq_true (by omega)
  have lt : ∀ x y : Nat, decide ((x : Int) < (y : Int)) = decide (x < y) := fun x y => by
    by_cases h : x < y
    · have : (x : Int) < (y : Int) := by omega
      simp [h, this]
    · have : ¬ (x : Int) < (y : Int) := by omega
      simp [h, this]
  have t0 : ∀ a b : PV, atI [a, b] 0 = some a := fun _ _ => rfl
  have t1 : ∀ a b : PV, atI [a, b] 1 = some b := fun _ _ => rfl
  unfold m_is_pair_below
  simp only [W_def, W_seq, W_if, W_ite, W_test, W_op, W_var, W_con, W_set, W_put, W_ret, W_expr, W_call, W_fn, W_cons, W_nil, W_skip, W_tup, W_lst, List.set_cons_zero, List.set_cons_succ, List.getElem?_cons_zero, List.getElem?_cons_succ, Option.some.injEq, exists_eq_left', exists_eq_left, W_idx, W_gt, W_lt, W_ge, W_le, W_int, W_abs, W_mod, W_div, W_mul, W_pow, W_add, W_sub, W_eqI, Bool.false_xor, Bool.true_xor, PV.bl.injEq, PV.int.injEq, Prod.mk.injEq, List.length_cons, List.length_nil, Nat.zero_add, Nat.reduceAdd, decide_eq_true_eq, (show startP N_is_pair_below [v, .int m, .int n] = [some v, some (.int m), some (.int n)] from rfl), W_and]
  have e2 : ∀ R : PV → Store → Prop, W (m_is_row fo [v, .int 2] S) R = R (.bl true) S := fun R => W_row (n := 2) h
  simp only [W_def, W_seq, W_if, W_ite, W_test, W_op, W_var, W_con, W_set, W_put, W_ret, W_expr, W_call, W_fn, W_cons, W_nil, W_skip, W_tup, W_lst, List.set_cons_zero, List.set_cons_succ, List.getElem?_cons_zero, List.getElem?_cons_succ, Option.some.injEq, exists_eq_left', exists_eq_left, W_idx, W_gt, W_lt, W_ge, W_le, W_int, W_abs, W_mod, W_div, W_mul, W_pow, W_add, W_sub, W_eqI, Bool.false_xor, Bool.true_xor, PV.bl.injEq, PV.int.injEq, Prod.mk.injEq, List.length_cons, List.length_nil, Nat.zero_add, Nat.reduceAdd, decide_eq_true_eq, e2, if_true, h.items, t0, t1, W_below, ng, lt, Bool.true_and]
  by_cases hc : a < m
  · simp [hc]
  · simp [hc]
end Kp
set_option Elab.async false
set_option linter.all false
set_option maxRecDepth 100000
set_option maxHeartbeats 4000000
namespace Kp
open PySem PySem.Spec L2 Ip
variable {fo : Bool} {S0 S : Store} {m n : Nat} {F : Fl → Store → Prop} {Q : PV → Store → Prop}
def Lex (e e' : Nat × Nat) : Prop := e.1 < e'.1 ∨ (e.1 = e'.1 ∧ e.2 < e'.2)
theorem prs_lex {f : Nat → Nat → Bool} : ∀ {m : Nat}, (prs f m n).Pairwise Lex
  | 0 => .nil
  | m + 1 => by
    rw [prs_succ, List.pairwise_append]
    refine ⟨prs_lex, ?_, fun e he e' he' => ?_⟩
    · rw [List.pairwise_map]
      exact (List.Pairwise.filter _ List.pairwise_lt_range).imp fun h => .inr ⟨rfl, h⟩
    · obtain ⟨b, _, rfl⟩ := List.mem_map.mp he'
      exact .inl (mem_prs.mp he).1
theorem rank_no {e e' : Nat × Nat} (h : Lex e e') : rankLe [(e'.1 : Int), (e'.2 : Int)] [(e.1 : Int), (e.2 : Int)] = false := by
  unfold rankLe
  rcases h with h | ⟨h1, h2⟩
  · have n1 : ¬ (e'.1 : Int) = (e.1 : Int) := by omega
    have n2 : ¬ (e'.1 : Int) ≤ (e.1 : Int) := by omega
    rw [if_neg n1, decide_eq_false n2]
  · have n1 : (e'.1 : Int) = (e.1 : Int) := by omega
    have n2 : ¬ (e'.2 : Int) = (e.2 : Int) := by omega
    have n3 : ¬ (e'.2 : Int) ≤ (e.2 : Int) := by omega
    rw [if_pos n1]
    unfold rankLe
    rw [if_neg n2, decide_eq_false n3]
theorem deep_int {k : Nat} {p : PV} {i : Int} (h : deep (k + 1) S p = some (.int i)) : p = .int i := by
  cases p with
  | int j => cases h; rfl
  | tup xs =>
    obtain ⟨ds, _, e⟩ := Option.map_eq_some_iff.mp h
    cases e
  | frl xs =>
    obtain ⟨ds, _, e⟩ := Option.map_eq_some_iff.mp h
    cases e
  | ref r =>
    simp only [deep] at h
    split at h
    · obtain ⟨ds, _, e⟩ := Option.map_eq_some_iff.mp h
      cases e
    · cases h
  | _ => cases h
theorem pair_of {k : Nat} {q : PV} {d : PyData} {e : Nat × Nat} (h : deep (k + 2) S q = some d) (hs : Sq d [.int e.1, .int e.2]) : SqV S q [.int e.1, .int e.2] := by
  obtain ⟨ps, h1, h2⟩ := SqV.of (n := k + 1) h hs
  obtain ⟨l, g⟩ := mapO_get h2
  match ps, l, h1 with
  | [a, b], _, h1 =>
    have ea := deep_int (g 0 a _ rfl rfl)
    have eb := deep_int (g 1 b _ rfl rfl)
    rw [ea, eb] at h1
    exact h1
theorem PrD.at_ : ∀ {es : List (Nat × Nat)} {ds : List PyData} {i : Nat} {e : Nat × Nat}, PrD es ds → es[i]? = some e → ∃ d, ds[i]? = some d ∧ Sq d [.int e.1, .int e.2]
  | _, _, 0, _, .cons h _, e => by
    cases e
    exact ⟨_, rfl, h⟩
  | _, _, i + 1, _, .cons _ h, e => by
    obtain ⟨d, h1, h2⟩ := PrD.at_ (i := i) h (by simpa using e)
    exact ⟨d, by simpa using h1, h2⟩
theorem PrD.len : ∀ {es : List (Nat × Nat)} {ds : List PyData}, PrD es ds → es.length = ds.length
  | _, _, .nil => rfl
  | _, _, .cons _ h => by simp [PrD.len h]
theorem lkOf_fr {q : PV} {xs : List PV} {S2 : Store} (h : itemsOf q S = some xs) (f : Fr0 S S2) : lkOk (lkOf q xs) S2 = true := by
  cases q with
  | ref r =>
    simp only [itemsOf] at h
    split at h
    · rename_i ys hr
      cases h
      exact lk_one.mpr (by rw [f.old r (List.getElem?_eq_some_iff.mp hr).1]; exact hr)
    · cases h
  | _ => exact lk_nil
theorem SqV.fr {v : PV} {ps : List PV} {S2 : Store} (h : SqV S v ps) (f : Fr0 S S2) : SqV S2 v ps := by
  cases v with
  | ref r =>
    have := h.items
    simp only [itemsOf] at this
    split at this
    · rename_i ys hr
      have e : S2[r]? = some (.lst ys) := by rw [f.old r (List.getElem?_eq_some_iff.mp hr).1]; exact hr
      cases this
      exact ⟨items_ref e, .inr (by simp [tyName, e])⟩
    · cases this
  | tup xs => exact ⟨h.items, .inl rfl⟩
  | frl xs => exact ⟨h.items, .inr rfl⟩
  | _ => exact nomatch h.items
theorem W_check_pairs {B : Bd} {v : PV} {qs : List PV} {ds : List PyData} {k : Nat} (hB : B.Ok) (h : SqV S v qs) (hd : mapO (deep (k + 2) S) qs = some ds) (hp : PrD B.ps ds) (q : ∀ S', Fr0 S S' → Q (.tup (B.ps.map pv)) S') : W (m_check_pairs fo [.int B.m, .int B.n, v] S) Q := by
  obtain ⟨lq, gq⟩ := mapO_get hd
  have lp := hp.len
  have l36 : B.ps.length ≤ 36 := by
    have h1 := prs_len (f := B.f) (n := B.n) (m := B.m)
    have h2 : B.m * B.n ≤ 6 * 6 := Nat.mul_le_mul hB.m6 hB.n6
    exact Nat.le_trans h1 h2
  have row : ∀ (i : Nat) (x : PV) (e : Nat × Nat), qs[i]? = some x → B.ps[i]? = some e → SqV S x [.int e.1, .int e.2] := fun i x e h1 h2 => by
    obtain ⟨d, hd1, hd2⟩ := hp.at_ h2
    exact pair_of (gq i x d h1 hd1) hd2
  unfold m_check_pairs
  simp only [W_def, W_seq, W_if, W_ite, W_test, W_op, W_var, W_con, W_set, W_put, W_ret, W_expr, W_call, W_fn, W_cons, W_nil, W_skip, W_tup, W_lst, List.set_cons_zero, List.set_cons_succ, List.getElem?_cons_zero, List.getElem?_cons_succ, Option.some.injEq, exists_eq_left', exists_eq_left, W_idx, W_gt, W_lt, W_ge, W_le, W_int, W_abs, W_mod, W_div, W_mul, W_pow, W_add, W_sub, W_eqI, Bool.false_xor, Bool.true_xor, PV.bl.injEq, PV.int.injEq, Prod.mk.injEq, List.length_cons, List.length_nil, Nat.zero_add, Nat.reduceAdd, decide_eq_true_eq, (show startP N_check_pairs [.int B.m, .int B.n, v] = [some (.int B.m), some (.int B.n), some v, none, none, none] from rfl)]
  refine ⟨by decide, ?_⟩
  rw [W_for]
  have ee : ∀ A : Store, itemsOf v A = some qs → iEnum' (aCons (mVar 2) aNil) [some (.int B.m), some (.int B.n), some v, some (.ref S.length), none, none] A = some ((qs.zipIdx.map fun e => .tup [.int (e.2 : Nat), e.1], lkOf v qs), A) := fun A hA => by
    show (itemsOf v A).map _ = _
    rw [hA]
    rfl
  rw [ee _ (items_app h.items), W_some]
  dsimp only
  refine W_forM (xs := []) (fun ys σ S2 => ∃ i y4 y5, i ≤ qs.length ∧ ys = ((qs.drop i).zipIdx i).map (fun e => PV.tup [.int (e.2 : Nat), e.1]) ∧ σ = [some (.int B.m), some (.int B.n), some v, some (.ref S.length), y4, y5] ∧ Fr0 S S2 ∧ S2[S.length]? = some (.lst ((B.ps.take i).map pv))) (fun ys σ S2 h2 => ?_) (fun z ys σ S2 h2 => ?_) (fun σ S2 h2 => ?_) _ _ _
    ⟨0, none, none, by omega, by simp, rfl, Fr0.app, by simp⟩
  · obtain ⟨i, y4, y5, _, _, _, fr, _⟩ := h2
    exact lkOf_fr h.items fr
  · obtain ⟨i, y4, y5, hi, hy, rfl, fr, hn⟩ := h2
    have il : i < qs.length := by
      rcases Nat.lt_or_ge i qs.length with z | z
      · exact z
      · rw [List.drop_of_length_le z] at hy
        cases hy
    rw [List.drop_eq_getElem_cons il, List.zipIdx_cons, List.map_cons] at hy
    cases hy
    have ip : i < B.ps.length := by omega
    have hx : qs[i]? = some qs[i] := List.getElem?_eq_getElem il
    have hpe : B.ps[i]? = some B.ps[i] := List.getElem?_eq_getElem ip
    generalize qs[i] = x at hx
    generalize B.ps[i] = e at hpe
    have sx := (row i x e hx hpe).fr fr
    obtain ⟨c1, c2, _⟩ := mem_prs.mp (List.mem_of_getElem? hpe)
    rw [W_gT2]
    simp only [W_def, W_seq, W_if, W_ite, W_test, W_op, W_var, W_con, W_set, W_put, W_ret, W_expr, W_call, W_fn, W_cons, W_nil, W_skip, W_tup, W_lst, List.set_cons_zero, List.set_cons_succ, List.getElem?_cons_zero, List.getElem?_cons_succ, Option.some.injEq, exists_eq_left', exists_eq_left, W_idx, W_gt, W_lt, W_ge, W_le, W_int, W_abs, W_mod, W_div, W_mul, W_pow, W_add, W_sub, W_eqI, Bool.false_xor, Bool.true_xor, PV.bl.injEq, PV.int.injEq, Prod.mk.injEq, List.length_cons, List.length_nil, Nat.zero_add, Nat.reduceAdd, decide_eq_true_eq, W_notM]
    rw [W_pair_below sx]
    have sx' : SqV S2 x [.int e.1, .int e.2] := sx
    have hn' : S2[S.length]? = some (.lst ((B.ps.take i).map pv)) := hn
    have frG : Fr0 S S2 := fr
    refine ⟨true, by rw [decide_eq_true c1, decide_eq_true c2]; rfl, ?_⟩
    rw [if_neg (by decide)]
    have W_rank : ∀ (a b c d : Int) (A : Store) (R : PV → Store → Prop), W (vRankLe (.tup [.int a, .int b]) (.tup [.int c, .int d]) A) R = R (.bl (rankLe [a, b] [c, d])) A := fun a b c d A R => W_some
    have fin : ∀ (P : Store → Prop), (∀ S3, Fr0 S S3 → S3[S.length]? = some (.lst ((B.ps.take (i + 1)).map pv)) → P S3) →
        W (mMeth fAppend (mVar 3) (aCons (mCall vTuple (aCons (mVar 5) aNil)) aNil) [some (.int B.m), some (.int B.n), some v, some (.ref S.length), some (.int i), some x] S2) fun _ S1 => P S1 := fun P hF => by
      simp only [W_def, W_seq, W_if, W_ite, W_test, W_op, W_var, W_con, W_set, W_put, W_ret, W_expr, W_call, W_fn, W_cons, W_nil, W_skip, W_tup, W_lst, List.set_cons_zero, List.set_cons_succ, List.getElem?_cons_zero, List.getElem?_cons_succ, Option.some.injEq, exists_eq_left', exists_eq_left, W_idx, W_gt, W_lt, W_ge, W_le, W_int, W_abs, W_mod, W_div, W_mul, W_pow, W_add, W_sub, W_eqI, Bool.false_xor, Bool.true_xor, PV.bl.injEq, PV.int.injEq, Prod.mk.injEq, List.length_cons, List.length_nil, Nat.zero_add, Nat.reduceAdd, decide_eq_true_eq, W_append]
      refine ⟨⟨_, mut_ref hn'⟩, ?_⟩
      rw [W_vtuple sx'.items]
      refine ⟨_, mut_ref hn', _, rfl, ?_, hF _ (frG.put (Nat.le_refl _)) ?_⟩
      · rw [List.length_map, List.length_take]
        exact decide_eq_true (by omega)
      · rw [List.getElem?_set_self (List.getElem?_eq_some_iff.mp hn').1, List.take_add_one, hpe, List.map_append]
        rfl
    simp only [W_def, W_seq, W_if, W_ite, W_test, W_op, W_var, W_con, W_set, W_put, W_ret, W_expr, W_call, W_fn, W_cons, W_nil, W_skip, W_tup, W_lst, List.set_cons_zero, List.set_cons_succ, List.getElem?_cons_zero, List.getElem?_cons_succ, Option.some.injEq, exists_eq_left', exists_eq_left, W_idx, W_gt, W_lt, W_ge, W_le, W_int, W_abs, W_mod, W_div, W_mul, W_pow, W_add, W_sub, W_eqI, Bool.false_xor, Bool.true_xor, PV.bl.injEq, PV.int.injEq, Prod.mk.injEq, List.length_cons, List.length_nil, Nat.zero_add, Nat.reduceAdd, decide_eq_true_eq, W_andM]
    rcases Nat.eq_zero_or_pos i with z | z
    · subst z
      rw [if_neg (by decide), if_neg Bool.false_ne_true]
      refine fin _ fun S3 f3 h3 => ?_
      exact ⟨1, some (.int ((0 : Nat) : Int)), some x, by omega, rfl, rfl, f3, h3⟩
    · have hz : (0 : Int) < (i : Int) := by omega
      rw [if_pos hz]
      obtain ⟨j, rfl⟩ : ∃ j, i = j + 1 := ⟨i - 1, by omega⟩
      have jp : j < B.ps.length := by omega
      have hje : B.ps[j]? = some B.ps[j] := List.getElem?_eq_getElem jp
      generalize B.ps[j] = e' at hje
      have hlex : Lex e' e := by
        have pw := List.pairwise_iff_getElem.mp (prs_lex (f := B.f) (m := B.m) (n := B.n)) j (j + 1) jp ip (Nat.lt_succ_self j)
        have a1 : (prs B.f B.m B.n)[j] = e' := by
          have := hje
          rw [List.getElem?_eq_getElem jp] at this
          exact Option.some.inj this
        have a2 : (prs B.f B.m B.n)[j + 1] = e := by
          have := hpe
          rw [List.getElem?_eq_getElem ip] at this
          exact Option.some.inj this
        rw [a1, a2] at pw
        exact pw
      have ei : ((j + 1 : Nat) : Int) - 1 = (j : Int) := by omega
      have ej : atI ((B.ps.take (j + 1)).map pv) (j : Int) = some (pv e') := atI_nat (by
        rw [List.getElem?_map, List.getElem?_take_of_lt (Nat.lt_succ_self j), hje]
        rfl)
      rw [W_vtuple sx'.items]
      simp only [W_def, W_seq, W_if, W_ite, W_test, W_op, W_var, W_con, W_set, W_put, W_ret, W_expr, W_call, W_fn, W_cons, W_nil, W_skip, W_tup, W_lst, List.set_cons_zero, List.set_cons_succ, List.getElem?_cons_zero, List.getElem?_cons_succ, Option.some.injEq, exists_eq_left', exists_eq_left, W_idx, W_gt, W_lt, W_ge, W_le, W_int, W_abs, W_mod, W_div, W_mul, W_pow, W_add, W_sub, W_eqI, Bool.false_xor, Bool.true_xor, PV.bl.injEq, PV.int.injEq, Prod.mk.injEq, List.length_cons, List.length_nil, Nat.zero_add, Nat.reduceAdd, decide_eq_true_eq, ei, items_ref hn', ej]
      rw [show pv e' = .tup [.int e'.1, .int e'.2] from rfl, W_rank, rank_no hlex]
      refine ⟨false, rfl, ?_⟩
      rw [if_neg Bool.false_ne_true]
      refine fin _ fun S3 f3 h3 => ?_
      exact ⟨j + 1 + 1, some (.int ((j + 1 : Nat) : Int)), some x, by omega, rfl, rfl, f3, h3⟩
  · obtain ⟨i, y4, y5, hi, hy, rfl, fr, hn⟩ := h2
    have e : qs.length ≤ i := by
      rcases Nat.lt_or_ge i qs.length with z | z
      · rw [List.drop_eq_getElem_cons z, List.zipIdx_cons] at hy
        cases hy
      · exact z
    refine ⟨.ref S.length, rfl, ?_⟩
    rw [W_vtuple (items_ref hn), List.take_of_length_le (by omega)]
    exact q S2 fr
end Kp
set_option Elab.async false
set_option linter.all false
set_option maxRecDepth 100000
set_option maxHeartbeats 4000000
namespace Kp
open PySem PySem.Spec L2 Ip
variable {fo : Bool} {S0 S : Store} {m n : Nat} {F : Fl → Store → Prop} {Q : PV → Store → Prop}
theorem W_si {f : Bool} {mi : MI} {g : MG} {t : MT} {e : ME} {vs : List Nat} {σ : PEnv} : W (mSi f mi g t e vs σ S) Q = W (mi σ S) fun r S1 => W (siM f g t e r.2 S1.length (wipeP σ vs) r.1 (S1 ++ [.st f []])) fun _ S2 => Q (.ref S1.length) S2 := by
  unfold mSi
  rw [W_m2]
  congr 1
  funext r S1
  rw [W_map]
theorem W_siM {f : Bool} {g : MG} {t : MT} {e : ME} {lk : Lk} {k : Nat} {σ : PEnv} {R : Unit → Store → Prop} (P : List PV → List Int → Store → Prop) (hl : ∀ ys ks S, P ys ks S → lkOk lk S = true)
    (hs : ∀ x ys ks S, P (x :: ys) ks S → W (g x σ S) fun σ1 S1 => W (t σ1 S1) fun c S2 => if c = true then W (e σ1 S2) fun y S3 => ∃ i, y = .int i ∧ S3[k]? = some (.st f ks) ∧ szS ks = true ∧ P ys (addI ks i) (S3.set k (.st f (addI ks i))) else P ys ks S2)
    (hd : ∀ ks S, P [] ks S → R () S) : ∀ (xs : List PV) (ks : List Int) (S : Store), P xs ks S → W (siM f g t e lk k σ xs S) R
  | [], ks, S, h => by
    unfold siM
    rw [if_pos (hl _ _ _ h), W_some]
    exact hd ks S h
  | x :: xs, ks, S, h => by
    unfold siM
    rw [if_pos (hl _ _ _ h), W_bind]
    refine (hs x xs ks S h).mono fun σ1 S1 h1 => ?_
    rw [W_bind]
    refine h1.mono fun c S2 h2 => ?_
    cases c with
    | true =>
      simp only [if_true] at h2 ⊢
      rw [W_bind]
      refine h2.mono fun y S3 ⟨i, e1, e2, e3, h3⟩ => ?_
      subst e1
      have ei : asInt (PV.int i) = some i := rfl
      have es : isSt (some (Ob.st f ks)) = some (f, ks) := rfl
      simp only [ei, Option.bind_some, e2, es, e3, beq_self_eq_true, Bool.and_self, if_true]
      exact W_siM P hl hs hd xs _ _ h3
    | false =>
      simp only [Bool.false_eq_true, if_false] at h2 ⊢
      exact W_siM P hl hs hd xs ks S2 h2
theorem addI_mem {ks : List Int} {c x : Int} : x ∈ addI ks c ↔ x ∈ ks ∨ x = c := by
  unfold addI
  split
  · rename_i h
    exact ⟨.inl, fun z => z.elim id fun e => e ▸ h⟩
  · rw [List.mem_append, List.mem_singleton]
theorem addI_len {ks : List Int} {c : Int} : (addI ks c).length ≤ ks.length + 1 := by
  unfold addI
  split
  · omega
  · simp
/-- the set of one side's fillings -/
theorem set_spec {B : Bd} {s : Nat} {x0 x2 x3 x4 : Option PV} (hs : s = 0 ∨ s = 1) (hB : B.Ok) (q : ∀ ks : List Int, ks.Nodup → ks.length ≤ 36 → (∀ x, x ∈ ks ↔ ∃ e ∈ B.ps, x = (co s e : Int)) → Q (.ref S.length) (S ++ [.st fo ks])) :
    W (mSi fo (iSeq (mVar 1)) (gN 4) tYesM (mOp vIdx (mVar 4) (mCon (.int s))) [4] [x0, some (.tup (B.ps.map pv)), x2, x3, x4] S) Q := by
  have l36 : B.ps.length ≤ 36 := by
    have h1 := prs_len (f := B.f) (n := B.n) (m := B.m)
    have h2 : B.m * B.n ≤ 6 * 6 := Nat.mul_le_mul hB.m6 hB.n6
    exact Nat.le_trans h1 h2
  rw [W_si]
  refine W_seqI ?_
  simp only [W_def, W_seq, W_if, W_ite, W_test, W_op, W_var, W_con, W_set, W_put, W_ret, W_expr, W_call, W_fn, W_cons, W_nil, W_skip, W_tup, W_lst, List.set_cons_zero, List.set_cons_succ, List.getElem?_cons_zero, List.getElem?_cons_succ, Option.some.injEq, exists_eq_left', exists_eq_left, W_idx, W_gt, W_lt, W_ge, W_le, W_int, W_abs, W_mod, W_div, W_mul, W_pow, W_add, W_sub, W_eqI, Bool.false_xor, Bool.true_xor, PV.bl.injEq, PV.int.injEq, Prod.mk.injEq, List.length_cons, List.length_nil, Nat.zero_add, Nat.reduceAdd, decide_eq_true_eq]
  refine ⟨_, _, ⟨rfl, rfl⟩, ?_⟩
  refine W_siM (fun ys ks S2 => ∃ es fs, B.ps = es ++ fs ∧ ys = fs.map pv ∧ S2 = S ++ [.st fo ks] ∧ ks.Nodup ∧ ks.length ≤ es.length ∧ ∀ x, x ∈ ks ↔ ∃ e ∈ es, x = (co s e : Int)) (fun _ _ _ _ => rfl) (fun x ys ks S2 h => ?_) (fun ks S2 h => ?_) _ [] _ ⟨[], B.ps, rfl, rfl, rfl, List.nodup_nil, by simp, fun x => ⟨(fun h => nomatch h), (fun ⟨_, h, _⟩ => nomatch h)⟩⟩
  · obtain ⟨es, fs, hps, hys, rfl, nd, hl, hm⟩ := h
    obtain ⟨e, fs, rfl⟩ : ∃ e fs', fs = e :: fs' := by
      cases fs with
      | nil => cases hys
      | cons e fs => exact ⟨e, fs, rfl⟩
    cases hys
    have hlen : es.length + 1 ≤ 36 := by
      have := congrArg List.length hps
      simp only [List.length_append, List.length_cons] at this
      omega
    show W (some _) _
    rw [W_some]
    show W (some (true, _)) _
    rw [W_some]
    simp only [if_true]
    have ip : ∀ A : Store, itemsOf (pv e) A = some [.int e.1, .int e.2] := fun _ => rfl
    show W (mOp vIdx (mVar 4) (mCon (.int s)) [x0, some (.tup (B.ps.map pv)), x2, x3, some (pv e)] _) _
    simp only [W_def, W_seq, W_if, W_ite, W_test, W_op, W_var, W_con, W_set, W_put, W_ret, W_expr, W_call, W_fn, W_cons, W_nil, W_skip, W_tup, W_lst, List.set_cons_zero, List.set_cons_succ, List.getElem?_cons_zero, List.getElem?_cons_succ, Option.some.injEq, exists_eq_left', exists_eq_left, W_idx, W_gt, W_lt, W_ge, W_le, W_int, W_abs, W_mod, W_div, W_mul, W_pow, W_add, W_sub, W_eqI, Bool.false_xor, Bool.true_xor, PV.bl.injEq, PV.int.injEq, Prod.mk.injEq, List.length_cons, List.length_nil, Nat.zero_add, Nat.reduceAdd, decide_eq_true_eq, ip, pair_at hs]
    refine ⟨by simp, decide_eq_true (by omega), es ++ [e], fs, by rw [hps]; simp, rfl, by rw [set_last], addI_nodup nd, ?_, fun x => ?_⟩
    · have := addI_len (ks := ks) (c := (co s e : Int))
      simp
      omega
    · rw [addI_mem, hm]
      constructor
      · rintro (⟨e', h1, h2⟩ | h1)
        · exact ⟨e', List.mem_append_left _ h1, h2⟩
        · exact ⟨e, by simp, h1⟩
      · rintro ⟨e', h1, h2⟩
        rcases List.mem_append.mp h1 with z | z
        · exact .inl ⟨e', z, h2⟩
        · rw [List.mem_singleton.mp z] at h2
          exact .inr h2
  · obtain ⟨es, fs, hps, hys, rfl, nd, hl, hm⟩ := h
    have hfs : fs = [] := by
      cases fs with
      | nil => rfl
      | cons _ _ => cases hys
    subst hfs
    rw [List.append_nil] at hps
    subst hps
    exact q ks nd (by omega) hm
theorem sub_len : ∀ {l k : List Int}, l.Nodup → (∀ x ∈ l, x ∈ k) → l.length ≤ k.length
  | [], _, _, _ => Nat.zero_le _
  | x :: l, k, nd, h => by
    have hx := h x (List.mem_cons_self ..)
    have ⟨n1, n2⟩ := List.nodup_cons.mp nd
    have := sub_len (k := k.erase x) n2 fun y hy => (List.mem_erase_of_ne (fun e => n1 (by rw [← e]; exact hy))).mpr (h y (List.mem_cons_of_mem _ hy))
    rw [List.length_erase_of_mem hx] at this
    have := List.length_pos_of_mem hx
    simp only [List.length_cons]
    omega
theorem all_in {B : Bd} {s : Nat} (hB : B.Ok) (hs : s = 0 ∨ s = 1) {ks : List Int} (hm : ∀ x, x ∈ ks ↔ ∃ e ∈ B.ps, x = (co s e : Int)) : B.sz s ≤ ks.length := by
  have h : ((List.range (B.sz s)).map fun i : Nat => (i : Int)).length ≤ ks.length := by
    refine sub_len ?_ fun x hx => ?_
    · refine List.pairwise_map.mpr (List.nodup_range.imp fun h e => h (by omega))
    · obtain ⟨i, hi, rfl⟩ := List.mem_map.mp hx
      have hi := List.mem_range.mp hi
      refine (hm _).mpr ?_
      rcases hs with rfl | rfl
      · obtain ⟨b, hb, hf⟩ := hB.rows i hi
        exact ⟨(i, b), mem_prs.mpr ⟨hi, hb, hf⟩, rfl⟩
      · obtain ⟨a, ha, hf⟩ := hB.cols i hi
        exact ⟨(a, i), mem_prs.mpr ⟨ha, hi, hf⟩, rfl⟩
  simpa using h
end Kp
set_option Elab.async false
set_option linter.all false
set_option maxRecDepth 100000
set_option maxHeartbeats 4000000
namespace Kp
open PySem PySem.Spec L2 Ip
variable {fo : Bool} {S0 S : Store} {m n : Nat} {F : Fl → Store → Prop} {Q : PV → Store → Prop}
theorem itemsOf_gT3 {σ : PEnv} {v a b c : PV} {i j l : Nat} {R : PEnv → Store → Prop} (h : itemsOf v S = some [a, b, c]) : W (gT 3 (gsC (gN i) (gsC (gN j) (gsC (gN l) gsN))) v σ S) R = R (((σ.set i (some a)).set j (some b)).set l (some c)) S := by
  have e : gT 3 (gsC (gN i) (gsC (gN j) (gsC (gN l) gsN))) v σ S = some (((σ.set i (some a)).set j (some b)).set l (some c), S) := by
    show (itemsOf v S).bind _ = _
    rw [h]
    rfl
  rw [e, W_some]
theorem W_lenS {f : Bool} {r : Nat} {ks : List Int} (h : S[r]? = some (.st f ks)) (hl : ks.length < 60) : W (vLenS f [.ref r] S) Q = Q (.int ks.length) S := by
  have e : vLenS f [.ref r] S = some (.int ks.length, S) := by
    have e1 : stOf (.ref r) S = some (f, ks) := by
      show isSt S[r]? = _
      rw [h]
      rfl
    have e2 : szS ks = true := decide_eq_true hl
    show (stOf (.ref r) S).bind (fun fk => if (fk.1 == f && szS fk.2) = true then some ((.int fk.2.length, S) : PV × Store) else none) = _
    rw [e1, Option.bind_some]
    simp [e2]
  rw [e, W_some]
theorem deep_nat {k : Nat} {p : PV} {i : Nat} (h : deep (k + 1) S p = some (.int i)) : p = .int i := deep_int h
/-- check_bond gives the bond as tuples -/
theorem W_check_bond {B : Bd} {v : PV} {d : PyData} (hB : B.Ok) (hd : deep 16 S v = some d) (hb : BdD B d) (q : ∀ S', Fr0 S S' → Q B.v S') : W (m_check_bond fo [v] S) Q := by
  obtain ⟨dw, dqs, h1, h2, h3⟩ := hb
  obtain ⟨ps, sv, mp⟩ := SqV.of (n := 15) hd h1
  obtain ⟨l3, g3⟩ := mapO_get mp
  match ps, l3, sv, g3 with
  | [p0, p1, w], _, sv, g3 =>
    have e0 := deep_int (k := 14) (g3 0 p0 _ rfl rfl)
    have e1 := deep_int (k := 14) (g3 1 p1 _ rfl rfl)
    have hw := g3 2 w _ rfl rfl
    subst e0
    subst e1
    obtain ⟨qs, sw, mq⟩ := SqV.of (n := 14) hw h2
    have r3 := W_row (fo := fo) (n := 3) (Q := fun v S' => v = .bl true ∧ S' = S) sv
    unfold m_check_bond
    simp only [W_def, W_seq, W_asg]
    rw [(show startP N_check_bond [v] = [some v, none, none, none, none] from rfl)]
    simp only [W_def, W_seq, W_if, W_ite, W_test, W_op, W_var, W_con, W_set, W_put, W_ret, W_expr, W_call, W_fn, W_cons, W_nil, W_skip, W_tup, W_lst, List.set_cons_zero, List.set_cons_succ, List.getElem?_cons_zero, List.getElem?_cons_succ, Option.some.injEq, exists_eq_left', exists_eq_left, W_idx, W_gt, W_lt, W_ge, W_le, W_int, W_abs, W_mod, W_div, W_mul, W_pow, W_add, W_sub, W_eqI, Bool.false_xor, Bool.true_xor, PV.bl.injEq, PV.int.injEq, Prod.mk.injEq, List.length_cons, List.length_nil, Nat.zero_add, Nat.reduceAdd, decide_eq_true_eq, W_notM]
    have er : m_is_row fo [v, .int 3] S = some (.bl true, S) := by
      have : W (m_is_row fo [v, .int ((3 : Nat) : Int)] S) fun v S' => v = .bl true ∧ S' = S := by
        rw [W_row sv]
        exact ⟨rfl, rfl⟩
      obtain ⟨u, S', e, rfl, rfl⟩ := this
      exact e
    rw [er, W_some]
    refine ⟨true, rfl, ?_⟩
    rw [if_neg (by decide)]
    rw [itemsOf_gT3 sv.items]
    have wm : ∀ (A : Store) (R : PV → Store → Prop), W (m_is_within fo [.int B.m, .int 1, .int 6] A) R = R (.bl true) A := fun A R => W_within (by have := hB.m1; omega) (by have := hB.m6; omega)
    have wn : ∀ (A : Store) (R : PV → Store → Prop), W (m_is_within fo [.int B.n, .int 1, .int 6] A) R = R (.bl true) A := fun A R => W_within (by have := hB.n1; omega) (by have := hB.n6; omega)
    simp only [W_def, W_seq, W_if, W_ite, W_test, W_op, W_var, W_con, W_set, W_put, W_ret, W_expr, W_call, W_fn, W_cons, W_nil, W_skip, W_tup, W_lst, List.set_cons_zero, List.set_cons_succ, List.getElem?_cons_zero, List.getElem?_cons_succ, Option.some.injEq, exists_eq_left', exists_eq_left, W_idx, W_gt, W_lt, W_ge, W_le, W_int, W_abs, W_mod, W_div, W_mul, W_pow, W_add, W_sub, W_eqI, Bool.false_xor, Bool.true_xor, PV.bl.injEq, PV.int.injEq, Prod.mk.injEq, List.length_cons, List.length_nil, Nat.zero_add, Nat.reduceAdd, decide_eq_true_eq, wm, wn, W_sequence sw, Bool.not_true, Bool.false_eq_true, if_false]
    refine W_check_pairs (k := 12) hB sw mq h3 fun S5 f5 => ?_
    simp only [W_def, W_seq, W_if, W_ite, W_test, W_op, W_var, W_con, W_set, W_put, W_ret, W_expr, W_call, W_fn, W_cons, W_nil, W_skip, W_tup, W_lst, List.set_cons_zero, List.set_cons_succ, List.getElem?_cons_zero, List.getElem?_cons_succ, Option.some.injEq, exists_eq_left', exists_eq_left, W_idx, W_gt, W_lt, W_ge, W_le, W_int, W_abs, W_mod, W_div, W_mul, W_pow, W_add, W_sub, W_eqI, Bool.false_xor, Bool.true_xor, PV.bl.injEq, PV.int.injEq, Prod.mk.injEq, List.length_cons, List.length_nil, Nat.zero_add, Nat.reduceAdd, decide_eq_true_eq, W_orM]
    show W (some _) _
    rw [W_some]
    show W (mSi fo (iSeq (mVar 1)) (gN 4) tYesM (mOp vIdx (mVar 4) (mCon (.int ((0 : Nat) : Int)))) [4] [some v, some (.tup (B.ps.map pv)), some (.int B.m), some (.int B.n), none] S5) _
    refine set_spec (s := 0) (.inl rfl) hB fun ks nd l36 hm => ?_
    have a0 := all_in hB (.inl rfl) hm
    rw [W_lenS (ks := ks) (by simp) (by omega)]
    simp only [W_def, W_seq, W_if, W_ite, W_test, W_op, W_var, W_con, W_set, W_put, W_ret, W_expr, W_call, W_fn, W_cons, W_nil, W_skip, W_tup, W_lst, List.set_cons_zero, List.set_cons_succ, List.getElem?_cons_zero, List.getElem?_cons_succ, Option.some.injEq, exists_eq_left', exists_eq_left, W_idx, W_gt, W_lt, W_ge, W_le, W_int, W_abs, W_mod, W_div, W_mul, W_pow, W_add, W_sub, W_eqI, Bool.false_xor, Bool.true_xor, PV.bl.injEq, PV.int.injEq, Prod.mk.injEq, List.length_cons, List.length_nil, Nat.zero_add, Nat.reduceAdd, decide_eq_true_eq]
    have n0 : ¬ ((ks.length : Int) < (B.m : Int)) := by
      have : B.sz 0 = B.m := rfl
      omega
    rw [if_neg n0]
    show W (mSi fo (iSeq (mVar 1)) (gN 4) tYesM (mOp vIdx (mVar 4) (mCon (.int ((1 : Nat) : Int)))) [4] [some v, some (.tup (B.ps.map pv)), some (.int B.m), some (.int B.n), none] _) _
    refine set_spec (s := 1) (.inr rfl) hB fun ks2 nd2 l362 hm2 => ?_
    have a1 := all_in hB (.inr rfl) hm2
    rw [W_lenS (ks := ks2) (by simp) (by omega)]
    simp only [W_def, W_seq, W_if, W_ite, W_test, W_op, W_var, W_con, W_set, W_put, W_ret, W_expr, W_call, W_fn, W_cons, W_nil, W_skip, W_tup, W_lst, List.set_cons_zero, List.set_cons_succ, List.getElem?_cons_zero, List.getElem?_cons_succ, Option.some.injEq, exists_eq_left', exists_eq_left, W_idx, W_gt, W_lt, W_ge, W_le, W_int, W_abs, W_mod, W_div, W_mul, W_pow, W_add, W_sub, W_eqI, Bool.false_xor, Bool.true_xor, PV.bl.injEq, PV.int.injEq, Prod.mk.injEq, List.length_cons, List.length_nil, Nat.zero_add, Nat.reduceAdd, decide_eq_true_eq]
    have n1 : ¬ ((ks2.length : Int) < (B.n : Int)) := by
      have : B.sz 1 = B.n := rfl
      omega
    rw [if_neg n1]
    refine ⟨by decide, q _ ((f5.trans Fr0.app).trans Fr0.app)⟩
end Kp
set_option Elab.async false
set_option linter.all false
set_option maxRecDepth 100000
set_option maxHeartbeats 4000000
namespace Kp
open PySem PySem.Spec L2 Ip
variable {fo : Bool} {S0 S : Store} {m n : Nat} {F : Fl → Store → Prop} {Q : PV → Store → Prop}
theorem seq_of_items {v : PV} {xs : List PV} (h : itemsOf v S = some xs) : Seq v S xs (lkOf v xs) := by
  cases v with
  | ref r =>
    simp only [itemsOf] at h
    split at h
    · rename_i ys hr
      cases h
      exact ⟨hr, rfl⟩
    · cases h
  | tup ys => cases h; exact ⟨rfl, rfl⟩
  | frl ys => cases h; exact ⟨rfl, rfl⟩
  | _ => cases h
/-- [e for x in v], nothing changed -/
theorem map_seq {σ : PEnv} {me e : ME} {tt : MT} {j : Nat} {v : PV} {xs : List PV} {g : PV → PV} {f : PV → Bool} (hx : xs.length ≤ 1000) (hi : itemsOf v S = some xs) (hme : W (me σ S) fun p S1 => p = v ∧ S1 = S)
    (ht : ∀ x ∈ xs, ∀ G : Store, W (tt ((wipeP σ [j]).set j (some x)) (S ++ G)) fun c S2 => c = f x ∧ ∃ G2, S2 = S ++ G ++ G2)
    (he : ∀ x ∈ xs, ∀ G : Store, W (e ((wipeP σ [j]).set j (some x)) (S ++ G)) fun y S2 => y = g x ∧ ∃ G2, S2 = S ++ G ++ G2)
    (q : ∀ S', Fr0 S S' → S'[S.length]? = some (.lst ((xs.filter f).map g)) → Q (.ref S.length) S') : W (mLc (iSeq me) (gN j) tt e [j] σ S) Q := by
  rw [W_lc]
  refine W_seqI (hme.mono fun p S1 ⟨e1, e2⟩ => ?_)
  subst e1
  subst e2
  refine ⟨xs, lkOf p xs, seq_of_items hi, ?_⟩
  refine W_lcM (fun ys acc S2 => ∃ zs, xs = zs ++ ys ∧ acc = (zs.filter f).map g ∧ ∃ G, S2 = S1 ++ G ∧ S2[S1.length]? = some (.lst acc)) (fun ys acc S2 h => ?_) (fun x ys acc S2 h => ?_) (fun acc S2 h => ?_) _ _ _ ⟨[], rfl, rfl, _, rfl, by simp⟩
  · obtain ⟨zs, _, _, G, rfl, _⟩ := h
    exact lkOf_ok hi
  · obtain ⟨zs, hxs, rfl, G, rfl, hn⟩ := h
    have hm : x ∈ xs := by rw [hxs]; simp
    have hG : 0 < G.length := by
      have := (List.getElem?_eq_some_iff.mp hn).1
      simp at this
      omega
    show W (some _) _
    rw [W_some]
    refine (ht x hm G).mono fun c S3 ⟨e1, G2, e2⟩ => ?_
    subst e1
    subst e2
    have hn2 : (S1 ++ G ++ G2)[S1.length]? = some (.lst ((zs.filter f).map g)) := by rw [List.getElem?_append_left (by simp; omega)]; exact hn
    cases hf : f x with
    | true =>
      rw [if_pos rfl]
      have := he x hm (G ++ G2)
      rw [← List.append_assoc] at this
      refine this.mono fun y S4 ⟨e1, G3, e2⟩ => ?_
      subst e1
      subst e2
      have hn3 : (S1 ++ G ++ G2 ++ G3)[S1.length]? = some (.lst ((zs.filter f).map g)) := by rw [List.getElem?_append_left (by simp; omega)]; exact hn2
      refine ⟨hn3, ?_, zs ++ [x], by rw [hxs]; simp, by simp [List.filter_append, hf], ((G ++ G2 ++ G3).set 0 (.lst ((zs.filter f).map g ++ [g x]))), ?_, ?_⟩
      · rw [List.length_map]
        have l1 := List.length_filter_le f zs
        have l2 : zs.length < xs.length := by rw [hxs]; simp
        exact decide_eq_true (by omega)
      · rw [List.append_assoc, List.append_assoc, List.set_append_right _ _ (Nat.le_refl _), Nat.sub_self, List.append_assoc]
      · rw [List.getElem?_set_self (by simp; omega)]
    | false =>
      rw [if_neg Bool.false_ne_true]
      refine ⟨zs ++ [x], by rw [hxs]; simp, by simp [List.filter_append, hf], G ++ G2, by rw [List.append_assoc], hn2⟩
  · obtain ⟨zs, hxs, rfl, G, rfl, hn⟩ := h
    rw [List.append_nil] at hxs
    subst hxs
    exact q _ Fr0.app hn
theorem yes_ok {σ : PEnv} {A : Store} : W (tYesM σ A) fun c S2 => c = true ∧ ∃ G2, S2 = A ++ G2 := ⟨true, A, rfl, rfl, [], by simp⟩
theorem below_eq {x y : Nat} {A : Store} : m_is_below fo [.int x, .int y] A = some (.bl (decide (x < y)), A) := by
  have : W (m_is_below fo [.int x, .int y] A) fun v A' => v = .bl (decide (x < y)) ∧ A' = A := by
    rw [W_below, decide_eq_true (by omega : (0 : Int) ≤ (x : Int)), Bool.true_and]
    refine ⟨?_, rfl⟩
    congr 1
    by_cases h : x < y
    · simp [h]
    · simp [h]
  obtain ⟨v, A', e, rfl, rfl⟩ := this
  exact e
theorem boolsOf_true : ∀ {n : Nat}, boolsOf (List.replicate n (PV.bl true)) = some (List.replicate n true)
  | 0 => rfl
  | n + 1 => by
    show (boolsOf (List.replicate n (PV.bl true))).map (true :: ·) = _
    rw [boolsOf_true]
    rfl
end Kp
set_option Elab.async false
set_option linter.all false
set_option maxRecDepth 100000
set_option maxHeartbeats 4000000
namespace Kp
open PySem PySem.Spec L2 Ip
variable {fo : Bool} {S0 S : Store} {m n : Nat} {F : Fl → Store → Prop} {Q : PV → Store → Prop}
theorem row_all {σ : PEnv} {me : MA} {e : ME} {j lo n : Nat} (hn : n ≤ 1000) (hme : W (me σ S) fun ps S1 => ps = [.int lo, .int n] ∧ S1 = S)
    (he : ∀ i, lo ≤ i → i < n → ∀ G : Store, W (e ((wipeP σ [j]).set j (some (.int (i : Int)))) (S ++ G)) fun y S2 => y = .bl true ∧ S2 = S ++ G) (hlo : lo ≤ n)
    (q : Q (.ref S.length) (S ++ [.lst (List.replicate (n - lo) (.bl true))])) : W (mLc (iRange me) (gN j) tYesM e [j] σ S) Q := by
  rw [W_lc]
  refine W_range2 (hme.mono fun ps S1 ⟨e1, e2⟩ => ⟨lo, n, e1, by omega, ?_⟩)
  subst e2
  have el : ((n : Int) - (lo : Int)).toNat = n - lo := by omega
  rw [el]
  refine W_lcM (fun ys acc S2 => ∃ i, lo ≤ i ∧ i ≤ n ∧ ys = rangeP (i : Int) (n - i) ∧ acc = List.replicate (i - lo) (.bl true) ∧ S2 = S1 ++ [.lst acc]) (fun _ _ _ _ => rfl) (fun x ys acc S2 h => ?_) (fun acc S2 h => ?_) _ _ _ ⟨lo, Nat.le_refl _, hlo, rfl, by simp, rfl⟩
  · obtain ⟨i, h0, hi, hx, rfl, rfl⟩ := h
    obtain ⟨h1, rfl, h3⟩ := rest_cons hi hx
    show W (some _) _
    rw [W_some]
    show W (some (true, _)) _
    rw [W_some]
    simp only [if_true]
    refine (he i h0 h1 _).mono fun y S3 ⟨e1, e2⟩ => ?_
    subst e1
    subst e2
    refine ⟨by simp, ?_, i + 1, by omega, h1, h3, ?_, ?_⟩
    · rw [List.length_replicate]
      exact decide_eq_true (by omega)
    · rw [show i + 1 - lo = (i - lo) + 1 by omega, List.replicate_succ']
    · rw [set_last]
  · obtain ⟨i, h0, hi, hx, rfl, rfl⟩ := h
    have e := rest_nil hi hx
    subst e
    exact q
theorem W_isB {p : PV} {c n : Bool} : W (vIsB n p (.bl c) S) Q = Q (.bl (n ^^ decide (p = .bl c))) S := W_some
theorem W_minA {v : PV} {xs : List PV} {ns : List Int} (h : itemsOf v S = some xs) (h2 : intsOf xs = some ns) (h3 : ns ≠ []) : W (vMinA [v] S) Q = Q (.int (minI ns)) S := by
  show W (((itemsOf v S).bind intsOf).bind fun bs => if bs = [] then none else some ((.int (minI bs), S) : PV × Store)) Q = _
  rw [h, Option.bind_some, h2, Option.bind_some, if_neg h3]
  exact W_some
theorem W_maxA {v : PV} {xs : List PV} {ns : List Int} (h : itemsOf v S = some xs) (h2 : intsOf xs = some ns) (h3 : ns ≠ []) : W (vMaxA [v] S) Q = Q (.int (maxI ns)) S := by
  show W (((itemsOf v S).bind intsOf).bind fun bs => if bs = [] then none else some ((.int (maxI bs), S) : PV × Store)) Q = _
  rw [h, Option.bind_some, h2, Option.bind_some, if_neg h3]
  exact W_some
theorem isi_intv {i : Int} {σ : PEnv} {j : Nat} (h : σ[j]? = some (some (.int i))) : W (mIsi "int" (mVar j) σ S) Q = Q (.bl true) S := by
  have e : mIsi "int" (mVar j) σ S = some (.bl true, S) := by
    have e0 : mVar j σ S = some (.int i, S) := by unfold mVar; rw [h]; rfl
    show ((mVar j σ S).bind fun r => _) = _
    rw [e0]
    rfl
  rw [e, W_some]
theorem natV_map {l : List Nat} : l.map natV = (l.map fun x : Nat => (x : Int)).map PV.int := by rw [List.map_map]; rfl
theorem W_are_below {v : PV} {l : List Nat} {size : Nat} (sv : SqV S v (l.map natV)) (ok : LotOk size l) (hs : size ≤ 6) (q : ∀ S', Fr0 S S' → Q (.bl true) S') : W (m_are_below fo [v, .int size] S) Q := by
  have hl := asc_len ok.asc ok.lt
  have hp : 0 < l.length := List.length_pos_iff.mpr ok.ne
  unfold m_are_below
  simp only [W_def, W_seq, W_if, W_ite, W_test, W_op, W_var, W_con, W_set, W_put, W_ret, W_expr, W_call, W_fn, W_cons, W_nil, W_skip, W_tup, W_lst, List.set_cons_zero, List.set_cons_succ, List.getElem?_cons_zero, List.getElem?_cons_succ, Option.some.injEq, exists_eq_left', exists_eq_left, W_idx, W_gt, W_lt, W_ge, W_le, W_int, W_abs, W_mod, W_div, W_mul, W_pow, W_add, W_sub, W_eqI, Bool.false_xor, Bool.true_xor, PV.bl.injEq, PV.int.injEq, Prod.mk.injEq, List.length_cons, List.length_nil, Nat.zero_add, Nat.reduceAdd, decide_eq_true_eq, (show startP N_are_below [v, .int size] = [some v, some (.int size), none] from rfl), W_notM]
  refine map_seq (v := v) (xs := l.map natV) (g := fun _ => .bl true) (f := fun _ => true) (by rw [List.length_map]; omega) sv.items ?_ (fun x _ G => yes_ok) ?_ fun S5 f5 h5 => ?_
  · simp only [W_def, W_seq, W_if, W_ite, W_test, W_op, W_var, W_con, W_set, W_put, W_ret, W_expr, W_call, W_fn, W_cons, W_nil, W_skip, W_tup, W_lst, List.set_cons_zero, List.set_cons_succ, List.getElem?_cons_zero, List.getElem?_cons_succ, Option.some.injEq, exists_eq_left', exists_eq_left, W_idx, W_gt, W_lt, W_ge, W_le, W_int, W_abs, W_mod, W_div, W_mul, W_pow, W_add, W_sub, W_eqI, Bool.false_xor, Bool.true_xor, PV.bl.injEq, PV.int.injEq, Prod.mk.injEq, List.length_cons, List.length_nil, Nat.zero_add, Nat.reduceAdd, decide_eq_true_eq]
    exact ⟨trivial, trivial⟩
  · intro x hx G
    obtain ⟨i, hi, rfl⟩ := List.mem_map.mp hx
    show W (mAnd (mIsi "int" (mVar 2)) (mAnd (mOp (vIsB true) (mVar 2) (mCon (.bl true))) (mOp (vIsB true) (mVar 2) (mCon (.bl false)))) [some v, some (.int size), some (.int (i : Int))] _) _
    simp only [W_def, W_seq, W_if, W_ite, W_test, W_op, W_var, W_con, W_set, W_put, W_ret, W_expr, W_call, W_fn, W_cons, W_nil, W_skip, W_tup, W_lst, List.set_cons_zero, List.set_cons_succ, List.getElem?_cons_zero, List.getElem?_cons_succ, Option.some.injEq, exists_eq_left', exists_eq_left, W_idx, W_gt, W_lt, W_ge, W_le, W_int, W_abs, W_mod, W_div, W_mul, W_pow, W_add, W_sub, W_eqI, Bool.false_xor, Bool.true_xor, PV.bl.injEq, PV.int.injEq, Prod.mk.injEq, List.length_cons, List.length_nil, Nat.zero_add, Nat.reduceAdd, decide_eq_true_eq, W_and, isi_intv (i := (i : Int)) (j := 2) (σ := [some v, some (.int size), some (.int (i : Int))]) rfl, W_isB, if_true, reduceCtorEq, decide_false]
    exact ⟨rfl, [], by simp⟩
  · have hf : ((l.map natV).filter fun _ => true) = l.map natV := List.filter_eq_self.mpr fun _ _ => rfl
    rw [hf] at h5
    have hr : ((l.map natV).map fun _ => PV.bl true) = List.replicate l.length (.bl true) := by
      rw [List.map_const', List.length_map]
    rw [hr] at h5
    have hb : listOf (.ref S.length) S5 = some (List.replicate l.length (PV.bl true)) := items_ref h5
    have ha : (List.replicate l.length true).all id = true := by simp
    rw [W_all hb boolsOf_true]
    refine ⟨true, by rw [ha], ?_⟩
    rw [if_neg (by decide)]
    have sv5 := sv.fr f5
    have hne : (l.map fun x : Nat => (x : Int)) ≠ [] := fun z => ok.ne (List.map_eq_nil_iff.mp z)
    have it : itemsOf v S5 = some ((l.map fun x : Nat => (x : Int)).map PV.int) := by rw [← natV_map]; exact sv5.items
    obtain ⟨m1, _⟩ := minI_spec _ hne
    obtain ⟨x1, _⟩ := maxI_spec _ hne
    obtain ⟨a, _, e1⟩ := List.mem_map.mp m1
    obtain ⟨b, hb2, e2⟩ := List.mem_map.mp x1
    have lt := ok.lt b hb2
    simp only [W_def, W_seq, W_if, W_ite, W_test, W_op, W_var, W_con, W_set, W_put, W_ret, W_expr, W_call, W_fn, W_cons, W_nil, W_skip, W_tup, W_lst, List.set_cons_zero, List.set_cons_succ, List.getElem?_cons_zero, List.getElem?_cons_succ, Option.some.injEq, exists_eq_left', exists_eq_left, W_idx, W_gt, W_lt, W_ge, W_le, W_int, W_abs, W_mod, W_div, W_mul, W_pow, W_add, W_sub, W_eqI, Bool.false_xor, Bool.true_xor, PV.bl.injEq, PV.int.injEq, Prod.mk.injEq, List.length_cons, List.length_nil, Nat.zero_add, Nat.reduceAdd, decide_eq_true_eq, W_and, W_minA it intsOf_map hne, W_maxA it intsOf_map hne, ← e1, ← e2]
    rw [if_pos (by omega), decide_eq_true (by omega)]
    exact q S5 f5
theorem W_is_lot {v : PV} {l : List Nat} {size : Nat} (sv : SqV S v (l.map natV)) (ok : LotOk size l) (hs : size ≤ 6) (q : ∀ S', Fr0 S S' → Q (.bl true) S') : W (m_is_lot fo [v, .int size] S) Q := by
  have hl := asc_len ok.asc ok.lt
  have hp : 0 < l.length := List.length_pos_iff.mpr ok.ne
  unfold m_is_lot
  simp only [W_def, W_seq, W_if, W_ite, W_test, W_op, W_var, W_con, W_set, W_put, W_ret, W_expr, W_call, W_fn, W_cons, W_nil, W_skip, W_tup, W_lst, List.set_cons_zero, List.set_cons_succ, List.getElem?_cons_zero, List.getElem?_cons_succ, Option.some.injEq, exists_eq_left', exists_eq_left, W_idx, W_gt, W_lt, W_ge, W_le, W_int, W_abs, W_mod, W_div, W_mul, W_pow, W_add, W_sub, W_eqI, Bool.false_xor, Bool.true_xor, PV.bl.injEq, PV.int.injEq, Prod.mk.injEq, List.length_cons, List.length_nil, Nat.zero_add, Nat.reduceAdd, decide_eq_true_eq, (show startP N_is_lot [v, .int size] = [some v, some (.int size), none] from rfl), W_orM, W_notM, W_sequence sv, Bool.not_true, Bool.false_eq_true, if_false, W_len sv.items, List.length_map]
  have n0 : ¬ ((l.length : Int) = 0) := by omega
  rw [if_neg n0]
  refine W_are_below sv ok hs fun S5 f5 => ?_
  refine ⟨true, rfl, ?_⟩
  rw [if_neg (by decide)]
  have sv5 := sv.fr f5
  refine row_all (lo := 1) (n := l.length) (by omega) ?_ ?_ (by omega) ?_
  · simp only [W_def, W_seq, W_if, W_ite, W_test, W_op, W_var, W_con, W_set, W_put, W_ret, W_expr, W_call, W_fn, W_cons, W_nil, W_skip, W_tup, W_lst, List.set_cons_zero, List.set_cons_succ, List.getElem?_cons_zero, List.getElem?_cons_succ, Option.some.injEq, exists_eq_left', exists_eq_left, W_idx, W_gt, W_lt, W_ge, W_le, W_int, W_abs, W_mod, W_div, W_mul, W_pow, W_add, W_sub, W_eqI, Bool.false_xor, Bool.true_xor, PV.bl.injEq, PV.int.injEq, Prod.mk.injEq, List.length_cons, List.length_nil, Nat.zero_add, Nat.reduceAdd, decide_eq_true_eq, W_len sv5.items, List.length_map]
    first | exact ⟨⟨trivial, trivial⟩, trivial⟩ | exact ⟨rfl, trivial⟩ | exact ⟨trivial, trivial⟩ | (refine ⟨?_, ?_⟩ <;> first | rfl | trivial)
  · intro i h1 h2 G
    have it : itemsOf v (S5 ++ G) = some (l.map natV) := items_app sv5.items
    show W (mOp vLt (mOp vIdx (mVar 0) (mOp vSub (mVar 2) (mCon (.int 1)))) (mOp vIdx (mVar 0) (mVar 2)) [some v, some (.int size), some (.int i)] _) _
    have e1 : ((i : Int) - 1) = ((i - 1 : Nat) : Int) := by omega
    have a1 : atI (l.map natV) ((i - 1 : Nat) : Int) = some (.int (l[i - 1] : Nat)) := atI_nat (by
      rw [List.getElem?_map, List.getElem?_eq_getElem (by omega)]
      rfl)
    have a2 : atI (l.map natV) (i : Int) = some (.int (l[i] : Nat)) := atI_nat (by
      rw [List.getElem?_map, List.getElem?_eq_getElem h2]
      rfl)
    have lt := List.pairwise_iff_getElem.mp ok.asc (i - 1) i (by omega) h2 (by omega)
    simp only [W_def, W_seq, W_if, W_ite, W_test, W_op, W_var, W_con, W_set, W_put, W_ret, W_expr, W_call, W_fn, W_cons, W_nil, W_skip, W_tup, W_lst, List.set_cons_zero, List.set_cons_succ, List.getElem?_cons_zero, List.getElem?_cons_succ, Option.some.injEq, exists_eq_left', exists_eq_left, W_idx, W_gt, W_lt, W_ge, W_le, W_int, W_abs, W_mod, W_div, W_mul, W_pow, W_add, W_sub, W_eqI, Bool.false_xor, Bool.true_xor, PV.bl.injEq, PV.int.injEq, Prod.mk.injEq, List.length_cons, List.length_nil, Nat.zero_add, Nat.reduceAdd, decide_eq_true_eq, e1, it, a1, a2]
    exact ⟨by omega, trivial⟩
  · have hb2 : listOf (.ref S5.length) (S5 ++ [Ob.lst (List.replicate (l.length - 1) (PV.bl true))]) = some (List.replicate (l.length - 1) (PV.bl true)) := items_ref (by simp)
    have ha2 : (List.replicate (l.length - 1) true).all id = true := by simp
    rw [W_all hb2 boolsOf_true, ha2]
    exact q _ (f5.trans Fr0.app)
end Kp
set_option Elab.async false
set_option linter.all false
set_option maxRecDepth 100000
set_option maxHeartbeats 4000000
namespace Kp
open PySem PySem.Spec L2 Ip
variable {fo : Bool} {S0 S : Store} {m n : Nat} {F : Fl → Store → Prop} {Q : PV → Store → Prop}
theorem Bd.items {B : Bd} {A : Store} : itemsOf B.v A = some [.int B.m, .int B.n, .tup (B.ps.map pv)] := rfl
theorem W_size_of {B : Bd} {v : PV} {d : PyData} {s : Nat} (hB : B.Ok) (hs : s = 0 ∨ s = 1) (hd : deep 16 S v = some d) (hb : BdD B d) (q : ∀ S', Fr0 S S' → Q (.int (B.sz s)) S') : W (m_size_of fo [v, .int s] S) Q := by
  unfold m_size_of
  simp only [W_def, W_seq, W_if, W_ite, W_test, W_op, W_var, W_con, W_set, W_put, W_ret, W_expr, W_call, W_fn, W_cons, W_nil, W_skip, W_tup, W_lst, List.set_cons_zero, List.set_cons_succ, List.getElem?_cons_zero, List.getElem?_cons_succ, Option.some.injEq, exists_eq_left', exists_eq_left, W_idx, W_gt, W_lt, W_ge, W_le, W_int, W_abs, W_mod, W_div, W_mul, W_pow, W_add, W_sub, W_eqI, Bool.false_xor, Bool.true_xor, PV.bl.injEq, PV.int.injEq, Prod.mk.injEq, List.length_cons, List.length_nil, Nat.zero_add, Nat.reduceAdd, decide_eq_true_eq, (show startP N_size_of [v, .int s] = [some v, some (.int s)] from rfl)]
  refine W_check_bond hB hd hb fun S5 f5 => ?_
  simp only [W_def, W_seq, W_if, W_ite, W_test, W_op, W_var, W_con, W_set, W_put, W_ret, W_expr, W_call, W_fn, W_cons, W_nil, W_skip, W_tup, W_lst, List.set_cons_zero, List.set_cons_succ, List.getElem?_cons_zero, List.getElem?_cons_succ, Option.some.injEq, exists_eq_left', exists_eq_left, W_idx, W_gt, W_lt, W_ge, W_le, W_int, W_abs, W_mod, W_div, W_mul, W_pow, W_add, W_sub, W_eqI, Bool.false_xor, Bool.true_xor, PV.bl.injEq, PV.int.injEq, Prod.mk.injEq, List.length_cons, List.length_nil, Nat.zero_add, Nat.reduceAdd, decide_eq_true_eq, W_check_side hs, Bd.items, Bd.at_ hs]
  exact q S5 f5
theorem W_check_lot {B : Bd} {v w : PV} {d : PyData} {s : Nat} {l : List Nat} (hB : B.Ok) (hs : s = 0 ∨ s = 1) (hd : deep 16 S v = some d) (hb : BdD B d) (sw : SqV S w (l.map natV)) (ok : LotOk (B.sz s) l) (q : ∀ S', Fr0 S S' → Q (lotv l) S') : W (m_check_lot fo [v, .int s, w] S) Q := by
  have h6 : B.sz s ≤ 6 := by
    unfold Bd.sz
    split
    · exact hB.m6
    · exact hB.n6
  unfold m_check_lot
  simp only [W_def, W_seq, W_if, W_ite, W_test, W_op, W_var, W_con, W_set, W_put, W_ret, W_expr, W_call, W_fn, W_cons, W_nil, W_skip, W_tup, W_lst, List.set_cons_zero, List.set_cons_succ, List.getElem?_cons_zero, List.getElem?_cons_succ, Option.some.injEq, exists_eq_left', exists_eq_left, W_idx, W_gt, W_lt, W_ge, W_le, W_int, W_abs, W_mod, W_div, W_mul, W_pow, W_add, W_sub, W_eqI, Bool.false_xor, Bool.true_xor, PV.bl.injEq, PV.int.injEq, Prod.mk.injEq, List.length_cons, List.length_nil, Nat.zero_add, Nat.reduceAdd, decide_eq_true_eq, (show startP N_check_lot [v, .int s, w] = [some v, some (.int s), some w] from rfl), W_notM]
  refine W_size_of hB hs hd hb fun S5 f5 => ?_
  refine W_is_lot (sw.fr f5) ok h6 fun S6 f6 => ?_
  refine ⟨true, rfl, ?_⟩
  rw [if_neg (by decide)]
  rw [W_vtuple (sw.fr (f5.trans f6)).items]
  exact q S6 (f5.trans f6)
theorem canon_D {B : Bd} {A : Store} : deep 16 A B.v = some (.tuple [.int B.m, .int B.n, .tuple (B.ps.map fun e => .tuple [.int e.1, .int e.2])]) := by
  show (mapO (deep 15 A) [PV.int B.m, .int B.n, .tup (B.ps.map pv)]).map PyData.tuple = _
  have e : mapO (deep 15 A) [PV.int B.m, .int B.n, .tup (B.ps.map pv)] = some [.int B.m, .int B.n, .tuple (B.ps.map fun e => .tuple [.int e.1, .int e.2])] := by
    refine mapO_cons rfl (mapO_cons rfl (mapO_cons ?_ rfl))
    show (mapO (deep 14 A) (B.ps.map pv)).map PyData.tuple = _
    rw [mapO_canon]
    rfl
  rw [e]
  rfl
theorem canon_B {B : Bd} : BdD B (.tuple [.int B.m, .int B.n, .tuple (B.ps.map fun e => .tuple [.int e.1, .int e.2])]) := ⟨_, _, .inl rfl, .inl rfl, PrD.canon⟩
/-- the partners of a lot, ascending -/
def Bd.near (B : Bd) (s : Nat) (l : List Nat) : List Nat := (List.range (B.sz (1 - s))).filter fun b => l.any fun a => B.fit s a b
end Kp
set_option Elab.async false
set_option linter.all false
set_option maxRecDepth 100000
set_option maxHeartbeats 4000000
namespace Kp
open PySem PySem.Spec L2 Ip
variable {fo : Bool} {S0 S : Store} {m n : Nat} {F : Fl → Store → Prop} {Q : PV → Store → Prop}
theorem depth_ints : ∀ l : List Int, PyData.depthAll (l.map PyData.int) ≤ 1
  | [] => by simp [PyData.depthAll]
  | x :: l => by
    have := depth_ints l
    simp only [List.map_cons, PyData.depthAll, PyData.depth]
    omega
theorem lay_ints : ∀ l : List Int, PyData.canLayAll0 (l.map PyData.int) = true
  | [] => rfl
  | x :: l => by simp only [List.map_cons, PyData.canLayAll0, PyData.canLay0, lay_ints l, Bool.and_self]
theorem shaped_ints (l : List Int) : SeqAt.shaped (.list (l.map PyData.int)) = true := by
  unfold SeqAt.shaped
  have h1 : PyData.canLay0 (.list (l.map PyData.int)) = true := by simp only [PyData.canLay0, lay_ints]
  have h2 : PyData.depth (.list (l.map PyData.int)) ≤ 64 := by
    have := depth_ints l
    simp only [PyData.depth]
    omega
  rw [h1, decide_eq_true h2]
  rfl
theorem deep_lot {k : Nat} : ∀ {l : List Nat}, mapO (deep (k + 1) S) (l.map natV) = some ((l.map fun x : Nat => (x : Int)).map PyData.int)
  | [] => rfl
  | _ :: l => mapO_cons rfl deep_lot
theorem W_inL {x : Nat} {l : List Nat} {neg : Bool} : W (vIn neg (natV x) (lotv l) S) Q = Q (.bl (neg ^^ decide (x ∈ l))) S := by
  have e1 : deep 16 S (lotv l) = some (.tuple ((l.map fun x : Nat => (x : Int)).map PyData.int)) := by
    show (mapO (deep 15 S) (l.map natV)).map PyData.tuple = _
    rw [deep_lot]
    rfl
  have e2 : seqData S (lotv l) = some ((l.map fun x : Nat => (x : Int)).map PyData.int) := by
    unfold seqData
    rw [e1]
  have e3 : deep 16 S (natV x) = some (.int (x : Int)) := rfl
  have e4 : SeqAt.shaped (.int (x : Int)) = true := rfl
  have e5 : (((l.map fun x : Nat => (x : Int)).map PyData.int).any fun z => PyData.eqv z (.int (x : Int))) = decide (x ∈ l) := by
    clear e1 e2 e3 e4
    induction l with
    | nil => simp
    | cons a l ih =>
      have ea : PyData.eqv (.int (a : Int)) (.int (x : Int)) = decide ((a : Int) = (x : Int)) := rfl
      simp only [List.map_cons, List.any_cons, ea, ih]
      by_cases h : x = a
      · subst h
        simp
      · have h2 : ¬ (a : Int) = (x : Int) := by omega
        simp [h, h2]
  have e : vIn neg (natV x) (lotv l) S = some (.bl (neg ^^ decide (x ∈ l)), S) := by
    unfold vIn
    rw [e3, Option.bind_some, e2, Option.bind_some, e4, shaped_ints, e5]
    rfl
  rw [e, W_some]
end Kp
set_option Elab.async false
set_option linter.all false
set_option maxRecDepth 100000
set_option maxHeartbeats 4000000
namespace Kp
open PySem PySem.Spec L2 Ip
variable {fo : Bool} {S0 S : Store} {m n : Nat} {F : Fl → Store → Prop} {Q : PV → Store → Prop}
theorem W_sortS {f : Bool} {r : Nat} {ks : List Int} (h : S[r]? = some (.st f ks)) (hl : ks.length < 60) : W (vSortS f [.ref r] S) Q = Q (.ref S.length) (S ++ [.lst ((srtI ks).map .int)]) := by
  have e1 : stOf (.ref r) S = some (f, ks) := by
    show isSt S[r]? = _
    rw [h]
    rfl
  have e2 : szS ks = true := decide_eq_true hl
  have e : vSortS f [.ref r] S = some (.ref S.length, S ++ [.lst ((srtI ks).map .int)]) := by
    show (stOf (.ref r) S).bind (fun fk => if (fk.1 == f && szS fk.2) = true then some ((.ref S.length, S ++ [.lst ((srtI fk.2).map .int)]) : PV × Store) else none) = _
    rw [e1, Option.bind_some]
    simp [e2]
  rw [e, W_some]
theorem mem_near {B : Bd} {s : Nat} {l : List Nat} (hs : s = 0 ∨ s = 1) (hl : ∀ a ∈ l, a < B.sz s) {b : Nat} : b ∈ B.near s l ↔ ∃ e ∈ B.ps, co s e ∈ l ∧ b = co (1 - s) e := by
  unfold Bd.near
  rw [List.mem_filter, List.mem_range, List.any_eq_true]
  constructor
  · rintro ⟨hb, a, ha, hf⟩
    rcases hs with rfl | rfl
    · exact ⟨(a, b), mem_prs.mpr ⟨hl a ha, hb, hf⟩, ha, rfl⟩
    · exact ⟨(b, a), mem_prs.mpr ⟨hb, hl a ha, hf⟩, ha, rfl⟩
  · rintro ⟨e, he, h1, rfl⟩
    obtain ⟨c1, c2, c3⟩ := mem_prs.mp he
    rcases hs with rfl | rfl
    · exact ⟨c2, _, h1, c3⟩
    · exact ⟨c1, _, h1, c3⟩
theorem W_partners_of {B : Bd} {s : Nat} {l : List Nat} (hB : B.Ok) (hs : s = 0 ∨ s = 1) (hl : ∀ a ∈ l, a < B.sz s) (q : ∀ S', Fr0 S S' → Q (lotv (B.near s l)) S') : W (m_partners_of fo [B.v, .int s, lotv l] S) Q := by
  have l36 : B.ps.length ≤ 36 := by
    have h1 := prs_len (f := B.f) (n := B.n) (m := B.m)
    have h2 : B.m * B.n ≤ 6 * 6 := Nat.mul_le_mul hB.m6 hB.n6
    exact Nat.le_trans h1 h2
  have hs' : 1 - s = 0 ∨ 1 - s = 1 := by omega
  unfold m_partners_of
  simp only [W_def, W_seq, W_if, W_ite, W_test, W_op, W_var, W_con, W_set, W_put, W_ret, W_expr, W_call, W_fn, W_cons, W_nil, W_skip, W_tup, W_lst, List.set_cons_zero, List.set_cons_succ, List.getElem?_cons_zero, List.getElem?_cons_succ, Option.some.injEq, exists_eq_left', exists_eq_left, W_idx, W_gt, W_lt, W_ge, W_le, W_int, W_abs, W_mod, W_div, W_mul, W_pow, W_add, W_sub, W_eqI, Bool.false_xor, Bool.true_xor, PV.bl.injEq, PV.int.injEq, Prod.mk.injEq, List.length_cons, List.length_nil, Nat.zero_add, Nat.reduceAdd, decide_eq_true_eq, (show startP N_partners_of [B.v, .int s, lotv l] = [some B.v, some (.int s), some (lotv l), none] from rfl), W_si]
  refine W_seqI ?_
  simp only [W_def, W_seq, W_if, W_ite, W_test, W_op, W_var, W_con, W_set, W_put, W_ret, W_expr, W_call, W_fn, W_cons, W_nil, W_skip, W_tup, W_lst, List.set_cons_zero, List.set_cons_succ, List.getElem?_cons_zero, List.getElem?_cons_succ, Option.some.injEq, exists_eq_left', exists_eq_left, W_idx, W_gt, W_lt, W_ge, W_le, W_int, W_abs, W_mod, W_div, W_mul, W_pow, W_add, W_sub, W_eqI, Bool.false_xor, Bool.true_xor, PV.bl.injEq, PV.int.injEq, Prod.mk.injEq, List.length_cons, List.length_nil, Nat.zero_add, Nat.reduceAdd, decide_eq_true_eq, Bd.items, (show ∀ a b c : PV, atI [a, b, c] 2 = some c from fun _ _ _ => rfl)]
  refine ⟨_, _, ⟨rfl, rfl⟩, ?_⟩
  refine W_siM (fun ys ks S2 => ∃ es fs, B.ps = es ++ fs ∧ ys = fs.map pv ∧ S2 = S ++ [.st fo ks] ∧ ks.Nodup ∧ ks.length ≤ es.length ∧ ∀ x, x ∈ ks ↔ ∃ e ∈ es, co s e ∈ l ∧ x = (co (1 - s) e : Int)) (fun _ _ _ _ => rfl) (fun x ys ks S2 h => ?_) (fun ks S2 h => ?_) _ [] _ ⟨[], B.ps, rfl, rfl, rfl, List.nodup_nil, by simp, fun x => ⟨(fun h => nomatch h), (fun ⟨_, h, _⟩ => nomatch h)⟩⟩
  · obtain ⟨es, fs, hps, hys, rfl, nd, hk, hm⟩ := h
    obtain ⟨e, fs, rfl⟩ : ∃ e fs', fs = e :: fs' := by
      cases fs with
      | nil => cases hys
      | cons e fs => exact ⟨e, fs, rfl⟩
    cases hys
    have hlen : es.length + 1 ≤ 36 := by
      have := congrArg List.length hps
      simp only [List.length_append, List.length_cons] at this
      omega
    show W (some _) _
    rw [W_some]
    have ip : ∀ A : Store, itemsOf (pv e) A = some [.int e.1, .int e.2] := fun _ => rfl
    show W (mTest (mOp (vIn false) (mOp vIdx (mVar 3) (mVar 1)) (mVar 2)) [some B.v, some (.int s), some (lotv l), some (pv e)] _) _
    have wi : ∀ (A : Store) (R : PV → Store → Prop), W (vIn false (.int (co s e)) (lotv l) A) R = R (.bl (decide (co s e ∈ l))) A := fun A R => by
      show W (vIn false (natV (co s e)) (lotv l) A) R = _
      rw [W_inL, Bool.false_xor]
    have hw : List.set (wipeP [some B.v, some (.int s), some (lotv l), none] [3]) 3 (some (pv e)) = [some B.v, some (.int s), some (lotv l), some (pv e)] := rfl
    simp only [W_def, W_seq, W_if, W_ite, W_test, W_op, W_var, W_con, W_set, W_put, W_ret, W_expr, W_call, W_fn, W_cons, W_nil, W_skip, W_tup, W_lst, List.set_cons_zero, List.set_cons_succ, List.getElem?_cons_zero, List.getElem?_cons_succ, Option.some.injEq, exists_eq_left', exists_eq_left, W_idx, W_gt, W_lt, W_ge, W_le, W_int, W_abs, W_mod, W_div, W_mul, W_pow, W_add, W_sub, W_eqI, Bool.false_xor, Bool.true_xor, PV.bl.injEq, PV.int.injEq, Prod.mk.injEq, List.length_cons, List.length_nil, Nat.zero_add, Nat.reduceAdd, decide_eq_true_eq, ip, pair_at hs, wi, hw, oneless hs, pair_at hs']
    by_cases hc : co s e ∈ l
    · rw [if_pos hc]
      refine ⟨by simp, decide_eq_true (by omega), es ++ [e], fs, by rw [hps]; simp, rfl, by rw [set_last], addI_nodup nd, ?_, fun x => ?_⟩
      · have := addI_len (ks := ks) (c := (co (1 - s) e : Int))
        simp
        omega
      · rw [addI_mem, hm]
        constructor
        · rintro (⟨e', h1, h2⟩ | h1)
          · exact ⟨e', List.mem_append_left _ h1, h2⟩
          · exact ⟨e, by simp, hc, h1⟩
        · rintro ⟨e', h1, h2, h3⟩
          rcases List.mem_append.mp h1 with z | z
          · exact .inl ⟨e', z, h2, h3⟩
          · rw [List.mem_singleton.mp z] at h3
            exact .inr h3
    · rw [if_neg hc]
      refine ⟨es ++ [e], fs, by rw [hps]; simp, rfl, trivial, nd, by simp; omega, fun x => ?_⟩
      rw [hm]
      constructor
      · rintro ⟨e', h1, h2⟩
        exact ⟨e', List.mem_append_left _ h1, h2⟩
      · rintro ⟨e', h1, h2, h3⟩
        rcases List.mem_append.mp h1 with z | z
        · exact ⟨e', z, h2, h3⟩
        · rw [List.mem_singleton.mp z] at h2
          exact absurd h2 hc
  · obtain ⟨es, fs, hps, hys, rfl, nd, hk, hm⟩ := h
    have hfs : fs = [] := by
      cases fs with
      | nil => rfl
      | cons _ _ => cases hys
    subst hfs
    rw [List.append_nil] at hps
    subst hps
    rw [W_sortS (ks := ks) (by simp) (by omega), W_vtuple (xs := (srtI ks).map .int) (items_ref (by simp))]
    have es : srtI ks = (B.near s l).map fun x : Nat => (x : Int) := by
      refine sorted_ext srtI_sorted ?_ fun j => ?_
      · rw [List.pairwise_map]
        exact (List.Pairwise.filter _ List.pairwise_lt_range).imp fun h => by omega
      · rw [mem_srtI, hm, List.mem_map]
        constructor
        · rintro ⟨e, h1, h2, rfl⟩
          exact ⟨co (1 - s) e, (mem_near hs hl).mpr ⟨e, h1, h2, rfl⟩, rfl⟩
        · rintro ⟨b, hb, rfl⟩
          obtain ⟨e, h1, h2, rfl⟩ := (mem_near hs hl).mp hb
          exact ⟨e, h1, h2, rfl⟩
    have ev2 : PV.tup ((srtI ks).map .int) = lotv (B.near s l) := by
      rw [es, List.map_map]
      rfl
    rw [ev2]
    exact q _ (Fr0.app.trans Fr0.app)
end Kp
set_option Elab.async false
set_option linter.all false
set_option maxRecDepth 100000
set_option maxHeartbeats 4000000
namespace Kp
open PySem PySem.Spec L2 Ip
variable {fo : Bool} {S0 S : Store} {m n : Nat} {F : Fl → Store → Prop} {Q : PV → Store → Prop}
theorem W_partners {B : Bd} {v w : PV} {d : PyData} {s : Nat} {l : List Nat} (hB : B.Ok) (hs : s = 0 ∨ s = 1) (hd : deep 16 S v = some d) (hb : BdD B d) (sw : SqV S w (l.map natV)) (ok : LotOk (B.sz s) l) (q : ∀ S', Fr0 S S' → Q (lotv (B.near s l)) S') : W (m_partners fo [v, .int s, w] S) Q := by
  unfold m_partners
  simp only [W_def, W_seq, W_if, W_ite, W_test, W_op, W_var, W_con, W_set, W_put, W_ret, W_expr, W_call, W_fn, W_cons, W_nil, W_skip, W_tup, W_lst, List.set_cons_zero, List.set_cons_succ, List.getElem?_cons_zero, List.getElem?_cons_succ, Option.some.injEq, exists_eq_left', exists_eq_left, W_idx, W_gt, W_lt, W_ge, W_le, W_int, W_abs, W_mod, W_div, W_mul, W_pow, W_add, W_sub, W_eqI, Bool.false_xor, Bool.true_xor, PV.bl.injEq, PV.int.injEq, Prod.mk.injEq, List.length_cons, List.length_nil, Nat.zero_add, Nat.reduceAdd, decide_eq_true_eq, (show startP N_partners [v, .int s, w] = [some v, some (.int s), some w] from rfl)]
  refine W_check_bond hB hd hb fun S5 f5 => ?_
  refine W_check_lot hB hs canon_D canon_B (sw.fr f5) ok fun S6 f6 => ?_
  refine W_partners_of hB hs ok.lt fun S7 f7 => ?_
  exact q S7 ((f5.trans f6).trans f7)
theorem near_ne {B : Bd} {s : Nat} {l : List Nat} (hB : B.Ok) (hs : s = 0 ∨ s = 1) (ok : LotOk (B.sz s) l) : B.near s l ≠ [] := by
  obtain ⟨a, ha⟩ := List.exists_mem_of_ne_nil l ok.ne
  have hlt := ok.lt a ha
  intro h
  have key : ∃ b, b ∈ B.near s l := by
    rcases hs with rfl | rfl
    · obtain ⟨b, hb, hf⟩ := hB.rows a hlt
      exact ⟨b, (mem_near (.inl rfl) ok.lt).mpr ⟨(a, b), mem_prs.mpr ⟨hlt, hb, hf⟩, ha, rfl⟩⟩
    · obtain ⟨b, hb, hf⟩ := hB.cols a hlt
      exact ⟨b, (mem_near (.inr rfl) ok.lt).mpr ⟨(b, a), mem_prs.mpr ⟨hb, hlt, hf⟩, ha, rfl⟩⟩
  obtain ⟨b, hb⟩ := key
  rw [h] at hb
  cases hb
theorem near_len {B : Bd} {s : Nat} {l : List Nat} (hB : B.Ok) : (B.near s l).length ≤ 6 := by
  unfold Bd.near
  have h1 := List.length_filter_le (fun b => l.any fun a => B.fit s a b) (List.range (B.sz (1 - s)))
  rw [List.length_range] at h1
  have h2 : B.sz (1 - s) ≤ 6 := by
    unfold Bd.sz
    split
    · exact hB.m6
    · exact hB.n6
  omega
theorem terms_spec : ∀ a b : Nat, 1 ≤ a → a ≤ 6 → 1 ≤ b → b ≤ 6 → m_lowest_terms fo [.int a, .int b] S = some (.tup [.int ((a / Nat.gcd a b : Nat) : Int), .int ((b / Nat.gcd a b : Nat) : Int)], S)
  | 1, 1, _, _, _, _ | 1, 2, _, _, _, _ | 1, 3, _, _, _, _ | 1, 4, _, _, _, _ | 1, 5, _, _, _, _ | 1, 6, _, _, _, _ => by rfl
  | 2, 1, _, _, _, _ | 2, 2, _, _, _, _ | 2, 3, _, _, _, _ | 2, 4, _, _, _, _ | 2, 5, _, _, _, _ | 2, 6, _, _, _, _ => by rfl
  | 3, 1, _, _, _, _ | 3, 2, _, _, _, _ | 3, 3, _, _, _, _ | 3, 4, _, _, _, _ | 3, 5, _, _, _, _ | 3, 6, _, _, _, _ => by rfl
  | 4, 1, _, _, _, _ | 4, 2, _, _, _, _ | 4, 3, _, _, _, _ | 4, 4, _, _, _, _ | 4, 5, _, _, _, _ | 4, 6, _, _, _, _ => by rfl
  | 5, 1, _, _, _, _ | 5, 2, _, _, _, _ | 5, 3, _, _, _, _ | 5, 4, _, _, _, _ | 5, 5, _, _, _, _ | 5, 6, _, _, _, _ => by rfl
  | 6, 1, _, _, _, _ | 6, 2, _, _, _, _ | 6, 3, _, _, _, _ | 6, 4, _, _, _, _ | 6, 5, _, _, _, _ | 6, 6, _, _, _, _ => by rfl
  | 0, _, h, _, _, _ => absurd h (by omega)
  | _, 0, _, _, h, _ => absurd h (by omega)
  | a + 7, _, _, h, _, _ => absurd h (by omega)
  | _, b + 7, _, _, _, h => absurd h (by omega)
/-- a quotient as least terms -/
def quo (a b : Nat) : PV := .tup [.int ((a / Nat.gcd a b : Nat) : Int), .int ((b / Nat.gcd a b : Nat) : Int)]
theorem W_quotient {B : Bd} {v w : PV} {d : PyData} {s : Nat} {l : List Nat} (hB : B.Ok) (hs : s = 0 ∨ s = 1) (hd : deep 16 S v = some d) (hb : BdD B d) (sw : SqV S w (l.map natV)) (ok : LotOk (B.sz s) l) (q : ∀ S', Fr0 S S' → Q (quo l.length (B.near s l).length) S') : W (m_quotient fo [v, .int s, w] S) Q := by
  have hz : B.sz s ≤ 6 := by
    unfold Bd.sz
    split
    · exact hB.m6
    · exact hB.n6
  have l1 := List.length_pos_iff.mpr ok.ne
  have l2 := asc_len ok.asc ok.lt
  have n1 := List.length_pos_iff.mpr (near_ne hB hs ok)
  have n2 := near_len (s := s) (l := l) hB
  have il : ∀ (A : Store) (k : List Nat), itemsOf (lotv k) A = some (k.map natV) := fun _ _ => rfl
  unfold m_quotient
  simp only [W_def, W_seq, W_if, W_ite, W_test, W_op, W_var, W_con, W_set, W_put, W_ret, W_expr, W_call, W_fn, W_cons, W_nil, W_skip, W_tup, W_lst, List.set_cons_zero, List.set_cons_succ, List.getElem?_cons_zero, List.getElem?_cons_succ, Option.some.injEq, exists_eq_left', exists_eq_left, W_idx, W_gt, W_lt, W_ge, W_le, W_int, W_abs, W_mod, W_div, W_mul, W_pow, W_add, W_sub, W_eqI, Bool.false_xor, Bool.true_xor, PV.bl.injEq, PV.int.injEq, Prod.mk.injEq, List.length_cons, List.length_nil, Nat.zero_add, Nat.reduceAdd, decide_eq_true_eq, (show startP N_quotient [v, .int s, w] = [some v, some (.int s), some w] from rfl)]
  refine W_check_bond hB hd hb fun S5 f5 => ?_
  refine W_check_lot hB hs canon_D canon_B (sw.fr f5) ok fun S6 f6 => ?_
  unfold m_quotient_of
  simp only [W_def, W_seq, W_if, W_ite, W_test, W_op, W_var, W_con, W_set, W_put, W_ret, W_expr, W_call, W_fn, W_cons, W_nil, W_skip, W_tup, W_lst, List.set_cons_zero, List.set_cons_succ, List.getElem?_cons_zero, List.getElem?_cons_succ, Option.some.injEq, exists_eq_left', exists_eq_left, W_idx, W_gt, W_lt, W_ge, W_le, W_int, W_abs, W_mod, W_div, W_mul, W_pow, W_add, W_sub, W_eqI, Bool.false_xor, Bool.true_xor, PV.bl.injEq, PV.int.injEq, Prod.mk.injEq, List.length_cons, List.length_nil, Nat.zero_add, Nat.reduceAdd, decide_eq_true_eq, (show startP N_quotient_of [B.v, .int s, lotv l] = [some B.v, some (.int s), some (lotv l)] from rfl)]
  rw [W_len (il _ l)]
  refine W_partners_of hB hs ok.lt fun S7 f7 => ?_
  rw [W_len (il _ (B.near s l)), List.length_map, List.length_map, terms_spec _ _ l1 (by omega) n1 n2, W_some]
  exact q S7 ((f5.trans f6).trans f7)
end Kp
set_option Elab.async false
set_option linter.all false
set_option maxRecDepth 100000
set_option maxHeartbeats 4000000
namespace Kp
open PySem PySem.Spec L2 Ip
variable {fo : Bool} {S0 S : Store} {m n : Nat} {F : Fl → Store → Prop} {Q : PV → Store → Prop}
theorem W_dc {mi : MI} {g : MG} {t : MT} {ek ev : ME} {vs : List Nat} {σ : PEnv} : W (mDc mi g t ek ev vs σ S) Q = W (mi σ S) fun r S1 => W (dcM g t ek ev r.2 S1.length (wipeP σ vs) r.1 (S1 ++ [.dk []])) fun _ S2 => Q (.ref S1.length) S2 := by
  unfold mDc
  rw [W_m2]
  congr 1
  funext r S1
  rw [W_map]
theorem W_dcM {g : MG} {t : MT} {ek ev : ME} {lk : Lk} {k : Nat} {σ : PEnv} {R : Unit → Store → Prop} (P : List PV → List (Key × PV) → Store → Prop) (hl : ∀ ys ks S, P ys ks S → lkOk lk S = true)
    (hs : ∀ x ys ks S, P (x :: ys) ks S → W (g x σ S) fun σ1 S1 => W (t σ1 S1) fun c S2 => if c = true then W (ek σ1 S2) fun y S3 => W (ev σ1 S3) fun z S4 => ∃ c, keyOf y = some c ∧ S4[k]? = some (.dk ks) ∧ szK ks = true ∧ P ys (putP ks c z) (S4.set k (.dk (putP ks c z))) else P ys ks S2)
    (hd : ∀ ks S, P [] ks S → R () S) : ∀ (xs : List PV) (ks : List (Key × PV)) (S : Store), P xs ks S → W (dcM g t ek ev lk k σ xs S) R
  | [], ks, S, h => by
    unfold dcM
    rw [if_pos (hl _ _ _ h), W_some]
    exact hd ks S h
  | x :: xs, ks, S, h => by
    unfold dcM
    rw [if_pos (hl _ _ _ h), W_bind]
    refine (hs x xs ks S h).mono fun σ1 S1 h1 => ?_
    rw [W_bind]
    refine h1.mono fun c S2 h2 => ?_
    cases c with
    | true =>
      simp only [if_true] at h2 ⊢
      rw [W_bind]
      refine h2.mono fun y S3 h3 => ?_
      rw [W_bind]
      refine h3.mono fun z S4 ⟨c, e1, e2, e3, h4⟩ => ?_
      have es : isDk (some (Ob.dk ks)) = some ks := rfl
      simp only [e1, Option.bind_some, e2, es, e3, if_true]
      exact W_dcM P hl hs hd xs _ _ h4
    | false =>
      simp only [Bool.false_eq_true, if_false] at h2 ⊢
      exact W_dcM P hl hs hd xs ks S2 h2
theorem getP_iff {ks : List (Key × PV)} {k : Key} : (getP ks k).isSome = true ↔ k ∈ ks.map (·.1) := by
  unfold getP
  rw [Option.isSome_map, List.find?_isSome, List.mem_map]
  exact ⟨fun ⟨e, h1, h2⟩ => ⟨e, h1, of_decide_eq_true h2⟩, fun ⟨e, h1, h2⟩ => ⟨e, h1, decide_eq_true h2⟩⟩
theorem putP_keys {ks : List (Key × PV)} {k : Key} {v : PV} {j : Key} : j ∈ (putP ks k v).map (·.1) ↔ j ∈ ks.map (·.1) ∨ j = k := by
  unfold putP
  split
  · rename_i h
    obtain ⟨e, h1, h2⟩ := List.any_eq_true.mp h
    have h2 := of_decide_eq_true h2
    have em : (ks.map fun e => if e.1 = k then (e.1, v) else e).map (·.1) = ks.map (·.1) := by
      rw [List.map_map]
      apply List.map_congr_left
      intro a _
      show (if a.1 = k then (a.1, v) else a).1 = a.1
      split <;> rfl
    rw [em]
    exact ⟨.inl, fun z => z.elim id fun e2 => List.mem_map.mpr ⟨e, h1, by rw [e2]; exact h2⟩⟩
  · rw [List.map_append, List.mem_append]
    simp
theorem putP_len {ks : List (Key × PV)} {k : Key} {v : PV} : (putP ks k v).length ≤ ks.length + 1 := by
  unfold putP
  split
  · simp
  · simp
/-- what fits nothing outside the lot -/
def Bd.held (B : Bd) (s : Nat) (l : List Nat) : List Nat := (List.range (B.sz (1 - s))).filter fun b => decide (∀ e ∈ B.ps, co (1 - s) e = b → co s e ∈ l)
theorem W_only_of {B : Bd} {s : Nat} {l : List Nat} (hB : B.Ok) (hs : s = 0 ∨ s = 1) (q : ∀ S', Fr0 S S' → Q (lotv (B.held s l)) S') : W (m_only_of fo [B.v, .int s, lotv l] S) Q := by
  have l36 : B.ps.length ≤ 36 := by
    have h1 := prs_len (f := B.f) (n := B.n) (m := B.m)
    have h2 : B.m * B.n ≤ 6 * 6 := Nat.mul_le_mul hB.m6 hB.n6
    exact Nat.le_trans h1 h2
  have hz : ∀ s, B.sz s ≤ 6 := fun s => by unfold Bd.sz; split <;> first | exact hB.m6 | exact hB.n6
  have hs' : 1 - s = 0 ∨ 1 - s = 1 := by omega
  unfold m_only_of
  simp only [W_def, W_seq, W_if, W_ite, W_test, W_op, W_var, W_con, W_set, W_put, W_ret, W_expr, W_call, W_fn, W_cons, W_nil, W_skip, W_tup, W_lst, List.set_cons_zero, List.set_cons_succ, List.getElem?_cons_zero, List.getElem?_cons_succ, Option.some.injEq, exists_eq_left', exists_eq_left, W_idx, W_gt, W_lt, W_ge, W_le, W_int, W_abs, W_mod, W_div, W_mul, W_pow, W_add, W_sub, W_eqI, Bool.false_xor, Bool.true_xor, PV.bl.injEq, PV.int.injEq, Prod.mk.injEq, List.length_cons, List.length_nil, Nat.zero_add, Nat.reduceAdd, decide_eq_true_eq, (show startP N_only_of [B.v, .int s, lotv l] = [some B.v, some (.int s), some (lotv l), none, none, none] from rfl), W_dc]
  refine W_seqI ?_
  simp only [W_def, W_seq, W_if, W_ite, W_test, W_op, W_var, W_con, W_set, W_put, W_ret, W_expr, W_call, W_fn, W_cons, W_nil, W_skip, W_tup, W_lst, List.set_cons_zero, List.set_cons_succ, List.getElem?_cons_zero, List.getElem?_cons_succ, Option.some.injEq, exists_eq_left', exists_eq_left, W_idx, W_gt, W_lt, W_ge, W_le, W_int, W_abs, W_mod, W_div, W_mul, W_pow, W_add, W_sub, W_eqI, Bool.false_xor, Bool.true_xor, PV.bl.injEq, PV.int.injEq, Prod.mk.injEq, List.length_cons, List.length_nil, Nat.zero_add, Nat.reduceAdd, decide_eq_true_eq, Bd.items, (show ∀ a b c : PV, atI [a, b, c] 2 = some c from fun _ _ _ => rfl)]
  refine ⟨_, _, ⟨rfl, rfl⟩, ?_⟩
  refine W_dcM (fun ys ks S2 => ∃ es fs, B.ps = es ++ fs ∧ ys = fs.map pv ∧ S2 = S ++ [.dk ks] ∧ ks.length ≤ es.length ∧ ∀ x : Nat, (Sum.inl (x : Int) : Key) ∈ ks.map (·.1) ↔ ∃ e ∈ es, ¬ co s e ∈ l ∧ x = co (1 - s) e) (fun _ _ _ _ => rfl) (fun x ys ks S2 h => ?_) (fun ks S2 h => ?_) _ [] _ ⟨[], B.ps, rfl, rfl, rfl, by simp, fun x => ⟨(fun h => nomatch h), (fun ⟨_, h, _⟩ => nomatch h)⟩⟩
  · obtain ⟨es, fs, hps, hys, rfl, hk, hm⟩ := h
    obtain ⟨e, fs, rfl⟩ : ∃ e fs', fs = e :: fs' := by
      cases fs with
      | nil => cases hys
      | cons e fs => exact ⟨e, fs, rfl⟩
    cases hys
    have hlen : es.length + 1 ≤ 36 := by
      have := congrArg List.length hps
      simp only [List.length_append, List.length_cons] at this
      omega
    show W (some _) _
    rw [W_some]
    have ip : ∀ A : Store, itemsOf (pv e) A = some [.int e.1, .int e.2] := fun _ => rfl
    have wi : ∀ (A : Store) (R : PV → Store → Prop), W (vIn true (.int (co s e)) (lotv l) A) R = R (.bl (!decide (co s e ∈ l))) A := fun A R => by
      show W (vIn true (natV (co s e)) (lotv l) A) R = _
      rw [W_inL, Bool.true_xor]
    have hw : List.set (wipeP [some B.v, some (.int s), some (lotv l), none, none, none] [4]) 4 (some (pv e)) = [some B.v, some (.int s), some (lotv l), none, some (pv e), none] := rfl
    simp only [W_def, W_seq, W_if, W_ite, W_test, W_op, W_var, W_con, W_set, W_put, W_ret, W_expr, W_call, W_fn, W_cons, W_nil, W_skip, W_tup, W_lst, List.set_cons_zero, List.set_cons_succ, List.getElem?_cons_zero, List.getElem?_cons_succ, Option.some.injEq, exists_eq_left', exists_eq_left, W_idx, W_gt, W_lt, W_ge, W_le, W_int, W_abs, W_mod, W_div, W_mul, W_pow, W_add, W_sub, W_eqI, Bool.false_xor, Bool.true_xor, PV.bl.injEq, PV.int.injEq, Prod.mk.injEq, List.length_cons, List.length_nil, Nat.zero_add, Nat.reduceAdd, decide_eq_true_eq, ip, pair_at hs, wi, hw, oneless hs, pair_at hs']
    by_cases hc : co s e ∈ l
    · rw [decide_eq_true hc, if_neg (by decide)]
      refine ⟨es ++ [e], fs, by rw [hps]; simp, rfl, trivial, by simp; omega, fun x => ?_⟩
      rw [hm]
      constructor
      · rintro ⟨e', h1, h2⟩
        exact ⟨e', List.mem_append_left _ h1, h2⟩
      · rintro ⟨e', h1, h2, h3⟩
        rcases List.mem_append.mp h1 with z | z
        · exact ⟨e', z, h2, h3⟩
        · rw [List.mem_singleton.mp z] at h2
          exact absurd hc h2
    · rw [decide_eq_false hc, if_pos (by decide)]
      refine ⟨.inl (co (1 - s) e : Int), rfl, by simp, decide_eq_true (by omega), es ++ [e], fs, by rw [hps]; simp, rfl, by rw [set_last], ?_, fun x => ?_⟩
      · have := putP_len (ks := ks) (k := .inl (co (1 - s) e : Int)) (v := .bl true)
        simp
        omega
      · rw [putP_keys, hm]
        constructor
        · rintro (⟨e', h1, h2⟩ | h1)
          · exact ⟨e', List.mem_append_left _ h1, h2⟩
          · refine ⟨e, by simp, hc, ?_⟩
            have := Sum.inl.inj h1
            omega
        · rintro ⟨e', h1, h2, h3⟩
          rcases List.mem_append.mp h1 with z | z
          · exact .inl ⟨e', z, h2, h3⟩
          · rw [List.mem_singleton.mp z] at h3
            exact .inr (by rw [h3])
  · obtain ⟨es, fs, hps, hys, rfl, hk, hm⟩ := h
    have hfs : fs = [] := by
      cases fs with
      | nil => rfl
      | cons _ _ => cases hys
    subst hfs
    rw [List.append_nil] at hps
    subst hps
    refine pick_row (n := B.sz (1 - s)) (f := fun b => decide (∀ e ∈ B.ps, co (1 - s) e = b → co s e ∈ l)) (g := natV) (hz _) ?_ ?_ ?_ ?_
    · simp only [W_def, W_seq, W_if, W_ite, W_test, W_op, W_var, W_con, W_set, W_put, W_ret, W_expr, W_call, W_fn, W_cons, W_nil, W_skip, W_tup, W_lst, List.set_cons_zero, List.set_cons_succ, List.getElem?_cons_zero, List.getElem?_cons_succ, Option.some.injEq, exists_eq_left', exists_eq_left, W_idx, W_gt, W_lt, W_ge, W_le, W_int, W_abs, W_mod, W_div, W_mul, W_pow, W_add, W_sub, W_eqI, Bool.false_xor, Bool.true_xor, PV.bl.injEq, PV.int.injEq, Prod.mk.injEq, List.length_cons, List.length_nil, Nat.zero_add, Nat.reduceAdd, decide_eq_true_eq, Bd.items, oneless hs, Bd.at_ hs']
      exact ⟨trivial, trivial⟩
    · intro b hb G
      show W (mTest (mOp (vKey true) (mVar 5) (mVar 3)) [some B.v, some (.int s), some (lotv l), some (.ref S.length), none, some (.int b)] _) _
      have wk : ∀ R : PV → Store → Prop, W (vKey true (.int (b : Int)) (.ref S.length) (S ++ [Ob.dk ks] ++ G)) R = R (.bl (decide (∀ e ∈ B.ps, co (1 - s) e = b → co s e ∈ l))) (S ++ [Ob.dk ks] ++ G) := fun R => by
        have e1 : dictAt (.ref S.length) (S ++ [Ob.dk ks] ++ G) = some ks := by simp [dictAt]
        have e2 : (true ^^ (getP ks (.inl (b : Int))).isSome) = decide (∀ e ∈ B.ps, co (1 - s) e = b → co s e ∈ l) := by
          by_cases h : ∀ e ∈ B.ps, co (1 - s) e = b → co s e ∈ l
          · rw [decide_eq_true h]
            have : ¬ (getP ks (.inl (b : Int))).isSome = true := fun z => by
              obtain ⟨e, g1, g2, g3⟩ := (hm b).mp (getP_iff.mp z)
              exact g2 (h e g1 g3.symm)
            rw [Bool.eq_false_iff.mpr this]
            rfl
          · rw [decide_eq_false h]
            have : (getP ks (.inl (b : Int))).isSome = true := by
              refine getP_iff.mpr ((hm b).mpr ?_)
              refine Classical.byContradiction fun z => h fun e he hb' => ?_
              exact Classical.byContradiction fun w => z ⟨e, he, w, hb'.symm⟩
            rw [this]
            rfl
        have e3 : vKey true (.int (b : Int)) (.ref S.length) (S ++ [Ob.dk ks] ++ G) = some (.bl (true ^^ (getP ks (.inl (b : Int))).isSome), S ++ [Ob.dk ks] ++ G) := by
          show (dictAt (.ref S.length) (S ++ [Ob.dk ks] ++ G)).map _ = _
          rw [e1]
          rfl
        rw [e3, W_some, e2]
      simp only [W_def, W_seq, W_if, W_ite, W_test, W_op, W_var, W_con, W_set, W_put, W_ret, W_expr, W_call, W_fn, W_cons, W_nil, W_skip, W_tup, W_lst, List.set_cons_zero, List.set_cons_succ, List.getElem?_cons_zero, List.getElem?_cons_succ, Option.some.injEq, exists_eq_left', exists_eq_left, W_idx, W_gt, W_lt, W_ge, W_le, W_int, W_abs, W_mod, W_div, W_mul, W_pow, W_add, W_sub, W_eqI, Bool.false_xor, Bool.true_xor, PV.bl.injEq, PV.int.injEq, Prod.mk.injEq, List.length_cons, List.length_nil, Nat.zero_add, Nat.reduceAdd, decide_eq_true_eq, wk]
      exact ⟨trivial, trivial⟩
    · intro b hb G
      exact ⟨natV b, _, rfl, rfl, rfl⟩
    · rw [W_vtuple (xs := (B.held s l).map natV) (items_ref (by simp [Bd.held]))]
      exact q _ (Fr0.app.trans Fr0.app)
end Kp
set_option Elab.async false
set_option linter.all false
set_option maxRecDepth 100000
set_option maxHeartbeats 4000000
namespace Kp
open PySem PySem.Spec L2 Ip
variable {fo : Bool} {S0 S : Store} {m n : Nat} {F : Fl → Store → Prop} {Q : PV → Store → Prop}
theorem W_only {B : Bd} {v w : PV} {d : PyData} {s : Nat} {l : List Nat} (hB : B.Ok) (hs : s = 0 ∨ s = 1) (hd : deep 16 S v = some d) (hb : BdD B d) (sw : SqV S w (l.map natV)) (ok : LotOk (B.sz s) l) (q : ∀ S', Fr0 S S' → Q (lotv (B.held s l)) S') : W (m_only fo [v, .int s, w] S) Q := by
  unfold m_only
  simp only [W_def, W_seq, W_if, W_ite, W_test, W_op, W_var, W_con, W_set, W_put, W_ret, W_expr, W_call, W_fn, W_cons, W_nil, W_skip, W_tup, W_lst, List.set_cons_zero, List.set_cons_succ, List.getElem?_cons_zero, List.getElem?_cons_succ, Option.some.injEq, exists_eq_left', exists_eq_left, W_idx, W_gt, W_lt, W_ge, W_le, W_int, W_abs, W_mod, W_div, W_mul, W_pow, W_add, W_sub, W_eqI, Bool.false_xor, Bool.true_xor, PV.bl.injEq, PV.int.injEq, Prod.mk.injEq, List.length_cons, List.length_nil, Nat.zero_add, Nat.reduceAdd, decide_eq_true_eq, (show startP N_only [v, .int s, w] = [some v, some (.int s), some w] from rfl)]
  refine W_check_bond hB hd hb fun S5 f5 => ?_
  refine W_check_lot hB hs canon_D canon_B (sw.fr f5) ok fun S6 f6 => ?_
  refine W_only_of hB hs fun S7 f7 => ?_
  exact q S7 ((f5.trans f6).trans f7)
/-- [e for x in range(n)], the store may grow -/
theorem map_rng {σ : PEnv} {me : MA} {e : ME} {j n : Nat} {g : Nat → PV} (hn : n ≤ 1000) (hme : W (me σ S) fun ps S1 => ps = [.int n] ∧ S1 = S)
    (he : ∀ i < n, ∀ A : Store, Fr0 S A → W (e ((wipeP σ [j]).set j (some (.int (i : Int)))) A) fun y S2 => y = g i ∧ Fr0 A S2)
    (q : ∀ S', Fr0 S S' → S'[S.length]? = some (.lst ((List.range n).map g)) → Q (.ref S.length) S') : W (mLc (iRange me) (gN j) tYesM e [j] σ S) Q := by
  rw [W_lc]
  refine W_range1 (hme.mono fun ps S1 ⟨e1, e2⟩ => ⟨n, e1, by omega, ?_⟩)
  subst e2
  rw [Int.toNat_natCast]
  refine W_lcM (fun ys acc S2 => ∃ i, i ≤ n ∧ ys = rangeP (i : Int) (n - i) ∧ acc = (List.range i).map g ∧ Fr0 S1 S2 ∧ S2[S1.length]? = some (.lst acc)) (fun _ _ _ _ => rfl) (fun x ys acc S2 h => ?_) (fun acc S2 h => ?_) _ _ _ ⟨0, by omega, by simp, rfl, Fr0.app, by simp⟩
  · obtain ⟨i, hi, hx, rfl, fr, hn2⟩ := h
    obtain ⟨h1, rfl, h3⟩ := rest_cons hi hx
    show W (some _) _
    rw [W_some]
    show W (some (true, _)) _
    rw [W_some]
    simp only [if_true]
    refine (he i h1 S2 fr).mono fun y S3 ⟨e1, f3⟩ => ?_
    subst e1
    have l2 := (List.getElem?_eq_some_iff.mp hn2).1
    have hn3 : S3[S1.length]? = some (.lst ((List.range i).map g)) := by rw [f3.old _ l2]; exact hn2
    refine ⟨hn3, ?_, i + 1, h1, h3, by rw [List.range_succ, List.map_append]; rfl, (fr.trans f3).put (Nat.le_refl _), ?_⟩
    · rw [List.length_map, List.length_range]
      exact decide_eq_true (by omega)
    · rw [List.getElem?_set_self (List.getElem?_eq_some_iff.mp hn3).1]
  · obtain ⟨i, hi, hx, rfl, fr, hn2⟩ := h
    have e := rest_nil hi hx
    subst e
    exact q S2 fr hn2
/-- how many fit each filling -/
def Bd.deg (B : Bd) (s : Nat) : PV := .tup ((List.range (B.sz s)).map fun a => natV (B.near s [a]).length)
theorem W_degrees_of {B : Bd} {s : Nat} (hB : B.Ok) (hs : s = 0 ∨ s = 1) (q : ∀ S', Fr0 S S' → Q (B.deg s) S') : W (m_degrees_of fo [B.v, .int s] S) Q := by
  have hz : B.sz s ≤ 6 := by
    unfold Bd.sz
    split
    · exact hB.m6
    · exact hB.n6
  have il : ∀ (A : Store) (k : List Nat), itemsOf (lotv k) A = some (k.map natV) := fun _ _ => rfl
  unfold m_degrees_of
  simp only [W_def, W_seq, W_if, W_ite, W_test, W_op, W_var, W_con, W_set, W_put, W_ret, W_expr, W_call, W_fn, W_cons, W_nil, W_skip, W_tup, W_lst, List.set_cons_zero, List.set_cons_succ, List.getElem?_cons_zero, List.getElem?_cons_succ, Option.some.injEq, exists_eq_left', exists_eq_left, W_idx, W_gt, W_lt, W_ge, W_le, W_int, W_abs, W_mod, W_div, W_mul, W_pow, W_add, W_sub, W_eqI, Bool.false_xor, Bool.true_xor, PV.bl.injEq, PV.int.injEq, Prod.mk.injEq, List.length_cons, List.length_nil, Nat.zero_add, Nat.reduceAdd, decide_eq_true_eq, (show startP N_degrees_of [B.v, .int s] = [some B.v, some (.int s), none] from rfl)]
  refine map_rng (n := B.sz s) (g := fun a => natV (B.near s [a]).length) (by omega) ?_ ?_ fun S6 f6 h6 => ?_
  · simp only [W_def, W_seq, W_if, W_ite, W_test, W_op, W_var, W_con, W_set, W_put, W_ret, W_expr, W_call, W_fn, W_cons, W_nil, W_skip, W_tup, W_lst, List.set_cons_zero, List.set_cons_succ, List.getElem?_cons_zero, List.getElem?_cons_succ, Option.some.injEq, exists_eq_left', exists_eq_left, W_idx, W_gt, W_lt, W_ge, W_le, W_int, W_abs, W_mod, W_div, W_mul, W_pow, W_add, W_sub, W_eqI, Bool.false_xor, Bool.true_xor, PV.bl.injEq, PV.int.injEq, Prod.mk.injEq, List.length_cons, List.length_nil, Nat.zero_add, Nat.reduceAdd, decide_eq_true_eq, Bd.items, Bd.at_ hs]
    exact ⟨trivial, trivial⟩
  · intro i hi A fA
    show W (mCall vLen (aCons (mFn (m_partners_of fo) (aCons (mVar 0) (aCons (mVar 1) (aCons (mTup (aCons (mVar 2) aNil)) aNil)))) aNil) [some B.v, some (.int s), some (.int i)] A) _
    simp only [W_def, W_seq, W_if, W_ite, W_test, W_op, W_var, W_con, W_set, W_put, W_ret, W_expr, W_call, W_fn, W_cons, W_nil, W_skip, W_tup, W_lst, List.set_cons_zero, List.set_cons_succ, List.getElem?_cons_zero, List.getElem?_cons_succ, Option.some.injEq, exists_eq_left', exists_eq_left, W_idx, W_gt, W_lt, W_ge, W_le, W_int, W_abs, W_mod, W_div, W_mul, W_pow, W_add, W_sub, W_eqI, Bool.false_xor, Bool.true_xor, PV.bl.injEq, PV.int.injEq, Prod.mk.injEq, List.length_cons, List.length_nil, Nat.zero_add, Nat.reduceAdd, decide_eq_true_eq]
    refine ⟨by decide, ?_⟩
    show W (m_partners_of fo [B.v, .int s, lotv [i]] A) _
    refine W_partners_of hB hs (by simpa using hi) fun S7 f7 => ?_
    rw [W_len (il _ (B.near s [i])), List.length_map]
    exact ⟨rfl, f7⟩
  · rw [W_vtuple (items_ref h6)]
    exact q S6 f6
theorem W_degrees {B : Bd} {v : PV} {d : PyData} {s : Nat} (hB : B.Ok) (hs : s = 0 ∨ s = 1) (hd : deep 16 S v = some d) (hb : BdD B d) (q : ∀ S', Fr0 S S' → Q (B.deg s) S') : W (m_degrees fo [v, .int s] S) Q := by
  unfold m_degrees
  simp only [W_def, W_seq, W_if, W_ite, W_test, W_op, W_var, W_con, W_set, W_put, W_ret, W_expr, W_call, W_fn, W_cons, W_nil, W_skip, W_tup, W_lst, List.set_cons_zero, List.set_cons_succ, List.getElem?_cons_zero, List.getElem?_cons_succ, Option.some.injEq, exists_eq_left', exists_eq_left, W_idx, W_gt, W_lt, W_ge, W_le, W_int, W_abs, W_mod, W_div, W_mul, W_pow, W_add, W_sub, W_eqI, Bool.false_xor, Bool.true_xor, PV.bl.injEq, PV.int.injEq, Prod.mk.injEq, List.length_cons, List.length_nil, Nat.zero_add, Nat.reduceAdd, decide_eq_true_eq, (show startP N_degrees [v, .int s] = [some v, some (.int s)] from rfl)]
  refine W_check_bond hB hd hb fun S5 f5 => ?_
  simp only [W_def, W_seq, W_if, W_ite, W_test, W_op, W_var, W_con, W_set, W_put, W_ret, W_expr, W_call, W_fn, W_cons, W_nil, W_skip, W_tup, W_lst, List.set_cons_zero, List.set_cons_succ, List.getElem?_cons_zero, List.getElem?_cons_succ, Option.some.injEq, exists_eq_left', exists_eq_left, W_idx, W_gt, W_lt, W_ge, W_le, W_int, W_abs, W_mod, W_div, W_mul, W_pow, W_add, W_sub, W_eqI, Bool.false_xor, Bool.true_xor, PV.bl.injEq, PV.int.injEq, Prod.mk.injEq, List.length_cons, List.length_nil, Nat.zero_add, Nat.reduceAdd, decide_eq_true_eq, W_check_side hs]
  refine W_degrees_of hB hs fun S6 f6 => ?_
  exact q S6 (f5.trans f6)
end Kp
set_option Elab.async false
set_option linter.all false
set_option maxRecDepth 100000
set_option maxHeartbeats 4000000
namespace Kp
open PySem PySem.Spec L2 Ip
variable {fo : Bool} {S0 S : Store} {m n : Nat} {F : Fl → Store → Prop} {Q : PV → Store → Prop}
theorem lotv_deep {l : List Nat} : deep 16 S (lotv l) = some (.tuple ((l.map fun x : Nat => (x : Int)).map PyData.int)) := by
  show (mapO (deep 15 S) (l.map natV)).map PyData.tuple = _
  rw [deep_lot]
  rfl
theorem shaped_tup (l : List Int) : SeqAt.shaped (.tuple (l.map PyData.int)) = true := by
  unfold SeqAt.shaped
  have h1 : PyData.canLay0 (.tuple (l.map PyData.int)) = true := by simp only [PyData.canLay0, lay_ints]
  have h2 : PyData.depth (.tuple (l.map PyData.int)) ≤ 64 := by
    have := depth_ints l
    simp only [PyData.depth]
    omega
  rw [h1, decide_eq_true h2]
  rfl
theorem eqvs_ints : ∀ (a b : List Nat), PyData.eqv (.tuple ((a.map fun x : Nat => (x : Int)).map PyData.int)) (.tuple ((b.map fun x : Nat => (x : Int)).map PyData.int)) = decide (a = b)
  | [], [] => by simp [PyData.eqv, PyData.eqvAll]
  | [], y :: b => by simp [PyData.eqv, PyData.eqvAll]
  | x :: a, [] => by simp [PyData.eqv, PyData.eqvAll]
  | x :: a, y :: b => by
    have ih := eqvs_ints a b
    simp only [PyData.eqv] at ih
    simp only [List.map_cons, PyData.eqv, PyData.eqvAll, ih]
    by_cases h : x = y
    · subst h
      simp
    · have h2 : ¬ (x : Int) = (y : Int) := by omega
      simp [h, h2]
theorem W_eqL {a b : List Nat} : W (vEq false (lotv a) (lotv b) S) Q = Q (.bl (decide (a = b))) S := by
  rw [W_eq lotv_deep lotv_deep (by rw [shaped_tup, shaped_tup]; rfl), eqvs_ints, Bool.false_xor]
theorem W_whileM {t : MT} {b : MS} (P : Nat → PEnv → Store → Prop) (hs : ∀ k σ S, P (k + 1) σ S → W (t σ S) fun c S1 => if c = true then W (b σ S1) (Turned (P k) F) else F (.nx σ) S1) (h0 : ∀ σ S, ¬ P 0 σ S) : ∀ (k : Nat) (σ : PEnv) (S : Store), P k σ S → W (whileM t b k σ S) F
  | 0, σ, S, h => absurd h (h0 σ S)
  | k + 1, σ, S, h => by
    unfold whileM
    rw [W_bind]
    refine (hs k σ S h).mono fun c S1 h1 => ?_
    cases c with
    | true =>
      simp only [if_true] at h1 ⊢
      rw [W_bind]
      refine h1.mono fun f S2 h2 => ?_
      cases f with
      | nx τ => exact W_whileM P hs h0 k τ S2 h2
      | ct τ => exact W_whileM P hs h0 k τ S2 h2
      | bk τ => exact W_some ▸ h2
      | rt v => exact W_some ▸ h2
    | false =>
      simp only [Bool.false_eq_true, if_false] at h1 ⊢
      rw [W_some]
      exact h1
end Kp
set_option Elab.async false
set_option linter.all false
set_option maxRecDepth 100000
set_option maxHeartbeats 4000000
namespace Kp
open PySem PySem.Spec L2 Ip
variable {fo : Bool} {S0 S : Store} {m n : Nat} {F : Fl → Store → Prop} {Q : PV → Store → Prop}
theorem sub_back : ∀ {l k : List Nat}, l.Nodup → (∀ x ∈ l, x ∈ k) → k.length ≤ l.length → ∀ x ∈ k, x ∈ l
  | [], k, _, _, h, x, hx => by
    have := List.length_pos_of_mem hx
    simp only [List.length_nil] at h
    omega
  | x :: l, k, nd, h, hl, y, hy => by
    have hx := h x (List.mem_cons_self ..)
    have ⟨n1, n2⟩ := List.nodup_cons.mp nd
    by_cases e : y = x
    · rw [e]
      exact List.mem_cons_self ..
    · refine List.mem_cons_of_mem _ (sub_back (k := k.erase x) n2 (fun z hz => (List.mem_erase_of_ne (fun w => n1 (by rw [← w]; exact hz))).mpr (h z (List.mem_cons_of_mem _ hz))) ?_ y ((List.mem_erase_of_ne e).mpr hy))
      rw [List.length_erase_of_mem hx]
      simp only [List.length_cons] at hl
      omega
theorem asc_ext : ∀ {xs ys : List Nat}, xs.Pairwise (· < ·) → ys.Pairwise (· < ·) → (∀ j, j ∈ xs ↔ j ∈ ys) → xs = ys := fun {xs ys} hx hy h => by
  have e := sorted_ext (xs := xs.map fun a : Nat => (a : Int)) (ys := ys.map fun a : Nat => (a : Int)) (List.pairwise_map.mpr (hx.imp fun h => by omega)) (List.pairwise_map.mpr (hy.imp fun h => by omega)) fun j => by
    rw [List.mem_map, List.mem_map]
    exact ⟨fun ⟨a, h1, h2⟩ => ⟨a, (h a).mp h1, h2⟩, fun ⟨a, h1, h2⟩ => ⟨a, (h a).mpr h1, h2⟩⟩
  have inj : ∀ (us vs : List Nat), us.map (fun a : Nat => (a : Int)) = vs.map (fun a : Nat => (a : Int)) → us = vs := by
    intro us
    induction us with
    | nil => intro vs h; cases vs with
      | nil => rfl
      | cons _ _ => cases h
    | cons u us ih => intro vs h; cases vs with
      | nil => cases h
      | cons v vs =>
        simp only [List.map_cons, List.cons.injEq] at h
        have : u = v := by omega
        rw [this, ih vs h.2]
  exact inj _ _ e
theorem near_asc {B : Bd} {s : Nat} {l : List Nat} : (B.near s l).Pairwise (· < ·) := List.Pairwise.filter _ List.pairwise_lt_range
theorem near_lt {B : Bd} {s : Nat} {l : List Nat} : ∀ a ∈ B.near s l, a < B.sz (1 - s) := fun a h => List.mem_range.mp (List.mem_filter.mp h).1
theorem W_component {B : Bd} {s0 : Nat} (hB : B.Ok) (h0 : s0 < B.m) (q : ∀ S', Fr0 S S' → Q (B.piece (B.rt s0)) S') : W (m_component fo [B.v, .int s0] S) Q := by
  have hin : ∀ e ∈ B.ps, e.1 < B.m ∧ e.2 < B.n := fun e he => ⟨(mem_prs.mp he).1, (mem_prs.mp he).2.1⟩
  unfold m_component
  simp only [W_def, W_seq, W_if, W_ite, W_test, W_op, W_var, W_con, W_set, W_put, W_ret, W_expr, W_call, W_fn, W_cons, W_nil, W_skip, W_tup, W_lst, List.set_cons_zero, List.set_cons_succ, List.getElem?_cons_zero, List.getElem?_cons_succ, Option.some.injEq, exists_eq_left', exists_eq_left, W_idx, W_gt, W_lt, W_ge, W_le, W_int, W_abs, W_mod, W_div, W_mul, W_pow, W_add, W_sub, W_eqI, Bool.false_xor, Bool.true_xor, PV.bl.injEq, PV.int.injEq, Prod.mk.injEq, List.length_cons, List.length_nil, Nat.zero_add, Nat.reduceAdd, decide_eq_true_eq, (show startP N_component [B.v, .int s0] = [some B.v, some (.int s0), none, none, none] from rfl)]
  refine ⟨by decide, ?_⟩
  refine W_whileM (fun k σ S2 => ∃ L y3 y4, σ = [some B.v, some (.int s0), some (lotv L), y3, y4] ∧ L.Pairwise (· < ·) ∧ (∀ a ∈ L, a < B.m ∧ Ma.Cn B.ps s0 a) ∧ s0 ∈ L ∧ Fr0 S S2 ∧ 7 ≤ k + L.length) (fun k σ S2 h => ?_) (fun σ S2 h => ?_) _ _ _ ⟨[s0], none, none, rfl, by simp, fun a ha => ?_, by simp, Fr0.refl, by simp⟩
  · obtain ⟨L, y3, y4, rfl, hasc, hL, hs0, fr, hk⟩ := h
    simp only [W_def, W_seq, W_if, W_ite, W_test, W_op, W_var, W_con, W_set, W_put, W_ret, W_expr, W_call, W_fn, W_cons, W_nil, W_skip, W_tup, W_lst, List.set_cons_zero, List.set_cons_succ, List.getElem?_cons_zero, List.getElem?_cons_succ, Option.some.injEq, exists_eq_left', exists_eq_left, W_idx, W_gt, W_lt, W_ge, W_le, W_int, W_abs, W_mod, W_div, W_mul, W_pow, W_add, W_sub, W_eqI, Bool.false_xor, Bool.true_xor, PV.bl.injEq, PV.int.injEq, Prod.mk.injEq, List.length_cons, List.length_nil, Nat.zero_add, Nat.reduceAdd, decide_eq_true_eq]
    rw [if_pos trivial]
    have ltm : ∀ a ∈ L, a < B.sz 0 := fun a ha => (hL a ha).1
    refine W_partners_of (s := 0) hB (.inl rfl) ltm fun S3 f3 => ?_
    refine W_partners_of (s := 1) hB (.inr rfl) (fun a ha => near_lt a ha) fun S4 f4 => ?_
    simp only [W_def, W_seq, W_if, W_ite, W_test, W_op, W_var, W_con, W_set, W_put, W_ret, W_expr, W_call, W_fn, W_cons, W_nil, W_skip, W_tup, W_lst, List.set_cons_zero, List.set_cons_succ, List.getElem?_cons_zero, List.getElem?_cons_succ, Option.some.injEq, exists_eq_left', exists_eq_left, W_idx, W_gt, W_lt, W_ge, W_le, W_int, W_abs, W_mod, W_div, W_mul, W_pow, W_add, W_sub, W_eqI, Bool.false_xor, Bool.true_xor, PV.bl.injEq, PV.int.injEq, Prod.mk.injEq, List.length_cons, List.length_nil, Nat.zero_add, Nat.reduceAdd, decide_eq_true_eq, W_eqL]
    have hmem : ∀ a, a ∈ B.near 1 (B.near 0 L) ↔ ∃ t a', (a, t) ∈ B.ps ∧ (a', t) ∈ B.ps ∧ a' ∈ L := fun a => by
      rw [mem_near (.inr rfl) (fun a ha => near_lt a ha)]
      constructor
      · rintro ⟨e, he, h1, rfl⟩
        obtain ⟨e', he', h2, h3⟩ := (mem_near (.inl rfl) ltm).mp h1
        refine ⟨e.2, e'.1, he, ?_, h2⟩
        have h3 : e.2 = e'.2 := h3
        rw [h3]
        exact he'
      · rintro ⟨t, a', h1, h2, h3⟩
        exact ⟨(a, t), h1, (mem_near (.inl rfl) ltm).mpr ⟨(a', t), h2, h3, rfl⟩, rfl⟩
    have hsub : ∀ a ∈ L, a ∈ B.near 1 (B.near 0 L) := fun a ha => by
      obtain ⟨t, ht, hf⟩ := hB.rows a (hL a ha).1
      have : (a, t) ∈ B.ps := mem_prs.mpr ⟨(hL a ha).1, ht, hf⟩
      exact (hmem a).mpr ⟨t, a, this, this, ha⟩
    split
    · rename_i heq
      have closed : ∀ a, Ma.Cn B.ps s0 a → a ∈ L := by
        intro a hc
        induction hc with
        | refl => exact hs0
        | step _ h1 h2 ih => rw [← heq]; exact (hmem _).mpr ⟨_, _, h2, h1, ih⟩
      have eL : L = (List.range B.m).filter fun s => decide (B.rt s = B.rt s0) := by
        refine asc_ext hasc (List.Pairwise.filter _ List.pairwise_lt_range) fun j => ?_
        rw [List.mem_filter, List.mem_range, decide_eq_true_eq]
        constructor
        · intro hj
          exact ⟨(hL j hj).1, (Ma.root_eq h0 (hL j hj).1 (hL j hj).2).symm⟩
        · rintro ⟨h1, h2⟩
          refine closed j ?_
          have r1 := (Ma.root_spec (ps := B.ps) h0).2.1
          have r2 := (Ma.root_spec (ps := B.ps) h1).2.1
          have h2 : Ma.root B.ps B.m j = Ma.root B.ps B.m s0 := h2
          rw [h2] at r2
          exact r1.symm.trans r2
      have eR : B.near 0 L = (List.range B.n).filter fun t => decide (B.rr t = B.rt s0) := by
        refine asc_ext near_asc (List.Pairwise.filter _ List.pairwise_lt_range) fun t => ?_
        rw [mem_near (.inl rfl) ltm, List.mem_filter, List.mem_range, decide_eq_true_eq]
        constructor
        · rintro ⟨e, he, h1, rfl⟩
          refine ⟨(hin e he).2, ?_⟩
          have := Ma.rootR_edge hin he
          have h3 := Ma.root_eq h0 (hL e.1 h1).1 (hL e.1 h1).2
          exact this.trans h3.symm
        · rintro ⟨h1, h2⟩
          obtain ⟨a, ha, hf⟩ := hB.cols t h1
          have he : (a, t) ∈ B.ps := mem_prs.mpr ⟨ha, h1, hf⟩
          refine ⟨(a, t), he, ?_, rfl⟩
          have h3 := Ma.rootR_edge hin he
          show a ∈ L
          rw [eL, List.mem_filter, List.mem_range, decide_eq_true_eq]
          exact ⟨ha, h3.symm.trans h2⟩
      refine ⟨by decide, ?_⟩
      have ep : PV.tup [lotv L, lotv (B.near 0 L)] = B.piece (B.rt s0) := by
        rw [eR, eL]
        rfl
      show Q (PV.tup [lotv L, lotv (B.near 0 L)]) S4
      rw [ep]
      exact q S4 ((fr.trans f3).trans f4)
    · rename_i hne
      refine ⟨B.near 1 (B.near 0 L), _, _, rfl, near_asc, fun a ha => ?_, hsub s0 hs0, (fr.trans f3).trans f4, ?_⟩
      · obtain ⟨t, a', g1, g2, g3⟩ := (hmem a).mp ha
        exact ⟨(hin _ g1).1, .step (hL a' g3).2 g2 g1⟩
      · have : L.length < (B.near 1 (B.near 0 L)).length := by
          rcases Nat.lt_or_ge L.length (B.near 1 (B.near 0 L)).length with z | z
          · exact z
          · refine absurd (asc_ext near_asc hasc fun j => ⟨fun hj => ?_, fun hj => hsub j hj⟩) hne
            exact sub_back (hasc.imp fun h => Nat.ne_of_lt h) hsub z j hj
        omega
  · obtain ⟨L, y3, y4, rfl, hasc, hL, hs0, fr, hk⟩ := h
    have := asc_len hasc fun a ha => (hL a ha).1
    have := hB.m6
    omega
  · rw [List.mem_singleton.mp ha]
    exact ⟨h0, .refl s0⟩
end Kp
set_option Elab.async false
set_option linter.all false
set_option maxRecDepth 100000
set_option maxHeartbeats 4000000
namespace Kp
open PySem PySem.Spec L2 Ip
variable {fo : Bool} {S0 S : Store} {m n : Nat} {F : Fl → Store → Prop} {Q : PV → Store → Prop}
def inFirst (i : Nat) (x : PV) : PV := match x with
  | .tup (.tup l :: _) => .bl (decide (natV i ∈ l))
  | _ => .non
theorem natV_inj {a b : Nat} (h : natV a = natV b) : a = b := by
  have h : PV.int (a : Int) = PV.int (b : Int) := h
  have := PV.int.inj h
  omega
theorem inFirst_piece {B : Bd} {i o : Nat} (hi : i < B.m) : inFirst i (B.piece o) = .bl (decide (B.rt i = o)) := by
  show PV.bl (decide (natV i ∈ ((List.range B.m).filter fun s => decide (B.rt s = o)).map natV)) = _
  congr 1
  by_cases h : B.rt i = o
  · rw [decide_eq_true h]
    exact decide_eq_true (List.mem_map.mpr ⟨i, List.mem_filter.mpr ⟨List.mem_range.mpr hi, decide_eq_true h⟩, rfl⟩)
  · rw [decide_eq_false h]
    refine decide_eq_false fun z => h ?_
    obtain ⟨a, h1, h2⟩ := List.mem_map.mp z
    have := natV_inj h2
    subst this
    exact of_decide_eq_true (List.mem_filter.mp h1).2
theorem W_any {p : PV} {xs : List PV} {bs : List Bool} (h : listOf p S = some xs) (h2 : boolsOf xs = some bs) : W (vAny [p] S) Q = Q (.bl (bs.any id)) S := by
  show W (((listOf p S).bind boolsOf).map fun bs => ((.bl (bs.any id), S) : PV × Store)) Q = _
  rw [h, Option.bind_some, h2]
  exact W_some
theorem boolsOf_map {α : Type} {f : α → Bool} : ∀ {l : List α}, boolsOf (l.map fun a => PV.bl (f a)) = some (l.map f)
  | [] => rfl
  | a :: l => by
    show (boolsOf (l.map fun a => PV.bl (f a))).map (f a :: ·) = _
    rw [boolsOf_map]
    rfl
theorem W_pieces_of {B : Bd} (hB : B.Ok) (q : ∀ S', Fr0 S S' → Q (.tup B.pieces) S') : W (m_pieces_of fo [B.v] S) Q := by
  have m6 := hB.m6
  unfold m_pieces_of
  simp only [W_def, W_seq, W_if, W_ite, W_test, W_op, W_var, W_con, W_set, W_put, W_ret, W_expr, W_call, W_fn, W_cons, W_nil, W_skip, W_tup, W_lst, List.set_cons_zero, List.set_cons_succ, List.getElem?_cons_zero, List.getElem?_cons_succ, Option.some.injEq, exists_eq_left', exists_eq_left, W_idx, W_gt, W_lt, W_ge, W_le, W_int, W_abs, W_mod, W_div, W_mul, W_pow, W_add, W_sub, W_eqI, Bool.false_xor, Bool.true_xor, PV.bl.injEq, PV.int.injEq, Prod.mk.injEq, List.length_cons, List.length_nil, Nat.zero_add, Nat.reduceAdd, decide_eq_true_eq, (show startP N_pieces_of [B.v] = [some B.v, none, none, none] from rfl)]
  refine ⟨by decide, ?_⟩
  rw [W_for]
  refine W_range1 ?_
  simp only [W_def, W_seq, W_if, W_ite, W_test, W_op, W_var, W_con, W_set, W_put, W_ret, W_expr, W_call, W_fn, W_cons, W_nil, W_skip, W_tup, W_lst, List.set_cons_zero, List.set_cons_succ, List.getElem?_cons_zero, List.getElem?_cons_succ, Option.some.injEq, exists_eq_left', exists_eq_left, W_idx, W_gt, W_lt, W_ge, W_le, W_int, W_abs, W_mod, W_div, W_mul, W_pow, W_add, W_sub, W_eqI, Bool.false_xor, Bool.true_xor, PV.bl.injEq, PV.int.injEq, Prod.mk.injEq, List.length_cons, List.length_nil, Nat.zero_add, Nat.reduceAdd, decide_eq_true_eq, Bd.items, (show ∀ a b c : PV, atI [a, b, c] 0 = some a from fun _ _ _ => rfl)]
  refine ⟨B.m, rfl, by omega, ?_⟩
  rw [Int.toNat_natCast]
  refine W_forM (xs := []) (fun ys σ S2 => ∃ i y2, i ≤ B.m ∧ ys = rangeP (i : Int) (B.m - i) ∧ σ = [some B.v, some (.ref S.length), y2, none] ∧ Fr0 S S2 ∧ S2[S.length]? = some (.lst (((List.range i).filter fun o => decide (B.rt o = o)).map B.piece))) (fun _ _ _ _ => rfl) (fun z ys σ S2 h => ?_) (fun σ S2 h => ?_) _ _ _
    ⟨0, none, by omega, by simp, rfl, Fr0.app, by simp⟩
  · obtain ⟨i, y2, hi, hx, rfl, fr, hn⟩ := h
    obtain ⟨g1, rfl, g3⟩ := rest_cons hi hx
    show W (some _) _
    rw [W_some]
    simp only [W_def, W_seq, W_if, W_ite, W_test, W_op, W_var, W_con, W_set, W_put, W_ret, W_expr, W_call, W_fn, W_cons, W_nil, W_skip, W_tup, W_lst, List.set_cons_zero, List.set_cons_succ, List.getElem?_cons_zero, List.getElem?_cons_succ, Option.some.injEq, exists_eq_left', exists_eq_left, W_idx, W_gt, W_lt, W_ge, W_le, W_int, W_abs, W_mod, W_div, W_mul, W_pow, W_add, W_sub, W_eqI, Bool.false_xor, Bool.true_xor, PV.bl.injEq, PV.int.injEq, Prod.mk.injEq, List.length_cons, List.length_nil, Nat.zero_add, Nat.reduceAdd, decide_eq_true_eq, W_notM]
    have hlen : (((List.range i).filter fun o => decide (B.rt o = o)).map B.piece).length ≤ i := by
      rw [List.length_map]
      have := List.length_filter_le (fun o => decide (B.rt o = o)) (List.range i)
      rwa [List.length_range] at this
    refine map_seq (v := .ref S.length) (xs := ((List.range i).filter fun o => decide (B.rt o = o)).map B.piece) (g := inFirst i) (f := fun _ => true) (by omega) (items_ref hn) ?_ (fun x _ G => yes_ok) ?_ fun S5 f5 h5 => ?_
    · simp only [W_def, W_seq, W_if, W_ite, W_test, W_op, W_var, W_con, W_set, W_put, W_ret, W_expr, W_call, W_fn, W_cons, W_nil, W_skip, W_tup, W_lst, List.set_cons_zero, List.set_cons_succ, List.getElem?_cons_zero, List.getElem?_cons_succ, Option.some.injEq, exists_eq_left', exists_eq_left, W_idx, W_gt, W_lt, W_ge, W_le, W_int, W_abs, W_mod, W_div, W_mul, W_pow, W_add, W_sub, W_eqI, Bool.false_xor, Bool.true_xor, PV.bl.injEq, PV.int.injEq, Prod.mk.injEq, List.length_cons, List.length_nil, Nat.zero_add, Nat.reduceAdd, decide_eq_true_eq]
      exact ⟨trivial, trivial⟩
    · intro x hx G
      obtain ⟨o, _, rfl⟩ := List.mem_map.mp hx
      show W (mOp (vIn false) (mVar 2) (mOp vIdx (mVar 3) (mCon (.int 0))) [some B.v, some (.ref S.length), some (.int i), some (B.piece o)] _) _
      have ip : ∀ A : Store, itemsOf (B.piece o) A = some [lotv ((List.range B.m).filter fun s => decide (B.rt s = o)), lotv ((List.range B.n).filter fun t => decide (B.rr t = o))] := fun _ => rfl
      have wi : ∀ (l : List Nat) (A : Store) (R : PV → Store → Prop), W (vIn false (.int (i : Int)) (lotv l) A) R = R (.bl (decide (i ∈ l))) A := fun l A R => by
        show W (vIn false (natV i) (lotv l) A) R = _
        rw [W_inL, Bool.false_xor]
      simp only [W_def, W_seq, W_if, W_ite, W_test, W_op, W_var, W_con, W_set, W_put, W_ret, W_expr, W_call, W_fn, W_cons, W_nil, W_skip, W_tup, W_lst, List.set_cons_zero, List.set_cons_succ, List.getElem?_cons_zero, List.getElem?_cons_succ, Option.some.injEq, exists_eq_left', exists_eq_left, W_idx, W_gt, W_lt, W_ge, W_le, W_int, W_abs, W_mod, W_div, W_mul, W_pow, W_add, W_sub, W_eqI, Bool.false_xor, Bool.true_xor, PV.bl.injEq, PV.int.injEq, Prod.mk.injEq, List.length_cons, List.length_nil, Nat.zero_add, Nat.reduceAdd, decide_eq_true_eq, ip, (show ∀ a b : PV, atI [a, b] 0 = some a from fun _ _ => rfl), wi]
      rw [inFirst_piece g1]
      refine ⟨?_, [], by simp⟩
      have : decide (i ∈ (List.range B.m).filter fun s => decide (B.rt s = o)) = decide (B.rt i = o) := by
        by_cases h : B.rt i = o
        · rw [decide_eq_true h]
          exact decide_eq_true (List.mem_filter.mpr ⟨List.mem_range.mpr g1, decide_eq_true h⟩)
        · rw [decide_eq_false h]
          exact decide_eq_false fun z => h (of_decide_eq_true (List.mem_filter.mp z).2)
      first | exact congrArg PV.bl this | exact this | (simp only [this])
    · have hf : ∀ l : List PV, l.filter (fun _ => true) = l := fun l => List.filter_eq_self.mpr fun _ _ => rfl
      rw [hf, List.map_map] at h5
      have hm : ((List.range i).filter fun o => decide (B.rt o = o)).map (inFirst i ∘ B.piece) = ((List.range i).filter fun o => decide (B.rt o = o)).map fun o => PV.bl (decide (B.rt i = o)) := List.map_congr_left fun o _ => inFirst_piece g1
      rw [hm] at h5
      have hb : listOf (.ref S2.length) S5 = some (((List.range i).filter fun o => decide (B.rt o = o)).map fun o => PV.bl (decide (B.rt i = o))) := items_ref h5
      rw [W_any hb boolsOf_map]
      have hi6 := Ma.root_spec (ps := B.ps) g1
      have any_eq : ((((List.range i).filter fun o => decide (B.rt o = o)).map fun o => decide (B.rt i = o)).any id) = !decide (B.rt i = i) := by
        by_cases h : B.rt i = i
        · rw [decide_eq_true h]
          refine Bool.eq_false_iff.mpr fun z => ?_
          obtain ⟨b, h1, h2⟩ := List.any_eq_true.mp z
          obtain ⟨o, h3, rfl⟩ := List.mem_map.mp h1
          have h4 : B.rt i = o := of_decide_eq_true h2
          have h5 := List.mem_range.mp (List.mem_filter.mp h3).1
          omega
        · rw [decide_eq_false h]
          have hle : B.rt i ≤ i := Ma.root_le g1
          refine List.any_eq_true.mpr ⟨true, List.mem_map.mpr ⟨B.rt i, List.mem_filter.mpr ⟨List.mem_range.mpr (by omega), decide_eq_true (Ma.root_idem g1)⟩, decide_eq_true rfl⟩, rfl⟩
      refine ⟨_, rfl, ?_⟩
      rw [any_eq, Bool.not_not]
      have hn5 : S5[S.length]? = some (.lst (((List.range i).filter fun o => decide (B.rt o = o)).map B.piece)) := by
        rw [f5.old _ (List.getElem?_eq_some_iff.mp hn).1]
        exact hn
      by_cases h : B.rt i = i
      · rw [if_pos (decide_eq_true h)]
        simp only [W_def, W_seq, W_if, W_ite, W_test, W_op, W_var, W_con, W_set, W_put, W_ret, W_expr, W_call, W_fn, W_cons, W_nil, W_skip, W_tup, W_lst, List.set_cons_zero, List.set_cons_succ, List.getElem?_cons_zero, List.getElem?_cons_succ, Option.some.injEq, exists_eq_left', exists_eq_left, W_idx, W_gt, W_lt, W_ge, W_le, W_int, W_abs, W_mod, W_div, W_mul, W_pow, W_add, W_sub, W_eqI, Bool.false_xor, Bool.true_xor, PV.bl.injEq, PV.int.injEq, Prod.mk.injEq, List.length_cons, List.length_nil, Nat.zero_add, Nat.reduceAdd, decide_eq_true_eq, W_append]
        refine ⟨⟨_, mut_ref hn5⟩, ?_⟩
        refine W_component hB g1 fun S6 f6 => ?_
        have hn6 : S6[S.length]? = some (.lst (((List.range i).filter fun o => decide (B.rt o = o)).map B.piece)) := by
          rw [f6.old _ (List.getElem?_eq_some_iff.mp hn5).1]
          exact hn5
        refine ⟨_, mut_ref hn6, _, rfl, decide_eq_true (by show (((List.range i).filter fun o => decide (B.rt o = o)).map B.piece).length + 1 ≤ 100000; omega), i + 1, some (.int i), g1, g3, rfl, ((fr.trans f5).trans f6).put (Nat.le_refl _), ?_⟩
        rw [List.getElem?_set_self (List.getElem?_eq_some_iff.mp hn6).1, List.range_succ, List.filter_append]
        simp [h]
      · rw [if_neg (by simpa using h)]
        refine ⟨i + 1, some (.int i), g1, g3, rfl, fr.trans f5, ?_⟩
        rw [hn5, List.range_succ, List.filter_append]
        simp [h]
  · obtain ⟨i, y2, hi, hx, rfl, fr, hn⟩ := h
    have e := rest_nil hi hx
    subst e
    refine ⟨.ref S.length, rfl, ?_⟩
    rw [W_vtuple (items_ref hn)]
    exact q S2 fr
theorem W_pieces {B : Bd} {v : PV} {d : PyData} (hB : B.Ok) (hd : deep 16 S v = some d) (hb : BdD B d) (q : ∀ S', Fr0 S S' → Q (.tup B.pieces) S') : W (m_pieces fo [v] S) Q := by
  unfold m_pieces
  simp only [W_def, W_seq, W_if, W_ite, W_test, W_op, W_var, W_con, W_set, W_put, W_ret, W_expr, W_call, W_fn, W_cons, W_nil, W_skip, W_tup, W_lst, List.set_cons_zero, List.set_cons_succ, List.getElem?_cons_zero, List.getElem?_cons_succ, Option.some.injEq, exists_eq_left', exists_eq_left, W_idx, W_gt, W_lt, W_ge, W_le, W_int, W_abs, W_mod, W_div, W_mul, W_pow, W_add, W_sub, W_eqI, Bool.false_xor, Bool.true_xor, PV.bl.injEq, PV.int.injEq, Prod.mk.injEq, List.length_cons, List.length_nil, Nat.zero_add, Nat.reduceAdd, decide_eq_true_eq, (show startP N_pieces [v] = [some v] from rfl)]
  refine W_check_bond hB hd hb fun S5 f5 => ?_
  refine W_pieces_of hB fun S6 f6 => ?_
  exact q S6 (f5.trans f6)
end Kp
set_option Elab.async false
set_option linter.all false
set_option maxRecDepth 100000
set_option maxHeartbeats 4000000
namespace Kp
open PySem PySem.Spec L2 Ip
variable {fo : Bool} {S0 S : Store} {m n : Nat} {F : Fl → Store → Prop} {Q : PV → Store → Prop}
theorem wts_ints : ∀ l : List Int, wts (l.map PyData.int) = 2 * l.length
  | [] => rfl
  | x :: l => by
    simp only [List.map_cons, wts, wt, wts_ints l, List.length_cons]
    omega
theorem tx_ints : ∀ l : List Int, txOks (l.map PyData.int) = true
  | [] => rfl
  | x :: l => by simp only [List.map_cons, txOks, txOk, tx_ints l, Bool.and_self]
theorem show_ints : ∀ l : List Int, (∀ x ∈ l, x.natAbs < 1920) → PyData.showableAll (l.map PyData.int) = true
  | [], _ => rfl
  | x :: l, h => by
    have h1 : x.natAbs.log2 < 1920 := Nat.lt_of_le_of_lt (Nat.log2_le_self _) (h x (List.mem_cons_self ..))
    simp only [List.map_cons, PyData.showableAll, PyData.showable, decide_eq_true h1, show_ints l fun y hy => h y (List.mem_cons_of_mem _ hy), Bool.and_self]
/-- the data of a lot -/
def lotD (l : List Nat) : PyData := .tuple ((l.map fun x : Nat => (x : Int)).map PyData.int)
theorem lotD_ok {l : List Nat} (h : ∀ x ∈ l, x < 1000) (hl : l.length ≤ 100) : reprOk (lotD l) = true := by
  unfold reprOk lotD
  have h1 := shaped_tup (l.map fun x : Nat => (x : Int))
  have h2 : PyData.showable (.tuple ((l.map fun x : Nat => (x : Int)).map PyData.int)) = true := by
    simp only [PyData.showable]
    exact show_ints _ fun x hx => by
      obtain ⟨a, ha, rfl⟩ := List.mem_map.mp hx
      have := h a ha
      omega
  have h3 : txOk (.tuple ((l.map fun x : Nat => (x : Int)).map PyData.int)) = true := by
    simp only [txOk, tx_ints]
  have h4 : wt (.tuple ((l.map fun x : Nat => (x : Int)).map PyData.int)) ≤ 8000 := by
    simp only [wt, wts_ints, List.length_map]
    omega
  rw [h1, h2, h3, decide_eq_true h4]
  rfl
theorem W_repr_lot {l : List Nat} (h : ∀ x ∈ l, x < 1000) (hl : l.length ≤ 100) : W (vRepr [lotv l] S) Q = Q (.str (lotD l).shown) S := W_repr lotv_deep (lotD_ok h hl)
/-- two texts compared -/
theorem W_eqS {a b : Str} {neg : Bool} (h : (SeqAt.shaped (.str a) && SeqAt.shaped (.str b)) = true) : W (vEq neg (.str a) (.str b) S) Q = Q (.bl (neg ^^ PyData.eqv (.str a) (.str b))) S := W_eq rfl rfl h
end Kp
set_option Elab.async false
set_option linter.all false
set_option maxRecDepth 100000
set_option maxHeartbeats 4000000
namespace Kp
open PySem PySem.Spec L2 Ip
variable {fo : Bool} {S0 S : Store} {m n : Nat} {F : Fl → Store → Prop} {Q : PV → Store → Prop}
def f01 (c : Bool) : Int := if c then 1 else 0
theorem f01_nn (c : Bool) : 0 ≤ f01 c := by cases c <;> decide
theorem sum01_nn {α : Type} (f : α → Bool) : ∀ l : List α, 0 ≤ (l.map fun a => f01 (f a)).sum
  | [] => by simp
  | a :: l => by
    have := sum01_nn f l
    have := f01_nn (f a)
    rw [List.map_cons, List.sum_cons]
    omega
theorem sum01_len {α : Type} (f : α → Bool) : ∀ l : List α, (l.map fun a => f01 (f a)).sum = ((l.filter f).length : Int)
  | [] => by simp
  | a :: l => by
    have ih := sum01_len f l
    rw [List.map_cons, List.sum_cons, ih]
    cases h : f a with
    | true => rw [List.filter_cons_of_pos h, List.length_cons]; simp [f01]; omega
    | false => rw [List.filter_cons_of_neg (by simp [h])]; simp [f01]
theorem sum01_pos {α : Type} (f : α → Bool) (l : List α) : decide (0 < (l.map fun a => f01 (f a)).sum) = l.any f := by
  rw [sum01_len]
  by_cases h : l.any f = true
  · rw [h]
    obtain ⟨a, h1, h2⟩ := List.any_eq_true.mp h
    have := List.length_pos_of_mem (List.mem_filter.mpr ⟨h1, h2⟩)
    exact decide_eq_true (by omega)
  · rw [Bool.not_eq_true] at h
    rw [h]
    refine decide_eq_false fun z => ?_
    obtain ⟨a, ha⟩ := List.exists_mem_of_length_pos (l := l.filter f) (by omega)
    obtain ⟨h1, h2⟩ := List.mem_filter.mp ha
    have := List.any_eq_true.mpr ⟨a, h1, h2⟩
    rw [h] at this
    cases this
theorem sum01_split {α : Type} (f p : α → Bool) : ∀ l : List α, (l.map fun a => f01 (f a)).sum = ((l.filter p).map fun a => f01 (f a)).sum + ((l.filter fun a => !p a).map fun a => f01 (f a)).sum
  | [] => by simp
  | a :: l => by
    have ih := sum01_split f p l
    cases h : p a with
    | true =>
      rw [List.filter_cons_of_pos h, List.filter_cons_of_neg (by simp [h]), List.map_cons, List.map_cons, List.sum_cons, List.sum_cons, ih]
      omega
    | false =>
      rw [List.filter_cons_of_neg (by simp [h]), List.filter_cons_of_pos (by simp [h]), List.map_cons, List.map_cons, List.sum_cons, List.sum_cons, ih]
      omega
theorem sum01_in {α : Type} (f p : α → Bool) (l : List α) : decide ((l.map fun a => f01 (f a)).sum = ((l.filter p).map fun a => f01 (f a)).sum) = decide (∀ a ∈ l, f a = true → p a = true) := by
  have h0 := sum01_split f p l
  have h1 : ((l.filter fun a => !p a).map fun a => f01 (f a)).sum = 0 ↔ ∀ a ∈ l, f a = true → p a = true := by
    rw [sum01_len]
    constructor
    · intro z a ha hf
      cases hp : p a with
      | true => rfl
      | false =>
        have := List.length_pos_of_mem (List.mem_filter.mpr ⟨List.mem_filter.mpr ⟨ha, by simp [hp]⟩, hf⟩ : a ∈ (l.filter fun a => !p a).filter f)
        omega
    · intro z
      have : (l.filter fun a => !p a).filter f = [] := by
        rw [List.filter_eq_nil_iff]
        intro a ha hf
        obtain ⟨h1, h2⟩ := List.mem_filter.mp ha
        rw [z a h1 hf] at h2
        cases h2
      rw [this]
      rfl
  by_cases h : ∀ a ∈ l, f a = true → p a = true
  · rw [decide_eq_true h]
    have := h1.mpr h
    exact decide_eq_true (by omega)
  · rw [decide_eq_false h]
    refine decide_eq_false fun z => h (h1.mp (by omega))
theorem Fr0.fr1 {k : Nat} {S S' : Store} (f : Fr0 S S') : Fr1 k S S' := ⟨f.len, fun j h _ => f.old j h⟩
theorem W_fnK {mf : MF} {perm : List Nat} {me mk : MA} {σ : PEnv} : W (mFnK mf perm me mk σ S) Q = W (me σ S) fun ps S1 => W (mk σ S1) fun qs S2 => W (mf (pick perm (ps ++ qs)) S2) Q := by
  unfold mFnK
  rw [W_m2]
  congr 1
  funext p S1
  rw [W_m2]
theorem W_eqT {a b : Str} {neg : Bool} : W (vEqT neg (.str a) (.str b) S) Q = Q (.bl (neg ^^ decide (a = b))) S := W_some
/-- [e for x in range(n) if c], the store may grow -/
theorem pick_rng {σ : PEnv} {me : MA} {tt : MT} {e : ME} {j n : Nat} {f : Nat → Bool} {g : Nat → PV} (hn : n ≤ 1000) (hme : W (me σ S) fun ps S1 => ps = [.int n] ∧ S1 = S)
    (ht : ∀ i < n, ∀ A : Store, Fr0 S A → W (tt ((wipeP σ [j]).set j (some (.int (i : Int)))) A) fun c S2 => c = f i ∧ Fr0 A S2)
    (he : ∀ i < n, ∀ A : Store, Fr0 S A → W (e ((wipeP σ [j]).set j (some (.int (i : Int)))) A) fun y S2 => y = g i ∧ Fr0 A S2)
    (q : ∀ S', Fr0 S S' → S'[S.length]? = some (.lst (((List.range n).filter f).map g)) → Q (.ref S.length) S') : W (mLc (iRange me) (gN j) tt e [j] σ S) Q := by
  rw [W_lc]
  refine W_range1 (hme.mono fun ps S1 ⟨e1, e2⟩ => ⟨n, e1, by omega, ?_⟩)
  subst e2
  rw [Int.toNat_natCast]
  refine W_lcM (fun ys acc S2 => ∃ i, i ≤ n ∧ ys = rangeP (i : Int) (n - i) ∧ acc = ((List.range i).filter f).map g ∧ Fr0 S1 S2 ∧ S2[S1.length]? = some (.lst acc)) (fun _ _ _ _ => rfl) (fun x ys acc S2 h => ?_) (fun acc S2 h => ?_) _ _ _ ⟨0, by omega, by simp, rfl, Fr0.app, by simp⟩
  · obtain ⟨i, hi, hx, rfl, fr, hn2⟩ := h
    obtain ⟨h1, rfl, h3⟩ := rest_cons hi hx
    show W (some _) _
    rw [W_some]
    refine (ht i h1 S2 fr).mono fun c S3 ⟨e1, f3⟩ => ?_
    subst e1
    have l2 := (List.getElem?_eq_some_iff.mp hn2).1
    have hn3 : S3[S1.length]? = some (.lst (((List.range i).filter f).map g)) := by rw [f3.old _ l2]; exact hn2
    cases hf : f i with
    | true =>
      rw [if_pos rfl]
      refine (he i h1 S3 (fr.trans f3)).mono fun y S4 ⟨e1, f4⟩ => ?_
      subst e1
      have l3 := (List.getElem?_eq_some_iff.mp hn3).1
      have hn4 : S4[S1.length]? = some (.lst (((List.range i).filter f).map g)) := by rw [f4.old _ l3]; exact hn3
      refine ⟨hn4, ?_, i + 1, h1, h3, ?_, ((fr.trans f3).trans f4).put (Nat.le_refl _), ?_⟩
      · rw [List.length_map]
        have := List.length_filter_le f (List.range i)
        rw [List.length_range] at this
        exact decide_eq_true (by omega)
      · rw [List.range_succ, List.filter_append]
        simp [hf]
      · rw [List.getElem?_set_self (List.getElem?_eq_some_iff.mp hn4).1]
    | false =>
      rw [if_neg Bool.false_ne_true]
      refine ⟨i + 1, h1, h3, ?_, fr.trans f3, hn3⟩
      rw [List.range_succ, List.filter_append]
      simp [hf]
  · obtain ⟨i, hi, hx, rfl, fr, hn2⟩ := h
    have e := rest_nil hi hx
    subst e
    exact q S2 fr hn2
/-- a side's table, read -/
structure TabR (S : Store) (T k : Nat) (rs : List Nat) (B : Bd) (s : Nat) : Prop where
  top : S[T]? = some (.lst (rs.map .ref))
  len : rs.length = B.sz s
  tk : T ≠ k
  row : ∀ a < B.sz s, ∃ r, rs[a]? = some r ∧ r ≠ k ∧ S[r]? = some (.lst ((List.range (B.sz (1 - s))).map fun b => .int (f01 (B.fit s a b))))
theorem TabR.fr {S S' : Store} {T k : Nat} {rs : List Nat} {B : Bd} {s : Nat} (t : TabR S T k rs B s) (f : Fr1 k S S') : TabR S' T k rs B s :=
  ⟨by rw [f.old _ (List.getElem?_eq_some_iff.mp t.top).1 t.tk]; exact t.top, t.len, t.tk, fun a h => by
    obtain ⟨r, h1, h2, h3⟩ := t.row a h
    exact ⟨r, h1, h2, by rw [f.old _ (List.getElem?_eq_some_iff.mp h3).1 h2]; exact h3⟩⟩
theorem TabR.of {S : Store} {T k : Nat} {rs : List Nat} {rows : List (List Int)} {B : Bd} {s : Nat} (t : TS S0 S T k (B.sz (1 - s)) rs rows) (hl : rows.length = B.sz s) (hh : ∀ a b, Has rows a b ↔ a < B.sz s ∧ b < B.sz (1 - s) ∧ B.fit s a b = true) : TabR S T k rs B s := by
  refine ⟨t.tab.top, by rw [t.tab.len, hl], t.tab.tk, fun a ha => ?_⟩
  obtain ⟨r, xs, h1, h2, h3, h4, h5⟩ := t.rowAt (i := a) (by omega)
  refine ⟨r, h1, (t.tab.off r (List.mem_of_getElem? h1)).1, ?_⟩
  have e : xs.map PV.int = (List.range (B.sz (1 - s))).map fun b => PV.int (f01 (B.fit s a b)) := by
    apply List.ext_getElem
    · simp [h5]
    · intro b hb hb2
      have hb3 : b < xs.length := by simpa using hb
      have hx : xs[b]? = some xs[b] := List.getElem?_eq_getElem hb3
      rw [List.getElem_map, List.getElem_map, List.getElem_range]
      congr 1
      have hi := hh a b
      have hb4 : b < B.sz (1 - s) := by omega
      rcases h4 xs[b] (List.getElem_mem hb3) with z | z
      · rw [z]
        have : ¬ B.fit s a b = true := fun w => by
          obtain ⟨ys, g1, g2⟩ := hi.mpr ⟨ha, hb4, w⟩
          rw [h2] at g1
          cases g1
          have g3 := Option.some.inj (hx.symm.trans g2)
          omega
        simp [f01, this]
      · rw [z]
        have : B.fit s a b = true := (hi.mp ⟨xs, h2, by rw [hx, z]⟩).2.2
        simp [f01, this]
  rw [h3, e]
end Kp
set_option Elab.async false
set_option linter.all false
set_option maxRecDepth 100000
set_option maxHeartbeats 4000000
namespace Kp
open PySem PySem.Spec L2 Ip
variable {fo : Bool} {S0 S : Store} {F : Fl → Store → Prop} {Q : PV → Store → Prop} {B : Bd} {k s T L b : Nat} {rs l : List Nat} {v : PV} {x6 x7 x8 x9 x10 x11 x12 x13 x14 x15 x16 : Option PV}
abbrev e17 (k : Nat) (B : Bd) (v : PV) (s T L : Nat) (x6 x7 x8 x9 x10 x11 x12 x13 x14 x15 x16 : Option PV) : PEnv :=
  [some (.ref k), some B.v, some v, some (.int s), some (.ref T), some (.ref L), x6, x7, x8, x9, x10, x11, x12, x13, x14, x15, x16]
theorem filter_true {α : Type} (l : List α) : l.filter (fun _ => true) = l := List.filter_eq_self.mpr fun _ _ => rfl
theorem Bd.sz6 (hB : B.Ok) (s : Nat) : B.sz s ≤ 6 := by
  unfold Bd.sz
  split
  · exact hB.m6
  · exact hB.n6
def gcol (B : Bd) (s b : Nat) (x : PV) : PV := match x with
  | .int i => .int (f01 (B.fit s i.toNat b))
  | _ => .non
/-- sum([table[s][one] for s in lot]) -/
theorem W_col (hB : B.Ok) (t : TabR S T k rs B s) (hl : ∀ a ∈ l, a < B.sz s) (hll : l.length ≤ 6) (hb : b < B.sz (1 - s)) (q : ∀ S', Fr0 S S' → Q (.int (l.map fun a => f01 (B.fit s a b)).sum) S') :
    W (mCall vSum (aCons (mLc (iSeq (mVar 6)) (gN 16) tYesM (mOp vIdx (mOp vIdx (mVar 4) (mVar 16)) (mVar 15)) [16]) aNil) (e17 k B v s T L (some (lotv l)) x7 x8 x9 x10 x11 x12 x13 x14 (some (.int b)) x16) S) Q := by
  simp only [W_def, W_seq, W_if, W_ite, W_test, W_op, W_var, W_con, W_set, W_put, W_ret, W_expr, W_call, W_fn, W_cons, W_nil, W_skip, W_tup, W_lst, List.set_cons_zero, List.set_cons_succ, List.getElem?_cons_zero, List.getElem?_cons_succ, Option.some.injEq, exists_eq_left', exists_eq_left, W_idx, W_gt, W_lt, W_ge, W_le, W_int, W_abs, W_mod, W_div, W_mul, W_pow, W_add, W_sub, W_eqI, Bool.false_xor, Bool.true_xor, PV.bl.injEq, PV.int.injEq, Prod.mk.injEq, List.length_cons, List.length_nil, Nat.zero_add, Nat.reduceAdd, decide_eq_true_eq]
  refine map_seq (v := lotv l) (xs := l.map natV) (g := gcol B s b) (f := fun _ => true) (by rw [List.length_map]; omega) rfl ?_ (fun x _ G => yes_ok) ?_ fun S5 f5 h5 => ?_
  · simp only [W_def, W_seq, W_if, W_ite, W_test, W_op, W_var, W_con, W_set, W_put, W_ret, W_expr, W_call, W_fn, W_cons, W_nil, W_skip, W_tup, W_lst, List.set_cons_zero, List.set_cons_succ, List.getElem?_cons_zero, List.getElem?_cons_succ, Option.some.injEq, exists_eq_left', exists_eq_left, W_idx, W_gt, W_lt, W_ge, W_le, W_int, W_abs, W_mod, W_div, W_mul, W_pow, W_add, W_sub, W_eqI, Bool.false_xor, Bool.true_xor, PV.bl.injEq, PV.int.injEq, Prod.mk.injEq, List.length_cons, List.length_nil, Nat.zero_add, Nat.reduceAdd, decide_eq_true_eq]
    exact ⟨trivial, trivial⟩
  · intro x hx G
    obtain ⟨a, ha, rfl⟩ := List.mem_map.mp hx
    obtain ⟨r, h1, h2, h3⟩ := (t.fr (Fr1.app (G := G))).row a (hl a ha)
    have tp := (t.fr (Fr1.app (G := G))).top
    have a1 : atI (rs.map PV.ref) (a : Int) = some (.ref r) := atI_nat (by rw [List.getElem?_map, h1]; rfl)
    have a2 : atI ((List.range (B.sz (1 - s))).map fun b => PV.int (f01 (B.fit s a b))) (b : Int) = some (.int (f01 (B.fit s a b))) := atI_nat (by simp [hb])
    show W (mOp vIdx (mOp vIdx (mVar 4) (mVar 16)) (mVar 15) (e17 k B v s T L (some (lotv l)) x7 x8 x9 x10 x11 x12 x13 x14 (some (.int b)) (some (.int (a : Int)))) _) _
    simp only [W_def, W_seq, W_if, W_ite, W_test, W_op, W_var, W_con, W_set, W_put, W_ret, W_expr, W_call, W_fn, W_cons, W_nil, W_skip, W_tup, W_lst, List.set_cons_zero, List.set_cons_succ, List.getElem?_cons_zero, List.getElem?_cons_succ, Option.some.injEq, exists_eq_left', exists_eq_left, W_idx, W_gt, W_lt, W_ge, W_le, W_int, W_abs, W_mod, W_div, W_mul, W_pow, W_add, W_sub, W_eqI, Bool.false_xor, Bool.true_xor, PV.bl.injEq, PV.int.injEq, Prod.mk.injEq, List.length_cons, List.length_nil, Nat.zero_add, Nat.reduceAdd, decide_eq_true_eq, items_ref tp, a1, items_ref h3, a2]
    refine ⟨?_, [], by simp⟩
    show _ = PV.int (f01 (B.fit s ((a : Int).toNat) b))
    rw [Int.toNat_natCast]
  · have e : ((l.map natV).filter fun _ => true).map (gcol B s b) = (l.map fun a => f01 (B.fit s a b)).map PV.int := by
      rw [filter_true, List.map_map, List.map_map]
      apply List.map_congr_left
      intro a _
      show PV.int (f01 (B.fit s ((a : Int).toNat) b)) = PV.int (f01 (B.fit s a b))
      rw [Int.toNat_natCast]
    rw [e] at h5
    rw [W_sum (show listOf (.ref S.length) S5 = _ from items_ref h5) intsOf_map]
    exact q S5 f5
def grow (S : Store) (b : Nat) (x : PV) : PV := match x with
  | .ref r => match S[r]? with
    | some (.lst ys) => ys.getD b .non
    | _ => .non
  | _ => .non
theorem TabR.at_ {a : Nat} (t : TabR S T k rs B s) (ha : a < B.sz s) (hb : b < B.sz (1 - s)) : ∃ r, rs[a]? = some r ∧ grow S b (.ref r) = .int (f01 (B.fit s a b)) := by
  obtain ⟨r, h1, h2, h3⟩ := t.row a ha
  refine ⟨r, h1, ?_⟩
  show (match S[r]? with
    | some (.lst ys) => ys.getD b .non
    | _ => .non) = _
  rw [h3]
  simp [List.getD, hb]
/-- sum([row[one] for row in table]) -/
theorem W_allrows (hB : B.Ok) (t : TabR S T k rs B s) (hb : b < B.sz (1 - s)) (q : ∀ S', Fr0 S S' → Q (.int ((List.range (B.sz s)).map fun a => f01 (B.fit s a b)).sum) S') :
    W (mCall vSum (aCons (mLc (iSeq (mVar 4)) (gN 14) tYesM (mOp vIdx (mVar 14) (mVar 15)) [14]) aNil) (e17 k B v s T L x6 x7 x8 x9 x10 x11 x12 x13 x14 (some (.int b)) x16) S) Q := by
  have h6 := Bd.sz6 hB s
  simp only [W_def, W_seq, W_if, W_ite, W_test, W_op, W_var, W_con, W_set, W_put, W_ret, W_expr, W_call, W_fn, W_cons, W_nil, W_skip, W_tup, W_lst, List.set_cons_zero, List.set_cons_succ, List.getElem?_cons_zero, List.getElem?_cons_succ, Option.some.injEq, exists_eq_left', exists_eq_left, W_idx, W_gt, W_lt, W_ge, W_le, W_int, W_abs, W_mod, W_div, W_mul, W_pow, W_add, W_sub, W_eqI, Bool.false_xor, Bool.true_xor, PV.bl.injEq, PV.int.injEq, Prod.mk.injEq, List.length_cons, List.length_nil, Nat.zero_add, Nat.reduceAdd, decide_eq_true_eq]
  refine map_seq (v := .ref T) (xs := rs.map PV.ref) (g := grow S b) (f := fun _ => true) (by rw [List.length_map, t.len]; omega) (items_ref t.top) ?_ (fun x _ G => yes_ok) ?_ fun S5 f5 h5 => ?_
  · simp only [W_def, W_seq, W_if, W_ite, W_test, W_op, W_var, W_con, W_set, W_put, W_ret, W_expr, W_call, W_fn, W_cons, W_nil, W_skip, W_tup, W_lst, List.set_cons_zero, List.set_cons_succ, List.getElem?_cons_zero, List.getElem?_cons_succ, Option.some.injEq, exists_eq_left', exists_eq_left, W_idx, W_gt, W_lt, W_ge, W_le, W_int, W_abs, W_mod, W_div, W_mul, W_pow, W_add, W_sub, W_eqI, Bool.false_xor, Bool.true_xor, PV.bl.injEq, PV.int.injEq, Prod.mk.injEq, List.length_cons, List.length_nil, Nat.zero_add, Nat.reduceAdd, decide_eq_true_eq]
    exact ⟨trivial, trivial⟩
  · intro x hx G
    obtain ⟨r, hr, rfl⟩ := List.mem_map.mp hx
    obtain ⟨a, hia⟩ := List.getElem?_of_mem hr
    have ha : a < B.sz s := by
      have := (List.getElem?_eq_some_iff.mp hia).1
      rw [t.len] at this
      exact this
    obtain ⟨r', h1, h2, h3⟩ := (t.fr (Fr1.app (G := G))).row a ha
    obtain ⟨r2, h4, h5⟩ := t.at_ ha hb
    rw [hia] at h1 h4
    cases h1
    cases h4
    have a2 : atI ((List.range (B.sz (1 - s))).map fun b => PV.int (f01 (B.fit s a b))) (b : Int) = some (.int (f01 (B.fit s a b))) := atI_nat (by simp [hb])
    show W (mOp vIdx (mVar 14) (mVar 15) (e17 k B v s T L x6 x7 x8 x9 x10 x11 x12 x13 (some (.ref r)) (some (.int b)) x16) _) _
    simp only [W_def, W_seq, W_if, W_ite, W_test, W_op, W_var, W_con, W_set, W_put, W_ret, W_expr, W_call, W_fn, W_cons, W_nil, W_skip, W_tup, W_lst, List.set_cons_zero, List.set_cons_succ, List.getElem?_cons_zero, List.getElem?_cons_succ, Option.some.injEq, exists_eq_left', exists_eq_left, W_idx, W_gt, W_lt, W_ge, W_le, W_int, W_abs, W_mod, W_div, W_mul, W_pow, W_add, W_sub, W_eqI, Bool.false_xor, Bool.true_xor, PV.bl.injEq, PV.int.injEq, Prod.mk.injEq, List.length_cons, List.length_nil, Nat.zero_add, Nat.reduceAdd, decide_eq_true_eq, items_ref h3, a2]
    exact ⟨h5.symm, [], by simp⟩
  · have e : ((rs.map PV.ref).filter fun _ => true).map (grow S b) = ((List.range (B.sz s)).map fun a => f01 (B.fit s a b)).map PV.int := by
      rw [filter_true, List.map_map, List.map_map]
      apply List.ext_getElem
      · simp [t.len]
      · intro a h1 h2
        have ha : a < B.sz s := by simpa using h2
        obtain ⟨r, g1, g2⟩ := t.at_ ha hb
        have g3 : rs[a]'(by rw [t.len]; exact ha) = r := by
          have := List.getElem?_eq_getElem (l := rs) (i := a) (by rw [t.len]; exact ha)
          rw [this] at g1
          exact Option.some.inj g1
        rw [List.getElem_map, List.getElem_map, List.getElem_range]
        show grow S b (.ref (rs[a]'(by rw [t.len]; exact ha))) = _
        rw [g3, g2]
        rfl
    rw [e] at h5
    rw [W_sum (show listOf (.ref S.length) S5 = _ from items_ref h5) intsOf_map]
    exact q S5 f5
theorem asc_filter {l : List Nat} {m : Nat} (ha : l.Pairwise (· < ·)) (hl : ∀ a ∈ l, a < m) : l = (List.range m).filter fun a => decide (a ∈ l) :=
  asc_ext ha (List.Pairwise.filter _ List.pairwise_lt_range) fun j => by
    rw [List.mem_filter, List.mem_range, decide_eq_true_eq]
    exact ⟨fun h => ⟨hl j h, h⟩, fun h => h.2⟩
theorem W_nearC (hB : B.Ok) (hs : s = 0 ∨ s = 1) (t : TabR S T k rs B s) (ok : LotOk (B.sz s) l) (q : ∀ S', Fr0 S S' → Q (lotv (B.near s l)) S') :
    W (mLc (iRange (aCons (mOp vIdx (mVar 1) (mOp vSub (mCon (.int 1)) (mVar 3))) aNil)) (gN 15) (mTest (mOp vGt (mCall vSum (aCons (mLc (iSeq (mVar 6)) (gN 16) tYesM (mOp vIdx (mOp vIdx (mVar 4) (mVar 16)) (mVar 15)) [16]) aNil)) (mCon (.int 0)))) (mVar 15) [15]  (e17 k B v s T L (some (lotv l)) x7 x8 x9 x10 x11 x12 x13 x14 x15 x16) S) (fun p S1 => W (vTuple [p] S1) Q) := by
  have hs' : 1 - s = 0 ∨ 1 - s = 1 := by omega
  have h6 := Bd.sz6 hB (1 - s)
  have h6' := Bd.sz6 hB s
  have hll := asc_len ok.asc ok.lt
  refine pick_rng (n := B.sz (1 - s)) (f := fun b => l.any fun a => B.fit s a b) (g := natV) (by omega) ?_ ?_ ?_ fun S5 f5 h5 => ?_
  · simp only [W_def, W_seq, W_if, W_ite, W_test, W_op, W_var, W_con, W_set, W_put, W_ret, W_expr, W_call, W_fn, W_cons, W_nil, W_skip, W_tup, W_lst, List.set_cons_zero, List.set_cons_succ, List.getElem?_cons_zero, List.getElem?_cons_succ, Option.some.injEq, exists_eq_left', exists_eq_left, W_idx, W_gt, W_lt, W_ge, W_le, W_int, W_abs, W_mod, W_div, W_mul, W_pow, W_add, W_sub, W_eqI, Bool.false_xor, Bool.true_xor, PV.bl.injEq, PV.int.injEq, Prod.mk.injEq, List.length_cons, List.length_nil, Nat.zero_add, Nat.reduceAdd, decide_eq_true_eq, Bd.items, oneless hs, Bd.at_ hs']
    exact ⟨trivial, trivial⟩
  · intro i hi A fA
    show W (mTest (mOp vGt (mCall vSum (aCons (mLc (iSeq (mVar 6)) (gN 16) tYesM (mOp vIdx (mOp vIdx (mVar 4) (mVar 16)) (mVar 15)) [16]) aNil)) (mCon (.int 0))) (e17 k B v s T L (some (lotv l)) x7 x8 x9 x10 x11 x12 x13 x14 (some (.int i)) x16) A) _
    rw [W_test, W_op]
    refine W_col hB (t.fr fA.fr1) ok.lt (by omega) hi fun S6 f6 => ?_
    simp only [W_def, W_seq, W_if, W_ite, W_test, W_op, W_var, W_con, W_set, W_put, W_ret, W_expr, W_call, W_fn, W_cons, W_nil, W_skip, W_tup, W_lst, List.set_cons_zero, List.set_cons_succ, List.getElem?_cons_zero, List.getElem?_cons_succ, Option.some.injEq, exists_eq_left', exists_eq_left, W_idx, W_gt, W_lt, W_ge, W_le, W_int, W_abs, W_mod, W_div, W_mul, W_pow, W_add, W_sub, W_eqI, Bool.false_xor, Bool.true_xor, PV.bl.injEq, PV.int.injEq, Prod.mk.injEq, List.length_cons, List.length_nil, Nat.zero_add, Nat.reduceAdd, decide_eq_true_eq]
    exact ⟨sum01_pos _ l, f6⟩
  · intro i hi A fA
    exact ⟨natV i, _, rfl, rfl, Fr0.refl⟩
  · rw [W_vtuple (items_ref h5)]
    exact q S5 f5
theorem W_heldC (hB : B.Ok) (hs : s = 0 ∨ s = 1) (t : TabR S T k rs B s) (ok : LotOk (B.sz s) l) (q : ∀ S', Fr0 S S' → Q (lotv (B.held s l)) S') :
    W (mLc (iRange (aCons (mOp vIdx (mVar 1) (mOp vSub (mCon (.int 1)) (mVar 3))) aNil)) (gN 15) (mTest (mOp (vEq false) (mCall vSum (aCons (mLc (iSeq (mVar 4)) (gN 14) tYesM (mOp vIdx (mVar 14) (mVar 15)) [14]) aNil)) (mCall vSum (aCons (mLc (iSeq (mVar 6)) (gN 16) tYesM (mOp vIdx (mOp vIdx (mVar 4) (mVar 16)) (mVar 15)) [16]) aNil)))) (mVar 15) [15]  (e17 k B v s T L (some (lotv l)) x7 x8 x9 x10 x11 x12 x13 x14 x15 x16) S) (fun p S1 => W (vTuple [p] S1) Q) := by
  have hs' : 1 - s = 0 ∨ 1 - s = 1 := by omega
  have h6 := Bd.sz6 hB (1 - s)
  have h6' := Bd.sz6 hB s
  have hll := asc_len ok.asc ok.lt
  refine pick_rng (n := B.sz (1 - s)) (f := fun b => decide (∀ e ∈ B.ps, co (1 - s) e = b → co s e ∈ l)) (g := natV) (by omega) ?_ ?_ ?_ fun S5 f5 h5 => ?_
  · simp only [W_def, W_seq, W_if, W_ite, W_test, W_op, W_var, W_con, W_set, W_put, W_ret, W_expr, W_call, W_fn, W_cons, W_nil, W_skip, W_tup, W_lst, List.set_cons_zero, List.set_cons_succ, List.getElem?_cons_zero, List.getElem?_cons_succ, Option.some.injEq, exists_eq_left', exists_eq_left, W_idx, W_gt, W_lt, W_ge, W_le, W_int, W_abs, W_mod, W_div, W_mul, W_pow, W_add, W_sub, W_eqI, Bool.false_xor, Bool.true_xor, PV.bl.injEq, PV.int.injEq, Prod.mk.injEq, List.length_cons, List.length_nil, Nat.zero_add, Nat.reduceAdd, decide_eq_true_eq, Bd.items, oneless hs, Bd.at_ hs']
    exact ⟨trivial, trivial⟩
  · intro i hi A fA
    show W (mTest (mOp (vEq false) (mCall vSum (aCons (mLc (iSeq (mVar 4)) (gN 14) tYesM (mOp vIdx (mVar 14) (mVar 15)) [14]) aNil)) (mCall vSum (aCons (mLc (iSeq (mVar 6)) (gN 16) tYesM (mOp vIdx (mOp vIdx (mVar 4) (mVar 16)) (mVar 15)) [16]) aNil))) (e17 k B v s T L (some (lotv l)) x7 x8 x9 x10 x11 x12 x13 x14 (some (.int i)) x16) A) _
    rw [W_test, W_op]
    refine W_allrows hB (t.fr fA.fr1) hi fun S6 f6 => ?_
    refine W_col hB ((t.fr fA.fr1).fr f6.fr1) ok.lt (by omega) hi fun S7 f7 => ?_
    simp only [W_def, W_seq, W_if, W_ite, W_test, W_op, W_var, W_con, W_set, W_put, W_ret, W_expr, W_call, W_fn, W_cons, W_nil, W_skip, W_tup, W_lst, List.set_cons_zero, List.set_cons_succ, List.getElem?_cons_zero, List.getElem?_cons_succ, Option.some.injEq, exists_eq_left', exists_eq_left, W_idx, W_gt, W_lt, W_ge, W_le, W_int, W_abs, W_mod, W_div, W_mul, W_pow, W_add, W_sub, W_eqI, Bool.false_xor, Bool.true_xor, PV.bl.injEq, PV.int.injEq, Prod.mk.injEq, List.length_cons, List.length_nil, Nat.zero_add, Nat.reduceAdd, decide_eq_true_eq]
    refine ⟨?_, f6.trans f7⟩
    have e1 := sum01_in (fun a => B.fit s a i) (fun a => decide (a ∈ l)) (List.range (B.sz s))
    rw [← asc_filter ok.asc ok.lt] at e1
    rw [e1]
    have e2 : (∀ a ∈ List.range (B.sz s), B.fit s a i = true → decide (a ∈ l) = true) ↔ ∀ e ∈ B.ps, co (1 - s) e = i → co s e ∈ l := by
      constructor
      · intro h e he hc
        obtain ⟨c1, c2, c3⟩ := mem_prs.mp he
        rcases hs with rfl | rfl
        · have hc : e.2 = i := hc
          exact of_decide_eq_true (h e.1 (List.mem_range.mpr c1) (by rw [← hc]; exact c3))
        · have hc : e.1 = i := hc
          exact of_decide_eq_true (h e.2 (List.mem_range.mpr c2) (by rw [← hc]; exact c3))
      · intro h a ha hf
        have ha := List.mem_range.mp ha
        refine decide_eq_true ?_
        rcases hs with rfl | rfl
        · exact h (a, i) (mem_prs.mpr ⟨ha, hi, hf⟩) rfl
        · exact h (i, a) (mem_prs.mpr ⟨hi, ha, hf⟩) rfl
    by_cases h : ∀ e ∈ B.ps, co (1 - s) e = i → co s e ∈ l
    · rw [decide_eq_true h, decide_eq_true (e2.mpr h)]
    · rw [decide_eq_false h, decide_eq_false (fun z => h (e2.mp z))]
  · intro i hi A fA
    exact ⟨natV i, _, rfl, rfl, Fr0.refl⟩
  · rw [W_vtuple (items_ref h5)]
    exact q S5 f5
def gsum (S : Store) (x : PV) : PV := match x with
  | .ref r => match S[r]? with
    | some (.lst ys) => .int ((intsOf ys).getD []).sum
    | _ => .non
  | _ => .non
/-- tuple([sum(row) for row in table]) -/
theorem W_dueC (hB : B.Ok) (t : TabR S T k rs B s) (q : ∀ S', Fr0 S S' → Q (B.deg s) S') :
    W (mLc (iSeq (mVar 4)) (gN 14) tYesM (mCall vSum (aCons (mVar 14) aNil)) [14]  (e17 k B v s T L x6 x7 x8 x9 x10 x11 x12 x13 x14 x15 x16) S) (fun p S1 => W (vTuple [p] S1) Q) := by
  have h6 := Bd.sz6 hB s
  have hrow : ∀ a, (List.range (B.sz (1 - s))).map (fun b => PV.int (f01 (B.fit s a b))) = ((List.range (B.sz (1 - s))).map fun b => f01 (B.fit s a b)).map PV.int := fun a => by rw [List.map_map]; rfl
  have hnear : ∀ a, ((List.range (B.sz (1 - s))).map fun b => f01 (B.fit s a b)).sum = ((B.near s [a]).length : Int) := fun a => by
    rw [sum01_len]
    unfold Bd.near
    congr 2
    apply List.filter_congr
    intro b _
    simp
  refine map_seq (v := .ref T) (xs := rs.map PV.ref) (g := gsum S) (f := fun _ => true) (by rw [List.length_map, t.len]; omega) (items_ref t.top) ?_ (fun x _ G => yes_ok) ?_ fun S5 f5 h5 => ?_
  · simp only [W_def, W_seq, W_if, W_ite, W_test, W_op, W_var, W_con, W_set, W_put, W_ret, W_expr, W_call, W_fn, W_cons, W_nil, W_skip, W_tup, W_lst, List.set_cons_zero, List.set_cons_succ, List.getElem?_cons_zero, List.getElem?_cons_succ, Option.some.injEq, exists_eq_left', exists_eq_left, W_idx, W_gt, W_lt, W_ge, W_le, W_int, W_abs, W_mod, W_div, W_mul, W_pow, W_add, W_sub, W_eqI, Bool.false_xor, Bool.true_xor, PV.bl.injEq, PV.int.injEq, Prod.mk.injEq, List.length_cons, List.length_nil, Nat.zero_add, Nat.reduceAdd, decide_eq_true_eq]
    exact ⟨trivial, trivial⟩
  · intro x hx G
    obtain ⟨r, hr, rfl⟩ := List.mem_map.mp hx
    obtain ⟨a, hia⟩ := List.getElem?_of_mem hr
    have ha : a < B.sz s := by
      have := (List.getElem?_eq_some_iff.mp hia).1
      rw [t.len] at this
      exact this
    obtain ⟨r', h1, h2, h3⟩ := (t.fr (Fr1.app (G := G))).row a ha
    obtain ⟨r2, h4, _, h5⟩ := t.row a ha
    rw [hia] at h1 h4
    cases h1
    cases h4
    rw [hrow] at h3 h5
    show W (mCall vSum (aCons (mVar 14) aNil) (e17 k B v s T L x6 x7 x8 x9 x10 x11 x12 x13 (some (.ref r)) x15 x16) _) _
    simp only [W_def, W_seq, W_if, W_ite, W_test, W_op, W_var, W_con, W_set, W_put, W_ret, W_expr, W_call, W_fn, W_cons, W_nil, W_skip, W_tup, W_lst, List.set_cons_zero, List.set_cons_succ, List.getElem?_cons_zero, List.getElem?_cons_succ, Option.some.injEq, exists_eq_left', exists_eq_left, W_idx, W_gt, W_lt, W_ge, W_le, W_int, W_abs, W_mod, W_div, W_mul, W_pow, W_add, W_sub, W_eqI, Bool.false_xor, Bool.true_xor, PV.bl.injEq, PV.int.injEq, Prod.mk.injEq, List.length_cons, List.length_nil, Nat.zero_add, Nat.reduceAdd, decide_eq_true_eq]
    rw [W_sum (show listOf (.ref r) (S ++ G) = _ from items_ref h3) intsOf_map]
    refine ⟨?_, [], by simp⟩
    show _ = (match S[r]? with
      | some (.lst ys) => PV.int ((intsOf ys).getD []).sum
      | _ => PV.non)
    rw [h5]
    simp only [intsOf_map, Option.getD_some]
  · have e : ((rs.map PV.ref).filter fun _ => true).map (gsum S) = (List.range (B.sz s)).map fun a => natV (B.near s [a]).length := by
      rw [filter_true, List.map_map]
      apply List.ext_getElem
      · simp [t.len]
      · intro a h1 h2
        have ha : a < B.sz s := by simpa using h2
        obtain ⟨r, g1, _, g2⟩ := t.row a ha
        have g3 : rs[a]'(by rw [t.len]; exact ha) = r := by
          have := List.getElem?_eq_getElem (l := rs) (i := a) (by rw [t.len]; exact ha)
          rw [this] at g1
          exact Option.some.inj g1
        rw [List.getElem_map, List.getElem_map, List.getElem_range]
        show gsum S (.ref (rs[a]'(by rw [t.len]; exact ha))) = _
        rw [g3]
        show (match S[r]? with
          | some (.lst ys) => PV.int ((intsOf ys).getD []).sum
          | _ => PV.non) = _
        rw [g2, hrow]
        simp only [intsOf_map, Option.getD_some]
        rw [hnear]
        rfl
    rw [e] at h5
    rw [W_vtuple (items_ref h5)]
    exact q S5 f5
end Kp
set_option Elab.async false
set_option linter.all false
set_option maxRecDepth 100000
set_option maxHeartbeats 4000000
namespace Kp
open PySem PySem.Spec L2 Ip
variable {fo : Bool} {S0 S : Store} {F : Fl → Store → Prop} {Q : PV → Store → Prop} {B : Bd} {k s T L M b : Nat} {rs l : List Nat} {os ls : List (List Nat)} {v : PV} {d : PyData} {x6 x7 x8 x9 x10 x11 x12 x13 x14 x15 x16 : Option PV}
structure LR (S : Store) (k : Nat) (B : Bd) (v : PV) (d : PyData) (s T L M : Nat) (rs : List Nat) (os ls : List (List Nat)) : Prop where
  box : Box S k
  dv : Dk 16 k S v d
  tab : TabR S T k rs B s
  oth : S[L]? = some (.lst (os.map lotv))
  lk : L ≠ k
  lot : S[M]? = some (.lst (ls.map lotv))
  mok : M ≠ k
theorem LR.fr {S' : Store} (h : LR S k B v d s T L M rs os ls) (f : Fr1 k S S') (b : Box S' k) : LR S' k B v d s T L M rs os ls :=
  ⟨b, Dk.fr h.dv f, h.tab.fr f, by rw [f.old _ (List.getElem?_eq_some_iff.mp h.oth).1 h.lk]; exact h.oth, h.lk, by rw [f.old _ (List.getElem?_eq_some_iff.mp h.lot).1 h.mok]; exact h.lot, h.mok⟩
theorem Box.fr0 {S' : Store} (b : Box S k) (f : Fr0 S S') : Box S' k := by
  obtain ⟨g, r, h1, h2⟩ := b.ex
  exact ⟨⟨g, r, by rw [f.old _ b.lt, h1], h2⟩⟩
theorem LR.fr0 {S' : Store} (h : LR S k B v d s T L M rs os ls) (f : Fr0 S S') : LR S' k B v d s T L M rs os ls := h.fr f.fr1 (h.box.fr0 f)
theorem lot_sq {A : Store} {l : List Nat} : SqV A (lotv l) (l.map natV) := ⟨rfl, .inl rfl⟩
theorem notin_map {a c : List Nat} : ((a.map natV).filter fun x => !decide (x ∈ c.map natV)).length = (a.filter fun x => !decide (x ∈ c)).length := by
  rw [List.filter_map, List.length_map]
  congr 1
  apply List.filter_congr
  intro x _
  show (!decide (natV x ∈ c.map natV)) = _
  congr 1
  by_cases h : x ∈ c
  · rw [decide_eq_true h, decide_eq_true (List.mem_map.mpr ⟨x, h, rfl⟩)]
  · rw [decide_eq_false h]
    refine decide_eq_false fun z => h ?_
    obtain ⟨y, h1, h2⟩ := List.mem_map.mp z
    rw [← natV_inj h2]
    exact h1
theorem W_notin {σ : PEnv} {i j : Nat} {a c : List Nat} (hi : σ[i]? = some (some (lotv a))) (h15 : ∀ x, ((wipeP σ [15]).set 15 (some x))[15]? = some (some x)) (hj : ∀ x, ((wipeP σ [15]).set 15 (some x))[j]? = some (some (lotv c))) (ha : a.length ≤ 100)
    (q : ∀ S', Fr0 S S' → Q (.int ((a.filter fun x => !decide (x ∈ c)).length : Int)) S') : W (mLc (iSeq (mVar i)) (gN 15) (mTest (mOp (vIn true) (mVar 15) (mVar j))) (mVar 15) [15] σ S) (fun p S1 => W (vLen [p] S1) Q) := by
  refine map_seq (v := lotv a) (xs := a.map natV) (g := fun x => x) (f := fun x => !decide (x ∈ c.map natV)) (by rw [List.length_map]; omega) rfl ?_ ?_ ?_ fun S5 f5 h5 => ?_
  · simp only [W_def, W_seq, W_if, W_ite, W_test, W_op, W_var, W_con, W_set, W_put, W_ret, W_expr, W_call, W_fn, W_cons, W_nil, W_skip, W_tup, W_lst, List.set_cons_zero, List.set_cons_succ, List.getElem?_cons_zero, List.getElem?_cons_succ, Option.some.injEq, exists_eq_left', exists_eq_left, W_idx, W_gt, W_lt, W_ge, W_le, W_int, W_abs, W_mod, W_div, W_mul, W_pow, W_add, W_sub, W_eqI, Bool.false_xor, Bool.true_xor, PV.bl.injEq, PV.int.injEq, Prod.mk.injEq, List.length_cons, List.length_nil, Nat.zero_add, Nat.reduceAdd, decide_eq_true_eq, hi]
    exact ⟨trivial, trivial⟩
  · intro x hx G
    obtain ⟨y, hy, rfl⟩ := List.mem_map.mp hx
    simp only [W_def, W_seq, W_if, W_ite, W_test, W_op, W_var, W_con, W_set, W_put, W_ret, W_expr, W_call, W_fn, W_cons, W_nil, W_skip, W_tup, W_lst, List.set_cons_zero, List.set_cons_succ, List.getElem?_cons_zero, List.getElem?_cons_succ, Option.some.injEq, exists_eq_left', exists_eq_left, W_idx, W_gt, W_lt, W_ge, W_le, W_int, W_abs, W_mod, W_div, W_mul, W_pow, W_add, W_sub, W_eqI, Bool.false_xor, Bool.true_xor, PV.bl.injEq, PV.int.injEq, Prod.mk.injEq, List.length_cons, List.length_nil, Nat.zero_add, Nat.reduceAdd, decide_eq_true_eq, h15, hj]
    rw [W_inL, Bool.true_xor]
    refine ⟨_, rfl, ?_, [], by simp⟩
    congr 1
    by_cases h : y ∈ c
    · rw [decide_eq_true h, decide_eq_true (List.mem_map.mpr ⟨y, h, rfl⟩)]
    · rw [decide_eq_false h]
      refine (decide_eq_false fun z => h ?_).symm
      obtain ⟨y', h1, h2⟩ := List.mem_map.mp z
      rw [← natV_inj h2]
      exact h1
  · intro x hx G
    simp only [W_def, W_seq, W_if, W_ite, W_test, W_op, W_var, W_con, W_set, W_put, W_ret, W_expr, W_call, W_fn, W_cons, W_nil, W_skip, W_tup, W_lst, List.set_cons_zero, List.set_cons_succ, List.getElem?_cons_zero, List.getElem?_cons_succ, Option.some.injEq, exists_eq_left', exists_eq_left, W_idx, W_gt, W_lt, W_ge, W_le, W_int, W_abs, W_mod, W_div, W_mul, W_pow, W_add, W_sub, W_eqI, Bool.false_xor, Bool.true_xor, PV.bl.injEq, PV.int.injEq, Prod.mk.injEq, List.length_cons, List.length_nil, Nat.zero_add, Nat.reduceAdd, decide_eq_true_eq, h15]
    exact ⟨trivial, [], by simp⟩
  · rw [List.map_id'] at h5
    rw [W_len (items_ref h5), notin_map]
    exact q S5 f5
theorem held_near (hs : s = 0 ∨ s = 1) {l l2 : List Nat} (h1 : ∀ a ∈ l, a < B.sz s) (h2 : ∀ a ∈ l2, a < B.sz (1 - s)) : (l2.filter fun x => !decide (x ∈ B.held s l)).length = 0 ↔ ((B.near (1 - s) l2).filter fun x => !decide (x ∈ l)).length = 0 := by
  have hs' : 1 - s = 0 ∨ 1 - s = 1 := by omega
  have e11 : 1 - (1 - s) = s := by omega
  rw [List.length_eq_zero_iff, List.length_eq_zero_iff, List.filter_eq_nil_iff, List.filter_eq_nil_iff]
  have mh : ∀ b, b ∈ B.held s l ↔ b < B.sz (1 - s) ∧ ∀ e ∈ B.ps, co (1 - s) e = b → co s e ∈ l := fun b => by
    unfold Bd.held
    rw [List.mem_filter, List.mem_range, decide_eq_true_eq]
  constructor
  · intro h a ha
    obtain ⟨e, he, g1, g2⟩ := (mem_near hs' h2).mp ha
    rw [e11] at g2
    have := h _ g1
    rw [Bool.not_eq_true, Bool.not_eq_false', decide_eq_true_eq, mh] at this
    have := this.2 e he rfl
    rw [← g2] at this
    simp [this]
  · intro h b hb
    have : b ∈ B.held s l := (mh b).mpr ⟨h2 b hb, fun e he hc => by
      have := h (co s e) ((mem_near hs' h2).mpr ⟨e, he, by rw [hc]; exact hb, by rw [e11]⟩)
      simpa using this⟩
    simp [this]
end Kp
set_option Elab.async false
set_option linter.all false
set_option maxRecDepth 100000
set_option maxHeartbeats 4000000
namespace Kp
open PySem PySem.Spec L2 Ip
variable {fo : Bool} {S0 S : Store} {F : Fl → Store → Prop} {Q : PV → Store → Prop} {B : Bd} {k s T L M b : Nat} {rs l : List Nat} {os ls : List (List Nat)} {v : PV} {d : PyData} {x6 x7 x8 x9 x10 x11 x12 x13 x14 x15 x16 : Option PV}
theorem Bd.sz1 (hB : B.Ok) (s : Nat) : 1 ≤ B.sz s := by
  unfold Bd.sz
  split
  · exact hB.m1
  · exact hB.n1
theorem held_lt : ∀ a ∈ B.held s l, a < B.sz (1 - s) := fun a h => List.mem_range.mp (List.mem_filter.mp h).1
theorem held_len : (B.held s l).length ≤ B.sz (1 - s) := by
  unfold Bd.held
  have h1 := List.length_filter_le (fun b => decide (∀ e ∈ B.ps, co (1 - s) e = b → co s e ∈ l)) (List.range (B.sz (1 - s)))
  rwa [List.length_range] at h1
theorem repr_near (hB : B.Ok) (hl : l.length ≤ 6) : W (vRepr [lotv (B.near s l)] S) Q = Q (.str (lotD (B.near s l)).shown) S := by
  have h6 := Bd.sz6 hB (1 - s)
  refine W_repr_lot (fun x hx => ?_) ?_
  · have := near_lt x hx
    omega
  · have := near_len (s := s) (l := l) hB
    omega
theorem repr_held (hB : B.Ok) : W (vRepr [lotv (B.held s l)] S) Q = Q (.str (lotD (B.held s l)).shown) S := by
  have h6 := Bd.sz6 hB (1 - s)
  refine W_repr_lot (fun x hx => ?_) ?_
  · have := held_lt x hx
    omega
  · have := held_len (B := B) (s := s) (l := l)
    omega
theorem repr_quo {a b : Nat} (ha : a ≤ 6) (hb : b ≤ 6) : W (vRepr [quo a b] S) Q = Q (.str (lotD [a / Nat.gcd a b, b / Nat.gcd a b]).shown) S := by
  show W (vRepr [lotv [a / Nat.gcd a b, b / Nat.gcd a b]] S) Q = _
  refine W_repr_lot (fun x hx => ?_) (by simp)
  have h1 := Nat.div_le_self a (Nat.gcd a b)
  have h2 := Nat.div_le_self b (Nat.gcd a b)
  rcases List.mem_cons.mp hx with z | z
  · omega
  · rw [List.mem_singleton.mp z]
    omega
theorem repr_deg (hB : B.Ok) : W (vRepr [B.deg s] S) Q = Q (.str (lotD ((List.range (B.sz s)).map fun a => (B.near s [a]).length)).shown) S := by
  have h6 := Bd.sz6 hB s
  have e : B.deg s = lotv ((List.range (B.sz s)).map fun a => (B.near s [a]).length) := by
    show PV.tup _ = PV.tup _
    rw [List.map_map]
    rfl
  rw [e]
  refine W_repr_lot (fun x hx => ?_) (by simp; omega)
  obtain ⟨a, _, rfl⟩ := List.mem_map.mp hx
  have := near_len (s := s) (l := [a]) hB
  omega
theorem lst_deep {r : Nat} {l : List Nat} (h : S[r]? = some (.lst (l.map natV))) : deep 16 S (.ref r) = some (.list ((l.map fun x : Nat => (x : Int)).map PyData.int)) := by
  show (match S[r]? with
    | some (.lst xs) => (mapO (deep 15 S) xs).map PyData.list
    | _ => none) = _
  rw [h]
  show (mapO (deep 15 S) (l.map natV)).map PyData.list = _
  rw [deep_lot]
  rfl
theorem shaped_lst (l : List Int) : SeqAt.shaped (.list (l.map PyData.int)) = true := by
  have := shaped_tup l
  simp only [SeqAt.shaped, PyData.canLay0, PyData.depth] at this ⊢
  exact this
theorem eqv_lst (a : List Nat) : PyData.eqv (.list ((a.map fun x : Nat => (x : Int)).map PyData.int)) (.list ((a.map fun x : Nat => (x : Int)).map PyData.int)) = true := by
  have := eqvs_ints a a
  simp only [PyData.eqv, decide_true] at this ⊢
  exact this
theorem W_neLL {r1 r2 : Nat} {l : List Nat} (h1 : S[r1]? = some (.lst (l.map natV))) (h2 : S[r2]? = some (.lst (l.map natV))) : W (vEq true (.ref r1) (.ref r2) S) Q = Q (.bl false) S := by
  rw [W_eq (lst_deep h1) (lst_deep h2) (by rw [shaped_lst]; rfl), eqv_lst]
  rfl
theorem W_fraction {a b : Nat} (h1 : 1 ≤ a) (h2 : a ≤ 6) (h3 : 1 ≤ b) (h4 : b ≤ 6) : W (m__law_fraction fo [.int a, .int b] S) Q = Q (quo a b) S := by
  rw [fraction_spec a b h1 h2 h3 h4, W_some]
  rfl
theorem W_lots_right (bx : Box S k) (hB : B.Ok) (hs : s = 0 ∨ s = 1) (hd : Dk 16 k S v d) (hb : BdD B d) (q : ∀ S', Box S' k → Fr1 k S S' → Q (.bl true) S') : W (m__law_lots_right fo [.ref k, B.v, v, .int s] S) Q := by
  have hs' : 1 - s = 0 ∨ 1 - s = 1 := by omega
  have h6 := Bd.sz6 hB s
  have h6' := Bd.sz6 hB (1 - s)
  have h1 := Bd.sz1 hB s
  have h1' := Bd.sz1 hB (1 - s)
  have e11 : 1 - (1 - s) = s := by omega
  have bk := bx.lt
  unfold m__law_lots_right
  simp only [W_def, W_seq, W_if, W_ite, W_test, W_op, W_var, W_con, W_set, W_put, W_ret, W_expr, W_call, W_fn, W_cons, W_nil, W_skip, W_tup, W_lst, List.set_cons_zero, List.set_cons_succ, List.getElem?_cons_zero, List.getElem?_cons_succ, Option.some.injEq, exists_eq_left', exists_eq_left, W_idx, W_gt, W_lt, W_ge, W_le, W_int, W_abs, W_mod, W_div, W_mul, W_pow, W_add, W_sub, W_eqI, Bool.false_xor, Bool.true_xor, PV.bl.injEq, PV.int.injEq, Prod.mk.injEq, List.length_cons, List.length_nil, Nat.zero_add, Nat.reduceAdd, decide_eq_true_eq, (show startP N__law_lots_right [PV.ref k, B.v, v, PV.int s] = [some (.ref k), some B.v, some v, some (.int s), none, none, none, none, none, none, none, none, none, none, none, none, none] from rfl)]
  refine table_spec bx hB hs fun rs rows S1 t1 hl1 hh1 => ?_
  have T1 : TabR S1 S.length k rs B s := TabR.of t1 hl1 hh1
  have f1 : Fr1 k S S1 := t1.fr
  have b1 := t1.box
  have l1 := f1.len
  simp only [W_def, W_seq, W_if, W_ite, W_test, W_op, W_var, W_con, W_set, W_put, W_ret, W_expr, W_call, W_fn, W_cons, W_nil, W_skip, W_tup, W_lst, List.set_cons_zero, List.set_cons_succ, List.getElem?_cons_zero, List.getElem?_cons_succ, Option.some.injEq, exists_eq_left', exists_eq_left, W_idx, W_gt, W_lt, W_ge, W_le, W_int, W_abs, W_mod, W_div, W_mul, W_pow, W_add, W_sub, W_eqI, Bool.false_xor, Bool.true_xor, PV.bl.injEq, PV.int.injEq, Prod.mk.injEq, List.length_cons, List.length_nil, Nat.zero_add, Nat.reduceAdd, decide_eq_true_eq, Bd.items, oneless hs, Bd.at_ hs']
  refine lots_spec b1 ⟨h1', h6'⟩ fun os S2 ho hone hol g2 b2 f2 => ?_
  have l2 := f2.len
  have n2 := (List.getElem?_eq_some_iff.mp g2).1
  rw [W_for]
  refine W_seqI ?_
  simp only [W_def, W_seq, W_if, W_ite, W_test, W_op, W_var, W_con, W_set, W_put, W_ret, W_expr, W_call, W_fn, W_cons, W_nil, W_skip, W_tup, W_lst, List.set_cons_zero, List.set_cons_succ, List.getElem?_cons_zero, List.getElem?_cons_succ, Option.some.injEq, exists_eq_left', exists_eq_left, W_idx, W_gt, W_lt, W_ge, W_le, W_int, W_abs, W_mod, W_div, W_mul, W_pow, W_add, W_sub, W_eqI, Bool.false_xor, Bool.true_xor, PV.bl.injEq, PV.int.injEq, Prod.mk.injEq, List.length_cons, List.length_nil, Nat.zero_add, Nat.reduceAdd, decide_eq_true_eq, Bd.items, Bd.at_ hs]
  refine lots_spec b2 ⟨h1, h6⟩ fun ls S3 hl hne hll g3 b3 f3 => ?_
  have l3 := f3.len
  have n3 := (List.getElem?_eq_some_iff.mp g3).1
  have F3 : Fr1 k S S3 := (f1.trans f2).trans f3
  have R3 : LR S3 k B v d s S.length S1.length S2.length rs os ls :=
    ⟨b3, Dk.fr hd F3, T1.fr (f2.trans f3), by rw [f3.old _ n2 (by omega)]; exact g2, by omega, g3, by omega⟩
  refine ⟨_, _, ⟨g3, rfl⟩, ?_⟩
  refine W_forM (xs := []) (fun ys σ Sx => ∃ es fs y6 y7 y8 y9 y10 y11 y12 y13 y14 y15 y16, ls = es ++ fs ∧ ys = fs.map lotv ∧ σ = e17 k B v s S.length S1.length y6 y7 y8 y9 y10 y11 y12 y13 y14 y15 y16 ∧ LR Sx k B v d s S.length S1.length S2.length rs os ls ∧ Fr1 k S Sx) (fun ys σ Sx h => ?_) (fun x ys σ Sx h => ?_) (fun σ Sx h => ?_) _ _ _
    ⟨[], ls, none, none, none, none, none, none, none, none, none, none, none, rfl, rfl, rfl, R3, F3⟩
  · obtain ⟨es, fs, y6, y7, y8, y9, y10, y11, y12, y13, y14, y15, y16, _, _, _, R, _⟩ := h
    exact lk_one.mpr R.lot
  · obtain ⟨es, fs, y6, y7, y8, y9, y10, y11, y12, y13, y14, y15, y16, hls, hys, rfl, R, FR⟩ := h
    obtain ⟨l, fs, rfl⟩ : ∃ e fs', fs = e :: fs' := by
      cases fs with
      | nil => cases hys
      | cons e fs => exact ⟨e, fs, rfl⟩
    cases hys
    have ok : LotOk (B.sz s) l := hl l (by rw [hls]; simp)
    have ll := asc_len ok.asc ok.lt
    have lp := List.length_pos_iff.mpr ok.ne
    have np := List.length_pos_iff.mpr (near_ne hB hs ok)
    have n6 := near_len (s := s) (l := l) hB
    have il : ∀ (A : Store) (k : List Nat), itemsOf (lotv k) A = some (k.map natV) := fun _ _ => rfl
    show W (some _) _
    rw [W_some]
    have kx := R.box.lt
    simp only [W_def, W_seq, W_if, W_ite, W_test, W_op, W_var, W_con, W_set, W_put, W_ret, W_expr, W_call, W_fn, W_cons, W_nil, W_skip, W_tup, W_lst, List.set_cons_zero, List.set_cons_succ, List.getElem?_cons_zero, List.getElem?_cons_succ, Option.some.injEq, exists_eq_left', exists_eq_left, W_idx, W_gt, W_lt, W_ge, W_le, W_int, W_abs, W_mod, W_div, W_mul, W_pow, W_add, W_sub, W_eqI, Bool.false_xor, Bool.true_xor, PV.bl.injEq, PV.int.injEq, Prod.mk.injEq, List.length_cons, List.length_nil, Nat.zero_add, Nat.reduceAdd, decide_eq_true_eq, W_vlist (il _ l)]
    refine ⟨by decide, ?_⟩
    refine pick_fr (xs := [lotv l, .ref Sx.length]) R.box.app.app (fun z => by cases z; simp at kx; omega) (items_ref (by simp)) (by simp) (by simp) fun j shape S5 hv b5 f5 l5 => ?_
    have FG : Fr1 k Sx S5 := (Fr1.app.trans Fr1.app).trans f5
    have R5 := R.fr FG b5
    have sv : SqV S5 shape (l.map natV) := by
      rcases j with _ | _ | j
      · cases hv
        exact lot_sq
      · cases hv
        have : S5[Sx.length]? = some (.lst (l.map natV)) := by
          rw [f5.old _ (by simp) (by omega)]
          simp
        exact ⟨items_ref this, .inr (by simp [tyName, this])⟩
      · simp at hv
    refine W_nearC hB hs R5.tab ok fun S6 f6 => ?_
    have R6 := R5.fr0 f6
    refine W_heldC hB hs R6.tab ok fun S7 f7 => ?_
    have R7 := R6.fr0 f7
    simp only [W_def, W_seq, W_if, W_ite, W_test, W_op, W_var, W_con, W_set, W_put, W_ret, W_expr, W_call, W_fn, W_cons, W_nil, W_skip, W_tup, W_lst, List.set_cons_zero, List.set_cons_succ, List.getElem?_cons_zero, List.getElem?_cons_succ, Option.some.injEq, exists_eq_left', exists_eq_left, W_idx, W_gt, W_lt, W_ge, W_le, W_int, W_abs, W_mod, W_div, W_mul, W_pow, W_add, W_sub, W_eqI, Bool.false_xor, Bool.true_xor, PV.bl.injEq, PV.int.injEq, Prod.mk.injEq, List.length_cons, List.length_nil, Nat.zero_add, Nat.reduceAdd, decide_eq_true_eq, W_orM]
    refine W_partners hB hs R7.dv.real hb (sv.fr (f6.trans f7)) ok fun S8 f8 => ?_
    have R8 := R7.fr0 f8
    simp only [W_def, W_seq, W_if, W_ite, W_test, W_op, W_var, W_con, W_set, W_put, W_ret, W_expr, W_call, W_fn, W_cons, W_nil, W_skip, W_tup, W_lst, List.set_cons_zero, List.set_cons_succ, List.getElem?_cons_zero, List.getElem?_cons_succ, Option.some.injEq, exists_eq_left', exists_eq_left, W_idx, W_gt, W_lt, W_ge, W_le, W_int, W_abs, W_mod, W_div, W_mul, W_pow, W_add, W_sub, W_eqI, Bool.false_xor, Bool.true_xor, PV.bl.injEq, PV.int.injEq, Prod.mk.injEq, List.length_cons, List.length_nil, Nat.zero_add, Nat.reduceAdd, decide_eq_true_eq, repr_near hB (show l.length ≤ 6 by omega), W_eqT, decide_true, Bool.true_xor, Bool.not_true, Bool.false_eq_true, if_false]
    refine W_only hB hs R8.dv.real hb (sv.fr ((f6.trans f7).trans f8)) ok fun S9 f9 => ?_
    have R9 := R8.fr0 f9
    simp only [W_def, W_seq, W_if, W_ite, W_test, W_op, W_var, W_con, W_set, W_put, W_ret, W_expr, W_call, W_fn, W_cons, W_nil, W_skip, W_tup, W_lst, List.set_cons_zero, List.set_cons_succ, List.getElem?_cons_zero, List.getElem?_cons_succ, Option.some.injEq, exists_eq_left', exists_eq_left, W_idx, W_gt, W_lt, W_ge, W_le, W_int, W_abs, W_mod, W_div, W_mul, W_pow, W_add, W_sub, W_eqI, Bool.false_xor, Bool.true_xor, PV.bl.injEq, PV.int.injEq, Prod.mk.injEq, List.length_cons, List.length_nil, Nat.zero_add, Nat.reduceAdd, decide_eq_true_eq, repr_held hB, W_eqT, decide_true, Bool.true_xor, Bool.not_true, Bool.false_eq_true, if_false]
    refine W_quotient hB hs R9.dv.real hb (sv.fr (((f6.trans f7).trans f8).trans f9)) ok fun S10 f10 => ?_
    have R10 := R9.fr0 f10
    have la : l.length ≤ 6 := by omega
    have svA := sv.fr (((f6.trans f7).trans f8).trans (f9.trans f10))
    simp only [repr_quo la n6, W_len (il _ l), W_len (il _ (B.near s l)), List.length_map, W_fraction lp la np n6, W_eqT, decide_true, Bool.true_xor, Bool.not_true, PV.bl.injEq, exists_eq_left', Bool.false_eq_true, if_false, W_vlist svA.items]
    rw [W_neLL (l := l) (by simp) (by simp)]
    simp only [PV.bl.injEq, exists_eq_left', Bool.false_eq_true, if_false]
    have R11 := R10.fr0 ((Fr0.app (G := [Ob.lst (l.map natV)])).trans (Fr0.app (G := [Ob.lst (l.map natV)])))
    refine pick_fr (xs := os.map lotv) R11.box (fun z => by cases z; exact R11.lk rfl) (items_ref R11.oth) (by rw [List.length_map]; exact List.length_pos_iff.mpr hone) (by rw [List.length_map]; omega) fun j2 other S12 hv2 b12 f12 l12 => ?_
    have R12 := R11.fr f12 b12
    obtain ⟨l2, hl2, rfl⟩ : ∃ l2 ∈ os, lotv l2 = other := List.mem_map.mp (List.mem_of_getElem? hv2)
    have ok2 := ho l2 hl2
    have ll2 := asc_len ok2.asc ok2.lt
    simp only [W_def, W_seq, W_if, W_ite, W_test, W_op, W_var, W_con, W_set, W_put, W_ret, W_expr, W_call, W_fn, W_cons, W_nil, W_skip, W_tup, W_lst, List.set_cons_zero, List.set_cons_succ, List.getElem?_cons_zero, List.getElem?_cons_succ, Option.some.injEq, exists_eq_left', exists_eq_left, W_idx, W_gt, W_lt, W_ge, W_le, W_int, W_abs, W_mod, W_div, W_mul, W_pow, W_add, W_sub, W_eqI, Bool.false_xor, Bool.true_xor, PV.bl.injEq, PV.int.injEq, Prod.mk.injEq, List.length_cons, List.length_nil, Nat.zero_add, Nat.reduceAdd, decide_eq_true_eq, W_fnK, oneless hs]
    refine W_partners (v := B.v) hB hs' canon_D canon_B lot_sq ok2 fun S13 f13 => ?_
    have R13 := R12.fr0 f13
    refine W_only (v := B.v) hB hs canon_D canon_B lot_sq ok fun S14 f14 => ?_
    have R14 := R13.fr0 f14
    have n2 := near_len (s := 1 - s) (l := l2) hB
    have hn := held_near hs ok.lt ok2.lt
    have FA : Fr1 k S S14 := ((((((FR.trans FG).trans ((f6.trans f7).trans f8).fr1).trans (f9.trans f10).fr1).trans ((Fr0.app (G := [Ob.lst (l.map natV)])).trans (Fr0.app (G := [Ob.lst (l.map natV)]))).fr1).trans f12).trans (f13.trans f14).fr1)
    simp only [W_def, W_seq, W_if, W_ite, W_test, W_op, W_var, W_con, W_set, W_put, W_ret, W_expr, W_call, W_fn, W_cons, W_nil, W_skip, W_tup, W_lst, List.set_cons_zero, List.set_cons_succ, List.getElem?_cons_zero, List.getElem?_cons_succ, Option.some.injEq, exists_eq_left', exists_eq_left, W_idx, W_gt, W_lt, W_ge, W_le, W_int, W_abs, W_mod, W_div, W_mul, W_pow, W_add, W_sub, W_eqI, Bool.false_xor, Bool.true_xor, PV.bl.injEq, PV.int.injEq, Prod.mk.injEq, List.length_cons, List.length_nil, Nat.zero_add, Nat.reduceAdd, decide_eq_true_eq, W_andM]
    refine W_notin (i := 11) (j := 13) (a := l2) (c := B.held s l) rfl (fun _ => rfl) (fun _ => rfl) (by omega) fun S15 f15 => ?_
    have R15 := R14.fr0 f15
    generalize hc1 : (l2.filter fun x => !decide (x ∈ B.held s l)).length = c1 at hn ⊢
    generalize hc2 : ((B.near (1 - s) l2).filter fun x => !decide (x ∈ l)).length = c2 at hn
    simp only [W_def, W_seq, W_if, W_ite, W_test, W_op, W_var, W_con, W_set, W_put, W_ret, W_expr, W_call, W_fn, W_cons, W_nil, W_skip, W_tup, W_lst, List.set_cons_zero, List.set_cons_succ, List.getElem?_cons_zero, List.getElem?_cons_succ, Option.some.injEq, exists_eq_left', exists_eq_left, W_idx, W_gt, W_lt, W_ge, W_le, W_int, W_abs, W_mod, W_div, W_mul, W_pow, W_add, W_sub, W_eqI, Bool.false_xor, Bool.true_xor, PV.bl.injEq, PV.int.injEq, Prod.mk.injEq, List.length_cons, List.length_nil, Nat.zero_add, Nat.reduceAdd, decide_eq_true_eq]
    by_cases hc : c1 = 0
    · have hz := hn.mp hc
      rw [if_pos (by omega)]
      refine W_notin (i := 12) (j := 6) (a := B.near (1 - s) l2) (c := l) rfl (fun _ => rfl) (fun _ => rfl) (by omega) fun S16 f16 => ?_
      have R16 := R15.fr0 f16
      rw [hc2]
      simp only [W_def, W_seq, W_if, W_ite, W_test, W_op, W_var, W_con, W_set, W_put, W_ret, W_expr, W_call, W_fn, W_cons, W_nil, W_skip, W_tup, W_lst, List.set_cons_zero, List.set_cons_succ, List.getElem?_cons_zero, List.getElem?_cons_succ, Option.some.injEq, exists_eq_left', exists_eq_left, W_idx, W_gt, W_lt, W_ge, W_le, W_int, W_abs, W_mod, W_div, W_mul, W_pow, W_add, W_sub, W_eqI, Bool.false_xor, Bool.true_xor, PV.bl.injEq, PV.int.injEq, Prod.mk.injEq, List.length_cons, List.length_nil, Nat.zero_add, Nat.reduceAdd, decide_eq_true_eq]
      rw [if_neg (by omega)]
      refine W_notin (i := 11) (j := 13) (a := l2) (c := B.held s l) rfl (fun _ => rfl) (fun _ => rfl) (by omega) fun S17 f17 => ?_
      have R17 := R16.fr0 f17
      rw [hc1]
      simp only [W_def, W_seq, W_if, W_ite, W_test, W_op, W_var, W_con, W_set, W_put, W_ret, W_expr, W_call, W_fn, W_cons, W_nil, W_skip, W_tup, W_lst, List.set_cons_zero, List.set_cons_succ, List.getElem?_cons_zero, List.getElem?_cons_succ, Option.some.injEq, exists_eq_left', exists_eq_left, W_idx, W_gt, W_lt, W_ge, W_le, W_int, W_abs, W_mod, W_div, W_mul, W_pow, W_add, W_sub, W_eqI, Bool.false_xor, Bool.true_xor, PV.bl.injEq, PV.int.injEq, Prod.mk.injEq, List.length_cons, List.length_nil, Nat.zero_add, Nat.reduceAdd, decide_eq_true_eq]
      rw [if_neg (by omega)]
      exact ⟨es ++ [l], fs, _, _, _, _, _, _, _, _, _, _, _, by rw [hls]; simp, rfl, rfl, R17, FA.trans ((f15.trans f16).trans f17).fr1⟩
    · have hz : ¬ c2 = 0 := fun z => hc (hn.mpr z)
      rw [if_neg (by omega)]
      refine W_notin (i := 11) (j := 13) (a := l2) (c := B.held s l) rfl (fun _ => rfl) (fun _ => rfl) (by omega) fun S17 f17 => ?_
      have R17 := R15.fr0 f17
      rw [hc1]
      simp only [W_def, W_seq, W_if, W_ite, W_test, W_op, W_var, W_con, W_set, W_put, W_ret, W_expr, W_call, W_fn, W_cons, W_nil, W_skip, W_tup, W_lst, List.set_cons_zero, List.set_cons_succ, List.getElem?_cons_zero, List.getElem?_cons_succ, Option.some.injEq, exists_eq_left', exists_eq_left, W_idx, W_gt, W_lt, W_ge, W_le, W_int, W_abs, W_mod, W_div, W_mul, W_pow, W_add, W_sub, W_eqI, Bool.false_xor, Bool.true_xor, PV.bl.injEq, PV.int.injEq, Prod.mk.injEq, List.length_cons, List.length_nil, Nat.zero_add, Nat.reduceAdd, decide_eq_true_eq]
      rw [if_pos (by omega)]
      refine W_notin (i := 12) (j := 6) (a := B.near (1 - s) l2) (c := l) rfl (fun _ => rfl) (fun _ => rfl) (by omega) fun S16 f16 => ?_
      have R16 := R17.fr0 f16
      rw [hc2]
      simp only [W_def, W_seq, W_if, W_ite, W_test, W_op, W_var, W_con, W_set, W_put, W_ret, W_expr, W_call, W_fn, W_cons, W_nil, W_skip, W_tup, W_lst, List.set_cons_zero, List.set_cons_succ, List.getElem?_cons_zero, List.getElem?_cons_succ, Option.some.injEq, exists_eq_left', exists_eq_left, W_idx, W_gt, W_lt, W_ge, W_le, W_int, W_abs, W_mod, W_div, W_mul, W_pow, W_add, W_sub, W_eqI, Bool.false_xor, Bool.true_xor, PV.bl.injEq, PV.int.injEq, Prod.mk.injEq, List.length_cons, List.length_nil, Nat.zero_add, Nat.reduceAdd, decide_eq_true_eq]
      rw [if_neg (by omega)]
      exact ⟨es ++ [l], fs, _, _, _, _, _, _, _, _, _, _, _, by rw [hls]; simp, rfl, rfl, R16, FA.trans ((f15.trans f17).trans f16).fr1⟩
  · obtain ⟨es, fs, y6, y7, y8, y9, y10, y11, y12, y13, y14, y15, y16, hls, hys, rfl, R, FR⟩ := h
    simp only [W_def, W_seq, W_if, W_ite, W_test, W_op, W_var, W_con, W_set, W_put, W_ret, W_expr, W_call, W_fn, W_cons, W_nil, W_skip, W_tup, W_lst, List.set_cons_zero, List.set_cons_succ, List.getElem?_cons_zero, List.getElem?_cons_succ, Option.some.injEq, exists_eq_left', exists_eq_left, W_idx, W_gt, W_lt, W_ge, W_le, W_int, W_abs, W_mod, W_div, W_mul, W_pow, W_add, W_sub, W_eqI, Bool.false_xor, Bool.true_xor, PV.bl.injEq, PV.int.injEq, Prod.mk.injEq, List.length_cons, List.length_nil, Nat.zero_add, Nat.reduceAdd, decide_eq_true_eq]
    refine W_dueC hB R.tab fun S4 f4 => ?_
    have R4 := R.fr0 f4
    simp only [W_def, W_seq, W_if, W_ite, W_test, W_op, W_var, W_con, W_set, W_put, W_ret, W_expr, W_call, W_fn, W_cons, W_nil, W_skip, W_tup, W_lst, List.set_cons_zero, List.set_cons_succ, List.getElem?_cons_zero, List.getElem?_cons_succ, Option.some.injEq, exists_eq_left', exists_eq_left, W_idx, W_gt, W_lt, W_ge, W_le, W_int, W_abs, W_mod, W_div, W_mul, W_pow, W_add, W_sub, W_eqI, Bool.false_xor, Bool.true_xor, PV.bl.injEq, PV.int.injEq, Prod.mk.injEq, List.length_cons, List.length_nil, Nat.zero_add, Nat.reduceAdd, decide_eq_true_eq, W_and]
    refine W_degrees hB hs R4.dv.real hb fun S5 f5 => ?_
    have R5 := R4.fr0 f5
    simp only [repr_deg hB, W_eqT, decide_true, Bool.false_xor, PV.bl.injEq, exists_eq_left', if_true]
    simp only [W_def, W_seq, W_if, W_ite, W_test, W_op, W_var, W_con, W_set, W_put, W_ret, W_expr, W_call, W_fn, W_cons, W_nil, W_skip, W_tup, W_lst, List.set_cons_zero, List.set_cons_succ, List.getElem?_cons_zero, List.getElem?_cons_succ, Option.some.injEq, exists_eq_left', exists_eq_left, W_idx, W_gt, W_lt, W_ge, W_le, W_int, W_abs, W_mod, W_div, W_mul, W_pow, W_add, W_sub, W_eqI, Bool.false_xor, Bool.true_xor, PV.bl.injEq, PV.int.injEq, Prod.mk.injEq, List.length_cons, List.length_nil, Nat.zero_add, Nat.reduceAdd, decide_eq_true_eq, W_fnK]
    refine W_degrees (v := B.v) hB hs canon_D canon_B fun S6 f6 => ?_
    have R6 := R5.fr0 f6
    simp only [repr_deg hB, W_eqT, decide_true, Bool.false_xor]
    exact q S6 R6.box (FR.trans ((f4.trans f5).trans f6).fr1)
end Kp
set_option Elab.async false
set_option linter.all false
set_option maxRecDepth 100000
set_option maxHeartbeats 4000000
namespace Kp
open PySem PySem.Spec L2 Ip
variable {fo : Bool} {S0 S : Store} {F : Fl → Store → Prop} {Q : PV → Store → Prop} {B : Bd} {k s : Nat} {v : PV} {d : PyData}
def okN : Nat → PyData → Bool
  | 0, _ => false
  | n + 1, .int i => decide (i.natAbs < 1000)
  | n + 1, .list xs => xs.all (okN n)
  | n + 1, .tuple xs => xs.all (okN n)
  | _, _ => false
theorem okN_all : ∀ (n : Nat) (d : PyData), okN n d = true → d.canLay0 = true ∧ d.showable = true ∧ txOk d = true ∧ d.depth ≤ n
  | 0, d, h => by cases h
  | n + 1, d, h => by
    have all : ∀ xs : List PyData, xs.all (okN n) = true → PyData.canLayAll0 xs = true ∧ PyData.showableAll xs = true ∧ txOks xs = true ∧ PyData.depthAll xs ≤ n := by
      intro xs
      induction xs with
      | nil => intro _; exact ⟨rfl, rfl, rfl, Nat.zero_le _⟩
      | cons x xs ih =>
        intro hx
        rw [List.all_cons, Bool.and_eq_true] at hx
        obtain ⟨a1, a2, a3, a4⟩ := okN_all n x hx.1
        obtain ⟨b1, b2, b3, b4⟩ := ih hx.2
        refine ⟨by simp only [PyData.canLayAll0, a1, b1, Bool.and_self], by simp only [PyData.showableAll, a2, b2, Bool.and_self], by simp only [txOks, a3, b3, Bool.and_self], ?_⟩
        simp only [PyData.depthAll]
        exact Nat.max_le.mpr ⟨a4, b4⟩
    cases d with
    | int i =>
      have h : i.natAbs < 1000 := of_decide_eq_true h
      have h1 : i.natAbs.log2 < 1920 := Nat.lt_of_le_of_lt (Nat.log2_le_self _) (by omega)
      exact ⟨rfl, by simp only [PyData.showable]; exact decide_eq_true h1, rfl, by simp only [PyData.depth]; omega⟩
    | list xs =>
      obtain ⟨a1, a2, a3, a4⟩ := all xs h
      exact ⟨by simp only [PyData.canLay0]; exact a1, by simp only [PyData.showable]; exact a2, by simp only [txOk]; exact a3, by simp only [PyData.depth]; omega⟩
    | tuple xs =>
      obtain ⟨a1, a2, a3, a4⟩ := all xs h
      exact ⟨by simp only [PyData.canLay0]; exact a1, by simp only [PyData.showable]; exact a2, by simp only [txOk]; exact a3, by simp only [PyData.depth]; omega⟩
    | _ => cases h
theorem ok_repr {n : Nat} {d : PyData} (hn : n ≤ 64) (h : okN n d = true) (hw : wt d ≤ 8000) : reprOk d = true := by
  obtain ⟨a1, a2, a3, a4⟩ := okN_all n d h
  unfold reprOk
  have : SeqAt.shaped d = true := by
    unfold SeqAt.shaped
    rw [a1, decide_eq_true (by omega)]
    rfl
  rw [this, a2, a3, decide_eq_true hw]
  rfl
theorem wts_le {c : Nat} : ∀ {xs : List PyData}, (∀ x ∈ xs, wt x ≤ c) → wts xs ≤ xs.length * (1 + c)
  | [], _ => by simp [wts]
  | x :: xs, h => by
    have h1 := h x (List.mem_cons_self ..)
    have h2 := wts_le fun y hy => h y (List.mem_cons_of_mem _ hy)
    simp only [wts, List.length_cons, Nat.add_mul, Nat.one_mul] at h2 ⊢
    omega
theorem mapO_map {α : Type} {n : Nat} {f : α → PV} {g : α → PyData} : ∀ {l : List α}, (∀ x ∈ l, deep n S (f x) = some (g x)) → mapO (deep n S) (l.map f) = some (l.map g)
  | [], _ => rfl
  | x :: l, h => mapO_cons (h x (List.mem_cons_self ..)) (mapO_map fun y hy => h y (List.mem_cons_of_mem _ hy))
theorem sq_ok {n : Nat} {d : PyData} {ds : List PyData} (h : Sq d ds) (ho : ds.all (okN n) = true) : okN (n + 1) d = true := by
  rcases h with rfl | rfl <;> exact ho
theorem sq_wt {d : PyData} {ds : List PyData} (h : Sq d ds) : wt d = 1 + wts ds := by
  rcases h with rfl | rfl <;> rfl
theorem prD_ok : ∀ {es : List (Nat × Nat)} {ds : List PyData}, PrD es ds → (∀ e ∈ es, e.1 < 1000 ∧ e.2 < 1000) → ds.all (okN 2) = true ∧ ∀ x ∈ ds, wt x ≤ 5
  | _, _, .nil, _ => ⟨rfl, fun _ h => nomatch h⟩
  | e :: es, d :: ds, .cons h hr, hl => by
    obtain ⟨g1, g2⟩ := prD_ok hr fun x hx => hl x (List.mem_cons_of_mem _ hx)
    obtain ⟨l1, l2⟩ := hl e (List.mem_cons_self ..)
    refine ⟨?_, ?_⟩
    · rw [List.all_cons, g1, Bool.and_true]
      refine sq_ok h ?_
      have i1 : okN 1 (.int (e.1 : Int)) = true := decide_eq_true (by omega)
      have i2 : okN 1 (.int (e.2 : Int)) = true := decide_eq_true (by omega)
      simp only [List.all_cons, List.all_nil, i1, i2, Bool.and_self]
    · intro x hx
      rcases List.mem_cons.mp hx with z | z
      · rw [z, sq_wt h]
        simp [wts, wt]
      · exact g2 x z
theorem bd_repr {B : Bd} {d : PyData} (hB : B.Ok) (h : BdD B d) : reprOk d = true := by
  obtain ⟨w, qs, h1, h2, h3⟩ := h
  have m6 := hB.m6
  have n6 := hB.n6
  have l36 : B.ps.length ≤ 36 := by
    have h1 := prs_len (f := B.f) (n := B.n) (m := B.m)
    have h2 : B.m * B.n ≤ 6 * 6 := Nat.mul_le_mul hB.m6 hB.n6
    exact Nat.le_trans h1 h2
  obtain ⟨g1, g2⟩ := prD_ok h3 fun e he => by
    obtain ⟨c1, c2, _⟩ := mem_prs.mp he
    omega
  have hq := wts_le g2
  have lq := h3.len
  refine ok_repr (n := 4) (by decide) ?_ ?_
  · refine sq_ok h1 ?_
    have i1 : okN 3 (.int (B.m : Int)) = true := decide_eq_true (by omega)
    have i2 : okN 3 (.int (B.n : Int)) = true := decide_eq_true (by omega)
    have i3 : okN 3 w = true := sq_ok h2 g1
    simp only [List.all_cons, List.all_nil, i1, i2, i3, Bool.and_self]
  · rw [sq_wt h1]
    have := sq_wt h2
    simp only [wts, wt, this]
    omega
noncomputable def pieceD (B : Bd) (o : Nat) : PyData := .tuple [lotD ((List.range B.m).filter fun s => decide (B.rt s = o)), lotD ((List.range B.n).filter fun t => decide (B.rr t = o))]
noncomputable def piecesD (B : Bd) : PyData := .tuple (((List.range B.m).filter fun o => decide (B.rt o = o)).map (pieceD B))
theorem lotD_okN {l : List Nat} (h : ∀ x ∈ l, x < 1000) : okN 2 (lotD l) = true ∧ wt (lotD l) = 1 + 2 * l.length := by
  refine ⟨?_, ?_⟩
  · show ((l.map fun x : Nat => (x : Int)).map PyData.int).all (okN 1) = true
    rw [List.all_map, List.all_map, List.all_eq_true]
    intro x hx
    have := h x hx
    show decide ((x : Int).natAbs < 1000) = true
    exact decide_eq_true (by omega)
  · show 1 + wts _ = _
    rw [wts_ints, List.length_map]
theorem pieces_repr (hB : B.Ok) : W (vRepr [.tup B.pieces] S) Q = Q (.str (piecesD B).shown) S := by
  have m6 := hB.m6
  have n6 := hB.n6
  have fl : ∀ (n : Nat) (f : Nat → Bool), ((List.range n).filter f).length ≤ n := fun n f => by
    have := List.length_filter_le f (List.range n)
    rwa [List.length_range] at this
  have la : ∀ o, okN 2 (lotD ((List.range B.m).filter fun s => decide (B.rt s = o))) = true ∧ wt (lotD ((List.range B.m).filter fun s => decide (B.rt s = o))) = 1 + 2 * ((List.range B.m).filter fun s => decide (B.rt s = o)).length := fun o => lotD_okN fun x hx => by
    have := List.mem_range.mp (List.mem_filter.mp hx).1
    omega
  have lb : ∀ o, okN 2 (lotD ((List.range B.n).filter fun t => decide (B.rr t = o))) = true ∧ wt (lotD ((List.range B.n).filter fun t => decide (B.rr t = o))) = 1 + 2 * ((List.range B.n).filter fun t => decide (B.rr t = o)).length := fun o => lotD_okN fun x hx => by
    have := List.mem_range.mp (List.mem_filter.mp hx).1
    omega
  have hd : deep 16 S (.tup B.pieces) = some (piecesD B) := by
    show (mapO (deep 15 S) (((List.range B.m).filter fun o => decide (B.rt o = o)).map B.piece)).map PyData.tuple = _
    rw [mapO_map (g := pieceD B) fun o _ => ?_]
    · rfl
    · show (mapO (deep 14 S) [lotv _, lotv _]).map PyData.tuple = _
      have e : ∀ l : List Nat, deep 14 S (lotv l) = some (lotD l) := fun l => by
        show (mapO (deep 13 S) (l.map natV)).map PyData.tuple = _
        rw [deep_lot]
        rfl
      rw [mapO_cons (e _) (mapO_cons (e _) rfl)]
      rfl
  refine W_repr hd (ok_repr (n := 4) (by decide) ?_ ?_)
  · show (((List.range B.m).filter fun o => decide (B.rt o = o)).map (pieceD B)).all (okN 3) = true
    rw [List.all_map, List.all_eq_true]
    intro o _
    show ([lotD _, lotD _] : List PyData).all (okN 2) = true
    simp only [List.all_cons, List.all_nil, (la o).1, (lb o).1, Bool.and_self]
  · show 1 + wts (((List.range B.m).filter fun o => decide (B.rt o = o)).map (pieceD B)) ≤ 8000
    have := wts_le (c := 40) (xs := ((List.range B.m).filter fun o => decide (B.rt o = o)).map (pieceD B)) fun x hx => by
      obtain ⟨o, _, rfl⟩ := List.mem_map.mp hx
      have a1 := fl B.m fun s => decide (B.rt s = o)
      have a2 := fl B.n fun t => decide (B.rr t = o)
      show 1 + (1 + wt (lotD _) + (1 + wt (lotD _) + 0)) ≤ 40
      rw [(la o).2, (lb o).2]
      omega
    rw [List.length_map] at this
    have := fl B.m fun o => decide (B.rt o = o)
    have : ((List.range B.m).filter fun o => decide (B.rt o = o)).length * (1 + 40) ≤ 6 * 41 := Nat.mul_le_mul (by omega) (by omega)
    omega
end Kp
set_option Elab.async false
set_option linter.all false
set_option maxRecDepth 100000
set_option maxHeartbeats 4000000
namespace Kp
open PySem PySem.Spec L2 Ip
variable {fo : Bool} {S0 S : Store} {F : Fl → Store → Prop} {Q : PV → Store → Prop} {B : Bd} {k s : Nat} {v : PV} {d : PyData}
theorem W_par2 {i j : Nat} {me : MA} {σ : PEnv} : W (sPar [i, j] me σ S) F = W (me σ S) fun ps S1 => ∃ a b, ps = [a, b] ∧ F (.nx ((σ.set i (some a)).set j (some b))) S1 := by
  unfold sPar
  rw [W_m2]
  congr 1
  funext ps S1
  refine propext ⟨fun ⟨f, S', e, q⟩ => ?_, fun ⟨a, b, e, q⟩ => ?_⟩
  · split at e
    · rename_i hl
      match ps, hl with
      | [a, b], _ =>
        cases e
        exact ⟨a, b, rfl, q⟩
    · cases e
  · subst e
    exact ⟨_, _, rfl, q⟩
theorem whole_ok (hB : B.Ok) (s : Nat) : LotOk (B.sz s) (List.range (B.sz s)) :=
  ⟨fun h => by
    have := Bd.sz1 hB s
    have := congrArg List.length h
    simp at this
    omega, List.pairwise_lt_range, fun x hx => List.mem_range.mp hx⟩
theorem near_whole (hB : B.Ok) (hs : s = 0 ∨ s = 1) : (B.near s (List.range (B.sz s))).length = B.sz (1 - s) := by
  have e : B.near s (List.range (B.sz s)) = List.range (B.sz (1 - s)) := by
    unfold Bd.near
    refine List.filter_eq_self.mpr fun b hb => ?_
    have hb := List.mem_range.mp hb
    rw [List.any_eq_true]
    rcases hs with rfl | rfl
    · obtain ⟨a, ha, hf⟩ := hB.cols b hb
      exact ⟨a, List.mem_range.mpr ha, hf⟩
    · obtain ⟨a, ha, hf⟩ := hB.rows b hb
      exact ⟨a, List.mem_range.mpr ha, hf⟩
  rw [e, List.length_range]
theorem quo_items {a b : Nat} {A : Store} : itemsOf (quo a b) A = some [.int ((a / Nat.gcd a b : Nat) : Int), .int ((b / Nat.gcd a b : Nat) : Int)] := rfl
theorem one_turn {ns : List Int} {i : Nat} {x2 x3 x4 x5 x6 x7 x8 x9 : Option PV} (hn : ns.length ≤ 63) (hi : i < 6)
    (q : ∀ y2 y3 y4 y5 y6 y7 y8 y9 S', F (.nx [some (.frl (ns.map .int)), some (.int i), y2, y3, y4, y5, y6, y7, y8, y9]) S') :
    W (sSeq (sAsg (mFn (m__law_box fo) (aCons (mVar 0) (aCons (mVar 1) aNil))) (gN 2))
    (sSeq (sAsg (mFn (m__law_bond fo) (aCons (mVar 2) aNil)) (gN 3))
    (sSeq (sAsg (mFn (m__law_listed fo) (aCons (mVar 2) (aCons (mVar 3) aNil))) (gN 4))
    (sSeq (sAsg (mCall vRepr (aCons (mVar 4) aNil)) (gN 5))
    (sSeq (sFor (iRange (aCons (mCon (.int 2)) aNil)) (gN 6) (sIf (tNotM (mTest (mFn (m__law_lots_right fo) (aCons (mVar 2) (aCons (mVar 3) (aCons (mVar 4) (aCons (mVar 6) aNil))))))) (sRet (mCon (.bl false))) sSkip))
    (sSeq (sAsg (mCall vRepr (aCons (mFn (m__law_pieces fo) (aCons (mVar 3) aNil)) aNil)) (gN 7))
    (sSeq (sIf (tOrM (mTest (mOp (vEqT true) (mCall vRepr (aCons (mFn (m_pieces fo) (aCons (mVar 4) aNil)) aNil)) (mVar 7))) (tOrM (mTest (mOp (vEqT true) (mCall vRepr (aCons (mFnK (m_pieces fo) [0] aNil (aCons (mVar 3) aNil)) aNil)) (mVar 7))) (mTest (mOp (vEqT true) (mCall vRepr (aCons (mVar 4) aNil)) (mVar 5))))) (sRet (mCon (.bl false))) sSkip)
    (sSeq (sPar [8, 9] (aCons (mFn (m_quotient fo) (aCons (mVar 3) (aCons (mCon (.int 0)) (aCons (mRgT (aCons (mOp vIdx (mVar 3) (mCon (.int 0))) aNil)) aNil)))) (aCons (mFnK (m_quotient fo) [2, 1, 0] aNil (aCons (mRgT (aCons (mOp vIdx (mVar 3) (mCon (.int 1))) aNil)) (aCons (mCon (.int 1)) (aCons (mVar 3) aNil)))) aNil)))
    (sIf (mTest (mOp (vEq true) (mOp vMul (mOp vIdx (mVar 8) (mCon (.int 0))) (mOp vIdx (mVar 9) (mCon (.int 0)))) (mOp vMul (mOp vIdx (mVar 8) (mCon (.int 1))) (mOp vIdx (mVar 9) (mCon (.int 1)))))) (sRet (mCon (.bl false))) sSkip))))))))
    [some (.frl (ns.map .int)), some (.int i), x2, x3, x4, x5, x6, x7, x8, x9] S) F := by
  simp only [W_def, W_seq, W_if, W_ite, W_test, W_op, W_var, W_con, W_set, W_put, W_ret, W_expr, W_call, W_fn, W_cons, W_nil, W_skip, W_tup, W_lst, List.set_cons_zero, List.set_cons_succ, List.getElem?_cons_zero, List.getElem?_cons_succ, Option.some.injEq, exists_eq_left', exists_eq_left, W_idx, W_gt, W_lt, W_ge, W_le, W_int, W_abs, W_mod, W_div, W_mul, W_pow, W_add, W_sub, W_eqI, Bool.false_xor, Bool.true_xor, PV.bl.injEq, PV.int.injEq, Prod.mk.injEq, List.length_cons, List.length_nil, Nat.zero_add, Nat.reduceAdd, decide_eq_true_eq]
  refine box_spec (by omega) (by omega) (by omega) fun g r hg hr1 hr2 => ?_
  have bx : Box (S ++ [Ob.lst [.int g, .int r]]) S.length := ⟨⟨g, r, by simp, hg, hr1, hr2⟩⟩
  refine bond_spec bx fun B S3 hB b3 f3 => ?_
  refine listed_spec b3 hB fun v d S4 hd hb b4 f4 => ?_
  rw [W_repr hd.real (bd_repr hB hb), W_for]
  refine W_range1 ?_
  simp only [W_def, W_seq, W_if, W_ite, W_test, W_op, W_var, W_con, W_set, W_put, W_ret, W_expr, W_call, W_fn, W_cons, W_nil, W_skip, W_tup, W_lst, List.set_cons_zero, List.set_cons_succ, List.getElem?_cons_zero, List.getElem?_cons_succ, Option.some.injEq, exists_eq_left', exists_eq_left, W_idx, W_gt, W_lt, W_ge, W_le, W_int, W_abs, W_mod, W_div, W_mul, W_pow, W_add, W_sub, W_eqI, Bool.false_xor, Bool.true_xor, PV.bl.injEq, PV.int.injEq, Prod.mk.injEq, List.length_cons, List.length_nil, Nat.zero_add, Nat.reduceAdd, decide_eq_true_eq]
  refine ⟨2, rfl, by decide, ?_⟩
  refine W_forM (xs := []) (fun ys σ Sx => ∃ (j : Nat) (y6 : Option PV), j ≤ 2 ∧ ys = rangeP (j : Int) (2 - j) ∧ σ = [some (.frl (ns.map .int)), some (.int i), some (.ref S.length), some B.v, some v, some (.str d.shown), y6, x7, x8, x9] ∧ Box Sx S.length ∧ Dk 16 S.length Sx v d) (fun _ _ _ _ => rfl) (fun x ys σ Sx h => ?_) (fun σ Sx h => ?_) _ _ _
    ⟨0, x6, by decide, rfl, rfl, b4, hd⟩
  · obtain ⟨j, y6, hj, hx, rfl, b5, h5⟩ := h
    obtain ⟨g1, rfl, g3⟩ := rest_cons hj hx
    show W (some _) _
    rw [W_some]
    simp only [W_def, W_seq, W_if, W_ite, W_test, W_op, W_var, W_con, W_set, W_put, W_ret, W_expr, W_call, W_fn, W_cons, W_nil, W_skip, W_tup, W_lst, List.set_cons_zero, List.set_cons_succ, List.getElem?_cons_zero, List.getElem?_cons_succ, Option.some.injEq, exists_eq_left', exists_eq_left, W_idx, W_gt, W_lt, W_ge, W_le, W_int, W_abs, W_mod, W_div, W_mul, W_pow, W_add, W_sub, W_eqI, Bool.false_xor, Bool.true_xor, PV.bl.injEq, PV.int.injEq, Prod.mk.injEq, List.length_cons, List.length_nil, Nat.zero_add, Nat.reduceAdd, decide_eq_true_eq, W_notM]
    refine W_lots_right b5 hB (by omega) h5 hb fun S6 b6 f6 => ?_
    refine ⟨true, rfl, ?_⟩
    rw [if_neg (by decide)]
    exact ⟨j + 1, some (.int j), g1, g3, rfl, b6, Dk.fr h5 f6⟩
  · obtain ⟨j, y6, hj, hx, rfl, b5, h5⟩ := h
    simp only [W_def, W_seq, W_if, W_ite, W_test, W_op, W_var, W_con, W_set, W_put, W_ret, W_expr, W_call, W_fn, W_cons, W_nil, W_skip, W_tup, W_lst, List.set_cons_zero, List.set_cons_succ, List.getElem?_cons_zero, List.getElem?_cons_succ, Option.some.injEq, exists_eq_left', exists_eq_left, W_idx, W_gt, W_lt, W_ge, W_le, W_int, W_abs, W_mod, W_div, W_mul, W_pow, W_add, W_sub, W_eqI, Bool.false_xor, Bool.true_xor, PV.bl.injEq, PV.int.injEq, Prod.mk.injEq, List.length_cons, List.length_nil, Nat.zero_add, Nat.reduceAdd, decide_eq_true_eq]
    refine pieces_law hB fun S6 f6 => ?_
    have h6 := Dk.fr h5 f6.fr1
    rw [pieces_repr hB]
    simp only [W_def, W_seq, W_if, W_ite, W_test, W_op, W_var, W_con, W_set, W_put, W_ret, W_expr, W_call, W_fn, W_cons, W_nil, W_skip, W_tup, W_lst, List.set_cons_zero, List.set_cons_succ, List.getElem?_cons_zero, List.getElem?_cons_succ, Option.some.injEq, exists_eq_left', exists_eq_left, W_idx, W_gt, W_lt, W_ge, W_le, W_int, W_abs, W_mod, W_div, W_mul, W_pow, W_add, W_sub, W_eqI, Bool.false_xor, Bool.true_xor, PV.bl.injEq, PV.int.injEq, Prod.mk.injEq, List.length_cons, List.length_nil, Nat.zero_add, Nat.reduceAdd, decide_eq_true_eq, W_orM]
    refine W_pieces hB h6.real hb fun S7 f7 => ?_
    have h7 := Dk.fr h6 f7.fr1
    rw [pieces_repr hB]
    simp only [W_eqT, decide_true, Bool.true_xor, Bool.not_true, PV.bl.injEq, exists_eq_left', Bool.false_eq_true, if_false]
    simp only [W_def, W_seq, W_if, W_ite, W_test, W_op, W_var, W_con, W_set, W_put, W_ret, W_expr, W_call, W_fn, W_cons, W_nil, W_skip, W_tup, W_lst, List.set_cons_zero, List.set_cons_succ, List.getElem?_cons_zero, List.getElem?_cons_succ, Option.some.injEq, exists_eq_left', exists_eq_left, W_idx, W_gt, W_lt, W_ge, W_le, W_int, W_abs, W_mod, W_div, W_mul, W_pow, W_add, W_sub, W_eqI, Bool.false_xor, Bool.true_xor, PV.bl.injEq, PV.int.injEq, Prod.mk.injEq, List.length_cons, List.length_nil, Nat.zero_add, Nat.reduceAdd, decide_eq_true_eq, W_fnK]
    refine W_pieces (v := B.v) hB canon_D canon_B fun S8 f8 => ?_
    have h8 := Dk.fr h7 f8.fr1
    rw [pieces_repr hB]
    simp only [W_eqT, decide_true, Bool.true_xor, Bool.not_true, PV.bl.injEq, exists_eq_left', Bool.false_eq_true, if_false]
    rw [W_repr h8.real (bd_repr hB hb)]
    simp only [W_eqT, decide_true, Bool.true_xor, Bool.not_true, PV.bl.injEq, exists_eq_left', Bool.false_eq_true, if_false]
    have z6 := hB.m6
    have z6' := hB.n6
    have b1 := hB.m1
    have b1' := hB.n1
    have t0 : ∀ a b c : PV, atI [a, b, c] 0 = some a := fun _ _ _ => rfl
    have t1 : ∀ a b c : PV, atI [a, b, c] 1 = some b := fun _ _ _ => rfl
    rw [W_par2]
    simp only [W_def, W_seq, W_if, W_ite, W_test, W_op, W_var, W_con, W_set, W_put, W_ret, W_expr, W_call, W_fn, W_cons, W_nil, W_skip, W_tup, W_lst, List.set_cons_zero, List.set_cons_succ, List.getElem?_cons_zero, List.getElem?_cons_succ, Option.some.injEq, exists_eq_left', exists_eq_left, W_idx, W_gt, W_lt, W_ge, W_le, W_int, W_abs, W_mod, W_div, W_mul, W_pow, W_add, W_sub, W_eqI, Bool.false_xor, Bool.true_xor, PV.bl.injEq, PV.int.injEq, Prod.mk.injEq, List.length_cons, List.length_nil, Nat.zero_add, Nat.reduceAdd, decide_eq_true_eq]
    refine W_rgT (n := B.m) (by omega) ?_
    simp only [W_def, W_seq, W_if, W_ite, W_test, W_op, W_var, W_con, W_set, W_put, W_ret, W_expr, W_call, W_fn, W_cons, W_nil, W_skip, W_tup, W_lst, List.set_cons_zero, List.set_cons_succ, List.getElem?_cons_zero, List.getElem?_cons_succ, Option.some.injEq, exists_eq_left', exists_eq_left, W_idx, W_gt, W_lt, W_ge, W_le, W_int, W_abs, W_mod, W_div, W_mul, W_pow, W_add, W_sub, W_eqI, Bool.false_xor, Bool.true_xor, PV.bl.injEq, PV.int.injEq, Prod.mk.injEq, List.length_cons, List.length_nil, Nat.zero_add, Nat.reduceAdd, decide_eq_true_eq, Bd.items, t0]
    refine ⟨trivial, ?_⟩
    show W (m_quotient fo [B.v, .int ((0 : Nat) : Int), lotv (List.range (B.sz 0))] S8) _
    refine W_quotient (v := B.v) (s := 0) hB (.inl rfl) canon_D canon_B lot_sq (whole_ok hB 0) fun S9 f9 => ?_
    rw [near_whole hB (.inl rfl), List.length_range]
    simp only [W_def, W_seq, W_if, W_ite, W_test, W_op, W_var, W_con, W_set, W_put, W_ret, W_expr, W_call, W_fn, W_cons, W_nil, W_skip, W_tup, W_lst, List.set_cons_zero, List.set_cons_succ, List.getElem?_cons_zero, List.getElem?_cons_succ, Option.some.injEq, exists_eq_left', exists_eq_left, W_idx, W_gt, W_lt, W_ge, W_le, W_int, W_abs, W_mod, W_div, W_mul, W_pow, W_add, W_sub, W_eqI, Bool.false_xor, Bool.true_xor, PV.bl.injEq, PV.int.injEq, Prod.mk.injEq, List.length_cons, List.length_nil, Nat.zero_add, Nat.reduceAdd, decide_eq_true_eq, W_fnK]
    refine W_rgT (n := B.n) (by omega) ?_
    simp only [W_def, W_seq, W_if, W_ite, W_test, W_op, W_var, W_con, W_set, W_put, W_ret, W_expr, W_call, W_fn, W_cons, W_nil, W_skip, W_tup, W_lst, List.set_cons_zero, List.set_cons_succ, List.getElem?_cons_zero, List.getElem?_cons_succ, Option.some.injEq, exists_eq_left', exists_eq_left, W_idx, W_gt, W_lt, W_ge, W_le, W_int, W_abs, W_mod, W_div, W_mul, W_pow, W_add, W_sub, W_eqI, Bool.false_xor, Bool.true_xor, PV.bl.injEq, PV.int.injEq, Prod.mk.injEq, List.length_cons, List.length_nil, Nat.zero_add, Nat.reduceAdd, decide_eq_true_eq, Bd.items, t1]
    refine ⟨trivial, ?_⟩
    show W (m_quotient fo [B.v, .int ((1 : Nat) : Int), lotv (List.range (B.sz 1))] S9) _
    refine W_quotient (v := B.v) (s := 1) hB (.inr rfl) canon_D canon_B lot_sq (whole_ok hB 1) fun S10 f10 => ?_
    rw [near_whole hB (.inr rfl), List.length_range]
    show ∃ a b, [quo B.m B.n, quo B.n B.m] = [a, b] ∧ _
    refine ⟨_, _, rfl, ?_⟩
    have d1 := Nat.div_le_self B.m (Nat.gcd B.m B.n)
    have d2 := Nat.div_le_self B.n (Nat.gcd B.m B.n)
    rw [show quo B.n B.m = .tup [.int ((B.n / Nat.gcd B.m B.n : Nat) : Int), .int ((B.m / Nat.gcd B.m B.n : Nat) : Int)] by unfold quo; rw [Nat.gcd_comm B.n B.m]]
    generalize hgm : B.m / Nat.gcd B.m B.n = gm at d1
    generalize hgn : B.n / Nat.gcd B.m B.n = gn at d2
    have iq : ∀ (a b : Nat) (A : Store), itemsOf (.tup [.int (a : Int), .int (b : Int)]) A = some [PV.int a, .int b] := fun _ _ _ => rfl
    have p0 : ∀ a b : PV, atI [a, b] 0 = some a := fun _ _ => rfl
    have p1 : ∀ a b : PV, atI [a, b] 1 = some b := fun _ _ => rfl
    have qe : quo B.m B.n = .tup [.int (gm : Int), .int (gn : Int)] := by unfold quo; rw [hgm, hgn]
    rw [qe]
    simp only [W_def, W_seq, W_if, W_ite, W_test, W_op, W_var, W_con, W_set, W_put, W_ret, W_expr, W_call, W_fn, W_cons, W_nil, W_skip, W_tup, W_lst, List.set_cons_zero, List.set_cons_succ, List.getElem?_cons_zero, List.getElem?_cons_succ, Option.some.injEq, exists_eq_left', exists_eq_left, W_idx, W_gt, W_lt, W_ge, W_le, W_int, W_abs, W_mod, W_div, W_mul, W_pow, W_add, W_sub, W_eqI, Bool.false_xor, Bool.true_xor, PV.bl.injEq, PV.int.injEq, Prod.mk.injEq, List.length_cons, List.length_nil, Nat.zero_add, Nat.reduceAdd, decide_eq_true_eq, iq, p0, p1]
    refine ⟨.inl ⟨by omega, by omega⟩, .inl ⟨by omega, by omega⟩, ?_⟩
    rw [if_neg (by
      have : ((gm : Int) * (gn : Int)) = ((gn : Int) * (gm : Int)) := Int.mul_comm _ _
      simp [this])]
    exact q _ _ _ _ _ _ _ _ _
theorem W_max2' {i j : Int} : W (vMax2 [.int i, .int j] S) Q = Q (.int (if j > i then j else i)) S := W_some
theorem law_run (ns : List Int) (hn : ns.length ≤ 63) : W (m_law fo [.frl (ns.map .int)] []) fun v _ => v = .bl true := by
  have hi : ∀ A : Store, itemsOf (.frl (ns.map .int)) A = some (ns.map PV.int) := fun _ => rfl
  unfold m_law
  rw [W_def, W_seq, W_for]
  rw [(show startP N_law [.frl (ns.map .int)] = [some (.frl (ns.map .int)), none, none, none, none, none, none, none, none, none] from rfl)]
  refine W_range1 ?_
  simp only [W_def, W_seq, W_if, W_ite, W_test, W_op, W_var, W_con, W_set, W_put, W_ret, W_expr, W_call, W_fn, W_cons, W_nil, W_skip, W_tup, W_lst, List.set_cons_zero, List.set_cons_succ, List.getElem?_cons_zero, List.getElem?_cons_succ, Option.some.injEq, exists_eq_left', exists_eq_left, W_idx, W_gt, W_lt, W_ge, W_le, W_int, W_abs, W_mod, W_div, W_mul, W_pow, W_add, W_sub, W_eqI, Bool.false_xor, Bool.true_xor, PV.bl.injEq, PV.int.injEq, Prod.mk.injEq, List.length_cons, List.length_nil, Nat.zero_add, Nat.reduceAdd, decide_eq_true_eq, W_len (hi _), W_min2, W_max2', List.length_map]
  generalize hc : (if (if (6 : Int) < (ns.length : Int) then (6 : Int) else (ns.length : Int)) > 3 then (if (6 : Int) < (ns.length : Int) then (6 : Int) else (ns.length : Int)) else 3) = c
  have c0 : 0 ≤ c ∧ c ≤ 6 := by
    rw [← hc]
    split <;> split <;> omega
  refine ⟨c, rfl, by omega, ?_⟩
  obtain ⟨m, hm⟩ : ∃ m : Nat, c.toNat = m := ⟨_, rfl⟩
  rw [hm]
  have m6 : m ≤ 6 := by omega
  refine W_forM (xs := []) (fun ys σ Sx => ∃ (i : Nat) (y1 y2 y3 y4 y5 y6 y7 y8 y9 : Option PV), i ≤ m ∧ ys = rangeP (i : Int) (m - i) ∧ σ = [some (.frl (ns.map .int)), y1, y2, y3, y4, y5, y6, y7, y8, y9]) (fun _ _ _ _ => rfl) (fun x ys σ Sx h => ?_) (fun σ Sx h => ?_) _ _ _
    ⟨0, none, none, none, none, none, none, none, none, none, by omega, by simp, rfl⟩
  · obtain ⟨i, y1, y2, y3, y4, y5, y6, y7, y8, y9, hi, hx, rfl⟩ := h
    obtain ⟨g1, rfl, g3⟩ := rest_cons hi hx
    show W (some _) _
    rw [W_some]
    refine one_turn hn (by omega) fun z2 z3 z4 z5 z6 z7 z8 z9 S' => ?_
    exact ⟨i + 1, _, _, _, _, _, _, _, _, _, g1, g3, rfl⟩
  · obtain ⟨i, y1, y2, y3, y4, y5, y6, y7, y8, y9, hi, hx, rfl⟩ := h
    simp only [W_def, W_seq, W_if, W_ite, W_test, W_op, W_var, W_con, W_set, W_put, W_ret, W_expr, W_call, W_fn, W_cons, W_nil, W_skip, W_tup, W_lst, List.set_cons_zero, List.set_cons_succ, List.getElem?_cons_zero, List.getElem?_cons_succ, Option.some.injEq, exists_eq_left', exists_eq_left, W_idx, W_gt, W_lt, W_ge, W_le, W_int, W_abs, W_mod, W_div, W_mul, W_pow, W_add, W_sub, W_eqI, Bool.false_xor, Bool.true_xor, PV.bl.injEq, PV.int.injEq, Prod.mk.injEq, List.length_cons, List.length_nil, Nat.zero_add, Nat.reduceAdd, decide_eq_true_eq]
theorem law_true (w : World) (ns : List Int) (hn : ns.length ≤ 63) : ∃ S', m_law (w.params.followText "set-order") [.frl (ns.map .int)] [] = some (.bl true, S') := by
  obtain ⟨v, S', h, e⟩ := law_run (fo := w.params.followText "set-order") ns hn
  rw [e] at h
  exact ⟨S', h⟩
end Kp
set_option Elab.async false
set_option linter.all false
set_option maxRecDepth 100000
set_option maxHeartbeats 0
/-! The head: what the top leaves. -/
namespace Kp
open PySem PySem.Spec PyProof.Rows L2 Ip
def dd__law_take : He.DefD := ⟨("_law_take", none), "_law_take", "_law_take", defArgs s__law_take, defBody s__law_take, defScope s__law_take, [], []⟩
def dd__law_pick : He.DefD := ⟨("_law_pick", none), "_law_pick", "_law_pick", defArgs s__law_pick, defBody s__law_pick, defScope s__law_pick, [], []⟩
def dd__law_bond : He.DefD := ⟨("_law_bond", none), "_law_bond", "_law_bond", defArgs s__law_bond, defBody s__law_bond, defScope s__law_bond, [], []⟩
def dd__law_box : He.DefD := ⟨("_law_box", none), "_law_box", "_law_box", defArgs s__law_box, defBody s__law_box, defScope s__law_box, [], []⟩
def dd__law_listed : He.DefD := ⟨("_law_listed", none), "_law_listed", "_law_listed", defArgs s__law_listed, defBody s__law_listed, defScope s__law_listed, [], []⟩
def dd__law_fraction : He.DefD := ⟨("_law_fraction", none), "_law_fraction", "_law_fraction", defArgs s__law_fraction, defBody s__law_fraction, defScope s__law_fraction, [], []⟩
def dd__law_lots : He.DefD := ⟨("_law_lots", none), "_law_lots", "_law_lots", defArgs s__law_lots, defBody s__law_lots, defScope s__law_lots, [], []⟩
def dd__law_table : He.DefD := ⟨("_law_table", none), "_law_table", "_law_table", defArgs s__law_table, defBody s__law_table, defScope s__law_table, [], []⟩
def dd_is_below : He.DefD := ⟨("is_below", none), "is_below", "is_below", defArgs s_is_below, defBody s_is_below, defScope s_is_below, [], []⟩
def dd_is_row : He.DefD := ⟨("is_row", none), "is_row", "is_row", defArgs s_is_row, defBody s_is_row, defScope s_is_row, [], []⟩
def dd_is_pair_below : He.DefD := ⟨("is_pair_below", none), "is_pair_below", "is_pair_below", defArgs s_is_pair_below, defBody s_is_pair_below, defScope s_is_pair_below, [], []⟩
def dd_check_pairs : He.DefD := ⟨("check_pairs", none), "check_pairs", "check_pairs", defArgs s_check_pairs, defBody s_check_pairs, defScope s_check_pairs, [], []⟩
def dd_is_sequence : He.DefD := ⟨("is_sequence", none), "is_sequence", "is_sequence", defArgs s_is_sequence, defBody s_is_sequence, defScope s_is_sequence, [], []⟩
def dd_is_within : He.DefD := ⟨("is_within", none), "is_within", "is_within", defArgs s_is_within, defBody s_is_within, defScope s_is_within, [], []⟩
def dd_check_bond : He.DefD := ⟨("check_bond", none), "check_bond", "check_bond", defArgs s_check_bond, defBody s_check_bond, defScope s_check_bond, [], []⟩
def dd_is_side : He.DefD := ⟨("is_side", none), "is_side", "is_side", defArgs s_is_side, defBody s_is_side, defScope s_is_side, [], []⟩
def dd_check_side : He.DefD := ⟨("check_side", none), "check_side", "check_side", defArgs s_check_side, defBody s_check_side, defScope s_check_side, [], []⟩
def dd_partners_of : He.DefD := ⟨("partners_of", none), "partners_of", "partners_of", defArgs s_partners_of, defBody s_partners_of, defScope s_partners_of, [], []⟩
def dd_degrees_of : He.DefD := ⟨("degrees_of", none), "degrees_of", "degrees_of", defArgs s_degrees_of, defBody s_degrees_of, defScope s_degrees_of, [], []⟩
def dd_degrees : He.DefD := ⟨("degrees", none), "degrees", "degrees", defArgs s_degrees, defBody s_degrees, defScope s_degrees, [], []⟩
def dd_are_below : He.DefD := ⟨("are_below", none), "are_below", "are_below", defArgs s_are_below, defBody s_are_below, defScope s_are_below, [], []⟩
def dd_is_lot : He.DefD := ⟨("is_lot", none), "is_lot", "is_lot", defArgs s_is_lot, defBody s_is_lot, defScope s_is_lot, [], []⟩
def dd_size_of : He.DefD := ⟨("size_of", none), "size_of", "size_of", defArgs s_size_of, defBody s_size_of, defScope s_size_of, [], []⟩
def dd_check_lot : He.DefD := ⟨("check_lot", none), "check_lot", "check_lot", defArgs s_check_lot, defBody s_check_lot, defScope s_check_lot, [], []⟩
def dd_only_of : He.DefD := ⟨("only_of", none), "only_of", "only_of", defArgs s_only_of, defBody s_only_of, defScope s_only_of, [], []⟩
def dd_only : He.DefD := ⟨("only", none), "only", "only", defArgs s_only, defBody s_only, defScope s_only, [], []⟩
def dd_partners : He.DefD := ⟨("partners", none), "partners", "partners", defArgs s_partners, defBody s_partners, defScope s_partners, [], []⟩
def dd_lowest_terms : He.DefD := ⟨("lowest_terms", none), "lowest_terms", "lowest_terms", defArgs s_lowest_terms, defBody s_lowest_terms, defScope s_lowest_terms, [], []⟩
def dd_quotient_of : He.DefD := ⟨("quotient_of", none), "quotient_of", "quotient_of", defArgs s_quotient_of, defBody s_quotient_of, defScope s_quotient_of, [], []⟩
def dd_quotient : He.DefD := ⟨("quotient", none), "quotient", "quotient", defArgs s_quotient, defBody s_quotient, defScope s_quotient, [], []⟩
def dd__law_lots_right : He.DefD := ⟨("_law_lots_right", none), "_law_lots_right", "_law_lots_right", defArgs s__law_lots_right, defBody s__law_lots_right, defScope s__law_lots_right, [], []⟩
def dd__law_pieces : He.DefD := ⟨("_law_pieces", none), "_law_pieces", "_law_pieces", defArgs s__law_pieces, defBody s__law_pieces, defScope s__law_pieces, [], []⟩
def dd_component : He.DefD := ⟨("component", none), "component", "component", defArgs s_component, defBody s_component, defScope s_component, [], []⟩
def dd_pieces_of : He.DefD := ⟨("pieces_of", none), "pieces_of", "pieces_of", defArgs s_pieces_of, defBody s_pieces_of, defScope s_pieces_of, [], []⟩
def dd_pieces : He.DefD := ⟨("pieces", none), "pieces", "pieces", defArgs s_pieces, defBody s_pieces, defScope s_pieces, [], []⟩
def dd_law : He.DefD := ⟨("law", none), "law", "law", defArgs s_law, defBody s_law, defScope s_law, [], []⟩
def fnL : List He.DefD := ([dd__law_take, dd__law_pick, dd__law_bond, dd__law_box, dd__law_listed, dd__law_fraction, dd__law_lots, dd__law_table, dd_is_below, dd_is_row, dd_is_pair_below, dd_check_pairs, dd_is_sequence, dd_is_within, dd_check_bond, dd_is_side, dd_check_side, dd_partners_of, dd_degrees_of, dd_degrees] : List He.DefD) ++ ([dd_are_below, dd_is_lot, dd_size_of, dd_check_lot, dd_only_of, dd_only, dd_partners, dd_lowest_terms, dd_quotient_of, dd_quotient, dd__law_lots_right, dd__law_pieces, dd_component, dd_pieces_of, dd_pieces, dd_law] : List He.DefD)
def faL : List He.Fa := ([.glo "_law_take", .glo "_law_pick", .glo "_law_bond", .glo "_law_box", .glo "_law_listed", .glo "_law_fraction", .glo "_law_lots", .glo "_law_table", .glo "is_below", .glo "is_row", .glo "is_pair_below", .glo "check_pairs", .glo "is_sequence", .glo "is_within", .glo "check_bond", .glo "is_side", .glo "check_side", .glo "partners_of", .glo "degrees_of", .glo "degrees"] : List He.Fa) ++ ([.glo "are_below", .glo "is_lot", .glo "size_of", .glo "check_lot", .glo "only_of", .glo "only", .glo "partners", .glo "lowest_terms", .glo "quotient_of", .glo "quotient", .glo "_law_lots_right", .glo "_law_pieces", .glo "component", .glo "pieces_of", .glo "pieces", .glo "law", .free "abs", .free "all", .free "any", .free "bool"] : List He.Fa) ++ ([.free "enumerate", .free "int", .free "isinstance", .free "len", .free "list", .free "max", .free "min", .free "range", .free "repr", .free "sorted", .free "sum", .free "tuple", .int "MOST_FILLINGS" 6] : List He.Fa)
def exL (K : PySem.W.Frag) : Bool := He.eqO (PySem.W.nsIn K mainGlobals "gcd") (some (some (.builtin "math.gcd")))
abbrev R : PySem.W.OpenRow := PySem.W.OpenLaw.row PySem.Challenge.rw_setitback_k04_whole_lots_partners_pieces
abbrev hk : PySem.W.Hook := hookE 4 faL fnL exL
def ob (s : PySem.W.SharedT) : He.AlD × Bool := obsE 4 faL fnL exL (HandSHeadRun.getT s)
theorem ob_eq (s : PySem.W.SharedT) : ob s = hk.obs s.abs := obsE_eq (HandSHeadRun.getT_eq s)
def looseL : List Str := (["is_within", "is_below", "is_sequence", "is_row", "is_pair_below", "are_below", "is_side", "is_lot", "OwnError", "BadBond", "Refused", "MOST_FILLINGS", "lowest_terms", "partners_of", "only_of", "quotient_of", "degrees_of", "component", "pieces_of", "check_pairs", "check_bond", "check_side", "size_of", "check_lot", "partners", "only", "degrees", "quotient", "pieces", "_law_box"] : List Str) ++ (["_law_take", "_law_pick", "_law_bond", "_law_listed", "_law_table", "_law_lots", "_law_fraction", "_law_pieces", "_law_lots_right"] : List Str)
theorem run (w : World) : HandSHeadRun.RunEqI R (PySem.W.view R.prog [0, 46]) hk ob 4000 looseL w := by
  unfold HandSHeadRun.RunEqI; kernel_rfl

theorem cc_of {K : PySem.W.Frag} {h : Heap} {mg : Str → Option Value} (X : K.In h) (G : h.Ns mainGlobals mg) (c : He.SaysD faL fnL K) (e : exL K = true) : Cc K mg where
  d__law_take := ⟨(c.def_ 0 (d := dd__law_take) rfl).imp fun _ F => fun_of F, He.glo_ok X G (c.fact 0 (f := .glo "_law_take") rfl)⟩
  d__law_pick := ⟨(c.def_ 1 (d := dd__law_pick) rfl).imp fun _ F => fun_of F, He.glo_ok X G (c.fact 1 (f := .glo "_law_pick") rfl)⟩
  d__law_bond := ⟨(c.def_ 2 (d := dd__law_bond) rfl).imp fun _ F => fun_of F, He.glo_ok X G (c.fact 2 (f := .glo "_law_bond") rfl)⟩
  d__law_box := ⟨(c.def_ 3 (d := dd__law_box) rfl).imp fun _ F => fun_of F, He.glo_ok X G (c.fact 3 (f := .glo "_law_box") rfl)⟩
  d__law_listed := ⟨(c.def_ 4 (d := dd__law_listed) rfl).imp fun _ F => fun_of F, He.glo_ok X G (c.fact 4 (f := .glo "_law_listed") rfl)⟩
  d__law_fraction := ⟨(c.def_ 5 (d := dd__law_fraction) rfl).imp fun _ F => fun_of F, He.glo_ok X G (c.fact 5 (f := .glo "_law_fraction") rfl)⟩
  d__law_lots := ⟨(c.def_ 6 (d := dd__law_lots) rfl).imp fun _ F => fun_of F, He.glo_ok X G (c.fact 6 (f := .glo "_law_lots") rfl)⟩
  d__law_table := ⟨(c.def_ 7 (d := dd__law_table) rfl).imp fun _ F => fun_of F, He.glo_ok X G (c.fact 7 (f := .glo "_law_table") rfl)⟩
  d_is_below := ⟨(c.def_ 8 (d := dd_is_below) rfl).imp fun _ F => fun_of F, He.glo_ok X G (c.fact 8 (f := .glo "is_below") rfl)⟩
  d_is_row := ⟨(c.def_ 9 (d := dd_is_row) rfl).imp fun _ F => fun_of F, He.glo_ok X G (c.fact 9 (f := .glo "is_row") rfl)⟩
  d_is_pair_below := ⟨(c.def_ 10 (d := dd_is_pair_below) rfl).imp fun _ F => fun_of F, He.glo_ok X G (c.fact 10 (f := .glo "is_pair_below") rfl)⟩
  d_check_pairs := ⟨(c.def_ 11 (d := dd_check_pairs) rfl).imp fun _ F => fun_of F, He.glo_ok X G (c.fact 11 (f := .glo "check_pairs") rfl)⟩
  d_is_sequence := ⟨(c.def_ 12 (d := dd_is_sequence) rfl).imp fun _ F => fun_of F, He.glo_ok X G (c.fact 12 (f := .glo "is_sequence") rfl)⟩
  d_is_within := ⟨(c.def_ 13 (d := dd_is_within) rfl).imp fun _ F => fun_of F, He.glo_ok X G (c.fact 13 (f := .glo "is_within") rfl)⟩
  d_check_bond := ⟨(c.def_ 14 (d := dd_check_bond) rfl).imp fun _ F => fun_of F, He.glo_ok X G (c.fact 14 (f := .glo "check_bond") rfl)⟩
  d_is_side := ⟨(c.def_ 15 (d := dd_is_side) rfl).imp fun _ F => fun_of F, He.glo_ok X G (c.fact 15 (f := .glo "is_side") rfl)⟩
  d_check_side := ⟨(c.def_ 16 (d := dd_check_side) rfl).imp fun _ F => fun_of F, He.glo_ok X G (c.fact 16 (f := .glo "check_side") rfl)⟩
  d_partners_of := ⟨(c.def_ 17 (d := dd_partners_of) rfl).imp fun _ F => fun_of F, He.glo_ok X G (c.fact 17 (f := .glo "partners_of") rfl)⟩
  d_degrees_of := ⟨(c.def_ 18 (d := dd_degrees_of) rfl).imp fun _ F => fun_of F, He.glo_ok X G (c.fact 18 (f := .glo "degrees_of") rfl)⟩
  d_degrees := ⟨(c.def_ 19 (d := dd_degrees) rfl).imp fun _ F => fun_of F, He.glo_ok X G (c.fact 19 (f := .glo "degrees") rfl)⟩
  d_are_below := ⟨(c.def_ 20 (d := dd_are_below) rfl).imp fun _ F => fun_of F, He.glo_ok X G (c.fact 20 (f := .glo "are_below") rfl)⟩
  d_is_lot := ⟨(c.def_ 21 (d := dd_is_lot) rfl).imp fun _ F => fun_of F, He.glo_ok X G (c.fact 21 (f := .glo "is_lot") rfl)⟩
  d_size_of := ⟨(c.def_ 22 (d := dd_size_of) rfl).imp fun _ F => fun_of F, He.glo_ok X G (c.fact 22 (f := .glo "size_of") rfl)⟩
  d_check_lot := ⟨(c.def_ 23 (d := dd_check_lot) rfl).imp fun _ F => fun_of F, He.glo_ok X G (c.fact 23 (f := .glo "check_lot") rfl)⟩
  d_only_of := ⟨(c.def_ 24 (d := dd_only_of) rfl).imp fun _ F => fun_of F, He.glo_ok X G (c.fact 24 (f := .glo "only_of") rfl)⟩
  d_only := ⟨(c.def_ 25 (d := dd_only) rfl).imp fun _ F => fun_of F, He.glo_ok X G (c.fact 25 (f := .glo "only") rfl)⟩
  d_partners := ⟨(c.def_ 26 (d := dd_partners) rfl).imp fun _ F => fun_of F, He.glo_ok X G (c.fact 26 (f := .glo "partners") rfl)⟩
  d_lowest_terms := ⟨(c.def_ 27 (d := dd_lowest_terms) rfl).imp fun _ F => fun_of F, He.glo_ok X G (c.fact 27 (f := .glo "lowest_terms") rfl)⟩
  d_quotient_of := ⟨(c.def_ 28 (d := dd_quotient_of) rfl).imp fun _ F => fun_of F, He.glo_ok X G (c.fact 28 (f := .glo "quotient_of") rfl)⟩
  d_quotient := ⟨(c.def_ 29 (d := dd_quotient) rfl).imp fun _ F => fun_of F, He.glo_ok X G (c.fact 29 (f := .glo "quotient") rfl)⟩
  d__law_lots_right := ⟨(c.def_ 30 (d := dd__law_lots_right) rfl).imp fun _ F => fun_of F, He.glo_ok X G (c.fact 30 (f := .glo "_law_lots_right") rfl)⟩
  d__law_pieces := ⟨(c.def_ 31 (d := dd__law_pieces) rfl).imp fun _ F => fun_of F, He.glo_ok X G (c.fact 31 (f := .glo "_law_pieces") rfl)⟩
  d_component := ⟨(c.def_ 32 (d := dd_component) rfl).imp fun _ F => fun_of F, He.glo_ok X G (c.fact 32 (f := .glo "component") rfl)⟩
  d_pieces_of := ⟨(c.def_ 33 (d := dd_pieces_of) rfl).imp fun _ F => fun_of F, He.glo_ok X G (c.fact 33 (f := .glo "pieces_of") rfl)⟩
  d_pieces := ⟨(c.def_ 34 (d := dd_pieces) rfl).imp fun _ F => fun_of F, He.glo_ok X G (c.fact 34 (f := .glo "pieces") rfl)⟩
  d_law := ⟨(c.def_ 35 (d := dd_law) rfl).imp fun _ F => fun_of F, He.glo_ok X G (c.fact 35 (f := .glo "law") rfl)⟩
  fr := fun x hx => by
    simp only [List.mem_cons, List.not_mem_nil, or_false] at hx
    rcases hx with rfl | rfl | rfl | rfl | rfl | rfl | rfl | rfl | rfl | rfl | rfl | rfl | rfl | rfl | rfl | rfl
    · exact He.free_ok X G (c.fact 36 (f := .free "abs") rfl)
    · exact He.free_ok X G (c.fact 37 (f := .free "all") rfl)
    · exact He.free_ok X G (c.fact 38 (f := .free "any") rfl)
    · exact He.free_ok X G (c.fact 39 (f := .free "bool") rfl)
    · exact He.free_ok X G (c.fact 40 (f := .free "enumerate") rfl)
    · exact He.free_ok X G (c.fact 41 (f := .free "int") rfl)
    · exact He.free_ok X G (c.fact 42 (f := .free "isinstance") rfl)
    · exact He.free_ok X G (c.fact 43 (f := .free "len") rfl)
    · exact He.free_ok X G (c.fact 44 (f := .free "list") rfl)
    · exact He.free_ok X G (c.fact 45 (f := .free "max") rfl)
    · exact He.free_ok X G (c.fact 46 (f := .free "min") rfl)
    · exact He.free_ok X G (c.fact 47 (f := .free "range") rfl)
    · exact He.free_ok X G (c.fact 48 (f := .free "repr") rfl)
    · exact He.free_ok X G (c.fact 49 (f := .free "sorted") rfl)
    · exact He.free_ok X G (c.fact 50 (f := .free "sum") rfl)
    · exact He.free_ok X G (c.fact 51 (f := .free "tuple") rfl)
  gi_MOST_FILLINGS := He.int_ok X G (c.fact 52 (f := .int "MOST_FILLINGS" 6) rfl)
  gcd := PySem.W.mg_of X G (He.eqO_ok e)
end Kp
open PySem PySem.W PySem.Calls PyProof.Rows
set_option maxHeartbeats 0 in
theorem PySem.Challenge.cw_setitback_k04_whole_lots_partners_pieces_holds : PySem.Challenge.rw_setitback_k04_whole_lots_partners_pieces.Holds := by
  w_on; o_law
  refine HandSHeadRun.head_imp (r := OpenLaw.row PySem.Challenge.rw_setitback_k04_whole_lots_partners_pieces) (q := view (OpenLaw.row PySem.Challenge.rw_setitback_k04_whole_lots_partners_pieces).prog [0, 46]) (H := Kp.hk) (ob := Kp.ob) (M := 4000) (loose := Kp.looseL) (d := HandSHeadRun.topDef (OpenLaw.row PySem.Challenge.rw_setitback_k04_whole_lots_partners_pieces).prog 46) (kwd := []) Kp.ob_eq
     Kp.run (by kernel_rfl) (by kernel_rfl) (by kernel_rfl) (by rfl) (by first | assumption | decide +kernel) (by decide +kernel) ⟨rfl, rfl, rfl, rfl, rfl, by decide +kernel⟩ ?hw ?hc
  case hw => w_witness2
  case hc =>
    refine Ip.walk_GE (l := PySem.Challenge.rw_setitback_k04_whole_lots_partners_pieces) (n := 63) (k := 12) (x := "script") (m := fun w => Kp.m_law (w.params.followText "set-order")) rfl (by decide) (by kernel_rfl) ⟨by decide, by decide, by decide⟩ ?F Kp.law_true
    intro w mg fa h Y G hmg0
    obtain ⟨K, KX, c, e⟩ := Y
    have hmg : mg ("law" : PySem.Str) = some (.ref fa) := by
      have e : (HandSHeadRun.topDef (OpenLaw.row PySem.Challenge.rw_setitback_k04_whole_lots_partners_pieces).prog 46).name = ("law" : PySem.Str) := by kernel_rfl
      rw [← e]
      exact hmg0
    exact ⟨K, KX, Ip.pm_law (fun base => Kp.p_law (P := (PySem.Challenge.rw_setitback_k04_whole_lots_partners_pieces).prog) (base := base) (Kp.cc_of KX G c e) rfl) (by decide) hmg Kp.ba_law_1⟩
