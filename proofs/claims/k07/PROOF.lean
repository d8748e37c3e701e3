import PyProof.Rows.All
import Wide.All
import OpenK.AllK
import Wide.FinOn
import HandS.ForMost
import HandS.ForExc
import HandS.Walk
import HandS.Zip
import HandS.Iter
import HandS.ExcCtx
import HandS.MakeKwOnly
import HandS.Words
import HandS.IsInst
import HandS.TupAny
import HandS.Text
import HandS.Conv
import HandS.OwnEq
import HandS.Style
import HandS.Flow
import HandS.ExcInit
import HandS.ExcSuper
import KE.KExcSuper
import KE.KTryMore
import HandS.HotCalls
import KE.KExcIs
import OpenK.KOps
import PyProof.ReprReads
import HandS.More
import PyProof.EqKinds
import PyProof.NeKinds
import KE.KEqDict
import HandS.FStr
import PyProof.Conv_bool
import PyProof.SetKind
import PyProof.Rows.SetFrom
import HandS.Set
import HandS.Strs
import HandS.SetFor
import HandS.Star
import HandS.MakeKw
import KE.KExcInit
import KE.RegKIsAll
import KE.RegKSuper
import PySem.Challenge.RW_duetimes_k07_crews_by_deeds
set_option Elab.async false
set_option linter.all false
set_option maxRecDepth 100000
namespace DL
open PySem L2
/-! data: what a value is, apart from where it stands -/
inductive D where
  | v (x : V)
  | tup (ds : List D)
  | lst (ds : List D)
  | frz (xs : List V)
  | obj (C : Addr) (fs : List (Str × D))
  | dK (kvs : List (Key × D))
  | loc (i : Nat)
  | exn (a dd C : Addr) (fs : List (Str × D))
/-- what may be changed, at its place in the store -/
inductive Ob where
  | lst (ds : List D)
  | dK (kvs : List (Key × D))
  | dT (kvs : List (List Key × D))
  | ins (C : Addr) (fs : List (Str × D))
abbrev Store := List (Option Ob)
abbrev Ev := List (Option D)
/-- an exception: its class, its fields -/
structure Exn where
  c : Value
  fs : Option (List (Str × D))
/-- where the store's objects stand; p: what is being made and nobody knows of -/
structure Ow where
  l : List Addr
  p : Addr → Prop
def SLive (own : Ow) (μ : Store) (a : Addr) : Prop := ∃ (i : Nat) (o : Ob), own.l[i]? = some a ∧ μ[i]? = some (some o)
def Live (own : Ow) (μ : Store) (a : Addr) : Prop := SLive own μ a ∨ own.p a
section
variable (K : PySem.W.Frag) (own : Ow) (μ : Store) (H : Hp)
mutual
def Rep : D → V → Prop
  | .v x, y => y = x
  | .tup ds, y => ∃ a xs, y = .ref a ∧ SqT K H a xs ∧ (SqT K (fun _ => none) a xs ∨ ¬ Live own μ a) ∧ Reps ds xs
  | .lst ds, y => ∃ a xs, y = .ref a ∧ H a = some (.lst xs) ∧ ¬ Live own μ a ∧ Reps ds xs
  | .frz zs, y => ∃ a, y = .ref a ∧ SqL K H a zs ∧ (SqL K (fun _ => none) a zs ∨ ¬ Live own μ a)
  | .obj C fs, y => ∃ a dx vs, y = .ref a ∧ H a = some (.ins C dx vs) ∧ ¬ Live own μ a ∧ RepF fs vs
  | .dK kvs, y => ∃ a vs, y = .ref a ∧ H a = some (.dK vs) ∧ ¬ Live own μ a ∧ RepK kvs vs
  | .loc i, y => ∃ a, own.l[i]? = some a ∧ y = .ref a
  | .exn a dd C fs, y => ∃ vs, y = .ref a ∧ H dd = some (.xd vs) ∧ ¬ Live own μ dd ∧ RepF fs vs
def Reps : List D → List V → Prop
  | [], ys => ys = []
  | d :: ds, ys => ∃ y r, ys = y :: r ∧ Rep d y ∧ Reps ds r
def RepF : List (Str × D) → List (Str × V) → Prop
  | [], ys => ys = []
  | (f, d) :: ds, ys => ∃ y r, ys = (f, y) :: r ∧ Rep d y ∧ RepF ds r
def RepK : List (Key × D) → List (Key × V) → Prop
  | [], ys => ys = []
  | (k, d) :: ds, ys => ∃ y r, ys = (k, y) :: r ∧ Rep d y ∧ RepK ds r
end
def RepO : Ob → Addr → Prop
  | .lst ds, a => ∃ xs, H a = some (.lst xs) ∧ Reps K own μ H ds xs
  | .dK kvs, a => ∃ vs, H a = some (.dK vs) ∧ RepK K own μ H kvs vs
  | .dT kvs, a => ∃ vs : List (List Key × V), H a = some (.dT vs) ∧ vs.map (·.1) = kvs.map (·.1) ∧ Reps K own μ H (kvs.map (·.2)) (vs.map (·.2))
  | .ins C fs, a => ∃ dx vs, H a = some (.ins C dx vs) ∧ RepF K own μ H fs vs
end
/-- the state goes on: what was not to be changed stays -/
structure Ext (own : Ow) (μ : Store) (H : Hp) (own' : Ow) (μ' : Store) (H' : Hp) : Prop where
  pp : own'.p = own.p
  pre : ∃ t, own'.l = own.l ++ t
  keep : ∀ a o, H a = some o → ¬ SLive own μ a → H' a = some o
  live : ∀ a, SLive own' μ' a → SLive own μ a ∨ H a = none
theorem Ext.refl {own : Ow} {μ : Store} {H : Hp} : Ext own μ H own μ H := ⟨rfl, ⟨[], by simp⟩, fun _ _ h _ => h, fun _ h => .inl h⟩
theorem Ext.trans {o1 o2 o3 : Ow} {m1 m2 m3 : Store} {H1 H2 H3 : Hp} (a : Ext o1 m1 H1 o2 m2 H2) (b : Ext o2 m2 H2 o3 m3 H3) : Ext o1 m1 H1 o3 m3 H3 := by
  obtain ⟨t1, e1⟩ := a.pre
  obtain ⟨t2, e2⟩ := b.pre
  have key : ∀ x o, H1 x = some o → ¬ SLive o1 m1 x → ¬ SLive o2 m2 x := fun x o h n l => by
    rcases a.live x l with q | q
    · exact n q
    · rw [q] at h; cases h
  refine ⟨b.pp.trans a.pp, ⟨t1 ++ t2, by rw [e2, e1, List.append_assoc]⟩, fun x o h n => b.keep x o (a.keep x o h n) (key x o h n), fun x l => ?_⟩
  rcases b.live x l with q | q
  · exact a.live x q
  · by_cases hl : SLive o1 m1 x
    · exact .inl hl
    · cases e : H1 x with
      | none => exact .inr rfl
      | some o => rw [a.keep x o e hl] at q; cases q
theorem Ext.at {own : Ow} {μ : Store} {H : Hp} {own' : Ow} {μ' : Store} {H' : Hp} (e : Ext own μ H own' μ' H') {i : Nat} {a : Addr} (h : own.l[i]? = some a) : own'.l[i]? = some a := by
  obtain ⟨t, ht⟩ := e.pre
  rw [ht, List.getElem?_append_left (List.getElem?_eq_some_iff.mp h).1]
  exact h
section
variable {K : PySem.W.Frag} {own own' : Ow} {μ μ' : Store} {H H' : Hp}
theorem Ext.nl (e : Ext own μ H own' μ' H') {a : Addr} {o : HO} (h : H a = some o) (n : ¬ Live own μ a) : ¬ Live own' μ' a := fun l => by
  rcases l with l | l
  · rcases e.live a l with q | q
    · exact n (.inl q)
    · rw [q] at h; cases h
  · rw [e.pp] at l
    exact n (.inr l)
theorem Ext.kp (e : Ext own μ H own' μ' H') {a : Addr} {o : HO} (h : H a = some o) (n : ¬ Live own μ a) : H' a = some o := e.keep a o h fun l => n (.inl l)
theorem Ext.sqT (e : Ext own μ H own' μ' H') {a : Addr} {xs : List V} (h : SqT K H a xs) (n : SqT K (fun _ => none) a xs ∨ ¬ Live own μ a) : SqT K H' a xs ∧ (SqT K (fun _ => none) a xs ∨ ¬ Live own' μ' a) := by
  rcases h with (h | ⟨o, h⟩) | h
  · rcases n with n | n
    · rcases n with (n | ⟨o, n⟩) | n
      · cases n
      · cases n
      · exact ⟨.inr n, .inl (.inr n)⟩
    · exact ⟨.inl (.inl (e.kp h n)), .inr (e.nl h n)⟩
  · rcases n with n | n
    · rcases n with (n | ⟨o, n⟩) | n
      · cases n
      · cases n
      · exact ⟨.inr n, .inl (.inr n)⟩
    · exact ⟨.inl (.inr ⟨o, e.kp h n⟩), .inr (e.nl h n)⟩
  · exact ⟨.inr h, .inl (.inr h)⟩
theorem Ext.sqL (e : Ext own μ H own' μ' H') {a : Addr} {xs : List V} (h : SqL K H a xs) (n : SqL K (fun _ => none) a xs ∨ ¬ Live own μ a) : SqL K H' a xs ∧ (SqL K (fun _ => none) a xs ∨ ¬ Live own' μ' a) := by
  rcases h with (h | ⟨o, h⟩) | h
  · rcases n with n | n
    · rcases n with (n | ⟨o, n⟩) | n
      · cases n
      · cases n
      · exact ⟨.inr n, .inl (.inr n)⟩
    · exact ⟨.inl (.inl (e.kp h n)), .inr (e.nl h n)⟩
  · rcases n with n | n
    · rcases n with (n | ⟨o, n⟩) | n
      · cases n
      · cases n
      · exact ⟨.inr n, .inl (.inr n)⟩
    · exact ⟨.inl (.inr ⟨o, e.kp h n⟩), .inr (e.nl h n)⟩
  · exact ⟨.inr h, .inl (.inr h)⟩
/-- what holds of trees from one state to another, by their addresses -/
structure Tr (K : PySem.W.Frag) (own : Ow) (μ : Store) (H : Hp) (own' : Ow) (μ' : Store) (H' : Hp) : Prop where
  kp : ∀ a o, H a = some o → ¬ Live own μ a → H' a = some o ∧ ¬ Live own' μ' a
  at_ : ∀ (i : Nat) a, own.l[i]? = some a → own'.l[i]? = some a
theorem Ext.tr (e : Ext own μ H own' μ' H') : Tr K own μ H own' μ' H' := ⟨fun a o h n => ⟨e.kp h n, e.nl h n⟩, fun i a h => e.at h⟩
theorem Tr.sqT (e : Tr K own μ H own' μ' H') {a : Addr} {xs : List V} (h : SqT K H a xs) (n : SqT K (fun _ => none) a xs ∨ ¬ Live own μ a) : SqT K H' a xs ∧ (SqT K (fun _ => none) a xs ∨ ¬ Live own' μ' a) := by
  have nK : SqT K (fun _ => none) a xs → SqT K H' a xs ∧ (SqT K (fun _ => none) a xs ∨ ¬ Live own' μ' a) := fun n => by
    rcases n with (n | ⟨o, n⟩) | n
    · cases n
    · cases n
    · exact ⟨.inr n, .inl (.inr n)⟩
  rcases n with n | n
  · exact nK n
  · rcases h with (h | ⟨o, h⟩) | h
    · exact ⟨.inl (.inl (e.kp a _ h n).1), .inr (e.kp a _ h n).2⟩
    · exact ⟨.inl (.inr ⟨o, (e.kp a _ h n).1⟩), .inr (e.kp a _ h n).2⟩
    · exact nK (.inr h)
theorem Tr.sqL (e : Tr K own μ H own' μ' H') {a : Addr} {xs : List V} (h : SqL K H a xs) (n : SqL K (fun _ => none) a xs ∨ ¬ Live own μ a) : SqL K H' a xs ∧ (SqL K (fun _ => none) a xs ∨ ¬ Live own' μ' a) := by
  have nK : SqL K (fun _ => none) a xs → SqL K H' a xs ∧ (SqL K (fun _ => none) a xs ∨ ¬ Live own' μ' a) := fun n => by
    rcases n with (n | ⟨o, n⟩) | n
    · cases n
    · cases n
    · exact ⟨.inr n, .inl (.inr n)⟩
  rcases n with n | n
  · exact nK n
  · rcases h with (h | ⟨o, h⟩) | h
    · exact ⟨.inl (.inl (e.kp a _ h n).1), .inr (e.kp a _ h n).2⟩
    · exact ⟨.inl (.inr ⟨o, (e.kp a _ h n).1⟩), .inr (e.kp a _ h n).2⟩
    · exact nK (.inr h)
mutual
theorem Rep.tr (e : Tr K own μ H own' μ' H') : ∀ (d : D) (y : V), Rep K own μ H d y → Rep K own' μ' H' d y
  | .v x, y, h => h
  | .tup ds, y, h => by
    obtain ⟨a, xs, r, h1, h2, h3⟩ := h
    obtain ⟨q1, q2⟩ := e.sqT h1 h2
    exact ⟨a, xs, r, q1, q2, Reps.tr e ds xs h3⟩
  | .lst ds, y, h => by
    obtain ⟨a, xs, r, h1, h2, h3⟩ := h
    exact ⟨a, xs, r, (e.kp _ _ h1 h2).1, (e.kp _ _ h1 h2).2, Reps.tr e ds xs h3⟩
  | .frz zs, y, h => by
    obtain ⟨a, r, h1, h2⟩ := h
    obtain ⟨q1, q2⟩ := e.sqL h1 h2
    exact ⟨a, r, q1, q2⟩
  | .obj C fs, y, h => by
    obtain ⟨a, dx, vs, r, h1, h2, h3⟩ := h
    exact ⟨a, dx, vs, r, (e.kp _ _ h1 h2).1, (e.kp _ _ h1 h2).2, RepF.tr e fs vs h3⟩
  | .dK kvs, y, h => by
    obtain ⟨a, vs, r, h1, h2, h3⟩ := h
    exact ⟨a, vs, r, (e.kp _ _ h1 h2).1, (e.kp _ _ h1 h2).2, RepK.tr e kvs vs h3⟩
  | .loc i, y, h => by
    obtain ⟨a, h1, r⟩ := h
    exact ⟨a, e.at_ _ _ h1, r⟩
  | .exn a dd C fs, y, h => by
    obtain ⟨vs, r, h1, h2, h3⟩ := h
    exact ⟨vs, r, (e.kp _ _ h1 h2).1, (e.kp _ _ h1 h2).2, RepF.tr e fs vs h3⟩
theorem Reps.tr (e : Tr K own μ H own' μ' H') : ∀ (ds : List D) (ys : List V), Reps K own μ H ds ys → Reps K own' μ' H' ds ys
  | [], ys, h => h
  | d :: ds, ys, h => by
    obtain ⟨y, r, e1, h1, h2⟩ := h
    exact ⟨y, r, e1, Rep.tr e d y h1, Reps.tr e ds r h2⟩
theorem RepF.tr (e : Tr K own μ H own' μ' H') : ∀ (ds : List (Str × D)) (ys : List (Str × V)), RepF K own μ H ds ys → RepF K own' μ' H' ds ys
  | [], ys, h => h
  | (f, d) :: ds, ys, h => by
    obtain ⟨y, r, e1, h1, h2⟩ := h
    exact ⟨y, r, e1, Rep.tr e d y h1, RepF.tr e ds r h2⟩
theorem RepK.tr (e : Tr K own μ H own' μ' H') : ∀ (ds : List (Key × D)) (ys : List (Key × V)), RepK K own μ H ds ys → RepK K own' μ' H' ds ys
  | [], ys, h => h
  | (f, d) :: ds, ys, h => by
    obtain ⟨y, r, e1, h1, h2⟩ := h
    exact ⟨y, r, e1, Rep.tr e d y h1, RepK.tr e ds r h2⟩
end
theorem Rep.ext (e : Ext own μ H own' μ' H') (d : D) (y : V) (h : Rep K own μ H d y) : Rep K own' μ' H' d y := Rep.tr e.tr d y h
theorem Reps.ext (e : Ext own μ H own' μ' H') (d : List D) (y : List V) (h : Reps K own μ H d y) : Reps K own' μ' H' d y := Reps.tr e.tr d y h
theorem RepF.ext (e : Ext own μ H own' μ' H') (d : List (Str × D)) (y : List (Str × V)) (h : RepF K own μ H d y) : RepF K own' μ' H' d y := RepF.tr e.tr d y h
theorem RepK.ext (e : Ext own μ H own' μ' H') (d : List (Key × D)) (y : List (Key × V)) (h : RepK K own μ H d y) : RepK K own' μ' H' d y := RepK.tr e.tr d y h
/-- the store's objects stand -/
structure RelM (K : PySem.W.Frag) (own : Ow) (μ : Store) (H : Hp) : Prop where
  nd : own.l.Nodup
  ln : own.l.length = μ.length
  ob : ∀ (i : Nat) (o : Ob) (a : Addr), μ[i]? = some (some o) → own.l[i]? = some a → RepO K own μ H o a
  tr : ∀ a ∈ own.l, ∃ o, H a = some o
  pv : ∀ a, own.p a → a ∉ own.l ∧ ∃ o, H a = some o
/-- the names hold -/
structure RelE (K : PySem.W.Frag) (own : Ow) (μ : Store) (H : Hp) (σ : Ev) (s : L2.St) : Prop where
  ln : σ.length = s.length
  at_ : ∀ (i : Nat) (d : D), σ[i]? = some (some d) → ∃ v, s[i]? = some (some v) ∧ Rep K own μ H d v
theorem RelE.tr {σ : Ev} {s : L2.St} (h : RelE K own μ H σ s) (e : Tr K own μ H own' μ' H') : RelE K own' μ' H' σ s := ⟨h.ln, fun i d q => by
  obtain ⟨v, h1, h2⟩ := h.at_ i d q
  exact ⟨v, h1, Rep.tr e d v h2⟩⟩
theorem RelE.ext {σ : Ev} {s : L2.St} (h : RelE K own μ H σ s) (e : Ext own μ H own' μ' H') : RelE K own' μ' H' σ s := h.tr e.tr
theorem RelE.set {σ : Ev} {s : L2.St} (h : RelE K own μ H σ s) {d : D} {v : V} (i : Nat) (r : Rep K own μ H d v) : RelE K own μ H (σ.set i (some d)) (s.set i (some v)) := by
  refine ⟨by simpa using h.ln, fun j d' q => ?_⟩
  by_cases hj : i = j
  · subst hj
    by_cases hlt : i < σ.length
    · rw [List.getElem?_set_self hlt] at q
      cases q
      exact ⟨v, List.getElem?_set_self (by rw [← h.ln]; exact hlt), r⟩
    · rw [List.getElem?_eq_none (by simpa using hlt)] at q; cases q
  · rw [List.getElem?_set_ne hj] at q
    rw [List.getElem?_set_ne hj]
    exact h.at_ j d' q
theorem RelM.free (h : RelM K own μ H) {p : Addr} (n : H p = none) : ¬ Live own μ p := by
  rintro (⟨i, o, h1, h2⟩ | hp)
  · obtain ⟨u, e⟩ := h.tr p (List.mem_of_getElem? h1)
    rw [n] at e; cases e
  · obtain ⟨_, u, e⟩ := h.pv p hp
    rw [n] at e; cases e
theorem RepO.tr {o : Ob} {a : Addr} (e : Tr K own μ H own' μ' H') (h : RepO K own μ H o a) (k : ∀ u, H a = some u → H' a = some u) : RepO K own' μ' H' o a := by
  cases o with
  | lst ds => obtain ⟨xs, h1, h2⟩ := h; exact ⟨xs, k _ h1, Reps.tr e _ _ h2⟩
  | dK ds => obtain ⟨xs, h1, h2⟩ := h; exact ⟨xs, k _ h1, RepK.tr e _ _ h2⟩
  | dT ds => obtain ⟨xs, h1, h2, h3⟩ := h; exact ⟨xs, k _ h1, h2, Reps.tr e _ _ h3⟩
  | ins C ds => obtain ⟨dx, xs, h1, h2⟩ := h; exact ⟨dx, xs, k _ h1, RepF.tr e _ _ h2⟩
theorem RepO.ext {o : Ob} {a : Addr} (e : Ext own μ H own' μ' H') (h : RepO K own μ H o a) (k : ∀ u, H a = some u → H' a = some u) : RepO K own' μ' H' o a := h.tr e.tr k
/-- a heap that only grew -/
theorem Ext.same (s : ∀ a o, H a = some o → H' a = some o) : Ext own μ H own μ H' := ⟨rfl, ⟨[], by simp⟩, fun a o h _ => s a o h, fun _ l => .inl l⟩
theorem RelM.same (h : RelM K own μ H) (s : ∀ a o, H a = some o → H' a = some o) : RelM K own μ H' := ⟨h.nd, h.ln, fun i o a h1 h2 => RepO.ext (Ext.same s) (h.ob i o a h1 h2) (s a), fun a ha => (h.tr a ha).imp fun o e => s a o e, fun a ha => ⟨(h.pv a ha).1, (h.pv a ha).2.imp fun o e => s a o e⟩⟩
/-- a heap in which things being made changed -/
theorem tr_priv (s : ∀ a o, ¬ own.p a → H a = some o → H' a = some o) : Tr K own μ H own μ H' := ⟨fun a o h n => ⟨s a o (fun z => n (.inr z)) h, n⟩, fun _ _ h => h⟩
theorem RelM.priv (h : RelM K own μ H) (s : ∀ a o, ¬ own.p a → H a = some o → H' a = some o) (t : ∀ a, own.p a → ∃ o, H' a = some o) : RelM K own μ H' := by
  have np : ∀ a ∈ own.l, ¬ own.p a := fun a ha hp => (h.pv a hp).1 ha
  exact ⟨h.nd, h.ln, fun i o a h1 h2 => RepO.tr (tr_priv s) (h.ob i o a h1 h2) fun u e => s a u (np a (List.mem_of_getElem? h2)) e, fun a ha => (h.tr a ha).imp fun o e => s a o (np a ha) e, fun a ha => ⟨(h.pv a ha).1, t a ha⟩⟩
/-- L is being made -/
def Ow.mk1 (own : Ow) (L : Addr) : Ow := ⟨own.l, fun a => own.p a ∨ a = L⟩
theorem tr_mk1 {L : Addr} {o : HO} (n : H L = none) : Tr K own μ H (own.mk1 L) μ (upd H L o) := ⟨fun a u h nl => by
  have ne := ne_of_none h n
  refine ⟨by rw [upd_ne ne]; exact h, ?_⟩
  rintro (l | l | l)
  · exact nl (.inl l)
  · exact nl (.inr l)
  · exact ne l, fun _ _ h => h⟩
theorem RelM.mk1 (h : RelM K own μ H) {L : Addr} {o : HO} (n : H L = none) : RelM K (own.mk1 L) μ (upd H L o) := by
  have s : ∀ a u, H a = some u → (upd H L o) a = some u := fun a u e => by rw [upd_ne (ne_of_none e n)]; exact e
  refine ⟨h.nd, h.ln, fun i w a h1 h2 => RepO.tr (tr_mk1 n) (h.ob i w a h1 h2) (s a), fun a ha => (h.tr a ha).imp fun o e => s a o e, fun a ha => ?_⟩
  rcases ha with ha | rfl
  · exact ⟨(h.pv a ha).1, (h.pv a ha).2.imp fun o e => s a o e⟩
  · exact ⟨fun z => by (obtain ⟨u, e⟩ := h.tr _ z; rw [n] at e; exact nomatch e), _, upd_same⟩
/-- it is made -/
def Ow.un1 (own : Ow) (p : Addr → Prop) : Ow := ⟨own.l, p⟩
theorem tr_un1 {p : Addr → Prop} (s : ∀ a, p a → own.p a) : Tr K own μ H (own.un1 p) μ H := ⟨fun a u h nl => ⟨h, by
  rintro (l | l)
  · exact nl (.inl l)
  · exact nl (.inr (s a l))⟩, fun _ _ h => h⟩
theorem RelM.un1 (h : RelM K own μ H) {p : Addr → Prop} (s : ∀ a, p a → own.p a) : RelM K (own.un1 p) μ H := ⟨h.nd, h.ln, fun i w a h1 h2 => RepO.tr (tr_un1 s) (h.ob i w a h1 h2) fun _ e => e, h.tr, fun a ha => h.pv a (s a ha)⟩
end
end DL

set_option Elab.async false
set_option linter.all false
set_option maxRecDepth 100000
namespace DL
open PySem L2
/-! readings over data -/
abbrev XD := Exn → Store → Prop
abbrev TG' (α : Type) := Ev → Store → (α → Store → Prop) → XD → Prop
abbrev TED := TG' D
abbrev TTD := TG' Bool
abbrev TAD := TG' (List D)
def RepX (K : PySem.W.Frag) (own : Ow) (μ : Store) (H : Hp) (x : Exn) (c : Value) (dd : Option Addr) : Prop :=
  c = x.c ∧ ∀ fs, x.fs = some fs → ∃ d vs, dd = some d ∧ H d = some (.xd vs) ∧ ¬ Live own μ d ∧ RepF K own μ H fs vs
theorem RepX.ext {K : PySem.W.Frag} {own own' : Ow} {μ μ' : Store} {H H' : Hp} {x : Exn} {c : Value} {dd : Option Addr} (h : RepX K own μ H x c dd) (e : Ext own μ H own' μ' H') : RepX K own' μ' H' x c dd :=
  ⟨h.1, fun fs q => by
    obtain ⟨d, vs, h1, h2, h3, h4⟩ := h.2 fs q
    exact ⟨d, vs, h1, e.kp h2 h3, e.nl h2 h3, RepF.ext e _ _ h4⟩⟩
/-- what is wanted behind, told over data, gives what is wanted over the heap -/
structure Kont {α β : Type} (rep : Ow → Store → Hp → α → β → Prop) (K : PySem.W.Frag) (E : Value → Option Addr → Hp → Prop) (own : Ow) (μ : Store) (H : Hp) (QD : α → Store → Prop) (QX : XD) (Q : β → Hp → Prop) : Prop where
  ok : ∀ d μ' own' v H', Ext own μ H own' μ' H' → RelM K own' μ' H' → rep own' μ' H' d v → QD d μ' → Q v H'
  xn : ∀ x μ' own' c dd H', Ext own μ H own' μ' H' → RelM K own' μ' H' → RepX K own' μ' H' x c dd → QX x μ' → E c dd H'
def LfG {α β : Type} (rep : Ow → Store → Hp → α → β → Prop) (K : PySem.W.Frag) (E : WX) (T : TG' α) : L2.St → Hp → (β → Hp → Prop) → Prop := fun s H Q =>
  ∃ own σ μ QD QX, RelM K own μ H ∧ RelE K own μ H σ s ∧ T σ μ QD QX ∧ Kont rep K (fun c d H => E c d s H) own μ H QD QX Q
abbrev Lf (K : PySem.W.Frag) (E : WX) (T : TED) : TE := LfG (fun own μ H d v => Rep K own μ H d v) K E T
abbrev LfT (K : PySem.W.Frag) (E : WX) (T : TTD) : TT := LfG (fun _ _ _ (d : Bool) v => v = d) K E T
abbrev LfA (K : PySem.W.Frag) (E : WX) (T : TAD) : TA := LfG (fun own μ H d v => Reps K own μ H d v) K E T
section
variable {α β : Type} {rep : Ow → Store → Hp → α → β → Prop} {K : PySem.W.Frag} {E : Value → Option Addr → Hp → Prop} {own own' : Ow} {μ μ' : Store} {H H' : Hp} {QD : α → Store → Prop} {QX : XD} {Q : β → Hp → Prop}
theorem Kont.ext (k : Kont rep K E own μ H QD QX Q) (e : Ext own μ H own' μ' H') : Kont rep K E own' μ' H' QD QX Q :=
  ⟨fun d μ2 own2 v H2 e2 m r q => k.ok d μ2 own2 v H2 (e.trans e2) m r q, fun x μ2 own2 c dd H2 e2 m r q => k.xn x μ2 own2 c dd H2 (e.trans e2) m r q⟩
theorem Kont.here (k : Kont rep K E own μ H QD QX Q) (m : RelM K own μ H) {d : α} {v : β} (r : rep own μ H d v) (q : QD d μ) : Q v H := k.ok d μ own v H Ext.refl m r q
end
/-- what is done with two values -/
abbrev R2D := D → D → Store → (D → Store → Prop) → XD → Prop
abbrev R1D := D → Store → (D → Store → Prop) → XD → Prop
abbrev RAD := List D → Store → (D → Store → Prop) → XD → Prop
def Snd2 (K : PySem.W.Frag) (r : V → V → Hp → VK → Prop) (R : R2D) : Prop := ∀ (E : Value → Option Addr → Hp → Prop) (own : Ow) (μ : Store) (H : Hp) (x y : D) (u v : V) (Q : VK) (QD : D → Store → Prop) (QX : XD),
  RelM K own μ H → Rep K own μ H x u → Rep K own μ H y v → Kont (fun own μ H d v => Rep K own μ H d v) K E own μ H QD QX Q → R x y μ QD QX → r u v H Q
def Snd1 (K : PySem.W.Frag) (r : V → Hp → VK → Prop) (R : R1D) : Prop := ∀ (E : Value → Option Addr → Hp → Prop) (own : Ow) (μ : Store) (H : Hp) (x : D) (u : V) (Q : VK) (QD : D → Store → Prop) (QX : XD),
  RelM K own μ H → Rep K own μ H x u → Kont (fun own μ H d v => Rep K own μ H d v) K E own μ H QD QX Q → R x μ QD QX → r u H Q
def SndA (K : PySem.W.Frag) (r : List V → Hp → VK → Prop) (R : RAD) : Prop := ∀ (E : Value → Option Addr → Hp → Prop) (own : Ow) (μ : Store) (H : Hp) (x : List D) (u : List V) (Q : VK) (QD : D → Store → Prop) (QX : XD),
  RelM K own μ H → Reps K own μ H x u → Kont (fun own μ H d v => Rep K own μ H d v) K E own μ H QD QX Q → R x μ QD QX → r u H Q
def TBin (R : R2D) (Ta Tb : TED) : TED := fun σ μ Q X => Ta σ μ (fun x μ1 => Tb σ μ1 (fun y μ2 => R x y μ2 Q X) X) X
def TUn (R : R1D) (Ta : TED) : TED := fun σ μ Q X => Ta σ μ (fun x μ1 => R x μ1 Q X) X
def TCB (R : RAD) (Ta : TAD) : TED := fun σ μ Q X => Ta σ μ (fun x μ1 => R x μ1 Q X) X
theorem _root_.L2.PE.imp {X : Cx} {e : Expr} {t t' : TE} (h : PE X e t) (i : ∀ σ H Q, t' σ H Q → t σ H Q) : PE X e t' := ⟨fun pins s σ H Q I q => h.run pins s σ H Q I (i _ _ _ q)⟩
theorem _root_.L2.PT.imp {X : Cx} {e : Expr} {t t' : TT} (h : PT X e t) (i : ∀ σ H Q, t' σ H Q → t σ H Q) : PT X e t' := ⟨fun pins s σ H Q I q => h.run pins s σ H Q I (i _ _ _ q)⟩
theorem _root_.L2.PA.imp {X : Cx} {e : List Expr} {t t' : TA} (h : PA X e t) (i : ∀ σ H Q, t' σ H Q → t σ H Q) : PA X e t' := ⟨fun pos pins s σ H Q I q => h.run pos pins s σ H Q I (i _ _ _ q)⟩
theorem _root_.L2.PS.imp {X : Cx} {e : Stmt} {t t' : TS} (h : PS X e t) (i : ∀ D σ H, t' D σ H → t D σ H) : PS X e t' := ⟨fun pins s σ H D I q => h.run pins s σ H D I (i _ _ _ q)⟩
theorem _root_.L2.PSs.imp {X : Cx} {e : List Stmt} {t t' : TS} (h : PSs X e t) (i : ∀ D σ H, t' D σ H → t D σ H) : PSs X e t' := ⟨fun pins s σ H D I q => h.run pins s σ H D I (i _ _ _ q)⟩
section
variable {K : PySem.W.Frag} {E : WX} {Ta Tb : TED} {s : L2.St} {H : Hp} {Q : VK}
/-- a part, then what is done behind it -/
theorem LfG.bind {α β γ δ : Type} {rep : Ow → Store → Hp → α → β → Prop} {rep2 : Ow → Store → Hp → γ → δ → Prop} {T : TG' α} {own : Ow} {σ : Ev} {μ : Store} {QA : α → Store → Prop} {QD : γ → Store → Prop} {QX : XD} {Q2 : δ → Hp → Prop} {Q : β → Hp → Prop}
    (m : RelM K own μ H) (e : RelE K own μ H σ s) (k : Kont rep2 K (fun c d H => E c d s H) own μ H QD QX Q2) (t : T σ μ QA QX)
    (q : ∀ d μ' own' v H', Ext own μ H own' μ' H' → RelM K own' μ' H' → RelE K own' μ' H' σ s → rep own' μ' H' d v → Kont rep2 K (fun c d H => E c d s H) own' μ' H' QD QX Q2 → QA d μ' → Q v H') : LfG rep K E T s H Q :=
  ⟨own, σ, μ, QA, QX, m, e, t, ⟨fun d μ' own' v H' x m' r qa => q d μ' own' v H' x m' (e.ext x) r (k.ext x) qa, k.xn⟩⟩
theorem lf_bin {r : V → V → Hp → VK → Prop} {R : R2D} (S : Snd2 K r R) (h : Lf K E (TBin R Ta Tb) s H Q) : tOp r (Lf K E Ta) (Lf K E Tb) s H Q := by
  obtain ⟨own, σ, μ, QD, QX, m, e, t, k⟩ := h
  refine LfG.bind m e k t fun x μ1 own1 u H1 x1 m1 e1 r1 k1 q1 => ?_
  refine LfG.bind m1 e1 k1 q1 fun y μ2 own2 v H2 x2 m2 e2 r2 k2 q2 => ?_
  exact S _ own2 μ2 H2 x y u v Q QD QX m2 (Rep.ext x2 _ _ r1) r2 k2 q2
theorem lf_un {r : V → Hp → VK → Prop} {R : R1D} (S : Snd1 K r R) (h : Lf K E (TUn R Ta) s H Q) : tUn r (Lf K E Ta) s H Q := by
  obtain ⟨own, σ, μ, QD, QX, m, e, t, k⟩ := h
  refine LfG.bind m e k t fun x μ1 own1 u H1 x1 m1 e1 r1 k1 q1 => ?_
  exact S _ own1 μ1 H1 x u Q QD QX m1 r1 k1 q1
theorem lf_cb {r : List V → Hp → VK → Prop} {R : RAD} {Ta : TAD} (S : SndA K r R) (h : Lf K E (TCB R Ta) s H Q) : tCB r (LfA K E Ta) s H Q := by
  obtain ⟨own, σ, μ, QD, QX, m, e, t, k⟩ := h
  refine LfG.bind m e k t fun x μ1 own1 u H1 x1 m1 e1 r1 k1 q1 => ?_
  exact S _ own1 μ1 H1 x u Q QD QX m1 r1 k1 q1
end
theorem rep_v {K : PySem.W.Frag} {own : Ow} {μ : Store} {H : Hp} (x : V) : Rep K own μ H (.v x) x := rfl
/-- a condition that is settled by itself where it is of literals -/
def Grd (p : Bool) (A : Prop) : Prop := match p with
  | true => A
  | false => False
theorem grd {p : Bool} {A : Prop} (h : p = true) (a : A) : Grd p A := by subst h; exact a
theorem grdD {p : Prop} [Decidable p] {A : Prop} (h : p) (a : A) : Grd (decide p) A := grd (decide_eq_true h) a
theorem Grd.get {p : Bool} {A : Prop} (h : Grd p A) : p = true ∧ A := by
  cases p with
  | true => exact ⟨rfl, h⟩
  | false => exact h.elim
theorem Grd.getD {p : Prop} [Decidable p] {A : Prop} (h : Grd (decide p) A) : p ∧ A := ⟨of_decide_eq_true h.get.1, h.get.2⟩
/-! names, constants -/
def slotD (σ : Ev) (i : Nat) : Option D := match σ[i]? with
  | some (some d) => some d
  | _ => none
theorem slot_at {σ : Ev} {i : Nat} {d : D} (h : slotD σ i = some d) : σ[i]? = some (some d) := by
  unfold slotD at h
  split at h
  · cases h; assumption
  · cases h
def TVar (i : Nat) : TED := fun σ μ Q _ => match slotD σ i with
  | some d => Q d μ
  | none => False
def TC (d : V) : TED := fun _ μ Q _ => Q (.v d) μ
section
variable {X : Cx} {E : WX} {K : PySem.W.Frag}
theorem lf_var {i : Nat} {s : L2.St} {H : Hp} {Q : VK} (h : Lf K E (TVar i) s H Q) : tVar i s H Q := by
  obtain ⟨own, σ, μ, QD, QX, m, e, h2, k⟩ := h
  unfold TVar at h2
  split at h2
  · rename_i d h1
    obtain ⟨v, h3, r⟩ := e.at_ i d (slot_at h1)
    exact ⟨v, h3, k.here m r h2⟩
  · exact h2.elim
theorem lf_c {v : V} {s : L2.St} {H : Hp} {Q : VK} (h : Lf K E (TC v) s H Q) : tC v s H Q := by
  obtain ⟨own, σ, μ, QD, QX, m, e, h2, k⟩ := h
  exact k.here m (show Rep K own μ H (.v v) v from rfl) h2
theorem dv (i : Nat) {x : Str} {pos : Pos} (hN : X.N[i]? = some x := by rfl) (hv : Vis X.env.scope x := by first | exact Or.inl rfl | exact Or.inr (Or.inl rfl) | exact Or.inr (Or.inr rfl)) (hd : (x == ("__debug__" : Str)) = false := by decide)
    (hcd : (x == ("__classdict__" : Str)) = false := by decide) : PE X (.Name x pos) (Lf K E (TVar i)) := (pe_var hN hv hd hcd).imp fun _ _ _ => lf_var
theorem de_int {i j pos} : PE X (.Constant (.int i) j pos) (Lf K E (TC (.int i))) := pe_int.imp fun _ _ _ => lf_c
theorem de_bl {b j pos} : PE X (.Constant (.bool b) j pos) (Lf K E (TC (.bl b))) := pe_bl.imp fun _ _ _ => lf_c
theorem de_non {j pos} : PE X (.Constant .none j pos) (Lf K E (TC .non)) := pe_non.imp fun _ _ _ => lf_c
theorem de_str {x j pos} : PE X (.Constant (.str x) j pos) (Lf K E (TC (.str x))) := pe_str.imp fun _ _ _ => lf_c
theorem de_glob {x : Str} {v : V} {u : Value} {pos : Pos} (hg : Gl X x) (hm : X.mg x = some u) (r : RelV v u) (hd : (x == ("__debug__" : Str)) = false := by decide) : PE X (.Name x pos) (Lf K E (TC v)) := (pe_glob hg hm r hd).imp fun _ _ _ => lf_c
theorem de_bltn {x : Str} {v : V} {u : Value} {pos : Pos} (hg : Gl X x) (hm : X.mg x = none) (hv : bootBuiltins x = some u) (r : RelV v u) (hn : x ≠ "__name__" := by decide) (hd : (x == ("__debug__" : Str)) = false := by decide) : PE X (.Name x pos) (Lf K E (TC v)) := (pe_bltn hg hm hv r hn hd).imp fun _ _ _ => lf_c
variable {a b : Expr} {Ta Tb : TED} {pos : Pos}
theorem de_op {op : Operator} {r : V → V → Hp → VK → Prop} {R : R2D} (ho : OpR X (binaryOp op) r) (S : Snd2 K r R) (ha : PE X a (Lf K E Ta)) (hb : PE X b (Lf K E Tb)) : PE X (.BinOp a op b pos) (Lf K E (TBin R Ta Tb)) := (pe_op ho ha hb).imp fun _ _ _ => lf_bin S
theorem de_un {op : UnaryOp} {r : V → Hp → VK → Prop} {R : R1D} (ho : UnR X (unaryOp op) r) (S : Snd1 K r R) (ha : PE X a (Lf K E Ta)) : PE X (.UnaryOp op a pos) (Lf K E (TUn R Ta)) := (pe_un ho ha).imp fun _ _ _ => lf_un S
theorem de_cmp {op : CmpOp} {r : V → V → Hp → VK → Prop} {R : R2D} (ho : OpR X (compareOp op) r) (S : Snd2 K r R) (ha : PE X a (Lf K E Ta)) (hb : PE X b (Lf K E Tb)) (hm : behindInMarks op b = false := by rfl) : PE X (.Compare a [op] [b] pos) (Lf K E (TBin R Ta Tb)) := (pe_cmpR ho ha hb hm).imp fun _ _ _ => lf_bin S
/-! tests -/
def blK (Q : Bool → Store → Prop) : D → Store → Prop := fun d μ => match d with
  | .v (.bl c) => Q c μ
  | _ => False
theorem blK_get {Q : Bool → Store → Prop} {d : D} {μ : Store} (h : blK Q d μ) : ∃ c, d = .v (.bl c) ∧ Q c μ := by
  unfold blK at h
  split at h
  · exact ⟨_, rfl, h⟩
  · exact h.elim
def TTest (T : TED) : TTD := fun σ μ Q X => T σ μ (blK Q) X
theorem lf_test {T : TED} {s : L2.St} {H : Hp} {Q : Bool → Hp → Prop} (h : LfT K E (TTest T) s H Q) : Lf K E T s H fun x H' => ∃ k, x = .bl k ∧ Q k H' := by
  obtain ⟨own, σ, μ, QD, QX, m, e, t, k⟩ := h
  refine LfG.bind m e k t fun x μ1 own1 u H1 x1 m1 e1 r1 k1 q1 => ?_
  obtain ⟨c, ec, q1⟩ := blK_get q1
  subst ec
  exact ⟨c, r1, k1.here m1 rfl q1⟩
theorem dt_cmp {op : CmpOp} {r : V → V → Hp → VK → Prop} {R : R2D} (ho : OpR X (compareOp op) r) (S : Snd2 K r R) (ha : PE X a (Lf K E Ta)) (hb : PE X b (Lf K E Tb)) (hm : behindInMarks op b = false := by rfl) : PT X (.Compare a [op] [b] pos) (LfT K E (TTest (TBin R Ta Tb))) :=
  (pt_cmpR ho ha hb hm).imp fun _ _ _ h => by
    have := lf_test h
    exact lf_bin S this
theorem dt_val {e : Expr} {T : TED} (h : PE X e (Lf K E T)) (he : ∀ whole, isTrue e X.env whole = (do let v ← whole; standAt e.pos; holding [v] (truthy v)) := by intro _; rfl) : PT X e (LfT K E (TTest T)) := (pt_val h he).imp fun _ _ _ h => lf_test h
def TAnd (t u : TTD) : TTD := fun σ μ Q X => t σ μ (fun c μ1 => if c = true then u σ μ1 Q X else Q false μ1) X
def TOr (t u : TTD) : TTD := fun σ μ Q X => t σ μ (fun c μ1 => if c = true then Q true μ1 else u σ μ1 Q X) X
def TNot (t : TTD) : TTD := fun σ μ Q X => t σ μ (fun c μ1 => Q (!c) μ1) X
variable {tA tB' : TTD} {rest : List Expr}
theorem _root_.L2.PW.imp {e : Expr} {t t' : TT} (h : PW X e t) (i : ∀ σ H Q, t' σ H Q → t σ H Q) : PW X e t' := ⟨fun wh pins s σ H Q I q => h.run wh pins s σ H Q I (i _ _ _ q)⟩
theorem dw_and1 (ha : PT X a (LfT K E tA)) : PW X (.BoolOp .And [a] pos) (LfT K E tA) := pw_and1 ha
theorem dw_or1 (ha : PT X a (LfT K E tA)) : PW X (.BoolOp .Or [a] pos) (LfT K E tA) := pw_or1 ha
theorem dw_and (ha : PT X a (LfT K E tA)) (hb : PW X (.BoolOp .And (b :: rest) pos) (LfT K E tB')) : PW X (.BoolOp .And (a :: b :: rest) pos) (LfT K E (TAnd tA tB')) :=
  (pw_and ha hb).imp fun s H Q h => by
    obtain ⟨own, σ, μ, QD, QX, m, e, t, k⟩ := h
    refine LfG.bind m e k t fun x μ1 own1 u H1 x1 m1 e1 r1 k1 q1 => ?_
    subst r1
    cases u with
    | true => exact ⟨own1, σ, μ1, QD, QX, m1, e1, q1, k1⟩
    | false => exact k1.here m1 rfl q1
theorem dw_or (ha : PT X a (LfT K E tA)) (hb : PW X (.BoolOp .Or (b :: rest) pos) (LfT K E tB')) : PW X (.BoolOp .Or (a :: b :: rest) pos) (LfT K E (TOr tA tB')) :=
  (pw_or ha hb).imp fun s H Q h => by
    obtain ⟨own, σ, μ, QD, QX, m, e, t, k⟩ := h
    refine LfG.bind m e k t fun x μ1 own1 u H1 x1 m1 e1 r1 k1 q1 => ?_
    subst r1
    cases u with
    | false => exact ⟨own1, σ, μ1, QD, QX, m1, e1, q1, k1⟩
    | true => exact k1.here m1 rfl q1
theorem dt_w {e : Expr} {t : TTD} (h : PW X e (LfT K E t)) : PT X e (LfT K E t) := h.pt
theorem dt_not (ha : PT X a (LfT K E tA)) : PT X (.UnaryOp .Not a pos) (LfT K E (TNot tA)) :=
  (pt_not ha).imp fun s H Q h => by
    obtain ⟨own, σ, μ, QD, QX, m, e, t, k⟩ := h
    refine LfG.bind m e k t fun x μ1 own1 u H1 x1 m1 e1 r1 k1 q1 => ?_
    subst r1
    exact k1.here m1 rfl q1
/-! and, or, not as values (bools) -/
def TAndV (ta tb : TED) : TED := fun σ μ Q X => ta σ μ (blK fun c μ1 => if c = true then tb σ μ1 Q X else Q (.v (.bl false)) μ1) X
def TOrV (ta tb : TED) : TED := fun σ μ Q X => ta σ μ (blK fun c μ1 => if c = true then Q (.v (.bl true)) μ1 else tb σ μ1 Q X) X
def TNotV (ta : TED) : TED := fun σ μ Q X => ta σ μ (blK fun c μ1 => Q (.v (.bl (!c))) μ1) X
theorem de_one {op} {T : TED} (h : PE X a (Lf K E T)) : PE X (.BoolOp op [a] pos) (Lf K E T) := pe_one h
theorem de_and (ha : PE X a (Lf K E Ta)) (hb : PE X (.BoolOp .And (b :: rest) pos) (Lf K E Tb)) : PE X (.BoolOp .And (a :: b :: rest) pos) (Lf K E (TAndV Ta Tb)) :=
  (pe_and ha hb).imp fun s H Q h => by
    obtain ⟨own, σ, μ, QD, QX, m, e, t, k⟩ := h
    refine LfG.bind m e k t fun x μ1 own1 u H1 x1 m1 e1 r1 k1 q1 => ?_
    obtain ⟨c, ec, q1⟩ := blK_get q1
    subst ec
    refine ⟨c, r1, ?_⟩
    cases c with
    | true => exact ⟨own1, σ, μ1, QD, QX, m1, e1, q1, k1⟩
    | false => exact k1.here m1 (rep_v _) q1
theorem de_or (ha : PE X a (Lf K E Ta)) (hb : PE X (.BoolOp .Or (b :: rest) pos) (Lf K E Tb)) : PE X (.BoolOp .Or (a :: b :: rest) pos) (Lf K E (TOrV Ta Tb)) :=
  (pe_or ha hb).imp fun s H Q h => by
    obtain ⟨own, σ, μ, QD, QX, m, e, t, k⟩ := h
    refine LfG.bind m e k t fun x μ1 own1 u H1 x1 m1 e1 r1 k1 q1 => ?_
    obtain ⟨c, ec, q1⟩ := blK_get q1
    subst ec
    refine ⟨c, r1, ?_⟩
    cases c with
    | false => exact ⟨own1, σ, μ1, QD, QX, m1, e1, q1, k1⟩
    | true => exact k1.here m1 (rep_v _) q1
theorem de_not (ha : PE X a (Lf K E Ta)) : PE X (.UnaryOp .Not a pos) (Lf K E (TNotV Ta)) :=
  (pe_not ha).imp fun s H Q h => by
    obtain ⟨own, σ, μ, QD, QX, m, e, t, k⟩ := h
    refine LfG.bind m e k t fun x μ1 own1 u H1 x1 m1 e1 r1 k1 q1 => ?_
    obtain ⟨c, ec, q1⟩ := blK_get q1
    subst ec
    exact ⟨c, r1, k1.here m1 (rep_v _) q1⟩
def TIfE (t : TTD) (ta tb : TED) : TED := fun σ μ Q X => t σ μ (fun c μ1 => if c = true then ta σ μ1 Q X else tb σ μ1 Q X) X
theorem de_if {c : Expr} {tc : TTD} (hc : PT X c (LfT K E tc)) (ha : PE X a (Lf K E Ta)) (hb : PE X b (Lf K E Tb)) : PE X (.IfExp c a b pos) (Lf K E (TIfE tc Ta Tb)) :=
  (pe_ifExp hc ha hb).imp fun s H Q h => by
    obtain ⟨own, σ, μ, QD, QX, m, e, t, k⟩ := h
    refine LfG.bind m e k t fun x μ1 own1 u H1 x1 m1 e1 r1 k1 q1 => ?_
    subst r1
    cases u with
    | true => exact ⟨own1, σ, μ1, QD, QX, m1, e1, q1, k1⟩
    | false => exact ⟨own1, σ, μ1, QD, QX, m1, e1, q1, k1⟩
/-! arguments -/
def TNil : TAD := fun _ μ Q _ => Q [] μ
def TCons (t : TED) (u : TAD) : TAD := fun σ μ Q X => t σ μ (fun d μ1 => u σ μ1 (fun ds μ2 => Q (d :: ds) μ2) X) X
theorem lfa_nil {s : L2.St} {H : Hp} {Q : List V → Hp → Prop} (h : LfA K E TNil s H Q) : tNil s H Q := by
  obtain ⟨own, σ, μ, QD, QX, m, e, t, k⟩ := h
  exact k.here m (show Reps K own μ H [] [] from rfl) t
theorem lfa_cons {t : TED} {u : TAD} {s : L2.St} {H : Hp} {Q : List V → Hp → Prop} (h : LfA K E (TCons t u) s H Q) : tCons (Lf K E t) (LfA K E u) s H Q := by
  obtain ⟨own, σ, μ, QD, QX, m, e, t, k⟩ := h
  refine LfG.bind m e k t fun x μ1 own1 u H1 x1 m1 e1 r1 k1 q1 => ?_
  refine LfG.bind m1 e1 k1 q1 fun y μ2 own2 v H2 x2 m2 e2 r2 k2 q2 => ?_
  exact k2.here m2 (show Reps K own2 μ2 H2 (x :: y) (u :: v) from ⟨u, v, rfl, Rep.ext x2 _ _ r1, r2⟩) q2
theorem da_nil : PA X [] (LfA K E TNil) := pa_nil.imp fun _ _ _ => lfa_nil
theorem da_cons {e : Expr} {es : List Expr} {t : TED} {u : TAD} (ha : PE X e (Lf K E t)) (hr : PA X es (LfA K E u)) (hs : starEach (e :: es) X.env = (false, eval e X.env) :: starEach es X.env := by rfl) : PA X (e :: es) (LfA K E (TCons t u)) := (pa_cons ha hr hs).imp fun _ _ _ => lfa_cons
/-! what is new: a list to be changed (b), or not -/
def mkL (b : Bool) (ds : List D) (μ : Store) (Q : D → Store → Prop) : Prop := match b with
  | true => Q (.loc μ.length) (μ ++ [some (.lst ds)])
  | false => Q (.lst ds) μ
end
section
variable {K : PySem.W.Frag} {own own' : Ow} {μ μ' : Store} {H H' : Hp} {E : Value → Option Addr → Hp → Prop} {QD : D → Store → Prop} {QX : XD} {Q : VK}
theorem Reps.len : ∀ {ds : List D} {xs : List V}, Reps K own μ H ds xs → ds.length = xs.length
  | [], _, h => by
    have h : _ = [] := h
    subst h; rfl
  | d :: ds, _, h => by
    obtain ⟨y, r, rfl, _, h2⟩ := h
    simp [Reps.len h2]
theorem ext_upd {p : Addr} {o : HO} (n : H p = none) : Ext own μ H own μ (upd H p o) := Ext.same fun a u e => by
  rw [upd_ne (ne_of_none e n)]
  exact e
theorem rel_upd (m : RelM K own μ H) {p : Addr} {o : HO} (n : H p = none) : RelM K own μ (upd H p o) := m.same fun a u e => by
  rw [upd_ne (ne_of_none e n)]
  exact e
def Ow.add (own : Ow) (p : Addr) : Ow := ⟨own.l ++ [p], own.p⟩
theorem live_app {own : Ow} {μ : Store} (hl : own.l.length = μ.length) {p : Addr} {o : Ob} {a : Addr} : SLive (own.add p) (μ ++ [some o]) a ↔ SLive own μ a ∨ a = p := by
  constructor
  · rintro ⟨i, u, h1, h2⟩
    by_cases hi : i < own.l.length
    · replace h1 : (own.l ++ [p])[i]? = some a := h1
      rw [List.getElem?_append_left hi] at h1
      rw [List.getElem?_append_left (hl ▸ hi)] at h2
      exact .inl ⟨i, u, h1, h2⟩
    · have hi' : own.l.length ≤ i := by omega
      replace h1 : (own.l ++ [p])[i]? = some a := h1
      rw [List.getElem?_append_right hi'] at h1
      obtain ⟨h3, h4⟩ := List.getElem?_eq_some_iff.mp h1
      simp at h4
      exact .inr h4.symm
  · rintro (⟨i, u, h1, h2⟩ | rfl)
    · exact ⟨i, u, by show (own.l ++ [p])[i]? = some a; rw [List.getElem?_append_left (List.getElem?_eq_some_iff.mp h1).1]; exact h1, by rw [List.getElem?_append_left (List.getElem?_eq_some_iff.mp h2).1]; exact h2⟩
    · exact ⟨own.l.length, o, by simp [Ow.add], by rw [hl]; simp⟩
theorem ext_new (m : RelM K own μ H) {p : Addr} {o : HO} {u : Ob} (n : H p = none) : Ext own μ H (own.add p) (μ ++ [some u]) (upd H p o) :=
  ⟨rfl, ⟨[p], rfl⟩, fun a w e _ => by rw [upd_ne (ne_of_none e n)]; exact e, fun a l => by
    rcases (live_app m.ln).mp l with q | q
    · exact .inl q
    · exact .inr (q ▸ n)⟩
/-- a new object on the store -/
theorem rel_new (m : RelM K own μ H) {p : Addr} {o : HO} {u : Ob} (n : H p = none) (r : RepO K (own.add p) (μ ++ [some u]) (upd H p o) u p) : RelM K (own.add p) (μ ++ [some u]) (upd H p o) := by
  have np : p ∉ own.l := fun h => by
    obtain ⟨o, e⟩ := m.tr p h
    rw [n] at e; cases e
  refine ⟨?_, by simp [m.ln, Ow.add], fun i w a h1 h2 => ?_, fun a ha => ?_, fun a ha => ?_⟩
  · show (own.l ++ [p]).Nodup
    rw [List.nodup_append]
    exact ⟨m.nd, by simp, fun a ha b hb => by
      rw [List.mem_singleton.mp hb]
      rintro rfl
      exact np ha⟩
  · by_cases hi : i < own.l.length
    · replace h2 : (own.l ++ [p])[i]? = some a := h2
      rw [List.getElem?_append_left hi] at h2
      rw [List.getElem?_append_left (m.ln ▸ hi)] at h1
      exact RepO.ext (ext_new m n) (m.ob i w a h1 h2) fun v e => by rw [upd_ne (ne_of_none e n)]; exact e
    · have hi' : own.l.length ≤ i := by omega
      replace h2 : (own.l ++ [p])[i]? = some a := h2
      rw [List.getElem?_append_right (m.ln ▸ hi')] at h1
      rw [List.getElem?_append_right hi'] at h2
      obtain ⟨h3, h4⟩ := List.getElem?_eq_some_iff.mp h2
      obtain ⟨h5, h6⟩ := List.getElem?_eq_some_iff.mp h1
      simp at h4 h6
      subst h4 h6
      exact r
  · by_cases ea : a = p
    · subst ea
      exact ⟨o, upd_same⟩
    · rcases List.mem_append.mp ha with h | h
      · obtain ⟨w, e⟩ := m.tr a h
        exact ⟨w, by rw [upd_ne ea]; exact e⟩
      · exact absurd (List.mem_singleton.mp h) ea
  · obtain ⟨z1, w, z2⟩ := m.pv a ha
    have ea : a ≠ p := fun e => by rw [e, n] at z2; cases z2
    refine ⟨fun h => ?_, w, by rw [upd_ne ea]; exact z2⟩
    rcases List.mem_append.mp h with h | h
    · exact z1 h
    · exact ea (List.mem_singleton.mp h)
theorem lf_mkL {b : Bool} {ds : List D} {xs : List V} (m : RelM K own μ H) (k : Kont (fun own μ H d v => Rep K own μ H d v) K E own μ H QD QX Q) (r : Reps K own μ H ds xs) (h : mkL b ds μ QD) : ∀ p, H p = none → Q (.ref p) (upd H p (.lst xs)) := fun p n => by
  unfold mkL at h
  cases b with
  | false =>
    exact k.ok (.lst ds) _ own _ _ (ext_upd n) (rel_upd m n) ⟨p, xs, rfl, upd_same, fun l => absurd l (m.free n), Reps.ext (ext_upd n) _ _ r⟩ h
  | true =>
    have e := ext_new (u := .lst ds) (o := .lst xs) m n
    refine k.ok (.loc μ.length) _ (own.add p) _ _ e (rel_new m n ⟨xs, upd_same, Reps.ext e _ _ r⟩) ⟨p, ?_, rfl⟩ h
    show (own.l ++ [p])[μ.length]? = some p
    rw [← m.ln]
    exact List.getElem?_concat_length
end
end DL

set_option Elab.async false
set_option linter.all false
set_option maxRecDepth 100000
namespace DL
open PySem L2
/-! statements -/
structure EndsD where
  nx : Ev → Store → Prop
  rt : D → Store → Prop
  bk : Ev → Store → Prop
  ct : Ev → Store → Prop
  xn : Exn → Ev → Store → Prop
abbrev TSD := EndsD → Ev → Store → Prop
structure KontS (K : PySem.W.Frag) (E : WX) (own : Ow) (μ : Store) (H : Hp) (DD : EndsD) (D : Ends) : Prop where
  nx : ∀ σ' μ' own' s' H', Ext own μ H own' μ' H' → RelM K own' μ' H' → RelE K own' μ' H' σ' s' → DD.nx σ' μ' → D.nx s' H'
  rt : ∀ d μ' own' v H', Ext own μ H own' μ' H' → RelM K own' μ' H' → Rep K own' μ' H' d v → DD.rt d μ' → D.rt v H'
  bk : ∀ σ' μ' own' s' H', Ext own μ H own' μ' H' → RelM K own' μ' H' → RelE K own' μ' H' σ' s' → DD.bk σ' μ' → D.bk s' H'
  ct : ∀ σ' μ' own' s' H', Ext own μ H own' μ' H' → RelM K own' μ' H' → RelE K own' μ' H' σ' s' → DD.ct σ' μ' → D.ct s' H'
  xn : ∀ x σ' μ' own' s' c dd H', Ext own μ H own' μ' H' → RelM K own' μ' H' → RelE K own' μ' H' σ' s' → RepX K own' μ' H' x c dd → DD.xn x σ' μ' → E c dd s' H'
def LfS (K : PySem.W.Frag) (E : WX) (T : TSD) : TS := fun D s H => ∃ own σ μ DD, RelM K own μ H ∧ RelE K own μ H σ s ∧ T DD σ μ ∧ KontS K E own μ H DD D
section
variable {K : PySem.W.Frag} {E : WX} {own own' : Ow} {μ μ' : Store} {H H' : Hp} {DD DD' : EndsD} {D : Ends} {σ : Ev} {s : L2.St}
theorem KontS.ext (k : KontS K E own μ H DD D) (e : Ext own μ H own' μ' H') : KontS K E own' μ' H' DD D :=
  ⟨fun a b c d f g m r => k.nx a b c d f (e.trans g) m r, fun a b c d f g m r => k.rt a b c d f (e.trans g) m r, fun a b c d f g m r => k.bk a b c d f (e.trans g) m r, fun a b c d f g m r => k.ct a b c d f (e.trans g) m r, fun x a b c d f g h i m r => k.xn x a b c d f g h (e.trans i) m r⟩
/-- an expression within a statement -/
theorem LfS.bind {α β : Type} {rep : Ow → Store → Hp → α → β → Prop} {T : TG' α} {QA : α → Store → Prop} {Q : β → Hp → Prop} (m : RelM K own μ H) (e : RelE K own μ H σ s) (k : KontS K E own μ H DD D) (t : T σ μ QA fun x μ' => DD.xn x σ μ')
    (q : ∀ d μ' own' v H', Ext own μ H own' μ' H' → RelM K own' μ' H' → RelE K own' μ' H' σ s → rep own' μ' H' d v → KontS K E own' μ' H' DD D → QA d μ' → Q v H') : LfG rep K E T s H Q :=
  ⟨own, σ, μ, QA, _, m, e, t, ⟨fun d μ' own' v H' x m' r qa => q d μ' own' v H' x m' (e.ext x) r (k.ext x) qa, fun x μ' own' c dd H' e' m' r q => k.xn x σ μ' own' s c dd H' e' m' (e.ext e') r q⟩⟩
end
def TNext : TSD := fun DD σ μ => DD.nx σ μ
def TSeq (t u : TSD) : TSD := fun DD σ μ => t { DD with nx := u DD } σ μ
def TDrop (te : TED) : TSD := fun DD σ μ => te σ μ (fun _ μ1 => DD.nx σ μ1) fun x μ' => DD.xn x σ μ'
def TRet (te : TED) : TSD := fun DD σ μ => te σ μ DD.rt fun x μ' => DD.xn x σ μ'
def TRetN : TSD := fun DD _ μ => DD.rt (.v .non) μ
def TIfS (c : TTD) (t u : TSD) : TSD := fun DD σ μ => c σ μ (fun b μ1 => if b = true then t DD σ μ1 else u DD σ μ1) fun x μ' => DD.xn x σ μ'
def TBreak : TSD := fun DD σ μ => DD.bk σ μ
def TCont : TSD := fun DD σ μ => DD.ct σ μ
def TNever : TSD := fun _ _ _ => False
def TJ (t : TSD) : TSD := fun DD σ μ => ∃ J : Ev → Store → Prop, t { DD with nx := J } σ μ ∧ ∀ σ' μ', J σ' μ' → DD.nx σ' μ'
section
variable {X : Cx} {K : PySem.W.Frag} {E : WX} {st : Stmt} {rest : List Stmt} {t u : TSD} {pos : Pos} {e : Expr} {te : TED}
theorem dss_nil : PSs X [] (LfS K E TNext) := pss_nil.imp fun D s H h => by
  obtain ⟨own, σ, μ, DD, m, e, t, k⟩ := h
  exact k.nx σ μ own s H Ext.refl m e t
theorem dss_cons (h1 : PS X st (LfS K E t)) (h2 : PSs X rest (LfS K E u)) : PSs X (st :: rest) (LfS K E (TSeq t u)) := (pss_cons h1 h2).imp fun D s H h => by
  obtain ⟨own, σ, μ, DD, m, e, t, k⟩ := h
  exact ⟨own, σ, μ, _, m, e, t, ⟨fun σ' μ' own' s' H' x m' e' q => ⟨own', σ', μ', DD, m', e', q, k.ext x⟩, k.rt, k.bk, k.ct, k.xn⟩⟩
theorem dss_one (h1 : PS X st (LfS K E t)) : PSs X [st] (LfS K E t) := pss_one h1
theorem ds_expr (he : PE X e (Lf K E te)) (hs : swapsWith e none pos.line X.env = pure false := by rfl) : PS X (.Expr e pos) (LfS K E (TDrop te)) := (ps_expr he hs).imp fun D s H h => by
  obtain ⟨own, σ, μ, DD, m, e, t, k⟩ := h
  exact LfS.bind m e k t fun x μ1 own1 u H1 x1 m1 e1 r1 k1 q1 => k1.nx σ μ1 own1 s H1 Ext.refl m1 e1 q1
theorem ds_ret (he : PE X e (Lf K E te)) : PS X (.Return (some e) pos) (LfS K E (TRet te)) := (ps_ret he).imp fun D s H h => by
  obtain ⟨own, σ, μ, DD, m, e, t, k⟩ := h
  exact LfS.bind m e k t fun x μ1 own1 u H1 x1 m1 e1 r1 k1 q1 => k1.rt x μ1 own1 u H1 Ext.refl m1 r1 q1
theorem ds_retN : PS X (.Return none pos) (LfS K E TRetN) := ps_retN.imp fun D s H h => by
  obtain ⟨own, σ, μ, DD, m, e, t, k⟩ := h
  exact k.rt _ μ own _ H Ext.refl m (rep_v _) t
theorem ds_if {c : Expr} {a b : List Stmt} {tc : TTD} (hc : PT X c (LfT K E tc)) (ha : PSs X a (LfS K E t)) (hb : PSs X b (LfS K E u)) : PS X (.If c a b pos) (LfS K E (TIfS tc t u)) := (ps_if hc ha hb).imp fun D s H h => by
  obtain ⟨own, σ, μ, DD, m, e, t, k⟩ := h
  refine LfS.bind m e k t fun x μ1 own1 u H1 x1 m1 e1 r1 k1 q1 => ?_
  subst r1
  cases u with
  | true => exact ⟨own1, σ, μ1, DD, m1, e1, q1, k1⟩
  | false => exact ⟨own1, σ, μ1, DD, m1, e1, q1, k1⟩
theorem ds_j (h1 : PS X st (LfS K E t)) : PS X st (LfS K E (TJ t)) := h1.imp fun D s H h => by
  obtain ⟨own, σ, μ, DD, m, e, ⟨J, t, hJ⟩, k⟩ := h
  exact ⟨own, σ, μ, _, m, e, t, ⟨fun σ' μ' own' s' H' x m' e' q => k.nx σ' μ' own' s' H' x m' e' (hJ _ _ q), k.rt, k.bk, k.ct, k.xn⟩⟩
theorem ds_break : PS X (.Break pos) (LfS K E TBreak) := ps_break.imp fun D s H h => by
  obtain ⟨own, σ, μ, DD, m, e, t, k⟩ := h
  exact k.bk σ μ own s H Ext.refl m e t
theorem ds_continue : PS X (.Continue pos) (LfS K E TCont) := ps_continue.imp fun D s H h => by
  obtain ⟨own, σ, μ, DD, m, e, t, k⟩ := h
  exact k.ct σ μ own s H Ext.refl m e t
theorem dss_never {l : List Stmt} : PSs X l (LfS K E TNever) := pss_never.imp fun D s H h => by
  obtain ⟨own, σ, μ, DD, m, e, t, k⟩ := h
  exact t.elim
theorem ds_pass : PS X (.Pass pos) (LfS K E TNext) := ps_pass.imp fun D s H h => by
  obtain ⟨own, σ, μ, DD, m, e, t, k⟩ := h
  exact k.nx σ μ own s H Ext.refl m e t
end
/-! targets -/
abbrev TGD := D → Ev → Store → (Ev → Store → Prop) → Prop
abbrev TGsD := List D → Ev → Store → (Ev → Store → Prop) → Prop
def LgG {α β : Type} (rep : Ow → Store → Hp → α → β → Prop) (K : PySem.W.Frag) (vs : List Nat) (G : α → Ev → Store → (Ev → Store → Prop) → Prop) : β → L2.St → Hp → (L2.St → Hp → Prop) → Prop := fun v s H Q =>
  ∃ own σ μ d QD, RelM K own μ H ∧ RelE K own μ H σ s ∧ rep own μ H d v ∧ G d σ μ QD ∧ ∀ σ' μ' own' s' H', (∀ ws, (∀ i ∈ vs, i ∈ ws) → wipe s' ws = wipe s ws) → Ext own μ H own' μ' H' → RelM K own' μ' H' → RelE K own' μ' H' σ' s' → QD σ' μ' → Q s' H'
abbrev Lg (K : PySem.W.Frag) (vs : List Nat) (G : TGD) : TG := LgG (fun own μ H d v => Rep K own μ H d v) K vs G
abbrev Lgs (K : PySem.W.Frag) (vs : List Nat) (G : TGsD) : TGs := LgG (fun own μ H d v => Reps K own μ H d v) K vs G
def GName (i : Nat) : TGD := fun d σ μ Q => Q (σ.set i (some d)) μ
def GNil : TGsD := fun ds σ μ Q => match ds with
  | [] => Q σ μ
  | _ => False
def GCons (g : TGD) (u : TGsD) : TGsD := fun ds σ μ Q => match ds with
  | d :: r => g d σ μ fun σ' μ' => u r σ' μ' Q
  | _ => False
/-- what may be taken apart: a tuple -/
def GTup (n : Nat) (g : TGsD) : TGD := fun d σ μ Q => match d with
  | .tup ds => Grd (decide (ds.length = n)) (g ds σ μ Q)
  | _ => False
theorem wipe_set {s : L2.St} {i : Nat} {v : Option V} : ∀ {vs : List Nat}, i ∈ vs → wipe (s.set i v) vs = wipe s vs
  | v' :: vs, h => by
    unfold wipe
    by_cases e : i ∈ vs
    · rw [wipe_set e]
    · have e' : i = v' := by
        rcases List.mem_cons.mp h with h | h
        · exact h
        · exact absurd h e
      subst e'
      have : ∀ (vs : List Nat) (t : L2.St), i ∉ vs → wipe (t.set i v) vs = (wipe t vs).set i v := by
        intro vs
        induction vs with
        | nil => intro t _; rfl
        | cons a l ih =>
          intro t hn
          unfold wipe
          rw [ih t (fun z => hn (List.mem_cons_of_mem _ z)), List.set_comm]
          exact fun z => hn (by rw [z]; exact List.mem_cons_self)
      rw [this vs s e, List.set_set]
section
variable {X : Cx} {K : PySem.W.Frag} {E : WX} {pos : Pos}
theorem dg_name {i : Nat} {x : Str} (hN : X.N.Nodup) (hi : X.N[i]? = some x) (hx : Loc X.env.scope x) (hf : X.fn x = true ∨ X.env.scope.names.lookup x = some .local := by first | exact .inl rfl | exact .inr rfl | assumption) : PG X (.Name x pos) (Lg K [i] (GName i)) := by
  refine ⟨fun pins s σ H v u Q I r h => (pg_name hN hi hx hf).run pins s σ H v u Q I r ?_⟩
  obtain ⟨own, σD, μ, d, QD, m, e, rd, g, q⟩ := h
  exact q _ μ own _ H (fun ws hw => wipe_set (hw i (by simp))) Ext.refl m (e.set i rd) g
theorem _root_.L2.PG.imp {tg : Expr} {t t' : TG} (h : PG X tg t) (i : ∀ v σ H Q, t' v σ H Q → t v σ H Q) : PG X tg t' := ⟨fun pins s σ H v u Q I r q => h.run pins s σ H v u Q I r (i _ _ _ _ q)⟩
theorem _root_.L2.PGs.imp {tg : List Expr} {t t' : TGs} (h : PGs X tg t) (i : ∀ v σ H Q, t' v σ H Q → t v σ H Q) : PGs X tg t' := ⟨fun pins s σ H vs us Q I r q => h.run pins s σ H vs us Q I r (i _ _ _ _ q)⟩
theorem dgs_nil : PGs X [] (Lgs K [] GNil) := pgs_nil.imp fun v s H Q h => by
  obtain ⟨own, σD, μ, d, QD, m, e, rd, g2, q⟩ := h
  cases d with
  | cons _ _ => exact g2.elim
  | nil => exact ⟨rd, q σD μ own s H (fun _ _ => rfl) Ext.refl m e g2⟩
theorem dgs_cons {e : Expr} {es : List Expr} {vs ws : List Nat} {g : TGD} {u : TGsD} (h1 : PG X e (Lg K vs g)) (h2 : PGs X es (Lgs K ws u)) (hs : (assignEach (e :: es) X.env).map (·.2) = assign e X.env :: (assignEach es X.env).map (·.2) := by rfl) : PGs X (e :: es) (Lgs K (vs ++ ws) (GCons g u)) :=
  (pgs_cons h1 h2 hs).imp fun v s H Q h => by
    obtain ⟨own, σD, μ, d, QD, m, e, rd, g2, q⟩ := h
    match d, rd, g2 with
    | [], _, g2 => exact g2.elim
    | d1 :: r, rd, g2 =>
    obtain ⟨y, ys, rfl, r1, r2⟩ := rd
    refine ⟨y, ys, rfl, own, σD, μ, d1, _, m, e, r1, g2, fun σ' μ' own' s' H' hw x m' e' q' => ?_⟩
    refine ⟨own', σ', μ', r, QD, m', e', Reps.ext x _ _ r2, q', fun σ2 μ2 own2 s2 H2 hw2 x2 m2 e2 q2 => q σ2 μ2 own2 s2 H2 (fun ws hws => ?_) (x.trans x2) m2 e2 q2⟩
    rw [hw2 ws fun i hi => hws i (List.mem_append_right _ hi), hw ws fun i hi => hws i (List.mem_append_left _ hi)]
theorem dg_tup {es : List Expr} {k : Nat} {vs : List Nat} {u : TGsD} {n : Nat} (hc : X.calm = true) (hK : X.K = K) (h : PGs X es (Lgs K vs u)) (hn : (assignEach es X.env).length = n := by rfl) (hst : (assignEach es X.env).findIdx? (·.1) = none := by rfl) : PG X (.Tuple es k pos) (Lg K vs (GTup n u)) :=
  (pg_tup hc h hn hst).imp fun v s H Q h => by
    obtain ⟨own, σD, μ, d, QD, m, e, rd, g2, q⟩ := h
    unfold GTup at g2
    split at g2
    case h_2 => exact g2.elim
    rename_i ds
    obtain ⟨hl, g2⟩ := g2.getD
    obtain ⟨a, xs, rfl, h1, _, h3⟩ := rd
    subst hK
    exact ⟨a, xs, rfl, h1, by rw [← Reps.len h3]; exact hl, own, σD, μ, ds, QD, m, e, h3, g2, q⟩
def TAsg (te : TED) (g : TGD) : TSD := fun DD σ μ => te σ μ (fun d μ1 => g d σ μ1 DD.nx) fun x μ' => DD.xn x σ μ'
theorem lfs_asg {te : TED} {vs : List Nat} {g : TGD} {D : Ends} {s : L2.St} {H : Hp} (h : LfS K E (TAsg te g) D s H) : tAsg (Lf K E te) (Lg K vs g) D s H := by
  obtain ⟨own, σ, μ, DD, m, e, t, k⟩ := h
  refine LfS.bind m e k t fun x μ1 own1 u H1 x1 m1 e1 r1 k1 q1 => ?_
  exact ⟨own1, σ, μ1, x, DD.nx, m1, e1, r1, q1, fun σ' μ' own' s' H' _ x' m' e' q' => k1.nx σ' μ' own' s' H' x' m' e' q'⟩
theorem ds_asg {tg e : Expr} {te : TED} {vs : List Nat} {g : TGD} (he : PE X e (Lf K E te)) (hg : PG X tg (Lg K vs g)) (hs : swapsWithSole [tg] e pos.line X.env = pure false := by rfl) (hw : swappedStores [tg] e X.env = pure none := by rfl)
    (h1 : (assignEach [tg] X.env).map (·.2) = [assign tg X.env] := by rfl) : PS X (.Assign [tg] e pos) (LfS K E (TAsg te g)) := (ps_asg he hg hs hw h1).imp fun _ _ _ => lfs_asg
def TSet (i : Nat) (te : TED) : TSD := fun DD σ μ => te σ μ (fun d μ1 => DD.nx (σ.set i (some d)) μ1) fun x μ' => DD.xn x σ μ'
theorem ds_set {i : Nat} {x : Str} {e : Expr} {te : TED} {pos' : Pos} (hN : X.N.Nodup) (hi : X.N[i]? = some x) (hx : Loc X.env.scope x) (he : PE X e (Lf K E te)) (hs : swapsWith e (some (.Name x pos')) pos.line X.env = pure false := by rfl) (hf : X.fn x = true ∨ X.env.scope.names.lookup x = some .local := by first | exact .inl rfl | exact .inr rfl | assumption) :
    PS X (.Assign [.Name x pos'] e pos) (LfS K E (TSet i te)) := (ps_set hN hi hx he hs hf).imp fun D s H h => by
  obtain ⟨own, σ, μ, DD, m, e, t, k⟩ := h
  exact LfS.bind m e k t fun x μ1 own1 u H1 x1 m1 e1 r1 k1 q1 => k1.nx _ μ1 own1 _ H1 Ext.refl m1 (e1.set i r1) q1
/-- a, b = e, f -/
def TPar (i j : Nat) (ta : TAD) : TSD := fun DD σ μ => ta σ μ (fun ds μ1 => match ds with
  | [d1, d2] => DD.nx ((σ.set i (some d1)).set j (some d2)) μ1
  | _ => False) fun x μ' => DD.xn x σ μ'
theorem lfs_par {i j : Nat} {ta : TAD} {D : Ends} {s : L2.St} {H : Hp} (h : LfS K E (TPar i j ta) D s H) : tPar i j (LfA K E ta) D s H := by
  obtain ⟨own, σ, μ, DD, m, e, t, k⟩ := h
  refine LfS.bind m e k t fun x μ1 own1 u H1 x1 m1 e1 r1 k1 q1 => ?_
  split at q1
  case h_2 => exact q1.elim
  obtain ⟨y, r, rfl, h1, y2, r2, rfl, h2, h3⟩ := r1
  have h3 : r2 = [] := h3
  subst h3
  exact ⟨y, y2, rfl, k1.nx _ μ1 own1 _ H1 Ext.refl m1 ((e1.set i h1).set j h2) q1⟩
end
/-! loops -/
def LoopD (g : TGD) (tb : TSD) (DD : EndsD) : List D → Ev → Store → Prop
  | [] => DD.nx
  | d :: ds => fun σ μ => g d σ μ fun σ' μ' => tb { DD with nx := LoopD g tb DD ds, ct := LoopD g tb DD ds, bk := DD.nx } σ' μ'
abbrev TID := TG' (List D)
/-- what is walked: these items -/
def RepI (K : PySem.W.Frag) (own : Ow) (μ : Store) (H : Hp) (ds : List D) (J : It) : Prop := ∃ (G : Hp → Prop) (Y : Nat → Hp → V → Hp → Prop), Walk J ds.length G Y ∧
  (∀ own' μ' H', Tr K own μ H own' μ' H' → RelM K own' μ' H' → G H') ∧
  ∀ own' μ' H' i v H'', Tr K own μ H own' μ' H' → RelM K own' μ' H' → i < ds.length → Y i H' v H'' → ∃ d, ds[i]? = some d ∧ (∀ a o, H' a = some o → H'' a = some o) ∧ Rep K own' μ' H'' d v
abbrev LfI (K : PySem.W.Frag) (E : WX) (T : TID) : TI := LfG (fun own μ H d v => RepI K own μ H d v) K E T
def TFor (ti : TID) (g : TGD) (tb : TSD) : TSD := fun DD σ μ => ti σ μ (fun ds μ1 => LoopD g tb DD ds σ μ1) fun x μ' => DD.xn x σ μ'
theorem ds_for {X : Cx} {K : PySem.W.Frag} {E : WX} {tg iter : Expr} {body : List Stmt} {ti : TID} {vs : List Nat} {g : TGD} {tb : TSD} {pos : Pos} (hp : PassesOwn (model X.prog X.w) X.A X.env X.xe) (hc : X.calm = true) (hi : PI X tg iter (LfI K E ti)) (hg : PG X tg (Lg K vs g)) (hb : PSs X body (LfS K E tb))
    (hs : ∀ x, foldedSetIterable iter X.env x = pure x := by intro _; rfl) : PS X (.For tg iter body [] pos) (LfS K E (TFor ti g tb)) := (ps_for hp hc hi hg hb hs).imp fun D s H h => by
  obtain ⟨own, σ, μ, DD, m, e, t, k⟩ := h
  refine LfS.bind m e k t fun ds μ1 own1 J H1 x1 m1 e1 r1 k1 q1 => ?_
  obtain ⟨G, Y, w, hG, hY⟩ := r1
  refine for_it w (fun i s' H' => ∃ own' σ' μ', Ext own1 μ1 H1 own' μ' H' ∧ RelM K own' μ' H' ∧ RelE K own' μ' H' σ' s' ∧ LoopD g tb DD (ds.drop i) σ' μ') ⟨own1, σ, μ1, Ext.refl, m1, e1, by rw [List.drop_zero]; exact q1⟩ (fun i s' H' _ ⟨own', σ', μ', x', m', _⟩ => hG own' μ' H' x'.tr m') ?_ ?_
  · rintro i v s' H' H'' hi ⟨own', σ', μ', x', m', e', q'⟩ y
    obtain ⟨d, hd, sm, r⟩ := hY own' μ' H' i v H'' x'.tr m' hi y
    have ed : ds.drop i = d :: ds.drop (i + 1) := by
      rw [List.drop_eq_getElem_cons hi]
      congr 1
      rw [List.getElem?_eq_getElem hi] at hd
      exact Option.some.inj hd
    rw [ed] at q'
    have xs := Ext.same (own := own') (μ := μ') sm
    refine ⟨own', σ', μ', d, _, m'.same sm, e'.ext xs, r, q', fun σ2 μ2 own2 s2 H2 _ x2 m2 e2 q2 => ?_⟩
    have kx := k1.ext ((x'.trans xs).trans x2)
    refine ⟨own2, σ2, μ2, _, m2, e2, q2, ⟨fun a b c d' f g' m3 e3 q3 => ⟨c, a, b, ((x'.trans xs).trans x2).trans g', m3, e3, q3⟩, kx.rt, fun a b c d' f g' m3 e3 q3 => kx.nx a b c d' f g' m3 e3 q3, fun a b c d' f g' m3 e3 q3 => ⟨c, a, b, ((x'.trans xs).trans x2).trans g', m3, e3, q3⟩, kx.xn⟩⟩
  · rintro s' H' ⟨own', σ', μ', x', m', e', q'⟩
    rw [List.drop_length] at q'
    exact k1.nx σ' μ' own' s' H' x' m' e' q'
/-- while: so many turns at most -/
def LoopW (c : TTD) (tb : TSD) (DD : EndsD) : Nat → Ev → Store → Prop
  | 0 => fun _ _ => False
  | n + 1 => fun σ μ => c σ μ (fun b μ1 => if b = true then tb { DD with nx := LoopW c tb DD n, ct := LoopW c tb DD n, bk := DD.nx } σ μ1 else DD.nx σ μ1) fun x μ' => DD.xn x σ μ'
def TWhile (c : TTD) (tb : TSD) : TSD := fun DD σ μ => ∃ n, LoopW c tb DD n σ μ
theorem ds_while {X : Cx} {K : PySem.W.Frag} {E : WX} {c : Expr} {body : List Stmt} {tc : TTD} {tb : TSD} {pos : Pos} (hp : PassesOwn (model X.prog X.w) X.A X.env X.xe) (hc : PT X c (LfT K E tc)) (hb : PSs X body (LfS K E tb)) : PS X (.While c body [] pos) (LfS K E (TWhile tc tb)) :=
  (ps_while hp hc hb).imp fun D s H h => by
    obtain ⟨own, σ, μ, DD, m, e, ⟨n, t⟩, k⟩ := h
    refine ⟨fun n s' H' => ∃ own' σ' μ', Ext own μ H own' μ' H' ∧ RelM K own' μ' H' ∧ RelE K own' μ' H' σ' s' ∧ LoopW tc tb DD n σ' μ', ⟨n, own, σ, μ, Ext.refl, m, e, t⟩, ?_⟩
    rintro n s' H' ⟨own', σ', μ', x', m', e', q'⟩
    cases n with
    | zero => exact q'.elim
    | succ n =>
      have k' := k.ext x'
      refine LfS.bind m' e' k' q' fun b μ1 own1 u H1 x1 m1 e1 r1 k1 q1 => ?_
      subst r1
      cases u with
      | false => exact k1.nx σ' μ1 own1 s' H1 Ext.refl m1 e1 q1
      | true =>
        refine ⟨fun s2 H2 => ∃ own2 σ2 μ2, Ext own μ H own2 μ2 H2 ∧ RelM K own2 μ2 H2 ∧ RelE K own2 μ2 H2 σ2 s2 ∧ LoopW tc tb DD n σ2 μ2, fun s2 H2 z => ⟨n, Nat.lt_succ_self n, z⟩, ?_⟩
        refine ⟨own1, σ', μ1, _, m1, e1, q1, ⟨fun a b c d' f g' m3 e3 q3 => ⟨c, a, b, (x'.trans x1).trans g', m3, e3, q3⟩, k1.rt, k1.nx, fun a b c d' f g' m3 e3 q3 => ⟨c, a, b, (x'.trans x1).trans g', m3, e3, q3⟩, k1.xn⟩⟩
end DL

set_option Elab.async false
set_option linter.all false
set_option maxRecDepth 100000
namespace DL
open PySem L2 PyProof.Rows
open RZ (pi_zipA ItzT)
/-! what is walked -/
section
variable {K : PySem.W.Frag} {own : Ow} {μ : Store} {H : Hp}
theorem Reps.get : ∀ {ds : List D} {xs : List V} {i : Nat} {x : V}, Reps K own μ H ds xs → xs[i]? = some x → ∃ d, ds[i]? = some d ∧ Rep K own μ H d x
  | [], _, _, _, h, e => by
    have h : _ = [] := h
    subst h; simp at e
  | d :: ds, _, 0, x, h, e => by
    obtain ⟨y, r, rfl, h1, h2⟩ := h
    simp at e; subst e
    exact ⟨d, rfl, h1⟩
  | d :: ds, _, i + 1, x, h, e => by
    obtain ⟨y, r, rfl, h1, h2⟩ := h
    obtain ⟨d', e1, e2⟩ := Reps.get (i := i) (x := x) h2 (by simpa using e)
    exact ⟨d', by simpa using e1, e2⟩
theorem Reps.getD : ∀ {ds : List D} {xs : List V} {i : Nat} {d : D}, Reps K own μ H ds xs → ds[i]? = some d → ∃ x, xs[i]? = some x ∧ Rep K own μ H d x
  | [], _, _, _, h, e => by simp at e
  | d :: ds, _, 0, x, h, e => by
    obtain ⟨y, r, rfl, h1, h2⟩ := h
    simp at e; subst e
    exact ⟨y, rfl, h1⟩
  | d :: ds, _, i + 1, x, h, e => by
    obtain ⟨y, r, rfl, h1, h2⟩ := h
    obtain ⟨d', e1, e2⟩ := Reps.getD (i := i) (d := x) h2 (by simpa using e)
    exact ⟨d', by simpa using e1, e2⟩
theorem Reps.app : ∀ {ds es : List D} {xs ys : List V}, Reps K own μ H ds xs → Reps K own μ H es ys → Reps K own μ H (ds ++ es) (xs ++ ys)
  | [], _, _, _, h, g => by
    have h : _ = [] := h
    subst h; exact g
  | d :: ds, _, _, _, h, g => by
    obtain ⟨y, r, rfl, h1, h2⟩ := h
    exact ⟨y, _, rfl, h1, Reps.app h2 g⟩
theorem Reps.ofV : ∀ (xs : List V), Reps K own μ H (xs.map .v) xs
  | [] => rfl
  | x :: xs => ⟨x, xs, rfl, rfl, Reps.ofV xs⟩
theorem repI_list {a : Addr} {xs : List V} {ds : List D} (h : SqL K H a xs) (n : SqL K (fun _ => none) a xs ∨ ¬ Live own μ a) (r : Reps K own μ H ds xs) : RepI K own μ H ds (Itl K a) := by
  refine ⟨fun H => SqL K H a xs, YAt xs, by rw [Reps.len r]; exact walk_list, fun own' μ' H' e m => (e.sqL h n).1, fun own' μ' H' i v H'' e m hi y => ?_⟩
  obtain ⟨rfl, y⟩ := y
  obtain ⟨d, h1, h2⟩ := Reps.get r y
  exact ⟨d, h1, fun _ _ q => q, Rep.tr e _ _ h2⟩
theorem repI_tup {a : Addr} {xs : List V} {ds : List D} (h : SqT K H a xs) (n : SqT K (fun _ => none) a xs ∨ ¬ Live own μ a) (r : Reps K own μ H ds xs) : RepI K own μ H ds (Itt K a) := by
  refine ⟨fun H => SqT K H a xs, YAt xs, by rw [Reps.len r]; exact walk_tup, fun own' μ' H' e m => (e.sqT h n).1, fun own' μ' H' i v H'' e m hi y => ?_⟩
  obtain ⟨rfl, y⟩ := y
  obtain ⟨d, h1, h2⟩ := Reps.get r y
  exact ⟨d, h1, fun _ _ q => q, Rep.tr e _ _ h2⟩
end
/-- the items of a list, a tuple, a text -/
def items : D → Option (List D)
  | .lst ds => some ds
  | .tup ds => some ds
  | .frz xs => some (xs.map .v)
  | .v (.str z) => some (z.cps.toList.map fun c => .v (.str ⟨#[c]⟩))
  | _ => none
def TItems (te : TED) : TID := fun σ μ Q X => te σ μ (fun d μ1 => match items d with
  | some ds => Q ds μ1
  | none => False) X
theorem di_seq {X : Cx} {K : PySem.W.Frag} {E : WX} {tg l : Expr} {te : TED} (hK : X.K = K) (hl : PE X l (Lf K E te)) : PI X tg l (LfI K E (TItems te)) := by
  subst hK
  refine ⟨fun pins s σ H R I h => ?_⟩
  obtain ⟨own, σd, μ, QD, QX, m, e, t, k⟩ := h
  refine thn (hl.run pins s σ H (fun v H1 => ∃ own1 μ1 d ds, RelM X.K own1 μ1 H1 ∧ Rep X.K own1 μ1 H1 d v ∧ items d = some ds ∧ ∀ J, RepI X.K own1 μ1 H1 ds J → R J H1) I ?_) fun v s1 ⟨x, H1, I1, r1, q1⟩ => ?_
  · refine LfG.bind m e k t fun d μ1 own1 u H1 x1 m1 e1 r1 k1 q1 => ?_
    split at q1
    · rename_i ds ei
      exact ⟨own1, μ1, d, ds, m1, r1, ei, fun J hJ => k1.here m1 hJ q1⟩
    · exact q1.elim
  · obtain ⟨own1, μ1, d, ds, m1, r2, ei, q⟩ := q1
    have lst : ∀ a xs, x = .ref a → SqL X.K H1 a xs → (SqL X.K (fun _ => none) a xs ∨ ¬ Live own1 μ1 a) → Reps X.K own1 μ1 H1 ds xs → wpAny (model X.prog X.w) X.A (pyIter v) (PIE X pins σ tg R) X.xe s1 := fun a xs ex hq n r => by
      subst ex
      cases r1
      obtain ⟨its, rv, p, hz⟩ := I1.list hq
      exact wpAny_pyIter_list p.isList (pi_one (tk := s1.toks) I1 _ (turn_list a _) ⟨_, Heap.get?_push_size _ rfl, rfl, rfl⟩ (q _ (repI_list hq n r)))
    cases d with
    | lst ds' =>
      cases ei
      obtain ⟨a, xs, e1, e2, e3, e4⟩ := r2
      exact lst a xs e1 (.inl (.inl e2)) (.inr e3) e4
    | frz zs =>
      cases ei
      obtain ⟨a, e1, e2, e3⟩ := r2
      exact lst a zs e1 e2 e3 (Reps.ofV zs)
    | tup ds' =>
      cases ei
      obtain ⟨a, xs, e1, hq, n, e4⟩ := r2
      subst e1
      cases r1
      obtain ⟨its, rv, p, hz⟩ := I1.tuple hq
      exact wpAny_pyIter_tuple (show s1.heap.IsTuple a its.toArray from p) (pi_one (tk := s1.toks) I1 _ (turn_tuple a _) ⟨_, Heap.get?_push_size _ rfl, rfl, rfl⟩ (q _ (repI_tup hq n e4)))
    | v y =>
      have r2 : x = y := r2
      subst r2
      cases x with
      | str z =>
        cases ei
        obtain ⟨t, rfl⟩ := r1
        have hJ : RepI X.K own1 μ1 H1 (z.cps.toList.map fun c => .v (.str ⟨#[c]⟩)) (Its z) := by
          refine ⟨fun _ => True, _, by rw [List.length_map, Array.length_toList]; exact walk_str, fun _ _ _ _ _ => trivial, fun own' μ' H' i v H'' e m hi y => ?_⟩
          obtain ⟨rfl, c, hc, rfl⟩ := y
          exact ⟨.v (.str ⟨#[c]⟩), by rw [List.getElem?_map, Array.getElem?_toList, hc]; rfl, fun _ _ q => q, rfl⟩
        cases ha : z.cps.all (· < 128)
        · exact wpAny_pyIter_wide ha (pi_one (tk := s1.toks) I1 _ (turn_str _ z t "str_iterator" (.inr rfl)) ⟨_, Heap.get?_push_size _ rfl, rfl, rfl⟩ (q _ hJ))
        · exact wpAny_pyIter_ascii ha (pi_one (tk := s1.toks) I1 _ (turn_str _ z t "str_ascii_iterator" (.inl rfl)) ⟨_, Heap.get?_push_size _ rfl, rfl, rfl⟩ (q _ hJ))
      | _ => cases ei
    | _ => cases ei
/-- range's items -/
def rgD (a : Int) (n : Nat) (c : Int) : List D := (List.range n).map fun (i : Nat) => .v (.int (a + (i : Int) * c))
section
variable {X : Cx} {K : PySem.W.Frag} {E : WX} {tg : Expr} {own : Ow} {μ : Store} {H : Hp}
theorem repI_r {lo : Int} {n : Nat} : RepI K own μ H (rgD lo n 1) (Itr lo n) := by
  refine ⟨fun _ => True, _, by rw [rgD, List.length_map, List.length_range]; exact walk_range, fun _ _ _ _ _ => trivial, fun own' μ' H' i v H'' e m hi y => ?_⟩
  obtain ⟨rfl, rfl⟩ := y
  rw [rgD, List.length_map, List.length_range] at hi
  exact ⟨_, by rw [rgD, List.getElem?_map, List.getElem?_range hi]; rfl, fun _ _ q => q, by show V.int (lo + (i : Int)) = V.int (lo + (i : Int) * 1); rw [Int.mul_one]⟩
theorem repI_c {lo c : Int} {n : Nat} : RepI K own μ H (rgD lo n c) (Itc lo c n) := by
  refine ⟨fun _ => True, _, by rw [rgD, List.length_map, List.length_range]; exact walk_rangeC, fun _ _ _ _ _ => trivial, fun own' μ' H' i v H'' e m hi y => ?_⟩
  obtain ⟨rfl, rfl⟩ := y
  rw [rgD, List.length_map, List.length_range] at hi
  exact ⟨_, by rw [rgD, List.getElem?_map, List.getElem?_range hi]; rfl, fun _ _ q => q, rep_v _⟩
theorem _root_.L2.PI.imp {l : Expr} {t t' : TI} (h : PI X tg l t) (i : ∀ σ H Q, t' σ H Q → t σ H Q) : PI X tg l t' := ⟨fun pins s σ H Q I q => h.run pins s σ H Q I (i _ _ _ q)⟩
def TRng1 (ta : TAD) : TID := fun σ μ Q X => ta σ μ (fun ds μ1 => match ds with
  | [.v (.int j)] => (-(2 ^ 62) ≤ j ∧ j < 2 ^ 62) ∧ Q (rgD 0 j.toNat 1) μ1
  | _ => False) X
def TRng2 (ta : TAD) : TID := fun σ μ Q X => ta σ μ (fun ds μ1 => match ds with
  | [.v (.int i), .v (.int j)] => (-(2 ^ 62) ≤ i ∧ i < 2 ^ 62 ∧ -(2 ^ 62) ≤ j ∧ j < 2 ^ 62) ∧ Q (rgD i (j - i).toNat 1) μ1
  | _ => False) X
def TRng3 (ta : TAD) : TID := fun σ μ Q X => ta σ μ (fun ds μ1 => match ds with
  | [.v (.int i), .v (.int j), .v (.int c)] => ∃ n : Nat, RgC i j c n ∧ Q (rgD i n c) μ1
  | _ => False) X
theorem reps1 {a : D} {u : List V} (h : Reps K own μ H [a] u) : ∃ x, u = [x] ∧ Rep K own μ H a x := by
  obtain ⟨y, r, rfl, h1, h2⟩ := h
  have h2 : r = [] := h2
  subst h2
  exact ⟨y, rfl, h1⟩
theorem reps2 {a b : D} {u : List V} (h : Reps K own μ H [a, b] u) : ∃ x y, u = [x, y] ∧ Rep K own μ H a x ∧ Rep K own μ H b y := by
  obtain ⟨y, r, rfl, h1, h2⟩ := h
  obtain ⟨z, rfl, h3⟩ := reps1 h2
  exact ⟨y, z, rfl, h1, h3⟩
theorem reps3 {a b c : D} {u : List V} (h : Reps K own μ H [a, b, c] u) : ∃ x y z, u = [x, y, z] ∧ Rep K own μ H a x ∧ Rep K own μ H b y ∧ Rep K own μ H c z := by
  obtain ⟨y, r, rfl, h1, h2⟩ := h
  obtain ⟨z, w, rfl, h3, h4⟩ := reps2 h2
  exact ⟨y, z, w, rfl, h1, h3, h4⟩
theorem di_range1 {a : Expr} {ta : TAD} {p pos : Pos} (hg : Gl X "range") (hm : X.mg "range" = none) (ha : PA X [a] (LfA K E ta)) (hs : starEach [a] X.env = [(false, eval a X.env)] := by rfl) : PI X tg (.Call (.Name "range" p) [a] [] pos) (LfI K E (TRng1 ta)) :=
  (pi_range1 hg hm ha hs).imp fun s H R h => by
    obtain ⟨own, σ, μ, QD, QX, m, e, t, k⟩ := h
    refine LfG.bind m e k t fun ds μ1 own1 u H1 x1 m1 e1 r1 k1 q1 => ?_
    split at q1
    case h_2 => exact q1.elim
    rename_i j
    obtain ⟨⟨h1, h2⟩, q1⟩ := q1
    obtain ⟨x, rfl, rx⟩ := reps1 r1
    cases rx
    exact ⟨j, rfl, h1, h2, k1.here m1 repI_r q1⟩
theorem di_range2 {a b : Expr} {ta : TAD} {p pos : Pos} (hg : Gl X "range") (hm : X.mg "range" = none) (ha : PA X [a, b] (LfA K E ta)) (hs : starEach [a, b] X.env = [(false, eval a X.env), (false, eval b X.env)] := by rfl) (hs2 : starEach [b] X.env = [(false, eval b X.env)] := by rfl) : PI X tg (.Call (.Name "range" p) [a, b] [] pos) (LfI K E (TRng2 ta)) :=
  (pi_range2 hg hm ha hs hs2).imp fun s H R h => by
    obtain ⟨own, σ, μ, QD, QX, m, e, t, k⟩ := h
    refine LfG.bind m e k t fun ds μ1 own1 u H1 x1 m1 e1 r1 k1 q1 => ?_
    split at q1
    case h_2 => exact q1.elim
    rename_i i j
    obtain ⟨h1, q1⟩ := q1
    obtain ⟨x, y, rfl, rx, ry⟩ := reps2 r1
    cases rx
    cases ry
    exact ⟨i, j, rfl, h1, k1.here m1 repI_r q1⟩
theorem di_range3 {a b c : Expr} {ta : TAD} {p pos : Pos} (hg : Gl X "range") (hm : X.mg "range" = none) (ha : PA X [a, b, c] (LfA K E ta)) (hs : starEach [a, b, c] X.env = (false, eval a X.env) :: starEach [b, c] X.env := by rfl) (hpl : (backTo pos (starEach [b, c] X.env)).any (·.1) = false := by rfl) : PI X tg (.Call (.Name "range" p) [a, b, c] [] pos) (LfI K E (TRng3 ta)) :=
  (pi_range3 hg hm ha hs hpl).imp fun s H R h => by
    obtain ⟨own, σ, μ, QD, QX, m, e, t, k⟩ := h
    refine LfG.bind m e k t fun ds μ1 own1 u H1 x1 m1 e1 r1 k1 q1 => ?_
    split at q1
    case h_2 => exact q1.elim
    rename_i i j c
    obtain ⟨n, h1, q1⟩ := q1
    obtain ⟨x, y, z, rfl, rx, ry, rz⟩ := reps3 r1
    cases rx
    cases ry
    cases rz
    exact ⟨i, j, c, n, rfl, h1, k1.here m1 repI_c q1⟩
theorem rep_new {d1 d2 : D} {x y : V} {T : Addr} (m : RelM K own μ H) (n : H T = none) (h1 : Rep K own μ H d1 x) (h2 : Rep K own μ H d2 y) : Rep K own μ (upd H T (.tup [x, y])) (.tup [d1, d2]) (.ref T) := by
  have e := ext_upd (own := own) (μ := μ) (o := .tup [x, y]) n
  exact ⟨T, _, rfl, .inl (.inl upd_same), .inr (m.free n), x, [y], rfl, Rep.ext e _ _ h1, y, [], rfl, Rep.ext e _ _ h2, rfl⟩
theorem repI_pair {J : It} {ds es : List D} {xs ys : List V} {n : Nat} {G : Hp → Prop} (hn : n = min ds.length es.length) (w : Walk J n G (YPair (fun i => xs[i]?) (fun i => ys[i]?))) (r1 : Reps K own μ H ds xs) (r2 : Reps K own μ H es ys) (hG : ∀ own' μ' H', Tr K own μ H own' μ' H' → G H') : RepI K own μ H (List.zipWith (fun a b => D.tup [a, b]) ds es) J := by
  refine ⟨G, _, by rw [List.length_zipWith, ← hn]; exact w, fun own' μ' H' e m => hG own' μ' H' e, fun own' μ' H' i v H'' e m hi y => ?_⟩
  obtain ⟨T, x, z, rfl, nT, rfl, h1, h2⟩ := y
  obtain ⟨d1, g1, q1⟩ := Reps.get r1 h1
  obtain ⟨d2, g2, q2⟩ := Reps.get r2 h2
  refine ⟨_, by rw [List.getElem?_zipWith, g1, g2], fun a o q => ?_, rep_new m nT (Rep.tr e _ _ q1) (Rep.tr e _ _ q2)⟩
  rw [upd_ne (ne_of_none q nT)]
  exact q
def TZip (ta : TAD) : TID := fun σ μ Q X => ta σ μ (fun ds μ1 => match ds with
  | [.lst a, .lst b] => Q (List.zipWith (fun a b => D.tup [a, b]) a b) μ1
  | [.tup a, .tup b] => Q (List.zipWith (fun a b => D.tup [a, b]) a b) μ1
  | _ => False) X
theorem di_zip {e1 e2 : Expr} {ta : TAD} {p pos tpos : Pos} {elts : List Expr} {kk : Nat} (hK : X.K = K) (hg : Gl X "zip") (hm : X.mg "zip" = none) (ha : PA X [e1, e2] (LfA K E ta))
    (hs : starEach [e1, e2] X.env = (false, eval e1 X.env) :: starEach [e2] X.env := by rfl) (hpl : (backTo pos (starEach [e2] X.env)).any (·.1) = false := by rfl) : PI X (.Tuple elts kk tpos) (.Call (.Name "zip" p) [e1, e2] [] pos) (LfI K E (TZip ta)) :=
  (pi_zipA hg hm ha hs hpl).imp fun s H R h => by
    subst hK
    obtain ⟨own, σ, μ, QD, QX, m, e, t, k⟩ := h
    refine LfG.bind m e k t fun ds μ1 own1 u H1 x1 m1 e1 r1 k1 q1 => ?_
    split at q1
    case h_3 => exact q1.elim
    · rename_i a b
      obtain ⟨x, y, rfl, ⟨p1, xs, rfl, h1, h2, h3⟩, ⟨p2, ys, rfl, h4, h5, h6⟩⟩ := reps2 r1
      refine ⟨p1, p2, xs, ys, rfl, .inl ⟨.inl (.inl h1), .inl (.inl h4), k1.here m1 (repI_pair rfl (walk_zip (xs := xs) (ys := ys) (by rw [Reps.len h3, Reps.len h6])) h3 h6 fun own' μ' H' e => ⟨Or.inl (Or.inl (e.kp _ _ h1 h2).1), Or.inl (Or.inl (e.kp _ _ h4 h5).1)⟩) q1⟩⟩
    · rename_i a b
      obtain ⟨x, y, rfl, ⟨p1, xs, rfl, h1, h2, h3⟩, ⟨p2, ys, rfl, h4, h5, h6⟩⟩ := reps2 r1
      have w : Walk (ItzT X.K p1 p2) (min a.length b.length) (fun H => SqT X.K H p1 xs ∧ SqT X.K H p2 ys) (YPair (fun i => xs[i]?) (fun i => ys[i]?)) := by
        rw [Reps.len h3, Reps.len h6]
        refine ⟨fun i _ hi q => ?_, fun _ q => ⟨xs, ys, q.1, q.2, by omega⟩, fun i H v H' _ q y => ?_⟩
        · have g1 : i < xs.length := by omega
          have g2 : i < ys.length := by omega
          exact ⟨xs, ys, xs[i], ys[i], q.1, q.2, by simp [g1], by simp [g2]⟩
        · obtain ⟨T, x, z, g1, g2, g3, g4, g5⟩ := y
          exact ⟨T, x, z, g1, g2, g3, g4 xs q.1, g5 ys q.2⟩
      refine ⟨p1, p2, xs, ys, rfl, .inr ⟨h1, h4, k1.here m1 (repI_pair rfl w h3 h6 fun own' μ' H' e => ⟨(e.sqT h1 h2).1, (e.sqT h4 h5).1⟩) q1⟩⟩
def TEnum (ta : TAD) : TID := fun σ μ Q X => ta σ μ (fun ds μ1 => match ds with
  | [.lst a] => Q (List.zipWith (fun a b => D.tup [a, b]) (rgD 0 a.length 1) a) μ1
  | _ => False) X
theorem reps_r {n : Nat} : Reps K own μ H (rgD 0 n 1) ((List.range n).map fun (i : Nat) => V.int i) := by
  have : rgD 0 n 1 = ((List.range n).map fun (i : Nat) => V.int i).map D.v := by
    rw [rgD, List.map_map]
    refine List.map_congr_left fun i _ => ?_
    show D.v (.int (0 + (i : Int) * 1)) = .v (.int i)
    rw [Int.zero_add, Int.mul_one]
  rw [this]
  exact Reps.ofV _
theorem di_enum {e1 : Expr} {ta : TAD} {p pos tpos : Pos} {elts : List Expr} {kk : Nat} (hK : X.K = K) (hg : Gl X "enumerate") (hm : X.mg "enumerate" = none) (ha : PA X [e1] (LfA K E ta)) (hs : starEach [e1] X.env = [(false, eval e1 X.env)] := by rfl) :
    PI X (.Tuple elts kk tpos) (.Call (.Name "enumerate" p) [e1] [] pos) (LfI K E (TEnum ta)) :=
  (pi_enum hg hm ha hs).imp fun s H R h => by
    subst hK
    obtain ⟨own, σ, μ, QD, QX, m, e, t, k⟩ := h
    refine LfG.bind m e k t fun ds μ1 own1 u H1 x1 m1 e1 r1 k1 q1 => ?_
    split at q1
    case h_2 => exact q1.elim
    rename_i a
    obtain ⟨x, rfl, ⟨p1, xs, rfl, h1, h2, h3⟩⟩ := reps1 r1
    refine ⟨p1, xs, rfl, .inl (.inl h1), k1.here m1 (repI_pair (G := fun H => SqL X.K H p1 xs) (n := xs.length) (xs := (List.range a.length).map fun (i : Nat) => V.int i) (ys := xs) (by rw [rgD, List.length_map, List.length_range, Reps.len h3, Nat.min_self]) ?_ reps_r h3 fun own' μ' H' e => Or.inl (Or.inl (e.kp _ _ h1 h2).1)) q1⟩
    refine (walk_enum (K := X.K) (a := p1) (xs := xs)).mono (fun _ q => q) fun i H v H' hi _ y => ?_
    obtain ⟨T, x, z, g1, g2, g3, g4, g5⟩ := y
    refine ⟨T, x, z, g1, g2, g3, ?_, g5⟩
    rw [← g4, Reps.len h3]
    show (List.map (fun (i : Nat) => V.int i) (List.range xs.length))[i]? = some (V.int (i : Int))
    rw [List.getElem?_map, List.getElem?_range hi]
    rfl
end
/-! comprehensions -/
def wipeD (σ : Ev) : List Nat → Ev
  | [] => σ
  | v :: vs => (wipeD σ vs).set v none
theorem RelE.wipe {K : PySem.W.Frag} {own : Ow} {μ : Store} {H : Hp} {σ : Ev} {s : L2.St} (h : RelE K own μ H σ s) : ∀ vs : List Nat, RelE K own μ H (wipeD σ vs) (wipe s vs)
  | [] => h
  | v :: vs => by
    have q := h.wipe vs
    refine ⟨by simpa [wipeD, L2.wipe] using q.ln, fun i d e => ?_⟩
    unfold wipeD at e
    unfold L2.wipe
    by_cases hi : v = i
    · subst hi
      by_cases hlt : v < (wipeD σ vs).length
      · rw [List.getElem?_set_self hlt] at e; cases e
      · rw [List.getElem?_eq_none (by simpa using hlt)] at e; cases e
    · rw [List.getElem?_set_ne hi] at e
      rw [List.getElem?_set_ne hi]
      exact q.at_ i d e
theorem wipe_at {s : L2.St} {i : Nat} : ∀ {vs : List Nat}, i ∈ vs → (L2.wipe s vs).set i none = L2.wipe s vs
  | v :: r, h => by
    unfold L2.wipe
    by_cases e : i = v
    · rw [e, List.set_set]
    · rw [List.set_comm _ _ (fun z => e z.symm), wipe_at ((List.mem_cons.mp h).resolve_left e)]
theorem wipe_idem {s : L2.St} {vs : List Nat} : ∀ {ws : List Nat}, (∀ i ∈ ws, i ∈ vs) → L2.wipe (L2.wipe s vs) ws = L2.wipe s vs
  | [], _ => rfl
  | w :: ws, h => by
    show (L2.wipe (L2.wipe s vs) ws).set w none = _
    rw [wipe_idem fun i hi => h i (List.mem_cons_of_mem _ hi), wipe_at (h w List.mem_cons_self)]
def TYes : TTD := fun _ μ Q _ => Q true μ
def CompD (g : TGD) (tt : TTD) (te : TED) (σ : Ev) (Q : List D → Store → Prop) : List D → List D → Store → Prop
  | [], acc => fun μ => Q acc μ
  | d :: ds, acc => fun μ => g d σ μ fun σ' μ' => tt σ' μ' (fun b μ2 => if b = true then te σ' μ2 (fun y μ3 => acc.length < sizeLine ∧ CompD g tt te σ Q ds (acc ++ [y]) μ3) (fun _ _ => False) else CompD g tt te σ Q ds acc μ2) fun _ _ => False
def TLc (ti : TID) (g : TGD) (tt : TTD) (te : TED) (vs : List Nat) : TED := fun σ μ Q X => ti σ μ (fun ds μ1 => CompD g tt te (wipeD σ vs) (fun acc μ2 => Q (.lst acc) μ2) ds [] μ1) X
abbrev EF : WX := fun _ _ _ _ => False
theorem Ext.un1 {own own' : Ow} {μ μ' : Store} {H H' : Hp} (e : Ext own μ H own' μ' H') (p : Addr → Prop) : Ext (own.un1 p) μ H (own'.un1 p) μ' H' := ⟨rfl, e.pre, e.keep, e.live⟩
theorem lf_lc {K : PySem.W.Frag} {E : WX} {ti : TID} {g : TGD} {tt : TTD} {te : TED} {ws vs : List Nat} (hw : ∀ i ∈ ws, i ∈ vs) {s : L2.St} {H : Hp} {Q : VK} (h : Lf K E (TLc ti g tt te vs) s H Q) : tLc (LfI K E ti) (Lg K ws g) (LfT K EF tt) (Lf K EF te) vs s H Q := by
  obtain ⟨own, σ, μ, QD, QX, m, e, t, k⟩ := h
  refine LfG.bind m e k t fun ds μ1 own1 J H1 x1 m1 e1 r1 k1 q1 => fun L nL => ?_
  obtain ⟨G, Y, w, hG, hY⟩ := r1
  have npL : ¬ own1.p L := fun z => by
    obtain ⟨_, o, z⟩ := m1.pv L z
    rw [nL] at z; cases z
  have trL : ∀ {own' : Ow} {μ' : Store} {H' : Hp}, Ext own1 μ1 H1 (own'.un1 own1.p) μ' H' → own'.p = (own1.mk1 L).p → Tr K own1 μ1 H1 own' μ' H' := fun {own' μ' H'} x ep => by
    refine ⟨fun a o h n => ⟨x.keep a o h fun z => n (.inl z), ?_⟩, fun i a h => x.at h⟩
    rintro (l | l)
    · rcases x.live a l with z | z
      · exact n (.inl z)
      · rw [h] at z; cases z
    · rw [ep] at l
      rcases l with l | l
      · exact n (.inr l)
      · rw [l, nL] at h; cases h
  refine lc_it w (fun i H' => ∃ own' μ' acc xs, Ext own1 μ1 H1 (own'.un1 own1.p) μ' H' ∧ own'.p = (own1.mk1 L).p ∧ RelM K own' μ' H' ∧ H' L = some (.lst xs) ∧ Reps K own' μ' H' acc xs ∧ CompD g tt te (wipeD σ vs) (fun acc μ2 => QD (.lst acc) μ2) (ds.drop i) acc μ') ?_ ?_ ?_ ?_
  · exact ⟨own1.mk1 L, μ1, [], [], ⟨rfl, ⟨[], by simp [Ow.un1, Ow.mk1]⟩, fun a o h _ => by rw [upd_ne (ne_of_none h nL)]; exact h, fun a l => .inl l⟩, rfl, m1.mk1 nL, upd_same, rfl, by rw [List.drop_zero]; exact q1⟩
  · rintro i H' _ ⟨own', μ', acc, xs, x', ep, m', _⟩
    exact hG own' μ' H' (trL x' ep) m'
  · rintro i v H' H'' hi ⟨own', μ', acc, xs, x', ep, m', hL, rA, q'⟩ y
    obtain ⟨d, hd, sm, r⟩ := hY own' μ' H' i v H'' (trL x' ep) m' hi y
    have ed : ds.drop i = d :: ds.drop (i + 1) := by
      rw [List.drop_eq_getElem_cons hi]
      congr 1
      rw [List.getElem?_eq_getElem hi] at hd
      exact Option.some.inj hd
    rw [ed] at q'
    have xs' := Ext.same (own := own') (μ := μ') sm
    have m2 := m'.same sm
    have e2 := (e1.tr (trL x' ep)).ext xs'
    refine ⟨own', wipeD σ vs, μ', d, _, m2, e2.wipe vs, r, q', fun σ3 μ3 own3 s3 H3 hw3 x3 m3 e3 q3 => ⟨(hw3 vs hw).trans (wipe_idem fun _ h => h), ?_⟩⟩
    refine ⟨own3, σ3, μ3, _, _, m3, e3, q3, ⟨fun c μ4 own4 c' H4 x4 m4 rc q4 => ?_, fun _ _ _ _ _ _ _ _ _ z => z⟩⟩
    subst rc
    have x34 := (xs'.trans x3).trans x4
    cases c' with
    | false =>
      have pL : own'.p L := by rw [ep]; exact .inr rfl
      exact ⟨own4, μ4, acc, xs, x'.trans (x34.un1 _), x34.pp.trans ep, m4, x34.keep _ _ hL fun ⟨i, o, z1, _⟩ => (m'.pv L pL).1 (List.mem_of_getElem? z1), Reps.ext x34 _ _ rA, q4⟩
    | true =>
      refine ⟨own4, σ3, μ4, _, _, m4, e3.ext x4, q4, ⟨fun y5 μ5 own5 v5 H5 x5 m5 r5 q5 => ?_, fun _ _ _ _ _ _ _ _ _ z => z⟩⟩
      have x35 := x34.trans x5
      have pL : own'.p L := by rw [ep]; exact .inr rfl
      have hL5 : H5 L = some (.lst xs) := x35.keep _ _ hL fun ⟨i, o, z1, _⟩ => (m'.pv L pL).1 (List.mem_of_getElem? z1)
      have p5 : own5.p L := by rw [x35.pp]; exact pL
      have rA5 := Reps.ext x35 _ _ rA
      refine ⟨xs, hL5, by rw [← Reps.len rA5]; exact q5.1, own5, μ5, acc ++ [y5], xs ++ [v5], ?_, x35.pp.trans ep, ?_, upd_same, ?_, q5.2⟩
      · have x := x'.trans (x35.un1 own1.p)
        exact ⟨x.pp, x.pre, fun a o h n => by rw [upd_ne (ne_of_none h nL)]; exact x.keep a o h n, x.live⟩
      · refine m5.priv (fun a o n h => ?_) fun a ha => ?_
        · rw [upd_ne fun (z : a = L) => n (by rw [z]; exact p5)]
          exact h
        · by_cases z : a = L
          · exact ⟨_, by rw [z]; exact upd_same⟩
          · obtain ⟨_, o, h⟩ := m5.pv a ha
            exact ⟨o, by rw [upd_ne z]; exact h⟩
      · have tp : Tr K own5 μ5 H5 own5 μ5 (upd H5 L (.lst (xs ++ [v5]))) := tr_priv fun a o n h => by
          rw [upd_ne fun (z : a = L) => n (by rw [z]; exact p5)]
          exact h
        exact Reps.app (Reps.tr tp _ _ rA5) ⟨v5, [], rfl, Rep.tr tp _ _ r5, rfl⟩
  · rintro H' ⟨own', μ', acc, xs, x', ep, m', hL, rA, q'⟩
    rw [List.drop_length] at q'
    have sp : ∀ a, own1.p a → own'.p a := fun a h => by rw [ep]; exact .inl h
    refine k1.ok (.lst acc) μ' (own'.un1 own1.p) _ H' x' (m'.un1 sp) ⟨L, xs, rfl, hL, ?_, Reps.tr (tr_un1 sp) _ _ rA⟩ q'
    rintro (⟨i, o, z1, _⟩ | z)
    · exact (m'.pv L (by rw [ep]; exact .inr rfl)).1 (List.mem_of_getElem? z1)
    · exact npL z
end DL

set_option Elab.async false
set_option linter.all false
set_option maxRecDepth 100000
namespace DL
open PySem L2
open L2N (passAt)
/-! places named within data lie below n -/
mutual
def Cl (n : Nat) : D → Prop
  | .v _ => True
  | .tup ds => Cls' n ds
  | .lst ds => Cls' n ds
  | .frz _ => True
  | .obj _ fs => ClF n fs
  | .dK kvs => ClK n kvs
  | .loc i => i < n
  | .exn _ _ _ fs => ClF n fs
def Cls' (n : Nat) : List D → Prop
  | [] => True
  | d :: ds => Cl n d ∧ Cls' n ds
def ClF (n : Nat) : List (Str × D) → Prop
  | [] => True
  | (_, d) :: ds => Cl n d ∧ ClF n ds
def ClK (n : Nat) : List (Key × D) → Prop
  | [] => True
  | (_, d) :: ds => Cl n d ∧ ClK n ds
end
def ClO (n : Nat) : Ob → Prop
  | .lst ds => Cls' n ds
  | .dK kvs => ClK n kvs
  | .dT kvs => Cls' n (kvs.map (·.2))
  | .ins _ fs => ClF n fs
def ClS (n : Nat) (μ : Store) : Prop := ∀ (i : Nat) (o : Ob), μ[i]? = some (some o) → ClO n o
section
variable {K : PySem.W.Frag} {own own' : Ow} {μ μ' : Store} {H H' : Hp} {n : Nat}
mutual
theorem Rep.cl : ∀ {d : D} {y : V}, Rep K own μ H d y → Cl own.l.length d
  | .v _, _, _ => trivial
  | .tup ds, _, h => by obtain ⟨a, xs, _, _, _, h⟩ := h; exact Reps.cl h
  | .lst ds, _, h => by obtain ⟨a, xs, _, _, _, h⟩ := h; exact Reps.cl h
  | .frz _, _, _ => trivial
  | .obj _ fs, _, h => by obtain ⟨a, dx, xs, _, _, _, h⟩ := h; exact RepF.cl h
  | .dK kvs, _, h => by obtain ⟨a, xs, _, _, _, h⟩ := h; exact RepK.cl h
  | .loc i, _, h => by obtain ⟨a, h, _⟩ := h; exact (List.getElem?_eq_some_iff.mp h).1
  | .exn _ _ _ fs, _, h => by obtain ⟨vs, _, _, _, h⟩ := h; exact RepF.cl h
theorem Reps.cl : ∀ {ds : List D} {ys : List V}, Reps K own μ H ds ys → Cls' own.l.length ds
  | [], _, _ => trivial
  | d :: ds, _, h => by obtain ⟨y, r, _, h1, h2⟩ := h; exact ⟨Rep.cl h1, Reps.cl h2⟩
theorem RepF.cl : ∀ {ds : List (Str × D)} {ys : List (Str × V)}, RepF K own μ H ds ys → ClF own.l.length ds
  | [], _, _ => trivial
  | (f, d) :: ds, _, h => by obtain ⟨y, r, _, h1, h2⟩ := h; exact ⟨Rep.cl h1, RepF.cl h2⟩
theorem RepK.cl : ∀ {ds : List (Key × D)} {ys : List (Key × V)}, RepK K own μ H ds ys → ClK own.l.length ds
  | [], _, _ => trivial
  | (f, d) :: ds, _, h => by obtain ⟨y, r, _, h1, h2⟩ := h; exact ⟨Rep.cl h1, RepK.cl h2⟩
end
theorem RepO.cl {o : Ob} {a : Addr} (h : RepO K own μ H o a) : ClO own.l.length o := by
  cases o with
  | lst ds => obtain ⟨xs, _, h⟩ := h; exact Reps.cl h
  | dK ds => obtain ⟨xs, _, h⟩ := h; exact RepK.cl h
  | dT ds => obtain ⟨xs, _, _, h⟩ := h; exact Reps.cl h
  | ins C ds => obtain ⟨dx, xs, _, h⟩ := h; exact RepF.cl h
theorem RelM.cl (m : RelM K own μ H) : ClS μ.length μ := fun i o h => by
  rw [← m.ln]
  have hi : i < own.l.length := by rw [m.ln]; exact (List.getElem?_eq_some_iff.mp h).1
  exact (m.ob i o _ h (List.getElem?_eq_getElem hi)).cl
/-- what was made behind place n is given up -/
structure Cut (n : Nat) (own : Ow) (μ : Store) (own' : Ow) (μ' : Store) : Prop where
  p : own'.p = own.p
  l : own'.l = own.l.take n
  m : μ' = μ.take n
theorem Cut.live (c : Cut n own μ own' μ') {a : Addr} (h : SLive own' μ' a) : SLive own μ a := by
  obtain ⟨i, o, h1, h2⟩ := h
  rw [c.l, List.getElem?_take] at h1
  rw [c.m, List.getElem?_take] at h2
  split at h1
  · rename_i hi
    rw [if_pos hi] at h2
    exact ⟨i, o, h1, h2⟩
  · cases h1
theorem Cut.nl (c : Cut n own μ own' μ') {a : Addr} (h : ¬ Live own μ a) : ¬ Live own' μ' a := by
  rintro (l | l)
  · exact h (.inl (c.live l))
  · rw [c.p] at l
    exact h (.inr l)
mutual
theorem Rep.cut (c : Cut n own μ own' μ') : ∀ {d : D} {y : V}, Cl n d → Rep K own μ H d y → Rep K own' μ' H d y
  | .v _, _, _, h => h
  | .tup ds, _, k, h => by obtain ⟨a, xs, e, h1, h2, h3⟩ := h; exact ⟨a, xs, e, h1, h2.imp_right c.nl, Reps.cut c k h3⟩
  | .lst ds, _, k, h => by obtain ⟨a, xs, e, h1, h2, h3⟩ := h; exact ⟨a, xs, e, h1, c.nl h2, Reps.cut c k h3⟩
  | .frz _, _, _, h => by obtain ⟨a, e, h1, h2⟩ := h; exact ⟨a, e, h1, h2.imp_right c.nl⟩
  | .obj _ fs, _, k, h => by obtain ⟨a, dx, xs, e, h1, h2, h3⟩ := h; exact ⟨a, dx, xs, e, h1, c.nl h2, RepF.cut c k h3⟩
  | .dK kvs, _, k, h => by obtain ⟨a, xs, e, h1, h2, h3⟩ := h; exact ⟨a, xs, e, h1, c.nl h2, RepK.cut c k h3⟩
  | .loc i, _, k, h => by
    obtain ⟨a, h1, e⟩ := h
    have k : i < n := k
    exact ⟨a, by rw [c.l, List.getElem?_take, if_pos k]; exact h1, e⟩
  | .exn _ _ _ fs, _, k, h => by obtain ⟨vs, e, h1, h2, h3⟩ := h; exact ⟨vs, e, h1, c.nl h2, RepF.cut c k h3⟩
theorem Reps.cut (c : Cut n own μ own' μ') : ∀ {ds : List D} {ys : List V}, Cls' n ds → Reps K own μ H ds ys → Reps K own' μ' H ds ys
  | [], _, _, h => h
  | d :: ds, _, k, h => by obtain ⟨y, r, e, h1, h2⟩ := h; exact ⟨y, r, e, Rep.cut c k.1 h1, Reps.cut c k.2 h2⟩
theorem RepF.cut (c : Cut n own μ own' μ') : ∀ {ds : List (Str × D)} {ys : List (Str × V)}, ClF n ds → RepF K own μ H ds ys → RepF K own' μ' H ds ys
  | [], _, _, h => h
  | (f, d) :: ds, _, k, h => by obtain ⟨y, r, e, h1, h2⟩ := h; exact ⟨y, r, e, Rep.cut c k.1 h1, RepF.cut c k.2 h2⟩
theorem RepK.cut (c : Cut n own μ own' μ') : ∀ {ds : List (Key × D)} {ys : List (Key × V)}, ClK n ds → RepK K own μ H ds ys → RepK K own' μ' H ds ys
  | [], _, _, h => h
  | (f, d) :: ds, _, k, h => by obtain ⟨y, r, e, h1, h2⟩ := h; exact ⟨y, r, e, Rep.cut c k.1 h1, RepK.cut c k.2 h2⟩
end
theorem RepO.cut (c : Cut n own μ own' μ') {o : Ob} {a : Addr} (k : ClO n o) (h : RepO K own μ H o a) : RepO K own' μ' H o a := by
  cases o with
  | lst ds => obtain ⟨xs, h1, h⟩ := h; exact ⟨xs, h1, Reps.cut c k h⟩
  | dK ds => obtain ⟨xs, h1, h⟩ := h; exact ⟨xs, h1, RepK.cut c k h⟩
  | dT ds => obtain ⟨xs, h1, h2, h⟩ := h; exact ⟨xs, h1, h2, Reps.cut c k h⟩
  | ins C ds => obtain ⟨dx, xs, h1, h⟩ := h; exact ⟨dx, xs, h1, RepF.cut c k h⟩
theorem RelM.cut (m : RelM K own μ H) (c : Cut n own μ own' μ') (k : ClS n μ') : RelM K own' μ' H := by
  refine ⟨by rw [c.l]; exact m.nd.sublist (List.take_sublist _ _), by rw [c.l, c.m, List.length_take, List.length_take, m.ln], fun i o a h1 h2 => ?_, fun a ha => m.tr a (List.mem_of_mem_take (c.l ▸ ha)), fun a ha => ?_⟩
  · have k' := k i o h1
    rw [c.m, List.getElem?_take] at h1
    rw [c.l, List.getElem?_take] at h2
    split at h1
    · rename_i hi
      rw [if_pos hi] at h2
      exact RepO.cut c k' (m.ob i o a h1 h2)
    · cases h1
  · rw [c.p] at ha
    exact ⟨fun z => (m.pv a ha).1 (List.mem_of_mem_take (c.l ▸ z)), (m.pv a ha).2⟩
theorem RepX.cut (c : Cut n own μ own' μ') {x : Exn} {cv : Value} {dd : Option Addr} (k : ∀ fs, x.fs = some fs → ClF n fs) (h : RepX K own μ H x cv dd) : RepX K own' μ' H x cv dd := ⟨h.1, fun fs e => by
  obtain ⟨d, vs, h1, h2, h3, h4⟩ := h.2 fs e
  exact ⟨d, vs, h1, h2, c.nl h3, RepF.cut c (k fs e) h4⟩⟩
theorem Ext.cut {o0 : Ow} {m0 : Store} {H0 : Hp} (e : Ext o0 m0 H0 own μ H) (c : Cut o0.l.length own μ own' μ') : Ext o0 m0 H0 own' μ' H := by
  obtain ⟨t, ht⟩ := e.pre
  refine ⟨c.p.trans e.pp, ⟨[], by rw [c.l, ht, List.take_left' rfl]; simp⟩, e.keep, fun a l => e.live a (c.live l)⟩
end
/-! what a def promises, over data -/
abbrev SpD := List D → Store → (D → Store → Prop) → XD → Prop
def LfSp (K : PySem.W.Frag) (sp : SpD) : Sp := fun vs H Q E => ∃ own ds μ QD QX, RelM K own μ H ∧ Reps K own μ H ds vs ∧ sp ds μ QD QX ∧ Kont (fun own μ H d v => Rep K own μ H d v) K E own μ H QD QX Q
abbrev FnD (P : Program) (w : World) (K : PySem.W.Frag) (mg : Str → Option Value) (base : Heap) (k : Nat) (f : Addr) (fd : FuncData) (ps : List Str) (sp : SpD) : Prop := FnOk P w K mg base (L2N.CX P w) k f fd ps (LfSp K sp)
def startD (N : List Str) (ds : List D) : Ev := ds.map some ++ List.replicate (N.length - ds.length) none
theorem relE_start {K : PySem.W.Frag} {own : Ow} {μ : Store} {H : Hp} {N : List Str} {ds : List D} {vs : List V} (r : Reps K own μ H ds vs) : RelE K own μ H (startD N ds) (start N vs) := by
  refine ⟨by simp [startD, L2.start, Reps.len r], fun i d e => ?_⟩
  unfold startD at e
  unfold L2.start
  by_cases hi : i < ds.length
  · rw [List.getElem?_append_left (by simpa using hi), List.getElem?_map] at e
    cases q : ds[i]? with
    | none => rw [q] at e; cases e
    | some d' =>
      rw [q] at e
      cases e
      obtain ⟨x, h1, h2⟩ := Reps.getD r q
      exact ⟨x, by rw [List.getElem?_append_left (by rw [List.length_map, ← Reps.len r]; exact hi), List.getElem?_map, h1]; rfl, h2⟩
  · rw [List.getElem?_append_right (by simpa using Nat.le_of_not_lt hi), List.getElem?_replicate] at e
    split at e <;> cases e
/-- the ends of a def's body -/
def endsD (QD : D → Store → Prop) (QX : XD) : EndsD := ⟨fun _ μ => QD (.v .non) μ, QD, fun _ _ => False, fun _ _ => False, fun x _ μ => QX x μ⟩
/-- .. where what was made within is given up -/
def endsC (n : Nat) (QD : D → Store → Prop) (QX : XD) : EndsD := ⟨fun _ μ => ClS n (μ.take n) ∧ QD (.v .non) (μ.take n), fun d μ => Cl n d ∧ ClS n (μ.take n) ∧ QD d (μ.take n), fun _ _ => False, fun _ _ => False, fun x _ μ => (∀ fs, x.fs = some fs → ClF n fs) ∧ ClS n (μ.take n) ∧ QX x (μ.take n)⟩
section
variable {P : Program} {w : World} {K : PySem.W.Frag} {mg : Str → Option Value} {base : Heap}
/-- the body's context -/
abbrev CxD (P : Program) (w : World) (K : PySem.W.Frag) (mg : Str → Option Value) (base : Heap) (N : List Str) (qual : Str) (st : Stmt) (f : Addr) (cdv : Value) (A : Around) (outer : List Env) (s : Shared) (H : Hp) (E : XK) : Cx := cxOf (L2N.CX P w) P w K mg base N qual (defScope st) f cdv A outer s H E
theorem takesD {N : List Str} {qual : Str} {st : Stmt} {f : Addr} {cdv : Value} {A : Around} {outer : List Env} {s : Shared} {H : Hp} {E : XK} : L2N.Takes (CxD P w K mg base N qual st f cdv A outer s H E) (fun c d _ H => E c d H) := L2N.takes_of rfl rfl rfl rfl
/-- a def by its body -/
theorem fnD {x qual : Str} {params : Arguments} {st : Stmt} {dV kV doc pm cdv0 ct oc : Value} {an od : Option Addr} {osl : Array (Option Value)} {f : Addr} {N ps : List Str} {k : Nat} {sp : SpD}
    (lk : K.lookup f = some ⟨oc, od, .func (PySem.W.fnOf x qual params (defBody st) (defScope st) dV kV doc pm an cdv0 ct), osl⟩) (hcd : PySem.W.codeIn K cdv0 qual = true) (S : FnScope N ps (defScope st)) (len : ∀ ds μ QD QX, sp ds μ QD QX → ds.length = ps.length)
    (hbody : ∀ (A : Around) (outer : List Env) (s : Shared) (H : Hp) (E : XK), Room k (A.deeper (PyProof.Rows.envOfC qual (defScope st) s.heap.objs.size f cdv0)) →
      ∃ T : TSD, PSs (CxD P w K mg base N qual st f cdv0 A outer s H E) (defBody st) (LfS K (fun c d _ H => E c d H) T) ∧ ∀ ds μ QD QX, Cls' μ.length ds → ClS μ.length μ → sp ds μ QD QX → T (endsC μ.length QD QX) (startD N ds) μ ∨ T (endsD QD QX) (startD N ds) μ) :
    FnD P w K mg base (k + 1) f (PySem.W.fnOf x qual params (defBody st) (defScope st) dV kV doc pm an cdv0 ct) ps sp := by
  refine fn_of lk hcd S (fun vs H Q E h => ?_) fun A outer s H vs Q E hr h => ?_
  · obtain ⟨own, ds, μ, QD, QX, m, r, h, _⟩ := h
    rw [← Reps.len r]
    exact len _ _ _ _ h
  · obtain ⟨T, hT, hw⟩ := hbody A outer s H E hr
    refine ⟨_, hT, ?_⟩
    obtain ⟨own, ds, μ, QD, QX, m, r, h, k⟩ := h
    have hw := hw ds μ QD QX (m.ln ▸ Reps.cl r) m.cl h
    rcases hw with hw | hw
    · have c : ∀ (own' : Ow) (μ' : Store), Cut μ.length own' μ' ⟨own'.l.take μ.length, own'.p⟩ (μ'.take μ.length) := fun own' μ' => ⟨rfl, rfl, rfl⟩
      refine ⟨own, startD N ds, μ, endsC μ.length QD QX, m, relE_start r, hw, ⟨fun σ' μ' own' s' H' x m' e q => ?_, fun d μ' own' v H' x m' e q => ?_, fun _ _ _ _ _ _ _ _ q => q, fun _ _ _ _ _ _ _ _ q => q, fun x σ' μ' own' s' c' dd H' e m' e' rx q => ?_⟩⟩
      · exact k.ok (.v .non) _ _ _ H' (x.cut (m.ln ▸ c own' μ')) (m'.cut (c own' μ') q.1) (rep_v _) q.2
      · exact k.ok d _ _ v H' (x.cut (m.ln ▸ c own' μ')) (m'.cut (c own' μ') q.2.1) (Rep.cut (c own' μ') q.1 e) q.2.2
      · exact k.xn x _ _ c' dd H' (e.cut (m.ln ▸ c own' μ')) (m'.cut (c own' μ') q.2.1) (rx.cut (c own' μ') q.1) q.2.2
    · refine ⟨own, startD N ds, μ, endsD QD QX, m, relE_start r, hw, ⟨fun σ' μ' own' s' H' x m' e q => k.ok (.v .non) μ' own' _ H' x m' (rep_v _) q, fun d μ' own' v H' x m' e q => k.ok d μ' own' v H' x m' e q, fun _ _ _ _ _ _ _ _ q => q, fun _ _ _ _ _ _ _ _ q => q, fun x σ' μ' own' s' c dd H' e m' e' rx q => k.xn x μ' own' c dd H' e m' rx q⟩⟩
end
/-! calls -/
/-- how arguments come to parameters -/
structure Bd (K : PySem.W.Frag) (fd : FuncData) (ps : List Str) (n : Nat) (ks : List Str) (gD : List D → List D → List D) : Prop where
  ex : ∃ (g : List Value → List Value → List Value) (gV : List V → List V → List V), KBn K fd ps n ks g gV ∧ ∀ own μ H ds vs es zs, Reps K own μ H ds vs → Reps K own μ H es zs → Reps K own μ H (gD ds es) (gV vs zs)
section
variable {X : Cx} {k n : Nat} {f C : Addr} {fd : FuncData} {ps ks : List Str} {sp : SpD} {E : WX} {K : PySem.W.Frag} {gD : List D → List D → List D} {pins : List (Addr × Obj)} {σ : L2.St} {H : Hp} {s : Shared} {Q : VK} {us ws : List Value} {vs zs : List V}
/-- what a callee may let out is taken -/
def Tk (X : Cx) (E : WX) : Prop := ∀ σ, PassesAt (L2N.CX X.prog X.w) X σ fun c d H => E c d σ H
theorem tkF : Tk X EF := fun σ pins H s e s' _ h => by
  obtain ⟨_, _, _, _, _, _, _, _, _, _, _, _, z⟩ := h
  exact z.elim
theorem tk_of (tk : L2N.Takes X E) : Tk X E := fun σ => L2N.passAt tk σ
theorem run_fnD {own : Ow} {μ : Store} {ds es : List D} {QD : D → Store → Prop} {QX : XD} (F : FnD X.prog X.w X.K X.mg X.base k f fd ps sp) (hr : Room k X.A) (hb : Bd X.K fd ps n ks gD) (hx : Tk X E) (I : Inv X pins σ H s) (m : RelM X.K own μ H) (r : Vals vs us) (rz : Vals zs ws)
    (rd : Reps X.K own μ H ds vs) (re : Reps X.K own μ H es zs) (l1 : ds.length = n) (l2 : es.length = ks.length) (h : sp (gD ds es) μ QD QX) (kt : Kont (fun own μ H d v => Rep X.K own μ H d v) X.K (fun c d H => E c d σ H) own μ H QD QX Q) :
    wpAny (model X.prog X.w) X.A (call (.ref f) us (ks.zip ws)) (EP X pins σ Q) X.xe s := by
  obtain ⟨g, gV, hk, hg⟩ := hb.ex
  refine wpAny_call (codeAny_mono (F.run X.A X.stack s H ⟨us, ks.zip ws⟩ (g us ws) (gV vs zs) Q (fun c d H => E c d σ H) hr I.env0 (hk.to s us ws I.kIn (r.length.symm.trans ((Reps.len rd).symm.trans l1)) (rz.length.symm.trans ((Reps.len re).symm.trans l2))) (hk.rel r rz) ⟨own, _, μ, QD, QX, m, hg _ _ _ _ _ _ _ rd re, h, kt⟩) fun r s' hq => ?_)
  match r, hq with
  | .error e, hq => exact hx σ pins H s e s' I hq
  | .ok (.ret u), hq => exact I.after hq
  | .ok .next, hq => exact hq.elim
  | .ok .brk, hq => exact hq.elim
  | .ok .cont, hq => exact hq.elim
abbrev LfK (K : PySem.W.Frag) (E : WX) (T : TAD) : TA := LfA K E T
theorem dk_nil {X : Cx} : PK X [] (LfA K E TNil) := ⟨fun pos pins s σ H Q I h => pk_nil.run pos pins s σ H Q I (lfa_nil h)⟩
theorem dk_cons {X : Cx} {nm : Option Str} {e : Expr} {kpos : Pos} {kws : List Keyword} {t : TED} {u : TAD} (ha : PE X e (Lf K E t)) (hr : PK X kws (LfA K E u)) : PK X (⟨nm, e, kpos⟩ :: kws) (LfA K E (TCons t u)) := ⟨fun pos pins s σ H Q I h => (pk_cons ha hr).run pos pins s σ H Q I (lfa_cons h)⟩
/-- f(e, .., k = v, ..) -/
def TCall (n m : Nat) (gD : List D → List D → List D) (sp : SpD) (ta tk : TAD) : TED := fun σ μ Q X => ta σ μ (fun ds μ1 => tk σ μ1 (fun es μ2 => Grd (decide (ds.length = n)) (Grd (decide (es.length = m)) (sp (gD ds es) μ2 Q X))) X) X
structure DnD (P : Program) (w : World) (K : PySem.W.Frag) (mg : Str → Option Value) (base : Heap) (k : Nat) (x : Str) (ps : List Str) (n : Nat) (ks : List Str) (gD : List D → List D → List D) (sp : SpD) : Prop where
  ex : ∃ (f : Addr) (fd : FuncData), FnD P w K mg base k f fd ps sp ∧ mg x = some (.ref f) ∧ PySem.W.keepIn K (.ref f) = true ∧ Bd K fd ps n ks gD
variable {x m' : Str} {p pos apos : Pos} {e o : Expr} {es : List Expr} {kws : List Keyword} {ta tk : TAD} {to : TED}
theorem de_call (D : DnD X.prog X.w X.K X.mg X.base k x ps n ks gD sp) (hK : X.K = K) (hr : Room k X.A) (hx : Tk X E) (hg : Gl X x) (ha : PA X (e :: es) (LfA K E ta)) (hkw : PK X kws (LfA K E tk))
    (hall : (backToKw pos (keywordEach kws X.env)).all (·.1.isSome) = true := by rfl) (hks : (backToKw pos (keywordEach kws X.env)).filterMap (·.1) = ks := by rfl) (hdb : (x == ("__debug__" : Str)) = false := by decide)
    (he : starEach (e :: es) X.env = (false, eval e X.env) :: starEach es X.env := by rfl) (hpl : ((backTo pos (starEach (e :: es) X.env)).any (·.1) || (backToKw pos (keywordEach kws X.env)).any (·.1.isNone)) = false := by rfl) :
    PE X (.Call (.Name x p) (e :: es) kws pos) (Lf K E (TCall n ks.length gD sp ta tk)) := by
  subst hK
  obtain ⟨f, fd, F, hm, hk, hb⟩ := D.ex
  refine ⟨fun pins s σ H Q I h => ?_⟩
  obtain ⟨own, σd, μ, QD, QX, m, er, t, kt⟩ := h
  refine wpAny_Call_Name_kw (ld_glob I hg hm ?_ hdb)
  refine PySem.W.callWith_KW (h₀ := X.base) I.ok.mod.kin hk hall (thn (ha.run pos pins s σ H _ I (LfG.bind (Q := fun vs H1 => ∃ own1 μ1 ds, RelM X.K own1 μ1 H1 ∧ RelE X.K own1 μ1 H1 σd σ ∧ Reps X.K own1 μ1 H1 ds vs ∧ Kont (fun own μ H d v => Rep X.K own μ H d v) X.K (fun c d H => E c d σ H) own1 μ1 H1 QD QX Q ∧ tk σd μ1 (fun es μ2 => Grd (decide (ds.length = n)) (Grd (decide (es.length = ks.length)) (sp (gD ds es) μ2 QD QX))) QX) m er kt t fun ds μ1 own1 vs H1 x1 m1 e1 r1 k1 q1 => ⟨own1, μ1, ds, m1, e1, r1, k1, q1⟩)) fun us s1 ⟨vs, H1, I1, rv, own1, μ1, ds, m1, e1, r1, k1, q1⟩ => ?_) hpl he
  refine thn (hkw.run pos pins s1 σ H1 _ I1 (LfG.bind (Q := fun zs H2 => ∃ own2 μ2 ds2, RelM X.K own2 μ2 H2 ∧ Reps X.K own2 μ2 H2 ds vs ∧ Reps X.K own2 μ2 H2 ds2 zs ∧ Kont (fun own μ H d v => Rep X.K own μ H d v) X.K (fun c d H => E c d σ H) own2 μ2 H2 QD QX Q ∧ Grd (decide (ds.length = n)) (Grd (decide (ds2.length = ks.length)) (sp (gD ds ds2) μ2 QD QX))) m1 e1 k1 q1 fun ds2 μ2 own2 zs H2 x2 m2 e2 r2 k2 q2 => ⟨own2, μ2, ds2, m2, Reps.ext x2 _ _ r1, r2, k2, q2⟩)) fun ws s2 ⟨zs, H2, I2, rz, own2, μ2, ds2, m2, r1', r2, k2, q2⟩ => ⟨I2.kIn, ?_⟩
  obtain ⟨l1, q2⟩ := q2.getD
  obtain ⟨l2, q2⟩ := q2.getD
  rw [hks]
  exact run_fnD F hr hb hx I2 m2 rv rz r1' r2 l1 l2 q2 k2
/-- f(k = v, ..) -/
theorem de_callK (D : DnD X.prog X.w X.K X.mg X.base k x ps 0 ks gD sp) (hK : X.K = K) (hr : Room k X.A) (hx : Tk X E) (hg : Gl X x) (hkw : PK X kws (LfA K E tk))
    (hall : (backToKw pos (keywordEach kws X.env)).all (·.1.isSome) = true := by rfl) (hks : (backToKw pos (keywordEach kws X.env)).filterMap (·.1) = ks := by rfl) (hdb : (x == ("__debug__" : Str)) = false := by decide)
    (hpl : ((backTo pos (starEach [] X.env)).any (·.1) || (backToKw pos (keywordEach kws X.env)).any (·.1.isNone)) = false := by rfl) :
    PE X (.Call (.Name x p) [] kws pos) (Lf K E (TCall 0 ks.length gD sp TNil tk)) := by
  subst hK
  obtain ⟨f, fd, F, hm, hk, hb⟩ := D.ex
  refine ⟨fun pins s σ H Q I h => ?_⟩
  obtain ⟨own, σd, μ, QD, QX, m, er, t, kt⟩ := h
  refine wpAny_Call_Name_kw (ld_glob I hg hm ?_ hdb)
  refine PySem.W.callWith_KW0 (h₀ := X.base) I.ok.mod.kin hk hall ?_ hpl
  refine thn (hkw.run pos pins s σ H _ I (LfG.bind (Q := fun zs H2 => ∃ own2 μ2 ds2, RelM X.K own2 μ2 H2 ∧ Reps X.K own2 μ2 H2 ds2 zs ∧ Kont (fun own μ H d v => Rep X.K own μ H d v) X.K (fun c d H => E c d σ H) own2 μ2 H2 QD QX Q ∧ Grd (decide (([] : List DL.D).length = 0)) (Grd (decide (ds2.length = ks.length)) (sp (gD [] ds2) μ2 QD QX))) m er kt t fun ds2 μ2 own2 zs H2 x2 m2 e2 r2 k2 q2 => ⟨own2, μ2, ds2, m2, r2, k2, q2⟩)) fun ws s2 ⟨zs, H2, I2, rz, own2, μ2, ds2, m2, r2, k2, q2⟩ => ⟨I2.kIn, ?_⟩
  obtain ⟨l1, q2⟩ := q2.getD
  obtain ⟨l2, q2⟩ := q2.getD
  rw [hks]
  exact run_fnD (us := []) (vs := []) F hr hb hx I2 m2 .nil rz (ds := []) rfl r2 rfl l2 q2 k2
end
end DL

set_option Elab.async false
set_option linter.all false
set_option maxRecDepth 100000
namespace DL
open PySem L2
/-! writing to the store -/
section
variable {K : PySem.W.Frag} {own : Ow} {μ : Store} {H : Hp} {i : Nat} {a : Addr} {o0 o : Ob} {u : HO}
theorem slive_set (h : μ[i]? = some (some o0)) {b : Addr} : SLive own (μ.set i (some o)) b ↔ SLive own μ b := by
  have hi := (List.getElem?_eq_some_iff.mp h).1
  constructor
  · rintro ⟨j, w, h1, h2⟩
    by_cases e : i = j
    · subst e
      exact ⟨i, o0, h1, h⟩
    · rw [List.getElem?_set_ne e] at h2
      exact ⟨j, w, h1, h2⟩
  · rintro ⟨j, w, h1, h2⟩
    by_cases e : i = j
    · subst e
      exact ⟨i, o, h1, List.getElem?_set_self hi⟩
    · exact ⟨j, w, h1, by rw [List.getElem?_set_ne e]; exact h2⟩
theorem Ext.set (m : RelM K own μ H) (h : μ[i]? = some (some o0)) (ha : own.l[i]? = some a) : Ext own μ H own (μ.set i (some o)) (upd H a u) :=
  ⟨rfl, ⟨[], by simp⟩, fun b w e n => by
    rw [upd_ne fun (z : b = a) => n ⟨i, o0, by rw [z]; exact ha, h⟩]
    exact e, fun b l => .inl ((slive_set h).mp l)⟩
theorem nodup_at {l : List Addr} (hn : l.Nodup) {i j : Nat} {a : Addr} (h1 : l[i]? = some a) (h2 : l[j]? = some a) : i = j := by
  obtain ⟨p1, q1⟩ := List.getElem?_eq_some_iff.mp h1
  obtain ⟨p2, q2⟩ := List.getElem?_eq_some_iff.mp h2
  rcases Nat.lt_trichotomy i j with h | h | h
  · exact absurd (q1.trans q2.symm) (List.pairwise_iff_getElem.mp hn i j p1 p2 h)
  · exact h
  · exact absurd (q2.trans q1.symm) (List.pairwise_iff_getElem.mp hn j i p2 p1 h)
theorem RelM.set (m : RelM K own μ H) (h : μ[i]? = some (some o0)) (ha : own.l[i]? = some a) (r : RepO K own (μ.set i (some o)) (upd H a u) o a) : RelM K own (μ.set i (some o)) (upd H a u) := by
  have ex := Ext.set (o := o) (u := u) m h ha
  refine ⟨m.nd, by rw [List.length_set]; exact m.ln, fun j w b h1 h2 => ?_, fun b hb => ?_, fun b hb => ?_⟩
  · by_cases e : i = j
    · subst e
      rw [List.getElem?_set_self (List.getElem?_eq_some_iff.mp h).1] at h1
      cases h1
      rw [ha] at h2
      cases h2
      exact r
    · rw [List.getElem?_set_ne e] at h1
      refine RepO.ext ex (m.ob j w b h1 h2) fun v q => ?_
      rw [upd_ne]
      · exact q
      · rintro rfl
        exact e (nodup_at m.nd ha h2)
  · by_cases e : b = a
    · exact ⟨u, by rw [e]; exact upd_same⟩
    · rw [upd_ne e]
      exact m.tr b hb
  · obtain ⟨z1, w, z2⟩ := m.pv b hb
    have ne : b ≠ a := fun e => z1 (e ▸ List.mem_of_getElem? ha)
    exact ⟨z1, w, by rw [upd_ne ne]; exact z2⟩
/-- a place is given up: what stood there changes no more -/
theorem slive_free {b : Addr} (h : SLive own (μ.set i none) b) : SLive own μ b := by
  obtain ⟨j, w, h1, h2⟩ := h
  by_cases e : i = j
  · subst e
    by_cases hi : i < μ.length
    · rw [List.getElem?_set_self hi] at h2; cases h2
    · rw [List.getElem?_eq_none (by simpa using Nat.le_of_not_lt hi)] at h2; cases h2
  · rw [List.getElem?_set_ne e] at h2
    exact ⟨j, w, h1, h2⟩
theorem Ext.free : Ext own μ H own (μ.set i none) H := ⟨rfl, ⟨[], by simp⟩, fun _ _ e _ => e, fun b l => .inl (slive_free l)⟩
theorem RelM.freed (m : RelM K own μ H) : RelM K own (μ.set i none) H := by
  refine ⟨m.nd, by rw [List.length_set]; exact m.ln, fun j w b h1 h2 => ?_, m.tr, m.pv⟩
  by_cases e : i = j
  · subst e
    by_cases hi : i < μ.length
    · rw [List.getElem?_set_self hi] at h1; cases h1
    · rw [List.getElem?_eq_none (by simpa using Nat.le_of_not_lt hi)] at h1; cases h1
  · rw [List.getElem?_set_ne e] at h1
    exact RepO.ext Ext.free (m.ob j w b h1 h2) fun _ q => q
theorem not_live_free (m : RelM K own μ H) (ha : own.l[i]? = some a) : ¬ Live own (μ.set i none) a := by
  rintro (⟨j, w, h1, h2⟩ | h)
  · have e := nodup_at m.nd ha h1
    subst e
    by_cases hi : i < μ.length
    · rw [List.getElem?_set_self hi] at h2; cases h2
    · rw [List.getElem?_eq_none (by simpa using Nat.le_of_not_lt hi)] at h2; cases h2
  · exact (m.pv a h).1 (List.mem_of_getElem? ha)
end
/-! objects -/
def insOf (μ : Store) : D → Option (Addr × List (Str × D))
  | .obj C fs => some (C, fs)
  | .loc i => match μ[i]? with
    | some (some (.ins C fs)) => some (C, fs)
    | _ => none
  | _ => none
section
variable {K : PySem.W.Frag} {own own' : Ow} {μ : Store} {H : Hp}
theorem ins_view (m : RelM K own μ H) {d : D} {v : V} {C : Addr} {fs : List (Str × D)} (h : insOf μ d = some (C, fs)) (r : Rep K own μ H d v) : ∃ a dx vs, v = .ref a ∧ H a = some (.ins C dx vs) ∧ RepF K own μ H fs vs := by
  cases d with
  | obj C' fs' =>
    cases h
    obtain ⟨a, dx, vs, e, h1, _, h3⟩ := r
    exact ⟨a, dx, vs, e, h1, h3⟩
  | loc i =>
    obtain ⟨a, h1, e⟩ := r
    have h : (match μ[i]? with | some (some (.ins C fs)) => some (C, fs) | _ => none) = some (C, fs) := h
    split at h
    · rename_i C' fs' q
      cases h
      obtain ⟨dx, vs, h2, h3⟩ := m.ob i _ a q h1
      exact ⟨a, dx, vs, e, h2, h3⟩
    · cases h
  | _ => cases h
theorem RepF.look : ∀ {fs : List (Str × D)} {vs : List (Str × V)} {f : Str}, RepF K own μ H fs vs → (∀ d, fs.lookup f = some d → ∃ v, vs.lookup f = some v ∧ Rep K own μ H d v) ∧ (fs.lookup f = none → vs.lookup f = none)
  | [], _, _, h => by
    have h : _ = [] := h
    subst h
    exact ⟨fun d e => by simp at e, fun _ => rfl⟩
  | (g, d) :: fs, _, f, h => by
    obtain ⟨y, r, rfl, h1, h2⟩ := h
    by_cases e : f = g
    · have hb : (f == g) = true := beq_iff_eq.mpr e
      simp only [List.lookup, hb]
      exact ⟨fun d' q => by cases q; exact ⟨y, rfl, h1⟩, fun q => by cases q⟩
    · have hb : (f == g) = false := beq_eq_false_iff_ne.mpr e
      simp only [List.lookup, hb]
      exact RepF.look h2
def putFD (f : Str) (d : D) : List (Str × D) → List (Str × D)
  | [] => [(f, d)]
  | (g, x) :: r => if g = f then (g, d) :: r else (g, x) :: putFD f d r
theorem RepF.put {f : Str} {d : D} {v : V} (r : Rep K own μ H d v) : ∀ {fs : List (Str × D)} {vs : List (Str × V)}, RepF K own μ H fs vs → RepF K own μ H (putFD f d fs) (putF f v vs)
  | [], _, h => by
    have h : _ = [] := h
    subst h
    exact ⟨v, [], rfl, r, rfl⟩
  | (g, x) :: fs, _, h => by
    obtain ⟨y, q, rfl, h1, h2⟩ := h
    unfold putFD putF
    split
    · exact ⟨v, q, rfl, r, h2⟩
    · exact ⟨y, _, rfl, h1, RepF.put r h2⟩
theorem RepF.len : ∀ {fs : List (Str × D)} {vs : List (Str × V)}, RepF K own μ H fs vs → fs.length = vs.length
  | [], _, h => by
    have h : _ = [] := h
    subst h; rfl
  | _ :: fs, _, h => by
    obtain ⟨y, q, rfl, h1, h2⟩ := h
    simp [RepF.len h2]
end
/-- an attribute of the instances of C -/
structure Fl (K : PySem.W.Frag) (C : Addr) (f : Str) : Prop where
  c : Cls K C
  n : NoAttr K C f
def TFld (K : PySem.W.Frag) (f : Str) (to : TED) : TED := fun σ μ Q X => to σ μ (fun d μ1 => ∃ C fs d', insOf μ1 d = some (C, fs) ∧ Fl K C f ∧ fs.lookup f = some d' ∧ Q d' μ1) X
def TFldS (K : PySem.W.Frag) (f : Str) (to tv : TED) : TSD := fun DD σ μ => tv σ μ (fun y μ1 => to σ μ1 (fun d μ2 => ∃ i C fs, d = .loc i ∧ μ2[i]? = some (some (.ins C fs)) ∧ Fl K C f ∧ fs.length < 1000 ∧ DD.nx σ (μ2.set i (some (.ins C (putFD f y fs))))) fun x μ' => DD.xn x σ μ') fun x μ' => DD.xn x σ μ'
section
variable {X : Cx} {K : PySem.W.Frag} {E : WX} {o e value : Expr} {f : Str} {pos pos' : Pos} {to tv : TED}
theorem de_fld (hK : X.K = K) (he : PE X e (Lf K E to)) (hb : attributeBase e f X.env (eval e X.env) = eval e X.env := by rfl) : PE X (.Attribute e f pos) (Lf K E (TFld K f to)) := (pe_fld he hb).imp fun s H Q h => by
  subst hK
  obtain ⟨own, σ, μ, QD, QX, m, e, t, k⟩ := h
  refine LfG.bind m e k t fun x μ1 own1 u H1 x1 m1 e1 r1 k1 ⟨C, fs, d', hi, hf, hl, q1⟩ => ?_
  obtain ⟨a, dx, vs, rfl, ha, rf⟩ := ins_view m1 hi r1
  obtain ⟨v, hv, rv⟩ := (rf.look (f := f)).1 d' hl
  exact ⟨a, C, dx, vs, v, rfl, ha, hf.c, hf.n, hv, k1.here m1 rv q1⟩
theorem ds_fld (hK : X.K = K) (ho : PE X o (Lf K E to)) (hv : PE X value (Lf K E tv)) (hs : swapsWith value (some (.Attribute o f pos')) pos.line X.env = pure false := by rfl) : PS X (.Assign [.Attribute o f pos'] value pos) (LfS K E (TFldS K f to tv)) := (ps_fld ho hv hs).imp fun D s H h => by
  subst hK
  obtain ⟨own, σ, μ, DD, m, e, t, k⟩ := h
  refine LfS.bind m e k t fun y μ1 own1 u H1 x1 m1 e1 r1 k1 q1 => ?_
  refine LfS.bind m1 e1 k1 q1 fun d μ2 own2 v H2 x2 m2 e2 r2 k2 ⟨i, C, fs, ed, hi, hf, hl, q2⟩ => ?_
  subst ed
  obtain ⟨a, ha, rfl⟩ := r2
  obtain ⟨dx, vs, h1, h2⟩ := m2.ob i _ a hi ha
  have ex := Ext.set (o := .ins C (putFD f y fs)) (u := .ins C dx (putF f u vs)) m2 hi ha
  refine ⟨a, C, dx, vs, rfl, h1, hf.c, hf.n, by rw [← RepF.len h2]; exact hl, ?_⟩
  exact k2.nx σ _ own2 s _ ex (m2.set hi ha ⟨dx, _, upd_same, RepF.ext ex _ _ (RepF.put (Rep.ext x2 _ _ r1) h2)⟩) (e2.ext ex) q2
end
/-! methods -/
def TMeth (C : Addr) (m : Str) (n k : Nat) (gD : List D → List D → List D) (sp : SpD) (to : TED) (ta tk : TAD) : TED := fun σ μ Q X => to σ μ (fun d μ0 => ∃ fs, insOf μ0 d = some (C, fs) ∧ fs.lookup m = none ∧
  ta σ μ0 (fun ds μ1 => tk σ μ1 (fun es μ2 => Grd (decide (ds.length = n)) (Grd (decide (es.length = k)) (sp (gD (d :: ds) es) μ2 Q X))) X) X) X
structure MtD (P : Program) (w : World) (K : PySem.W.Frag) (mg : Str → Option Value) (base : Heap) (k : Nat) (C : Addr) (x : Str) (ps : List Str) (n : Nat) (ks : List Str) (gD : List D → List D → List D) (sp : SpD) : Prop where
  c : Cls K C
  ex : ∃ (f : Addr) (fd : FuncData), FnD P w K mg base k f fd ps sp ∧ Meth K C x f ∧ Bd K fd ps (n + 1) ks gD
section
variable {X : Cx} {k n : Nat} {C : Addr} {ps ks : List Str} {sp : SpD} {E : WX} {K : PySem.W.Frag} {gD : List D → List D → List D} {m : Str} {pos apos : Pos} {e o : Expr} {es : List Expr} {kws : List Keyword} {ta tk : TAD} {to : TED} {pl : Sem Bool}
theorem de_meth (D : MtD X.prog X.w X.K X.mg X.base k C m ps n ks gD sp) (hK : X.K = K) (hr : Room k X.A) (hx : Tk X E) (ho : PE X o (Lf K E to)) (ha : PA X (e :: es) (LfA K E ta)) (hkw : PK X kws (LfA K E tk))
    (hall : (backToKw pos (keywordEach kws X.env)).all (·.1.isSome) = true := by rfl) (hks : (backToKw pos (keywordEach kws X.env)).filterMap (·.1) = ks := by rfl)
    (he : starEach (e :: es) X.env = (false, eval e X.env) :: starEach es X.env := by rfl) (hpl : ((backTo pos (starEach (e :: es) X.env)).any (·.1) || (backToKw pos (keywordEach kws X.env)).any (·.1.isNone)) = false := by rfl)
    (ht : eval (.Call (.Attribute o m apos) (e :: es) kws pos) X.env = (do
      let ov ← eval o X.env
      standAt apos.atName
      let (f, first) ← holding [ov] (getMethod ov m pl)
      callWith pos f first (backTo pos (starEach (e :: es) X.env)) (backToKw pos (keywordEach kws X.env))) := by rfl) :
    PE X (.Call (.Attribute o m apos) (e :: es) kws pos) (Lf K E (TMeth C m n ks.length gD sp to ta tk)) := by
  subst hK
  obtain ⟨f, fd, F, hm, hb⟩ := D.ex
  refine ⟨fun pins s σ H Q I h => ?_⟩
  obtain ⟨own, σd, μ, QD, QX, mm, er, t, kt⟩ := h
  refine PySem.W.methodCall_KW (pl := pl) (thn (ho.run pins s σ H _ I (LfG.bind (Q := fun v H1 => ∃ own1 μ1 d fs, RelM X.K own1 μ1 H1 ∧ RelE X.K own1 μ1 H1 σd σ ∧ Rep X.K own1 μ1 H1 d v ∧ Kont (fun own μ H d v => Rep X.K own μ H d v) X.K (fun c d H => E c d σ H) own1 μ1 H1 QD QX Q ∧ insOf μ1 d = some (C, fs) ∧ fs.lookup m = none ∧
    ta σd μ1 (fun ds μ2 => tk σd μ2 (fun es μ3 => Grd (decide (ds.length = n)) (Grd (decide (es.length = ks.length)) (sp (gD (d :: ds) es) μ3 QD QX))) QX) QX) mm er kt t fun d μ1 own1 v H1 x1 m1 e1 r1 k1 ⟨fs, q1, q2, q3⟩ => ⟨own1, μ1, d, fs, m1, e1, r1, k1, q1, q2, q3⟩)) fun u s1 ⟨x, H1, I1, rx, own1, μ1, d, fs, m1, e1, r1, k1, hi, hl, q1⟩ => ?_) ht
  obtain ⟨a, dx, vs, rfl, hat, rf⟩ := ins_view m1 hi r1
  obtain rfl : u = Value.ref a := rx
  refine getmeth_ok I1 hat D.c hm ((rf.look (f := m)).2 hl) ?_
  refine PySem.W.callWith_KW (first := [.ref a]) (h₀ := X.base) I.ok.mod.kin hm.kp hall (thn (ha.run pos pins s1 σ H1 _ I1 (LfG.bind (Q := fun vs H2 => ∃ own2 μ2 ds, RelM X.K own2 μ2 H2 ∧ RelE X.K own2 μ2 H2 σd σ ∧ Reps X.K own2 μ2 H2 (d :: ds) (.ref a :: vs) ∧ Kont (fun own μ H d v => Rep X.K own μ H d v) X.K (fun c d H => E c d σ H) own2 μ2 H2 QD QX Q ∧ tk σd μ2 (fun es μ3 => Grd (decide (ds.length = n)) (Grd (decide (es.length = ks.length)) (sp (gD (d :: ds) es) μ3 QD QX))) QX) m1 e1 k1 q1 fun ds μ2 own2 vs H2 x2 m2 e2 r2 k2 q2 => ⟨own2, μ2, ds, m2, e2, ⟨_, _, rfl, Rep.ext x2 _ _ r1, r2⟩, k2, q2⟩)) fun us s2 ⟨vs, H2, I2, rv, own2, μ2, ds, m2, e2, r2, k2, q2⟩ => ?_) hpl he
  refine thn (hkw.run pos pins s2 σ H2 _ I2 (LfG.bind (Q := fun zs H3 => ∃ own3 μ3 ds3, RelM X.K own3 μ3 H3 ∧ Reps X.K own3 μ3 H3 (d :: ds) (.ref a :: vs) ∧ Reps X.K own3 μ3 H3 ds3 zs ∧ Kont (fun own μ H d v => Rep X.K own μ H d v) X.K (fun c d H => E c d σ H) own3 μ3 H3 QD QX Q ∧ Grd (decide (ds.length = n)) (Grd (decide (ds3.length = ks.length)) (sp (gD (d :: ds) ds3) μ3 QD QX))) m2 e2 k2 q2 fun ds3 μ3 own3 zs H3 x3 m3 e3 r3 k3 q3 => ⟨own3, μ3, ds3, m3, Reps.ext x3 _ _ r2, r3, k3, q3⟩)) fun ws s3 ⟨zs, H3, I3, rz, own3, μ3, ds3, m3, r2', r3, k3, q3⟩ => ⟨I3.kIn, ?_⟩
  obtain ⟨l1, q3⟩ := q3.getD
  obtain ⟨l2, q3⟩ := q3.getD
  rw [hks]
  exact run_fnD (us := .ref a :: us) (vs := .ref a :: vs) F hr hb hx I3 m3 (.cons rfl rv) rz r2' r3 (by simp [l1]) l2 q3 k3
theorem de_methK (D : MtD X.prog X.w X.K X.mg X.base k C m ps 0 ks gD sp) (hK : X.K = K) (hr : Room k X.A) (hx : Tk X E) (ho : PE X o (Lf K E to)) (hkw : PK X kws (LfA K E tk))
    (hall : (backToKw pos (keywordEach kws X.env)).all (·.1.isSome) = true := by rfl) (hks : (backToKw pos (keywordEach kws X.env)).filterMap (·.1) = ks := by rfl)
    (hpl : ((backTo pos (starEach [] X.env)).any (·.1) || (backToKw pos (keywordEach kws X.env)).any (·.1.isNone)) = false := by rfl)
    (ht : eval (.Call (.Attribute o m apos) [] kws pos) X.env = (do
      let ov ← eval o X.env
      standAt apos.atName
      let (f, first) ← holding [ov] (getMethod ov m pl)
      callWith pos f first (backTo pos (starEach [] X.env)) (backToKw pos (keywordEach kws X.env))) := by rfl) :
    PE X (.Call (.Attribute o m apos) [] kws pos) (Lf K E (TMeth C m 0 ks.length gD sp to TNil tk)) := by
  subst hK
  obtain ⟨f, fd, F, hm, hb⟩ := D.ex
  refine ⟨fun pins s σ H Q I h => ?_⟩
  obtain ⟨own, σd, μ, QD, QX, mm, er, t, kt⟩ := h
  refine PySem.W.methodCall_KW (pl := pl) (thn (ho.run pins s σ H _ I (LfG.bind (Q := fun v H1 => ∃ own1 μ1 d fs, RelM X.K own1 μ1 H1 ∧ RelE X.K own1 μ1 H1 σd σ ∧ Rep X.K own1 μ1 H1 d v ∧ Kont (fun own μ H d v => Rep X.K own μ H d v) X.K (fun c d H => E c d σ H) own1 μ1 H1 QD QX Q ∧ insOf μ1 d = some (C, fs) ∧ fs.lookup m = none ∧
    tk σd μ1 (fun es μ3 => Grd (decide (([] : List DL.D).length = 0)) (Grd (decide (es.length = ks.length)) (sp (gD [d] es) μ3 QD QX))) QX) mm er kt t fun d μ1 own1 v H1 x1 m1 e1 r1 k1 ⟨fs, q1, q2, q3⟩ => ⟨own1, μ1, d, fs, m1, e1, r1, k1, q1, q2, q3⟩)) fun u s1 ⟨x, H1, I1, rx, own1, μ1, d, fs, m1, e1, r1, k1, hi, hl, q1⟩ => ?_) ht
  obtain ⟨a, dx, vs, rfl, hat, rf⟩ := ins_view m1 hi r1
  obtain rfl : u = Value.ref a := rx
  refine getmeth_ok I1 hat D.c hm ((rf.look (f := m)).2 hl) ?_
  refine PySem.W.callWith_KW0 (first := [.ref a]) (h₀ := X.base) I.ok.mod.kin hm.kp hall ?_ hpl
  refine thn (hkw.run pos pins s1 σ H1 _ I1 (LfG.bind (Q := fun zs H3 => ∃ own3 μ3 ds3, RelM X.K own3 μ3 H3 ∧ Reps X.K own3 μ3 H3 [d] [.ref a] ∧ Reps X.K own3 μ3 H3 ds3 zs ∧ Kont (fun own μ H d v => Rep X.K own μ H d v) X.K (fun c d H => E c d σ H) own3 μ3 H3 QD QX Q ∧ Grd (decide (([] : List DL.D).length = 0)) (Grd (decide (ds3.length = ks.length)) (sp (gD [d] ds3) μ3 QD QX))) m1 e1 k1 q1 fun ds3 μ3 own3 zs H3 x3 m3 e3 r3 k3 q3 => ⟨own3, μ3, ds3, m3, ⟨_, _, rfl, Rep.ext x3 _ _ r1, rfl⟩, r3, k3, q3⟩)) fun ws s3 ⟨zs, H3, I3, rz, own3, μ3, ds3, m3, r2', r3, k3, q3⟩ => ⟨I3.kIn, ?_⟩
  obtain ⟨_, q3⟩ := q3.getD
  obtain ⟨l2, q3⟩ := q3.getD
  rw [hks]
  exact run_fnD (us := [.ref a]) (vs := [.ref a]) F hr hb hx I3 m3 (.cons rfl .nil) rz r2' r3 rfl l2 q3 k3
/-- o.m() -/
theorem de_meth0 (D : MtD X.prog X.w X.K X.mg X.base k C m ps 0 [] gD sp) (hK : X.K = K) (hr : Room k X.A) (hx : Tk X E) (ho : PE X o (Lf K E to))
    (ht : eval (.Call (.Attribute o m apos) [] [] pos) X.env = (do
      let ov ← eval o X.env
      standAt apos.atName
      let (f, first) ← holding [ov] (getMethod ov m pl)
      callWith pos f first (backTo pos (starEach [] X.env)) (backToKw pos (keywordEach [] X.env))) := by rfl) :
    PE X (.Call (.Attribute o m apos) [] [] pos) (Lf K E (TMeth C m 0 0 gD sp to TNil TNil)) := de_methK (pl := pl) D hK hr hx ho dk_nil (ht := ht)
end
/-! making -/
/-- C(..): what its __init__ leaves is an object of data (b = false), or one that may change (b = true) -/
def TMake (b : Bool) (C : Addr) (n k : Nat) (gD : List D → List D → List D) (sp : SpD) (ta tk : TAD) : TED := fun σ μ Q X => ta σ μ (fun ds μ1 => tk σ μ1 (fun es μ2 => ds.length = n ∧ es.length = k ∧ (Cls' μ2.length ds → Cls' μ2.length es → ClS μ2.length μ2 →
  match b with
  | true => sp (gD (.loc μ2.length :: ds) es) (μ2 ++ [some (.ins C [])]) (fun v μ3 => v = .v .non ∧ Q (.loc μ2.length) μ3) X
  | false => sp (gD (.loc μ2.length :: ds) es) (μ2 ++ [some (.ins C [])]) (fun v μ3 => v = .v .non ∧ ∃ μ4 fs, μ3 = μ4 ++ [some (.ins C fs)] ∧ μ4.length = μ2.length ∧ ClS μ2.length μ4 ∧ ClF μ2.length fs ∧ Q (.obj C fs) μ4)
    (fun x μ3 => ∃ μ4 o, μ3 = μ4 ++ [o] ∧ μ4.length = μ2.length ∧ ClS μ2.length μ4 ∧ (∀ fs, x.fs = some fs → ClF μ2.length fs) ∧ X x μ4))) X) X
structure MkD (P : Program) (w : World) (K : PySem.W.Frag) (mg : Str → Option Value) (base : Heap) (k : Nat) (x : Str) (C : Addr) (ps : List Str) (n : Nat) (ks : List Str) (gD : List D → List D → List D) (sp : SpD) : Prop where
  gC : mg x = some (.ref C)
  ex : ∃ (f : Addr) (fd : FuncData), FnD P w K mg base k f fd ps sp ∧ Mk K C f ∧ Bd K fd ps (n + 1) ks gD
section
variable {X : Cx} {k n : Nat} {f C : Addr} {fd : FuncData} {ps ks : List Str} {sp : SpD} {E : WX} {K : PySem.W.Frag} {gD : List D → List D → List D} {x : Str} {p pos : Pos} {e : Expr} {es : List Expr} {kws : List Keyword} {ta tk : TAD} {pins : List (Addr × Obj)} {σ : L2.St} {H : Hp} {s : Shared} {Q : VK} {us ws : List Value} {vs zs : List V} {b : Bool}
theorem cut_add {own : Ow} {μ μ3 μ4 : Store} {o : Option Ob} {own3 : Ow} {x : Addr} (hl : own.l.length = μ.length) (e : μ3 = μ4 ++ [o]) (hl4 : μ4.length = μ.length) : Cut μ.length own3 μ3 ⟨own3.l.take μ.length, own3.p⟩ μ4 :=
  ⟨rfl, rfl, by rw [e, ← hl4, List.take_left' rfl]⟩
theorem run_makeD {own : Ow} {μ : Store} {ds es : List D} {QD : D → Store → Prop} {QX : XD} (M : Mk X.K C f) (F : FnD X.prog X.w X.K X.mg X.base k f fd ps sp) (hr : Room (k + 1) X.A) (hb : Bd X.K fd ps (n + 1) ks gD) (hx : Tk X E) (I : Inv X pins σ H s) (m : RelM X.K own μ H) (r : Vals vs us) (rz : Vals zs ws)
    (rd : Reps X.K own μ H ds vs) (re : Reps X.K own μ H es zs) (l1 : ds.length = n) (l2 : es.length = ks.length) (kt : Kont (fun own μ H d v => Rep X.K own μ H d v) X.K (fun c d H => E c d σ H) own μ H QD QX Q)
    (h : Cls' μ.length ds → Cls' μ.length es → ClS μ.length μ → match b with
      | true => sp (gD (.loc μ.length :: ds) es) (μ ++ [some (.ins C [])]) (fun v μ3 => v = .v .non ∧ QD (.loc μ.length) μ3) QX
      | false => sp (gD (.loc μ.length :: ds) es) (μ ++ [some (.ins C [])]) (fun v μ3 => v = .v .non ∧ ∃ μ4 fs, μ3 = μ4 ++ [some (.ins C fs)] ∧ μ4.length = μ.length ∧ ClS μ.length μ4 ∧ ClF μ.length fs ∧ QD (.obj C fs) μ4)
        (fun x μ3 => ∃ μ4 o, μ3 = μ4 ++ [o] ∧ μ4.length = μ.length ∧ ClS μ.length μ4 ∧ (∀ fs, x.fs = some fs → ClF μ.length fs) ∧ QX x μ4)) :
    wpAny (model X.prog X.w) X.A (call (.ref C) us (ks.zip ws)) (EP X pins σ Q) X.xe s := by
  obtain ⟨g, gV, hk, hg⟩ := hb.ex
  have n1 : H s.heap.objs.size = none := I.hok.fresh (Nat.le_refl _)
  have n2 : H (s.heap.objs.size + 1) = none := I.hok.fresh (Nat.le_succ _)
  have ne : s.heap.objs.size + 1 ≠ s.heap.objs.size := Nat.succ_ne_self _
  have I2 := Inv.made (C := C) I
  generalize hx1 : s.heap.objs.size + 1 = x1 at I2 n2 ne
  generalize hx0 : s.heap.objs.size = x0 at I2 n1 ne
  have n2' : (upd H x0 (.own x1)) x1 = none := by rw [upd_ne ne]; exact n2
  have m1 := rel_upd m (o := .own x1) n1
  have e1 := ext_upd (own := own) (μ := μ) (o := .own x1) n1
  have e2 := ext_new (u := .ins C []) (o := .ins C x0 []) m1 n2'
  have m2 : RelM X.K (own.add x1) (μ ++ [some (.ins C [])]) (upd (upd H x0 (.own x1)) x1 (.ins C x0 [])) := rel_new m1 n2' ⟨x0, [], upd_same, rfl⟩
  have e12 := e1.trans e2
  have hself : (own.add x1).l[μ.length]? = some x1 := by
    show (own.l ++ [x1])[μ.length]? = _
    rw [← m.ln]
    exact List.getElem?_concat_length
  have rs : Reps X.K (own.add x1) (μ ++ [some (.ins C [])]) (upd (upd H x0 (.own x1)) x1 (.ins C x0 [])) (.loc μ.length :: ds) (.ref x1 :: vs) := ⟨.ref x1, vs, rfl, ⟨x1, hself, rfl⟩, Reps.ext e12 _ _ rd⟩
  have rargs := hg _ _ _ _ _ _ _ rs (Reps.ext e12 _ _ re)
  have h := h (m.ln ▸ Reps.cl rd) (m.ln ▸ Reps.cl re) m.cl
  have r1 : Vals (V.ref x1 :: vs) (Value.ref x1 :: us) := .cons rfl r
  have fin : ∀ (QD' : D → Store → Prop) (QX' : XD), sp (gD (.loc μ.length :: ds) es) (μ ++ [some (.ins C [])]) QD' QX' → Kont (fun own μ H d v => Rep X.K own μ H d v) X.K (fun c d H => E c d σ H) (own.add x1) (μ ++ [some (.ins C [])]) (upd (upd H x0 (.own x1)) x1 (.ins C x0 [])) QD' QX' (fun v H2 => v = .non ∧ Q (.ref x1) H2) →
      wpAny (model X.prog X.w) X.A (call (.ref C) us (ks.zip ws)) (EP X pins σ Q) X.xe s := fun QD' QX' hsp kt' => by
    have hx1' : s.heap.objs.size + 1 = x1 := hx1
    refine wpAny_call (make_map (f := f) I.kIn M.makes M.init (beq_iff_eq.mp M.fn) ?_)
    rw [hx1', hx0]
    refine codeAny_mono (F.run _ X.stack _ _ ⟨Value.ref x1 :: us, ks.zip ws⟩ (g (Value.ref x1 :: us) ws) (gV (.ref x1 :: vs) zs) (fun v H2 => v = .non ∧ Q (.ref x1) H2) (fun c d H => E c d σ H) (hr.make C us (ks.zip ws)) (I2.env0.make C us (ks.zip ws))
      (hk.to _ (Value.ref x1 :: us) ws I2.kIn (r1.length.symm.trans (by rw [List.length_cons, ← Reps.len rd, l1])) (rz.length.symm.trans ((Reps.len re).symm.trans l2))) (hk.rel r1 rz) ⟨_, _, _, QD', QX', m2, rargs, hsp, kt'⟩) fun r s' hq' => ?_
    cases r with
    | error e => exact hx σ pins _ _ e s' I2 hq'
    | ok fl =>
      cases fl with
      | ret u =>
        obtain ⟨v, H', I3, rv, ev, q3⟩ := I2.after hq'
        subst ev
        exact ⟨rv, ⟨V.ref x1, H', I3, rfl, q3⟩⟩
      | next => exact False.elim hq'
      | brk => exact False.elim hq'
      | cont => exact False.elim hq'
  cases b with
  | true =>
    exact fin _ _ h ⟨fun d μ' own' v H' x m' r ⟨q1, q2⟩ => by
      subst q1
      exact ⟨r, kt.ok (.loc μ.length) μ' own' _ H' (e12.trans x) m' ⟨x1, x.at hself, rfl⟩ q2⟩, (kt.ext e12).xn⟩
  | false =>
    refine fin _ _ h ⟨fun d μ' own' v H' x m' r ⟨q1, μ4, fs, q2, q3, q4, q5, q6⟩ => ?_, fun xx μ' own' c dd H' x m' rx ⟨μ4, o, q2, q3, q4, q5, q6⟩ => ?_⟩
    · subst q1
      refine ⟨r, ?_⟩
      have c := cut_add (x := x1) (own3 := own') m.ln q2 q3
      have m4 := m'.cut c q4
      have hs' := x.at hself
      obtain ⟨dx, vs', g1, g2⟩ := m'.ob μ.length (.ins C fs) x1 (by rw [q2, ← q3]; exact List.getElem?_concat_length) hs'
      refine kt.ok (.obj C fs) μ4 _ (.ref x1) H' ((e12.trans x).cut (m.ln ▸ c)) m4 ⟨x1, dx, vs', rfl, g1, ?_, RepF.cut c q5 g2⟩ q6
      rintro (⟨j, w, z1, z2⟩ | z)
      · have z1 : (own'.l.take μ.length)[j]? = some x1 := z1
        rw [List.getElem?_take] at z1
        split at z1
        · rename_i hj
          have := nodup_at m'.nd hs' z1
          omega
        · cases z1
      · exact (m'.pv x1 z).1 (List.mem_of_getElem? hs')
    · have cc := cut_add (x := x1) (own3 := own') m.ln q2 q3
      exact kt.xn xx μ4 _ c dd H' ((e12.trans x).cut (m.ln ▸ cc)) (m'.cut cc q4) (rx.cut cc q5) q6
end
end DL

set_option Elab.async false
set_option linter.all false
set_option maxRecDepth 100000
namespace DL
open PySem L2
/-- what a make asks of its arguments -/
abbrev MB (b : Bool) (C : Addr) (n k : Nat) (gD : List D → List D → List D) (sp : SpD) (ds es : List D) (μ2 : Store) (Q : D → Store → Prop) (X : XD) : Prop := ds.length = n ∧ es.length = k ∧ (Cls' μ2.length ds → Cls' μ2.length es → ClS μ2.length μ2 →
  match b with
  | true => sp (gD (.loc μ2.length :: ds) es) (μ2 ++ [some (.ins C [])]) (fun v μ3 => v = .v .non ∧ Q (.loc μ2.length) μ3) X
  | false => sp (gD (.loc μ2.length :: ds) es) (μ2 ++ [some (.ins C [])]) (fun v μ3 => v = .v .non ∧ ∃ μ4 fs, μ3 = μ4 ++ [some (.ins C fs)] ∧ μ4.length = μ2.length ∧ ClS μ2.length μ4 ∧ ClF μ2.length fs ∧ Q (.obj C fs) μ4)
    (fun x μ3 => ∃ μ4 o, μ3 = μ4 ++ [o] ∧ μ4.length = μ2.length ∧ ClS μ2.length μ4 ∧ (∀ fs, x.fs = some fs → ClF μ2.length fs) ∧ X x μ4))
section
variable {X : Cx} {k n : Nat} {f C : Addr} {fd : FuncData} {ps ks : List Str} {sp : SpD} {E : WX} {K : PySem.W.Frag} {gD : List D → List D → List D} {x : Str} {p pos : Pos} {e : Expr} {es : List Expr} {kws : List Keyword} {ta tk : TAD}
theorem de_make {b : Bool} (D : MkD X.prog X.w X.K X.mg X.base k x C ps n ks gD sp) (hK : X.K = K) (hr : Room (k + 1) X.A) (hx : Tk X E) (hg : Gl X x) (ha : PA X (e :: es) (LfA K E ta)) (hkw : PK X kws (LfA K E tk))
    (hall : (backToKw pos (keywordEach kws X.env)).all (·.1.isSome) = true := by rfl) (hks : (backToKw pos (keywordEach kws X.env)).filterMap (·.1) = ks := by rfl) (hdb : (x == ("__debug__" : Str)) = false := by decide)
    (he : starEach (e :: es) X.env = (false, eval e X.env) :: starEach es X.env := by rfl) (hpl : ((backTo pos (starEach (e :: es) X.env)).any (·.1) || (backToKw pos (keywordEach kws X.env)).any (·.1.isNone)) = false := by rfl) :
    PE X (.Call (.Name x p) (e :: es) kws pos) (Lf K E (TMake b C n ks.length gD sp ta tk)) := by
  subst hK
  obtain ⟨f, fd, F, M, hb⟩ := D.ex
  have hm := D.gC
  have hk := M.kp
  refine ⟨fun pins s σ H Q I h => ?_⟩
  obtain ⟨own, σd, μ, QD, QX, m, er, t, kt⟩ := h
  refine wpAny_Call_Name_kw (ld_glob I hg hm ?_ hdb)
  refine PySem.W.callWith_KW (h₀ := X.base) I.ok.mod.kin hk hall (thn (ha.run pos pins s σ H _ I (LfG.bind (Q := fun vs H1 => ∃ own1 μ1 ds, RelM X.K own1 μ1 H1 ∧ RelE X.K own1 μ1 H1 σd σ ∧ Reps X.K own1 μ1 H1 ds vs ∧ Kont (fun own μ H d v => Rep X.K own μ H d v) X.K (fun c d H => E c d σ H) own1 μ1 H1 QD QX Q ∧ tk σd μ1 (fun es μ2 => MB b C n ks.length gD sp ds es μ2 QD QX) QX) m er kt t fun ds μ1 own1 vs H1 x1 m1 e1 r1 k1 q1 => ⟨own1, μ1, ds, m1, e1, r1, k1, q1⟩)) fun us s1 ⟨vs, H1, I1, rv, own1, μ1, ds, m1, e1, r1, k1, q1⟩ => ?_) hpl he
  refine thn (hkw.run pos pins s1 σ H1 _ I1 (LfG.bind (Q := fun zs H2 => ∃ own2 μ2 ds2, RelM X.K own2 μ2 H2 ∧ Reps X.K own2 μ2 H2 ds vs ∧ Reps X.K own2 μ2 H2 ds2 zs ∧ Kont (fun own μ H d v => Rep X.K own μ H d v) X.K (fun c d H => E c d σ H) own2 μ2 H2 QD QX Q ∧ MB b C n ks.length gD sp ds ds2 μ2 QD QX) m1 e1 k1 q1 fun ds2 μ2 own2 zs H2 x2 m2 e2 r2 k2 q2 => ⟨own2, μ2, ds2, m2, Reps.ext x2 _ _ r1, r2, k2, q2⟩)) fun ws s2 ⟨zs, H2, I2, rz, own2, μ2, ds2, m2, r1', r2, k2, q2⟩ => ⟨I2.kIn, ?_⟩
  obtain ⟨l1, l2, q2⟩ := q2
  rw [hks]
  exact run_makeD (b := b) M F hr hb hx I2 m2 rv rz r1' r2 l1 l2 k2 fun c1 c2 c3 => by
    have q3 := q2 c1 c2 c3
    cases b <;> exact q3
end
end DL

set_option Elab.async false
set_option linter.all false
set_option maxRecDepth 100000
namespace DL
open PySem L2
/-! operators by either of two rules -/
theorem opr_or {X : Cx} {f : Value → Value → Sem Value} {r r' : R2} (h : OpR X f r) (h' : OpR X f r') : OpR X f (fun x y H Q => r x y H Q ∨ r' x y H Q) := fun pins s σ H x y v u Q I rx ry q => q.elim (h pins s σ H x y v u Q I rx ry) (h' pins s σ H x y v u Q I rx ry)
theorem ixr_or {X : Cx} {r r' : R2} (h : IxR X r) (h' : IxR X r') : IxR X (fun x y H Q => r x y H Q ∨ r' x y H Q) := fun va sl pins s σ H x y v u Q I rx ry q => q.elim (h va sl pins s σ H x y v u Q I rx ry) (h' va sl pins s σ H x y v u Q I rx ry)
theorem cr_or {X : Cx} {f : Value} {r r' : List V → Hp → VK → Prop} (h : CallR X f r) (h' : CallR X f r') : CallR X f (fun x H Q => r x H Q ∨ r' x H Q) := fun pins s σ H x v Q I rx q => q.elim (h pins s σ H x v Q I rx) (h' pins s σ H x v Q I rx)
/-! views -/
def lstOf (μ : Store) : D → Option (List D)
  | .lst ds => some ds
  | .loc i => match μ[i]? with
    | some (some (.lst ds)) => some ds
    | _ => none
  | _ => none
/-- the items of a list or tuple that is read -/
def seqOf (μ : Store) : D → Option (List D)
  | .lst ds => some ds
  | .tup ds => some ds
  | .frz xs => some (xs.map .v)
  | .loc i => match μ[i]? with
    | some (some (.lst ds)) => some ds
    | _ => none
  | _ => none
section
variable {K : PySem.W.Frag} {own : Ow} {μ : Store} {H : Hp}
theorem lst_view (m : RelM K own μ H) {d : D} {v : V} {ds : List D} (h : lstOf μ d = some ds) (r : Rep K own μ H d v) : ∃ a xs, v = .ref a ∧ H a = some (.lst xs) ∧ Reps K own μ H ds xs := by
  cases d with
  | lst ds' =>
    cases h
    obtain ⟨a, xs, e, h1, _, h3⟩ := r
    exact ⟨a, xs, e, h1, h3⟩
  | loc i =>
    obtain ⟨a, h1, e⟩ := r
    have h : (match μ[i]? with | some (some (.lst ds)) => some ds | _ => none) = some ds := h
    split at h
    · rename_i ds' q
      cases h
      obtain ⟨xs, h2, h3⟩ := m.ob i _ a q h1
      exact ⟨a, xs, e, h2, h3⟩
    · cases h
  | _ => cases h
theorem seq_view (m : RelM K own μ H) {d : D} {v : V} {ds : List D} (h : seqOf μ d = some ds) (r : Rep K own μ H d v) : ∃ a xs, v = .ref a ∧ (SqL K H a xs ∨ SqT K H a xs) ∧ Reps K own μ H ds xs := by
  cases d with
  | lst ds' =>
    cases h
    obtain ⟨a, xs, e, h1, _, h3⟩ := r
    exact ⟨a, xs, e, .inl (SqL.of h1), h3⟩
  | tup ds' =>
    cases h
    obtain ⟨a, xs, e, h1, _, h3⟩ := r
    exact ⟨a, xs, e, .inr h1, h3⟩
  | frz xs =>
    cases h
    obtain ⟨a, e, h1, _⟩ := r
    exact ⟨a, xs, e, .inl h1, Reps.ofV xs⟩
  | loc i =>
    obtain ⟨a, xs, e, h1, h3⟩ := lst_view m (d := .loc i) h r
    exact ⟨a, xs, e, .inl (SqL.of h1), h3⟩
  | _ => cases h
end
/-! + - * // % ** - -/
def RAdd (b : Bool) : R2D := fun x y μ Q _ => match x, y with
  | .v (.int i), .v (.int j) => Q (.v (.int (i + j))) μ
  | .v (.str i), .v (.str j) => i.length + j.length ≤ sizeLine ∧ Q (.v (.str (i ++ j))) μ
  | .tup i, .tup j => i.length + j.length ≤ sizeLine ∧ Q (.tup (i ++ j)) μ
  | x, y => ∃ i j, lstOf μ x = some i ∧ lstOf μ y = some j ∧ i.length + j.length ≤ sizeLine ∧ mkL b (i ++ j) μ Q
def rAddA (K : PySem.W.Frag) : R2 := fun x y H Q => ((rI0 (fun i j => .int (i + j)) x y H Q ∨ ∃ i j, x = .str i ∧ y = .str j ∧ i.length + j.length ≤ sizeLine ∧ Q (.str (i ++ j)) H) ∨ L2.rCatA K x y H Q) ∨ rCat x y H Q
theorem op_addA {X : Cx} : OpR X (binaryOp .Add) (rAddA X.K) := opr_or (opr_or (opr_or op_add op_add_str) L2.op_catA) op_cat
theorem sAdd {K : PySem.W.Frag} {b : Bool} : Snd2 K (rAddA K) (RAdd b) := fun E own μ H x y u v Q QD QX m r1 r2 k h => by
  have lists : (∃ i j, lstOf μ x = some i ∧ lstOf μ y = some j ∧ i.length + j.length ≤ sizeLine ∧ mkL b (i ++ j) μ QD) → rAddA K u v H Q := fun ⟨i, j, h1, h2, h3, h4⟩ => by
    obtain ⟨a, xs, rfl, g1, g2⟩ := lst_view m h1 r1
    obtain ⟨c, ys, rfl, g3, g4⟩ := lst_view m h2 r2
    exact .inr ⟨a, c, xs, ys, rfl, rfl, g1, g3, by rw [← Reps.len g2, ← Reps.len g4]; exact h3, lf_mkL m k (Reps.app g2 g4) h4⟩
  unfold RAdd at h
  split at h
  · cases r1; cases r2
    exact .inl (.inl (.inl ⟨_, _, rfl, rfl, k.here m (rep_v _) h⟩))
  · cases r1; cases r2
    exact .inl (.inl (.inr ⟨_, _, rfl, rfl, h.1, k.here m (rep_v _) h.2⟩))
  · rename_i i j
    obtain ⟨a, xs, rfl, g1, g2, g3⟩ := r1
    obtain ⟨c, ys, rfl, g4, g5, g6⟩ := r2
    have l1 := Reps.len g3
    have l2 := Reps.len g6
    refine .inl (.inr ⟨a, c, xs, ys, rfl, rfl, g1, g4, by rw [← l1, ← l2]; exact h.1, fun e => ?_, fun e1 e2 => ?_, fun e1 e2 p n => ?_⟩)
    · subst e
      have e : i = [] := List.eq_nil_of_length_eq_zero l1
      subst e
      exact k.here (d := .tup j) m ⟨c, ys, rfl, g4, g5, g6⟩ h.2
    · subst e2
      have e : j = [] := List.eq_nil_of_length_eq_zero l2
      subst e
      have h2 := h.2
      rw [List.append_nil] at h2
      exact k.here (d := .tup i) m ⟨a, xs, rfl, g1, g2, g3⟩ h2
    · have e := ext_upd (own := own) (μ := μ) (o := .tup (xs ++ ys)) n
      exact k.ok (.tup (i ++ j)) μ own _ _ e (rel_upd m n) ⟨p, _, rfl, .inl (.inl upd_same), .inr (m.free n), Reps.ext e _ _ (Reps.app g3 g6)⟩ h.2
  · exact lists h
def RI (C : Int → Int → Prop) (g : Int → Int → V) : R2D := fun x y μ Q _ => match x, y with
  | .v (.int i), .v (.int j) => C i j ∧ Q (.v (g i j)) μ
  | _, _ => False
def RI0 (g : Int → Int → V) : R2D := fun x y μ Q _ => match x, y with
  | .v (.int i), .v (.int j) => Q (.v (g i j)) μ
  | _, _ => False
theorem sI {K : PySem.W.Frag} {C : Int → Int → Prop} {g : Int → Int → V} : Snd2 K (rI C g) (RI C g) := fun E own μ H x y u v Q QD QX m r1 r2 k h => by
  unfold RI at h
  split at h
  · cases r1; cases r2
    exact ⟨_, _, rfl, rfl, h.1, k.here m (rep_v _) h.2⟩
  · exact h.elim
theorem sI0 {K : PySem.W.Frag} {g : Int → Int → V} : Snd2 K (rI0 g) (RI0 g) := fun E own μ H x y u v Q QD QX m r1 r2 k h => by
  unfold RI0 at h
  split at h
  · cases r1; cases r2
    exact ⟨_, _, rfl, rfl, k.here m (rep_v _) h⟩
  · exact h.elim
def RMul (b : Bool) : R2D := fun x y μ Q _ => match x, y with
  | .v (.int i), .v (.int j) => CMul i j ∧ Q (.v (.int (i * j))) μ
  | x, y => ∃ ds k, lstOf μ x = some ds ∧ y = .v (.int k) ∧ -(2 ^ 63) ≤ k ∧ k < 2 ^ 63 ∧ ds.length * k.toNat ≤ sizeLine ∧ mkL b (List.replicate k.toNat ds).flatten μ Q
def RU (g : Int → V) : R1D := fun x μ Q _ => match x with
  | .v (.int i) => Q (.v (g i)) μ
  | _ => False
theorem sU {K : PySem.W.Frag} {g : Int → V} : Snd1 K (rU g) (RU g) := fun E own μ H x u Q QD QX m r1 k h => by
  unfold RU at h
  split at h
  · cases r1
    exact ⟨_, rfl, k.here m (rep_v _) h⟩
  · exact h.elim
/-! comparisons -/
mutual
def toPy : D → Option PyData
  | .v .non => some .none
  | .v (.bl b) => some (.bool b)
  | .v (.int i) => some (.int i)
  | .v (.str z) => some (.str z)
  | .v _ => none
  | .tup ds => (toPys ds).map .tuple
  | .lst ds => (toPys ds).map .list
  | _ => none
def toPys : List D → Option (List PyData)
  | [] => some []
  | d :: ds => match toPy d, toPys ds with
    | some p, some ps => some (p :: ps)
    | _, _ => none
end
section
variable {K : PySem.W.Frag} {own : Ow} {μ : Store} {H : Hp}
mutual
theorem dp_of : ∀ {d : D} {v : V} {p : PyData}, toPy d = some p → Rep K own μ H d v → Dp K H v p
  | .v .non, _, _, e, r => by cases e; cases r; exact .non
  | .v (.bl _), _, _, e, r => by cases e; cases r; exact .bl _
  | .v (.int _), _, _, e, r => by cases e; cases r; exact .int _
  | .v (.str _), _, _, e, r => by cases e; cases r; exact .str _
  | .v (.byt _), _, _, e, _ => by cases e
  | .v (.flt _), _, _, e, _ => by cases e
  | .v (.ref _), _, _, e, _ => by cases e
  | .v (.ty _), _, _, e, _ => by cases e
  | .tup ds, _, _, e, r => by
    have e : (toPys ds).map PyData.tuple = some _ := e
    cases q : toPys ds with
    | none => rw [q] at e; cases e
    | some ps =>
      rw [q] at e; cases e
      obtain ⟨a, xs, rfl, h1, _, h3⟩ := r
      exact .tup h1 (dps_of q h3)
  | .lst ds, _, _, e, r => by
    have e : (toPys ds).map PyData.list = some _ := e
    cases q : toPys ds with
    | none => rw [q] at e; cases e
    | some ps =>
      rw [q] at e; cases e
      obtain ⟨a, xs, rfl, h1, _, h3⟩ := r
      exact .lst (SqL.of h1) (dps_of q h3)
  | .frz _, _, _, e, _ => by cases e
  | .obj _ _, _, _, e, _ => by cases e
  | .dK _, _, _, e, _ => by cases e
  | .loc _, _, _, e, _ => by cases e
  | .exn _ _ _ _, _, _, e, _ => by cases e
theorem dps_of : ∀ {ds : List D} {vs : List V} {ps : List PyData}, toPys ds = some ps → Reps K own μ H ds vs → DpAll K H vs ps
  | [], _, _, e, r => by
    cases e
    have r : _ = [] := r
    subst r
    exact .nil
  | d :: ds, _, _, e, r => by
    have e : (match toPy d, toPys ds with | some p, some ps => some (p :: ps) | _, _ => none) = some _ := e
    obtain ⟨y, q, rfl, h1, h2⟩ := r
    split at e
    · rename_i p ps q1 q2
      cases e
      exact .cons (dp_of q1 h1) (dps_of q2 h2)
    · cases e
end
end
/-- == of data without objects of one's own (neg: !=) -/
def REq (neg : Bool) : R2D := fun x y μ Q _ => match x, y with
  | .v (.int i), .v (.int j) => Q (.v (.bl (if neg then !decide (i = j) else decide (i = j)))) μ
  | .v (.str i), .v (.str j) => Q (.v (.bl (if neg then !decide (i = j) else decide (i = j)))) μ
  | .v (.bl i), .v (.bl j) => Q (.v (.bl (if neg then !decide (i = j) else decide (i = j)))) μ
  | .v a, .v b => scal a b = true ∧ Q (.v (.bl (if neg then !decide (a = b) else decide (a = b)))) μ
  | x, y => ∃ p q, toPy x = some p ∧ toPy y = some q ∧ SeqAt.shaped p = true ∧ SeqAt.shaped q = true ∧ Q (.v (.bl (if neg then !PyData.eqv p q else PyData.eqv p q))) μ
def rEqA (K : PySem.W.Frag) : R2 := fun x y H Q => rEq x y H Q ∨ rEqD K x y H Q
def rNeA (K : PySem.W.Frag) : R2 := fun x y H Q => rNe x y H Q ∨ rNeD K x y H Q
theorem op_eqA {X : Cx} (hu : X.A.units + 64 < cLine) : OpR X (compareOp .Eq) (rEqA X.K) := opr_or op_eq (op_eqD hu)
theorem op_neA {X : Cx} (hu : X.A.units + 64 < cLine) : OpR X (compareOp .NotEq) (rNeA X.K) := opr_or op_ne (op_neD hu)
theorem dV {i j : V} {p : Prop} [Decidable p] (h : i = j ↔ p) : decide (i = j) = decide p := by
  by_cases q : p
  · rw [decide_eq_true q, decide_eq_true (h.mpr q)]
  · rw [decide_eq_false q, decide_eq_false (fun z => q (h.mp z))]
theorem sEq {K : PySem.W.Frag} : Snd2 K (rEqA K) (REq false) := fun E own μ H x y u v Q QD QX m r1 r2 k h => by
  unfold REq at h
  split at h
  · cases r1; cases r2
    exact .inl ⟨rfl, by rw [dV (p := _ = _) ⟨V.int.inj, congrArg V.int⟩]; exact k.here m (rep_v _) h⟩
  · cases r1; cases r2
    exact .inl ⟨rfl, by rw [dV (p := _ = _) ⟨V.str.inj, congrArg V.str⟩]; exact k.here m (rep_v _) h⟩
  · cases r1; cases r2
    exact .inl ⟨rfl, by rw [dV (p := _ = _) ⟨V.bl.inj, congrArg V.bl⟩]; exact k.here m (rep_v _) h⟩
  · cases r1; cases r2
    exact .inl ⟨h.1, k.here m (rep_v _) h.2⟩
  · obtain ⟨p, q, h1, h2, h3, h4, h5⟩ := h
    exact .inr ⟨p, q, dp_of h1 r1, dp_of h2 r2, h3, h4, k.here m (rep_v _) h5⟩
theorem sNe {K : PySem.W.Frag} : Snd2 K (rNeA K) (REq true) := fun E own μ H x y u v Q QD QX m r1 r2 k h => by
  unfold REq at h
  split at h
  · cases r1; cases r2
    exact .inl ⟨rfl, by rw [dV (p := _ = _) ⟨V.int.inj, congrArg V.int⟩]; exact k.here m (rep_v _) h⟩
  · cases r1; cases r2
    exact .inl ⟨rfl, by rw [dV (p := _ = _) ⟨V.str.inj, congrArg V.str⟩]; exact k.here m (rep_v _) h⟩
  · cases r1; cases r2
    exact .inl ⟨rfl, by rw [dV (p := _ = _) ⟨V.bl.inj, congrArg V.bl⟩]; exact k.here m (rep_v _) h⟩
  · cases r1; cases r2
    exact .inl ⟨h.1, k.here m (rep_v _) h.2⟩
  · obtain ⟨p, q, h1, h2, h3, h4, h5⟩ := h
    exact .inr ⟨p, q, dp_of h1 r1, dp_of h2 r2, h3, h4, k.here m (rep_v _) h5⟩
/-- < of ints, of texts -/
def RLt : R2D := fun x y μ Q _ => match x, y with
  | .v (.int i), .v (.int j) => Q (.v (.bl (decide (i < j)))) μ
  | .v (.str i), .v (.str j) => Q (.v (.bl (decide (i.cps.toList < j.cps.toList)))) μ
  | _, _ => False
def rLtA : R2 := fun x y H Q => rI0 (fun i j => .bl (decide (i < j))) x y H Q ∨ ∃ i j, x = .str i ∧ y = .str j ∧ Q (.bl (decide (i.cps.toList < j.cps.toList))) H
theorem op_ltA {X : Cx} : OpR X (compareOp .Lt) rLtA := opr_or op_lt op_lt_str
theorem sLt {K : PySem.W.Frag} : Snd2 K rLtA RLt := fun E own μ H x y u v Q QD QX m r1 r2 k h => by
  unfold RLt at h
  split at h
  · cases r1; cases r2
    exact .inl ⟨_, _, rfl, rfl, k.here m (rep_v _) h⟩
  · cases r1; cases r2
    exact .inr ⟨_, _, rfl, rfl, k.here m (rep_v _) h⟩
  · exact h.elim
def isNon : D → Bool
  | .v .non => true
  | _ => false
def RIs (neg : Bool) : R2D := fun x y μ Q _ => match y with
  | .v .non => Q (.v (.bl (if neg then !isNon x else isNon x))) μ
  | _ => False
theorem isNon_v {K : PySem.W.Frag} {own : Ow} {μ : Store} {H : Hp} {x : D} {u : V} (r : Rep K own μ H x u) : decide (u = .non) = isNon x := by
  cases x with
  | v y =>
    have r : u = y := r
    subst r
    cases u <;> rfl
  | tup ds => obtain ⟨a, xs, rfl, _⟩ := r; rfl
  | lst ds => obtain ⟨a, xs, rfl, _⟩ := r; rfl
  | frz ds => obtain ⟨a, rfl, _⟩ := r; rfl
  | obj C fs => obtain ⟨a, dx, xs, rfl, _⟩ := r; rfl
  | dK ds => obtain ⟨a, xs, rfl, _⟩ := r; rfl
  | loc i => obtain ⟨a, _, rfl⟩ := r; rfl
  | exn a dd C fs => obtain ⟨vs, rfl, _⟩ := r; rfl
theorem sIs {K : PySem.W.Frag} : Snd2 K (fun x y H Q => y = .non ∧ Q (.bl (decide (x = .non))) H) (RIs false) := fun E own μ H x y u v Q QD QX m r1 r2 k h => by
  unfold RIs at h
  split at h
  case h_2 => exact h.elim
  cases r2
  exact ⟨rfl, by rw [isNon_v r1]; exact k.here m (rep_v _) h⟩
theorem sIsNot {K : PySem.W.Frag} : Snd2 K (fun x y H Q => y = .non ∧ Q (.bl (!decide (x = .non))) H) (RIs true) := fun E own μ H x y u v Q QD QX m r1 r2 k h => by
  unfold RIs at h
  split at h
  case h_2 => exact h.elim
  cases r2
  exact ⟨rfl, by rw [isNon_v r1]; exact k.here m (rep_v _) h⟩
/-- a sign in a text, a number or text in a list or tuple of such -/
def flatD : D → Option V
  | .v x => if flatV x = true then some x else none
  | _ => none
def RIn (neg : Bool) : R2D := fun x y μ Q _ => match x, y with
  | .v (.str c), .v (.str z) => Q (.v (.bl (if neg then !(!(Builtin.Str.occurrences z c 0 z.length 1).isEmpty) else !(Builtin.Str.occurrences z c 0 z.length 1).isEmpty))) μ
  | x, y => ∃ v ds xs, flatD x = some v ∧ seqOf μ y = some ds ∧ ds.mapM flatD = some xs ∧ Q (.v (.bl (if neg then !inV v xs else inV v xs))) μ
theorem flat_v {K : PySem.W.Frag} {own : Ow} {μ : Store} {H : Hp} {x : D} {u v : V} (h : flatD x = some v) (r : Rep K own μ H x u) : u = v ∧ flatV v = true := by
  cases x with
  | v y =>
    have h : (if flatV y = true then some y else none) = some v := h
    split at h
    · rename_i q
      cases h
      exact ⟨r, q⟩
    · cases h
  | _ => cases h
theorem flats_v {K : PySem.W.Frag} {own : Ow} {μ : Store} {H : Hp} : ∀ {ds : List D} {us xs : List V}, ds.mapM flatD = some xs → Reps K own μ H ds us → us = xs ∧ xs.all flatV = true
  | [], us, xs, h, r => by
    have r : us = [] := r
    cases h
    exact ⟨r, rfl⟩
  | d :: ds, us, xs, h, r => by
    obtain ⟨y, q, rfl, h1, h2⟩ := r
    rw [List.mapM_cons] at h
    cases e1 : flatD d with
    | none => rw [e1] at h; cases h
    | some v =>
      cases e2 : ds.mapM flatD with
      | none => rw [e1, e2] at h; cases h
      | some vs =>
        rw [e1, e2] at h
        cases h
        obtain ⟨rfl, f1⟩ := flat_v e1 h1
        obtain ⟨rfl, f2⟩ := flats_v e2 h2
        exact ⟨rfl, by rw [List.all_cons, f1, f2]; rfl⟩
def rInA (K : PySem.W.Frag) (neg : Bool) : R2 := fun x y H Q => (∃ i j, x = .str i ∧ y = .str j ∧ Q (.bl (if neg then !(!(Builtin.Str.occurrences j i 0 j.length 1).isEmpty) else !(Builtin.Str.occurrences j i 0 j.length 1).isEmpty)) H) ∨ rIn K neg x y H Q
theorem op_inA {X : Cx} : OpR X (compareOp .In) (rInA X.K false) := opr_or op_in_str op_in_seq
theorem op_notInA {X : Cx} : OpR X (compareOp .NotIn) (rInA X.K true) := opr_or op_notIn_str op_notIn_seq
theorem sIn {K : PySem.W.Frag} {neg : Bool} : Snd2 K (rInA K neg) (RIn neg) := fun E own μ H x y u v Q QD QX m r1 r2 k h => by
  unfold RIn at h
  split at h
  · cases r1; cases r2
    exact .inl ⟨_, _, rfl, rfl, k.here m (rep_v _) h⟩
  · obtain ⟨w, ds, xs, h1, h2, h3, h4⟩ := h
    obtain ⟨rfl, f1⟩ := flat_v h1 r1
    obtain ⟨a, us, rfl, g1, g2⟩ := seq_view m h2 r2
    obtain ⟨rfl, f2⟩ := flats_v h3 g2
    exact .inr ⟨a, _, rfl, g1, f1, f2, k.here m (rep_v _) h4⟩
/-! places -/
def RIx : R2D := fun x y μ Q _ => match x with
  | .v (.str z) => match y with
    | .v (.int i) => ∃ c, z.length ≤ sizeLine ∧ atI z.cps.toList i = some c ∧ Q (.v (.str ⟨#[c]⟩)) μ
    | _ => False
  | .loc n => match y with
    | .v (.int i) => ∃ ds d, μ[n]? = some (some (.lst ds)) ∧ atI ds i = some d ∧ Q d μ
    | _ => False
  | x => match seqOf μ x, y with
    | some ds, .v (.int i) => ∃ d, atI ds i = some d ∧ Q d μ
    | _, _ => False
theorem at_ofD {ds : List D} {j : Nat} {d : D} (h : ds[j]? = some d) : atI ds (j : Int) = some d := by
  have hl := (List.getElem?_eq_some_iff.mp h).1
  unfold atI ixN
  rw [if_pos (by omega), if_pos (by omega), Option.bind_some, Int.toNat_natCast]
  exact h
theorem at_reps {K : PySem.W.Frag} {own : Ow} {μ : Store} {H : Hp} {ds : List D} {xs : List V} {i : Int} {d : D} (h : atI ds i = some d) (r : Reps K own μ H ds xs) : ∃ v, atI xs i = some v ∧ Rep K own μ H d v := by
  unfold atI at h ⊢
  rw [← Reps.len r]
  cases e : ixN ds.length i with
  | none => rw [e] at h; cases h
  | some j =>
    rw [e] at h
    exact Reps.getD r h
theorem ix_any {X : Cx} : IxR X (rIx X.K) := ixr_or ix_list (ixr_or ix_tup ix_str)
theorem sIx {K : PySem.W.Frag} : Snd2 K (rIx K) RIx := fun E own μ H x y u v Q QD QX m r1 r2 k h => by
  unfold RIx at h
  split at h
  · split at h
    case h_2 => exact h.elim
    rename_i i
    obtain ⟨c, h1, h2, h3⟩ := h
    cases r1; cases r2
    exact .inr (.inr ⟨_, i, c, rfl, rfl, h1, h2, k.here m (rep_v _) h3⟩)
  · rename_i n
    split at h
    case h_2 => exact h.elim
    rename_i i
    obtain ⟨ds, d, h0, h2, h3⟩ := h
    have h1 : seqOf μ (.loc n) = some ds := by simp [seqOf, h0]
    cases r2
    obtain ⟨a, xs, rfl, g1, g2⟩ := seq_view m h1 r1
    obtain ⟨w, g3, g4⟩ := at_reps h2 g2
    rcases g1 with g1 | g1
    · exact .inl ⟨a, xs, i, w, rfl, rfl, g1, g3, k.here m g4 h3⟩
    · exact .inr (.inl ⟨a, xs, i, w, rfl, rfl, g1, g3, k.here m g4 h3⟩)
  · split at h
    case h_2 => exact h.elim
    rename_i ds i h1
    obtain ⟨d, h2, h3⟩ := h
    cases r2
    obtain ⟨a, xs, rfl, g1, g2⟩ := seq_view m h1 r1
    obtain ⟨w, g3, g4⟩ := at_reps h2 g2
    rcases g1 with g1 | g1
    · exact .inl ⟨a, xs, i, w, rfl, rfl, g1, g3, k.here m g4 h3⟩
    · exact .inr (.inl ⟨a, xs, i, w, rfl, rfl, g1, g3, k.here m g4 h3⟩)
theorem de_ix {X : Cx} {K : PySem.W.Frag} {E : WX} {a b : Expr} {Ta Tb : TED} {pos : Pos} (hK : X.K = K) (ha : PE X a (Lf K E Ta)) (hb : PE X b (Lf K E Tb)) (hs : PlainIx b := by exact fun _ _ => rfl) : PE X (.Subscript a b pos) (Lf K E (TBin RIx Ta Tb)) := by
  subst hK
  exact (pe_ix ix_any ha hb hs).imp fun _ _ _ => lf_bin sIx
end DL

set_option Elab.async false
set_option linter.all false
set_option maxRecDepth 100000
namespace DL
open PySem L2
section
variable {K : PySem.W.Frag} {own : Ow} {μ : Store} {H : Hp}
theorem reps0 {u : List V} (h : Reps K own μ H [] u) : u = [] := h
end
/-! displays -/
def TTup (ta : TAD) : TED := fun σ μ Q X => ta σ μ (fun ds μ1 => Grd (decide (ds.length ≤ sizeLine)) (Q (.tup ds) μ1)) X
def TLst (b : Bool) (ta : TAD) : TED := fun σ μ Q X => ta σ μ (fun ds μ1 => Grd (decide (ds.length ≤ sizeLine)) (mkL b ds μ1 Q)) X
/-- {} -/
def TDct (b : Bool) : TED := fun _ μ Q _ => match b with
  | true => Q (.loc μ.length) (μ ++ [some (.dK [])])
  | false => Q (.dK []) μ
def TDctT : TED := fun _ μ Q _ => Q (.loc μ.length) (μ ++ [some (.dT [])])
theorem rep_tup {K : PySem.W.Frag} {own : Ow} {μ : Store} {H : Hp} {p : Addr} {ds : List D} {xs : List V} (m : RelM K own μ H) (n : H p = none) (r : Reps K own μ H ds xs) : Rep K own μ (upd H p (.tup xs)) (.tup ds) (.ref p) :=
  ⟨p, xs, rfl, .inl (.inl upd_same), .inr (m.free n), Reps.ext (ext_upd n) _ _ r⟩
theorem lf_mkT {K : PySem.W.Frag} {own : Ow} {μ : Store} {H : Hp} {E : Value → Option Addr → Hp → Prop} {QD : D → Store → Prop} {QX : XD} {Q : VK} {ds : List D} {xs : List V} (m : RelM K own μ H) (k : Kont (fun own μ H d v => Rep K own μ H d v) K E own μ H QD QX Q) (r : Reps K own μ H ds xs) (h : QD (.tup ds) μ) : ∀ p, H p = none → Q (.ref p) (upd H p (.tup xs)) := fun p n =>
  k.ok (.tup ds) μ own _ _ (ext_upd n) (rel_upd m n) (rep_tup m n r) h
section
variable {X : Cx} {K : PySem.W.Frag} {E : WX} {es : List Expr} {ta : TAD} {pos : Pos}
theorem de_tup {x1} (h : PA X es (LfA K E ta)) : PE X (.Tuple es x1 pos) (Lf K E (TTup ta)) := (pe_tup h).imp fun s H Q h => by
  obtain ⟨own, σ, μ, QD, QX, m, e, t, k⟩ := h
  exact LfG.bind m e k t fun ds μ1 own1 u H1 x1 m1 e1 r1 k1 q1 => ⟨by rw [← Reps.len r1]; exact q1.getD.1, lf_mkT m1 k1 r1 q1.getD.2⟩
theorem de_lst (b : Bool) (h : PA X es (LfA K E ta)) : PE X (.List es pos) (Lf K E (TLst b ta)) := (pe_lst h).imp fun s H Q h => by
  obtain ⟨own, σ, μ, QD, QX, m, e, t, k⟩ := h
  exact LfG.bind m e k t fun ds μ1 own1 u H1 x1 m1 e1 r1 k1 q1 => ⟨by rw [← Reps.len r1]; exact q1.getD.1, lf_mkL m1 k1 r1 q1.getD.2⟩
theorem de_dct (b : Bool) : PE X (.Dict [] [] pos) (Lf K E (TDct b)) := pe_dnewK.imp fun s H Q h p n => by
  obtain ⟨own, σ, μ, QD, QX, m, e, t, k⟩ := h
  unfold TDct at t
  cases b with
  | false =>
    exact k.ok (.dK []) _ own _ _ (ext_upd n) (rel_upd m n) ⟨p, [], rfl, upd_same, m.free n, rfl⟩ t
  | true =>
    have ex := ext_new (u := .dK []) (o := .dK []) m n
    exact k.ok (.loc μ.length) _ (own.add p) _ _ ex (rel_new m n ⟨[], upd_same, rfl⟩) ⟨p, by
      show (own.l ++ [p])[μ.length]? = some p
      rw [← m.ln]
      exact List.getElem?_concat_length, rfl⟩ t
theorem de_dctT : PE X (.Dict [] [] pos) (Lf K E TDctT) := pe_dnewT.imp fun s H Q h p n => by
  obtain ⟨own, σ, μ, QD, QX, m, e, t, k⟩ := h
  have ex := ext_new (u := .dT []) (o := .dT []) m n
  exact k.ok (.loc μ.length) _ (own.add p) _ _ ex (rel_new m n ⟨[], upd_same, rfl, rfl⟩) ⟨p, by
    show (own.l ++ [p])[μ.length]? = some p
    rw [← m.ln]
    exact List.getElem?_concat_length, rfl⟩ t
end
/-! comprehensions -/
abbrev BlkP (X : Cx) (scope : Scope) (φ : Cx → Prop) : Prop := ∀ (s : Shared) (H : Hp) (C : Addr) (cl : List (Str × Addr)) (fp : List Addr), φ (X.blk s H scope (compEnvC scope cl C X.env) fp)
theorem dpts_nil {X : Cx} {K : PySem.W.Frag} : PTs X [] (LfT K EF TYes) := by
  have h : PTs X [] tYes := pts_nil
  refine ⟨fun pins s σ H Q I q => h.run pins s σ H Q I ?_⟩
  obtain ⟨own, σd, μ, QD, QX, m, e, t, k⟩ := q
  exact k.here m rfl t
theorem dpts_one {X : Cx} {K : PySem.W.Frag} {c : Expr} {t : TTD} (h : PT X c (LfT K EF t)) : PTs X [c] (LfT K EF t) := pts_one h
section
variable {X : Cx} {K : PySem.W.Frag} {E : WX} {elt tg iter : Expr} {ifs : List Expr} {scope : Scope} {own : List (Str × Nat)} {pos : Pos} {ti : TID} {g : TGD} {tt : TTD} {te : TED} {ws : List Nat}
theorem de_lc (hc : X.calm = true) (hN : X.N.Nodup) (ok : BlkOk X.N X.env.scope scope own) (hi : PI X tg iter (LfI K E ti)) (hw : ∀ i ∈ ws, i ∈ own.map (·.2)) (hg : BlkP X scope fun Y => PG Y tg (Lg K ws g)) (ht : BlkP X scope fun Y => PTs Y ifs (LfT K EF tt)) (he : BlkP X scope fun Y => PE Y elt (Lf K EF te))
    (hs : ∀ x, foldedSetIterable iter X.env x = pure x := by intro _; rfl) : PE X (.ListComp elt [⟨tg, iter, ifs, 0⟩] scope pos) (Lf K E (TLc ti g tt te (own.map (·.2)))) := (pe_lc hc hN hi ok hg ht he hs).imp fun _ _ _ h => lf_lc hw h
theorem lfs_set {i : Nat} {te : TED} {D : Ends} {s : L2.St} {H : Hp} (h : LfS K E (TSet i te) D s H) : Lf K E te s H fun v H' => gName i v s H' D.nx := by
  obtain ⟨own, σ, μ, DD, m, e, t, k⟩ := h
  exact LfS.bind m e k t fun x μ1 own1 u H1 x1 m1 e1 r1 k1 q1 => k1.nx _ μ1 own1 _ H1 Ext.refl m1 (e1.set i r1) q1
theorem ds_setLc {i : Nat} {y : Str} {py spos : Pos} (hc : X.calm = true) (hN : X.N.Nodup) (hy : X.N[i]? = some y) (hyl : X.env.scope.names.lookup y = some .local) (hsw : swapsWith (.ListComp elt [⟨tg, iter, ifs, 0⟩] scope pos) (some (.Name y py)) spos.line X.env = pure true) (ok : BlkOk X.N X.env.scope scope own) (hi : PI X tg iter (LfI K E ti)) (hw : ∀ i ∈ ws, i ∈ own.map (·.2))
    (hg : BlkP X scope fun Y => PG Y tg (Lg K ws g)) (ht : BlkP X scope fun Y => PTs Y ifs (LfT K EF tt)) (he : BlkP X scope fun Y => PE Y elt (Lf K EF te)) (hs : ∀ x, foldedSetIterable iter X.env x = pure x := by intro _; rfl) :
    PS X (.Assign [.Name y py] (.ListComp elt [⟨tg, iter, ifs, 0⟩] scope pos) spos) (LfS K E (TSet i (TLc ti g tt te (own.map (·.2))))) := (ps_setLc hc hN hy hyl hsw hi ok hg ht he hs).imp fun D s H h => lf_lc hw (lfs_set h)
end
/-! slices -/
abbrev TOD := TG' (Option Int)
abbrev LfO (K : PySem.W.Frag) (E : WX) (T : TOD) : TO := LfG (fun _ _ _ (d : Option Int) v => v = d) K E T
def TPartN : TOD := fun _ μ Q _ => Q none μ
def TPart (t : TED) : TOD := fun σ μ Q X => t σ μ (fun d μ1 => match d with
  | .v (.int i) => Q (some i) μ1
  | _ => False) X
def cutD (ds : List D) (lo hi : Option Int) : List D := (ds.drop (HT.sIx ds.length 0 lo)).take (HT.sIx ds.length ds.length hi - HT.sIx ds.length 0 lo)
def RSl (b : Bool) (x : D) (lo hi : Option Int) (μ : Store) (Q : D → Store → Prop) : Prop := match x with
  | .v (.str z) => z.length ≤ sizeLine ∧ Q (.v (.str (cutS z lo hi))) μ
  | .tup ds => Q (.tup (cutD ds lo hi)) μ
  | .frz xs => mkL b (cutD (xs.map .v) lo hi) μ Q
  | x => ∃ ds, lstOf μ x = some ds ∧ mkL b (cutD ds lo hi) μ Q
def TSl (b : Bool) (te : TED) (tl th : TOD) : TED := fun σ μ Q X => te σ μ (fun x μ1 => tl σ μ1 (fun lo μ2 => th σ μ2 (fun hi μ3 => RSl b x lo hi μ3 Q) X) X) X
theorem Reps.take {K : PySem.W.Frag} {own : Ow} {μ : Store} {H : Hp} : ∀ {ds : List D} {xs : List V} (n : Nat), Reps K own μ H ds xs → Reps K own μ H (ds.take n) (xs.take n)
  | [], _, n, h => by
    have h : _ = [] := h
    subst h
    simp only [List.take_nil]
    exact rfl
  | d :: ds, _, 0, h => by
    obtain ⟨y, r, rfl, h1, h2⟩ := h
    exact rfl
  | d :: ds, _, n + 1, h => by
    obtain ⟨y, r, rfl, h1, h2⟩ := h
    exact ⟨y, _, rfl, h1, Reps.take n h2⟩
theorem Reps.drop {K : PySem.W.Frag} {own : Ow} {μ : Store} {H : Hp} : ∀ {ds : List D} {xs : List V} (n : Nat), Reps K own μ H ds xs → Reps K own μ H (ds.drop n) (xs.drop n)
  | [], _, n, h => by
    have h : _ = [] := h
    subst h
    simp only [List.drop_nil]
    exact rfl
  | d :: ds, _, 0, h => h
  | d :: ds, _, n + 1, h => by
    obtain ⟨y, r, rfl, h1, h2⟩ := h
    exact Reps.drop n h2
theorem Reps.cut' {K : PySem.W.Frag} {own : Ow} {μ : Store} {H : Hp} {ds : List D} {xs : List V} {lo hi : Option Int} (h : Reps K own μ H ds xs) : Reps K own μ H (cutD ds lo hi) (cutV xs lo hi) := by
  unfold cutD cutV
  rw [Reps.len h]
  exact Reps.take _ (Reps.drop _ h)
theorem slr_or {X : Cx} {r r' : V → Option Int → Option Int → Hp → VK → Prop} (h : SlR X r) (h' : SlR X r') : SlR X (fun x l u H Q => r x l u H Q ∨ r' x l u H Q) := fun pins s σ H x v vl vu lo hi sl Q I rx a b c q => q.elim (h pins s σ H x v vl vu lo hi sl Q I rx a b c) (h' pins s σ H x v vl vu lo hi sl Q I rx a b c)
def rSlAny (K : PySem.W.Frag) : V → Option Int → Option Int → Hp → VK → Prop := fun x l u H Q => rSlS x l u H Q ∨ (rSlA K x l u H Q ∨ rSlL K x l u H Q)
section
variable {X : Cx} {K : PySem.W.Frag} {E : WX} {e : Expr} {te : TED} {lo hi : Option Expr} {tl th : TOD} {pos p2 : Pos}
theorem _root_.L2.PO.imp {e : Option Expr} {t t' : TO} (h : PO X e t) (i : ∀ σ H Q, t' σ H Q → t σ H Q) : PO X e t' := ⟨fun pins s σ H Q I q => h.run pins s σ H Q I (i _ _ _ q)⟩
theorem do_none : PO X none (LfO K E TPartN) := po_none.imp fun s H Q h => by
  obtain ⟨own, σ, μ, QD, QX, m, e, t, k⟩ := h
  exact k.here m rfl t
theorem do_some {e : Expr} {t : TED} (h : PE X e (Lf K E t)) : PO X (some e) (LfO K E (TPart t)) := (po_some h).imp fun s H Q h => by
  obtain ⟨own, σ, μ, QD, QX, m, e, t, k⟩ := h
  refine LfG.bind m e k t fun x μ1 own1 u H1 x1 m1 e1 r1 k1 q1 => ?_
  split at q1
  case h_2 => exact q1.elim
  cases r1
  exact ⟨_, rfl, k1.here m1 rfl q1⟩
theorem de_slice (b : Bool) (hK : X.K = K) (he : PE X e (Lf K E te)) (hl : PO X lo (LfO K E tl)) (hu : PO X hi (LfO K E th)) : PE X (.Subscript e (.Slice lo hi none p2) pos) (Lf K E (TSl b te tl th)) :=
  (pe_slice (slr_or sl_str (slr_or sl_tupA sl_list)) he hl hu).imp fun s H Q h => by
    subst hK
    obtain ⟨own, σ, μ, QD, QX, m, e, t, k⟩ := h
    refine LfG.bind m e k t fun x μ1 own1 u H1 x1 m1 e1 r1 k1 q1 => ?_
    refine LfG.bind m1 e1 k1 q1 fun lo μ2 own2 v2 H2 x2 m2 e2 r2 k2 q2 => ?_
    refine LfG.bind m2 e2 k2 q2 fun hi μ3 own3 v3 H3 x3 m3 e3 r3 k3 q3 => ?_
    subst r2 r3
    replace r1 := Rep.ext (x2.trans x3) _ _ r1
    unfold RSl at q3
    split at q3
    · cases r1
      exact .inl ⟨_, rfl, q3.1, k3.here m3 (rep_v _) q3.2⟩
    · rename_i ds
      obtain ⟨a, xs, rfl, h1, h2, h3⟩ := r1
      have l := Reps.len h3
      refine .inr (.inl ⟨a, xs, rfl, h1, fun z => ?_, fun _ => lf_mkT m3 k3 (Reps.cut' h3) q3⟩)
      have ec : cutD ds v2 v3 = ds := by
        unfold cutD
        rw [l, z.1, z.2, List.drop_zero, Nat.sub_zero, ← l, List.take_length]
      rw [ec] at q3
      exact k3.here (d := .tup ds) m3 ⟨a, xs, rfl, h1, h2, h3⟩ q3
    · obtain ⟨a, rfl, h1, _⟩ := r1
      exact .inr (.inr ⟨a, _, rfl, h1, lf_mkL m3 k3 (Reps.cut' (Reps.ofV _)) q3⟩)
    · obtain ⟨ds, h1, h2⟩ := q3
      obtain ⟨a, xs, rfl, g1, g2⟩ := lst_view m3 h1 r1
      exact .inr (.inr ⟨a, xs, rfl, SqL.of g1, lf_mkL m3 k3 (Reps.cut' g2) h2⟩)
end
/-! built-in functions -/
theorem de_cb {X : Cx} {K : PySem.W.Frag} {E : WX} {r : List V → Hp → VK → Prop} {R : RAD} {id : String} {x : Str} {e : Expr} {es : List Expr} {ta : TAD} {p pos : Pos} (hc : CallR X (.builtin id) r) (S : SndA K r R) (hg : Gl X x) (hm : X.mg x = none) (hv : bootBuiltins x = some (.builtin id)) (ha : PA X (e :: es) (LfA K E ta)) (hn : x ≠ "__name__" := by decide) (hdb : (x == ("__debug__" : Str)) = false := by decide)
    (he : starEach (e :: es) X.env = (false, eval e X.env) :: starEach es X.env := by rfl) (hpl : (backTo pos (starEach es X.env)).any (·.1) = false := by rfl) : PE X (.Call (.Name x p) (e :: es) [] pos) (Lf K E (TCB R ta)) := (pe_callB hc hg hm hv ha hn hdb he hpl).imp fun _ _ _ h => lf_cb S h
theorem de_ct {X : Cx} {K : PySem.W.Frag} {E : WX} {r : List V → Hp → VK → Prop} {R : RAD} {T : String} {x : Str} {e : Expr} {es : List Expr} {ta : TAD} {p pos : Pos} (hc : CallR X (.type T) r) (S : SndA K r R) (hg : Gl X x) (hm : X.mg x = none) (hv : bootBuiltins x = some (.type T)) (ha : PA X (e :: es) (LfA K E ta)) (hn : x ≠ "__name__" := by decide) (hdb : (x == ("__debug__" : Str)) = false := by decide)
    (he : starEach (e :: es) X.env = (false, eval e X.env) :: starEach es X.env := by rfl) (hpl : (backTo pos (starEach es X.env)).any (·.1) = false := by rfl) : PE X (.Call (.Name x p) (e :: es) [] pos) (Lf K E (TCB R ta)) := (pe_callTy hc hg hm hv ha hn hdb he hpl).imp fun _ _ _ h => lf_cb S h
def RLen : RAD := fun ds μ Q _ => match ds with
  | [.v (.str z)] => z.length ≤ sizeLine ∧ Q (.v (.int z.length)) μ
  | [.loc n] => ∃ s, μ[n]? = some (some (.lst s)) ∧ Q (.v (.int s.length)) μ
  | [x] => match seqOf μ x with
    | some s => Q (.v (.int s.length)) μ
    | none => False
  | _ => False
theorem sLen {K : PySem.W.Frag} : SndA K (fun xs H Q => ∃ x n, xs = [x] ∧ LenV K x H n ∧ Q (.int n) H) RLen := fun E own μ H x u Q QD QX m r k h => by
  unfold RLen at h
  split at h
  · obtain ⟨y, rfl, ry⟩ := reps1 r
    cases ry
    exact ⟨_, _, rfl, ⟨h.1, rfl⟩, k.here m (rep_v _) h.2⟩
  · rename_i n
    obtain ⟨s, h0, h2⟩ := h
    have h1 : seqOf μ (.loc n) = some s := by simp [seqOf, h0]
    obtain ⟨y, rfl, ry⟩ := reps1 r
    obtain ⟨a, xs, rfl, g1, g2⟩ := seq_view m h1 ry
    refine ⟨_, xs.length, rfl, ?_, by rw [← Reps.len g2]; exact k.here m (rep_v _) h2⟩
    rcases g1 with g1 | g1
    · exact .inl ⟨xs, g1, rfl⟩
    · exact .inr ⟨xs, g1, rfl⟩
  · split at h
    case h_2 => exact h.elim
    rename_i s h1
    have h2 := h
    obtain ⟨y, rfl, ry⟩ := reps1 r
    obtain ⟨a, xs, rfl, g1, g2⟩ := seq_view m h1 ry
    refine ⟨_, xs.length, rfl, ?_, by rw [← Reps.len g2]; exact k.here m (rep_v _) h2⟩
    rcases g1 with g1 | g1
    · exact .inl ⟨xs, g1, rfl⟩
    · exact .inr ⟨xs, g1, rfl⟩
  · exact h.elim
/-- an own class whose instances isinstance tells -/
structure TyC (K : PySem.W.Frag) (C : Addr) : Prop where
  cl : Cls K C
  kc : PySem.W.findIn K (.ref C) "__class__" = some (some (.builtin "object.__class__"))
  kg : PySem.W.specialIn K (.builtin "object.__class__") "__get__" = some (some (.builtin "getset_descriptor.__get__"))
  kt : PySem.W.takesIn K (.builtin "object.__class__") = some true
  km : PySem.W.mroIn K C (.type "object") = some true
/-- the class of x -/
def tyD (K : PySem.W.Frag) (μ : Store) : D → Value → Prop
  | .v .non, t => t = .type "NoneType"
  | .v (.bl _), t => t = .type "bool"
  | .v (.int _), t => t = .type "int"
  | .v (.str _), t => t = .type "str"
  | .v _, _ => False
  | .tup _, t => t = .type "tuple"
  | .lst _, t => t = .type "list"
  | .frz _, _ => False
  | .dK _, t => t = .type "dict"
  | .obj C _, t => t = .ref C ∧ TyC K C
  | .loc i, t => match μ[i]? with
    | some (some (.lst _)) => t = .type "list"
    | some (some (.dK _)) => t = .type "dict"
    | some (some (.dT _)) => t = .type "dict"
    | some (some (.ins C _)) => t = .ref C ∧ TyC K C
    | _ => False
  | .exn _ _ _ _, _ => False
theorem ty_view {K : PySem.W.Frag} {own : Ow} {μ : Store} {H : Hp} (m : RelM K own μ H) {d : D} {v : V} {t : Value} (h : tyD K μ d t) (r : Rep K own μ H d v) : TyX K H v t := by
  cases d with
  | v x =>
    have r : v = x := r
    subst r
    cases v <;> first | (cases h; first | exact .base .non | exact .base (.bl _) | exact .base (.int _) | exact .base (.str _)) | exact h.elim
  | tup ds =>
    cases h
    obtain ⟨a, xs, rfl, h1, _, _⟩ := r
    rcases h1 with (h1 | ⟨o, h1⟩) | ⟨o, its, n, h1, h2, _⟩
    · exact .base (.tup h1)
    · exact .fTuple h1
    · exact .kTuple h1 h2
  | lst ds =>
    cases h
    obtain ⟨a, xs, rfl, h1, _, _⟩ := r
    exact .base (.lst h1)
  | frz _ => exact h.elim
  | dK _ =>
    cases h
    obtain ⟨a, xs, rfl, h1, _, _⟩ := r
    exact .base (.dK h1)
  | obj C fs =>
    obtain ⟨rfl, T⟩ := h
    obtain ⟨a, dx, xs, rfl, h1, _, _⟩ := r
    exact .base (.ins h1 T.cl T.kc T.kg T.kt T.km)
  | loc i =>
    obtain ⟨a, h1, rfl⟩ := r
    have h : (match μ[i]? with | some (some (.lst _)) => t = .type "list" | some (some (.dK _)) => t = .type "dict" | some (some (.dT _)) => t = .type "dict" | some (some (.ins C _)) => t = .ref C ∧ TyC K C | _ => False) := h
    split at h
    · rename_i q; cases h; obtain ⟨xs, g, _⟩ := m.ob i _ a q h1; exact .base (.lst g)
    · rename_i q; cases h; obtain ⟨xs, g, _⟩ := m.ob i _ a q h1; exact .base (.dK g)
    · rename_i q; cases h; obtain ⟨xs, g, _⟩ := m.ob i _ a q h1; exact .base (.dT g)
    · rename_i q; obtain ⟨rfl, T⟩ := h; obtain ⟨dx, xs, g, _⟩ := m.ob i _ a q h1; exact .base (.ins g T.cl T.kc T.kg T.kt T.km)
    · exact h.elim
  | exn _ _ _ _ => exact h.elim
def clsD : D → Option Value
  | .v (.ty n) => some (.type n)
  | .v (.ref C) => some (.ref C)
  | _ => none
theorem cls_view {K : PySem.W.Frag} {own : Ow} {μ : Store} {H : Hp} {d : D} {v : V} {t : Value} (h : clsD d = some t) (r : Rep K own μ H d v) : ClsV v t := by
  cases d with
  | v x =>
    have r : v = x := r
    subst r
    cases v <;> cases h
    · exact .own _
    · exact .ty _
  | _ => cases h
theorem clss_view {K : PySem.W.Frag} {own : Ow} {μ : Store} {H : Hp} : ∀ {ds : List D} {vs : List V} {ts : List Value}, ds.mapM clsD = some ts → Reps K own μ H ds vs → Paired ClsV vs ts
  | [], vs, ts, h, r => by
    have r : vs = [] := r
    cases h; subst r
    exact .nil
  | d :: ds, vs, ts, h, r => by
    obtain ⟨y, q, rfl, h1, h2⟩ := r
    rw [List.mapM_cons] at h
    cases e1 : clsD d with
    | none => rw [e1] at h; cases h
    | some v =>
      cases e2 : ds.mapM clsD with
      | none => rw [e1, e2] at h; cases h
      | some vs =>
        rw [e1, e2] at h
        cases h
        exact .cons (cls_view e1 h1) (clss_view e2 h2)
def RIsi (K : PySem.W.Frag) : RAD := fun ds μ Q _ => match ds with
  | [x, .tup cs] => ∃ t us b, tyD K μ x t ∧ cs.mapM clsD = some us ∧ PySem.W.kitAny K t us = some b ∧ Q (.v (.bl b)) μ
  | [x, c] => ∃ t u b, tyD K μ x t ∧ clsD c = some u ∧ PySem.W.kitOne K t u = some b ∧ Q (.v (.bl b)) μ
  | _ => False
def rIsiA (K : PySem.W.Frag) : List V → Hp → VK → Prop := fun xs H Q => rIsi K xs H Q ∨ rIsiT K xs H Q
theorem sIsi {K : PySem.W.Frag} : SndA K (fun xs H Q => rIsiA K xs H Q ∨ ∃ (x : V) (a : Addr) (cs : List V) (t : Value) (us : List Value) (b : Bool), xs = [x, .ref a] ∧ SqT K H a cs ∧ Paired ClsV cs us ∧ TyX K H x t ∧ PySem.W.kitAny K t us = some b ∧ Q (.bl b) H) (RIsi K) := fun E own μ H x u Q QD QX m r k h => by
  unfold RIsi at h
  split at h
  · obtain ⟨t, us, b, h1, h2, h3, h4⟩ := h
    obtain ⟨y, z, rfl, ry, a, cs, rfl, g1, _, g2⟩ := reps2 r
    exact .inr ⟨_, a, cs, t, us, b, rfl, g1, clss_view h2 g2, ty_view m h1 ry, h3, k.here m (rep_v _) h4⟩
  · obtain ⟨t, u, b, h1, h2, h3, h4⟩ := h
    obtain ⟨y, z, rfl, ry, rz⟩ := reps2 r
    exact .inl (.inl ⟨_, _, t, u, b, rfl, cls_view h2 rz, ty_view m h1 ry, h3, k.here m (rep_v _) h4⟩)
  · exact h.elim
theorem cr_isiA {X : Cx} : CallR X (.builtin "isinstance") (fun xs H Q => rIsiA X.K xs H Q ∨ ∃ (x : V) (a : Addr) (cs : List V) (t : Value) (us : List Value) (b : Bool), xs = [x, .ref a] ∧ SqT X.K H a cs ∧ Paired ClsV cs us ∧ TyX X.K H x t ∧ PySem.W.kitAny X.K t us = some b ∧ Q (.bl b) H) := by
  refine cr_or (cr_or call_isi call_isiT) ?_
  intro pins s σ H xs us Q I r h
  obtain ⟨x, tp, cs, t, ws, b, rfl, hT, k, ty, e, q⟩ := h
  obtain ⟨u1, u2, rfl, r1, r2⟩ := vals2 r
  cases (show u2 = Value.ref tp from r2)
  obtain ⟨P, Z, p, hx⟩ := kit_of I r1 ty
  obtain ⟨its, rv, ht, hz⟩ := I.tuple hT
  have e3 := ClsV.all k rv
  subst e3
  obtain ⟨⟨oc, od, dt, sl⟩, h1, h2, n, h3⟩ := ht
  simp only at h2 h3
  subst h2 h3
  exact PySem.W.kia_tup Z I.kIn p h1 e hx fun tk => ⟨.bl b, H, I.tok tk, rfl, q⟩
end DL

set_option Elab.async false
set_option linter.all false
set_option maxRecDepth 100000
namespace DL
open PySem L2
/-! lists of one kind -/
def intsD : List D → Option (List Int)
  | [] => some []
  | .v (.int i) :: ds => (intsD ds).map (i :: ·)
  | _ => none
def blsD : List D → Option (List Bool)
  | [] => some []
  | .v (.bl i) :: ds => (blsD ds).map (i :: ·)
  | _ => none
def strsD : List D → Option (List Str)
  | [] => some []
  | .v (.str i) :: ds => (strsD ds).map (i :: ·)
  | _ => none
section
variable {K : PySem.W.Frag} {own : Ow} {μ : Store} {H : Hp}
theorem ints_view : ∀ {ds : List D} {xs : List V} {ns : List Int}, intsD ds = some ns → Reps K own μ H ds xs → xs = ns.map V.int
  | [], xs, ns, h, r => by
    have r : xs = [] := r
    cases h; exact r
  | d :: ds, _, ns, h, r => by
    obtain ⟨y, q, rfl, h1, h2⟩ := r
    cases d with
    | v x =>
      have h1 : y = x := h1
      subst h1
      cases y with
      | int i =>
        have h : (intsD ds).map (i :: ·) = some ns := h
        cases e : intsD ds with
        | none => rw [e] at h; cases h
        | some ms => rw [e] at h; cases h; rw [ints_view e h2]; rfl
      | _ => cases h
    | _ => cases h
theorem bls_view : ∀ {ds : List D} {xs : List V} {ns : List Bool}, blsD ds = some ns → Reps K own μ H ds xs → xs = ns.map V.bl
  | [], xs, ns, h, r => by
    have r : xs = [] := r
    cases h; exact r
  | d :: ds, _, ns, h, r => by
    obtain ⟨y, q, rfl, h1, h2⟩ := r
    cases d with
    | v x =>
      have h1 : y = x := h1
      subst h1
      cases y with
      | bl i =>
        have h : (blsD ds).map (i :: ·) = some ns := h
        cases e : blsD ds with
        | none => rw [e] at h; cases h
        | some ms => rw [e] at h; cases h; rw [bls_view e h2]; rfl
      | _ => cases h
    | _ => cases h
theorem strs_view : ∀ {ds : List D} {xs : List V} {ns : List Str}, strsD ds = some ns → Reps K own μ H ds xs → xs = ns.map V.str
  | [], xs, ns, h, r => by
    have r : xs = [] := r
    cases h; exact r
  | d :: ds, _, ns, h, r => by
    obtain ⟨y, q, rfl, h1, h2⟩ := r
    cases d with
    | v x =>
      have h1 : y = x := h1
      subst h1
      cases y with
      | str i =>
        have h : (strsD ds).map (i :: ·) = some ns := h
        cases e : strsD ds with
        | none => rw [e] at h; cases h
        | some ms => rw [e] at h; cases h; rw [strs_view e h2]; rfl
      | _ => cases h
    | _ => cases h
theorem intsD_map (ns : List Int) : intsD (ns.map fun i => .v (.int i)) = some ns := by
  induction ns with
  | nil => rfl
  | cons n ns ih => show (intsD (ns.map fun i => .v (.int i))).map (n :: ·) = _; rw [ih]; rfl
theorem blsD_map (ns : List Bool) : blsD (ns.map fun i => .v (.bl i)) = some ns := by
  induction ns with
  | nil => rfl
  | cons n ns ih => show (blsD (ns.map fun i => .v (.bl i))).map (n :: ·) = _; rw [ih]; rfl
theorem strsD_map (ns : List Str) : strsD (ns.map fun i => .v (.str i)) = some ns := by
  induction ns with
  | nil => rfl
  | cons n ns ih => show (strsD (ns.map fun i => .v (.str i))).map (n :: ·) = _; rw [ih]; rfl
end
/-- a list that is read, not a tuple -/
def lsqOf (μ : Store) : D → Option (List D)
  | .lst ds => some ds
  | .frz xs => some (xs.map .v)
  | .loc i => match μ[i]? with
    | some (some (.lst ds)) => some ds
    | _ => none
  | _ => none
theorem lsq_view {K : PySem.W.Frag} {own : Ow} {μ : Store} {H : Hp} (m : RelM K own μ H) {d : D} {v : V} {ds : List D} (h : lsqOf μ d = some ds) (r : Rep K own μ H d v) : ∃ a xs, v = .ref a ∧ SqL K H a xs ∧ Reps K own μ H ds xs := by
  cases d with
  | lst ds' =>
    cases h
    obtain ⟨a, xs, e, h1, _, h3⟩ := r
    exact ⟨a, xs, e, SqL.of h1, h3⟩
  | frz xs =>
    cases h
    obtain ⟨a, e, h1, _⟩ := r
    exact ⟨a, xs, e, h1, Reps.ofV xs⟩
  | loc i =>
    obtain ⟨a, xs, e, h1, h3⟩ := lst_view m (d := .loc i) h r
    exact ⟨a, xs, e, SqL.of h1, h3⟩
  | _ => cases h
def RSum : RAD := fun ds μ Q _ => ∃ x s ns, ds = [x] ∧ lsqOf μ x = some s ∧ intsD s = some ns ∧ Q (.v (.int ns.sum)) μ
def RAll : RAD := fun ds μ Q _ => ∃ x s ns, ds = [x] ∧ lsqOf μ x = some s ∧ blsD s = some ns ∧ Q (.v (.bl (ns.all id))) μ
def RAny : RAD := fun ds μ Q _ => ∃ x s ns, ds = [x] ∧ lsqOf μ x = some s ∧ blsD s = some ns ∧ Q (.v (.bl (ns.any id))) μ
/-- max, min: of two ints, of a list of ints -/
def RMax : RAD := fun ds μ Q _ => match ds with
  | [.v (.int i), .v (.int j)] => Q (.v (.int (if j > i then j else i))) μ
  | [x] => ∃ s ns, lsqOf μ x = some s ∧ intsD s = some ns ∧ 0 < ns.length ∧ ∀ m, m ∈ ns → (∀ y, y ∈ ns → y ≤ m) → Q (.v (.int m)) μ
  | _ => False
def RMin : RAD := fun ds μ Q _ => match ds with
  | [.v (.int i), .v (.int j)] => Q (.v (.int (if j < i then j else i))) μ
  | [x] => ∃ s ns, lsqOf μ x = some s ∧ intsD s = some ns ∧ 0 < ns.length ∧ ∀ m, m ∈ ns → (∀ y, y ∈ ns → m ≤ y) → Q (.v (.int m)) μ
  | _ => False
def RAbs : RAD := fun ds μ Q _ => ∃ i, ds = [.v (.int i)] ∧ Q (.v (.int (if i < 0 then -i else i))) μ
def RInt : RAD := fun ds μ Q _ => match ds with
  | [.v (.int i)] => Q (.v (.int i)) μ
  | [.v (.bl b)] => Q (.v (.int (if b then 1 else 0))) μ
  | _ => False
def RBool : RAD := fun ds μ Q _ => match ds with
  | [.v (.int i)] => Q (.v (.bl (i != 0))) μ
  | [.v (.bl b)] => Q (.v (.bl b)) μ
  | _ => False
def RTuple : RAD := fun ds μ Q _ => match ds with
  | [.tup s] => Q (.tup s) μ
  | [x] => ∃ s, lsqOf μ x = some s ∧ Q (.tup s) μ
  | _ => False
def RList (b : Bool) : RAD := fun ds μ Q _ => ∃ x s, ds = [x] ∧ seqOf μ x = some s ∧ mkL b s μ Q
def RSorted (b : Bool) : RAD := fun ds μ Q _ => ∃ x s, ds = [x] ∧ lsqOf μ x = some s ∧ s.length < 64 ∧ ((∃ ns, intsD s = some ns ∧ ∀ ms : List Int, ms.Perm ns → ms.Pairwise (· ≤ ·) → mkL b (ms.map fun i => .v (.int i)) μ Q) ∨
  ∃ ns, strsD s = some ns ∧ ∀ ms : List Str, ms.Perm ns → PyProof.Rows.sortedS ms = true → mkL b (ms.map fun i => .v (.str i)) μ Q)
section
variable {K : PySem.W.Frag}
theorem sSum : SndA K (rSum K) RSum := fun E own μ H x u Q QD QX m r k ⟨y, s, ns, e, h1, h2, h3⟩ => by
  subst e
  obtain ⟨z, rfl, rz⟩ := reps1 r
  obtain ⟨a, xs, rfl, g1, g2⟩ := lsq_view m h1 rz
  rw [ints_view h2 g2] at g1
  exact ⟨a, ns, rfl, g1, k.here m (rep_v _) h3⟩
theorem sAll : SndA K (rAll K) RAll := fun E own μ H x u Q QD QX m r k ⟨y, s, ns, e, h1, h2, h3⟩ => by
  subst e
  obtain ⟨z, rfl, rz⟩ := reps1 r
  obtain ⟨a, xs, rfl, g1, g2⟩ := lsq_view m h1 rz
  rw [bls_view h2 g2] at g1
  exact ⟨a, ns, rfl, g1, k.here m (rep_v _) h3⟩
theorem sAny : SndA K (rAny K) RAny := fun E own μ H x u Q QD QX m r k ⟨y, s, ns, e, h1, h2, h3⟩ => by
  subst e
  obtain ⟨z, rfl, rz⟩ := reps1 r
  obtain ⟨a, xs, rfl, g1, g2⟩ := lsq_view m h1 rz
  rw [bls_view h2 g2] at g1
  exact ⟨a, ns, rfl, g1, k.here m (rep_v _) h3⟩
def rMaxA (K : PySem.W.Frag) : List V → Hp → VK → Prop := fun xs H Q => (∃ i j, xs = [.int i, .int j] ∧ Q (.int (if j > i then j else i)) H) ∨ rMax K xs H Q
def rMinA (K : PySem.W.Frag) : List V → Hp → VK → Prop := fun xs H Q => (∃ i j, xs = [.int i, .int j] ∧ Q (.int (if j < i then j else i)) H) ∨ rMin K xs H Q
theorem cr_maxA {X : Cx} (hc : X.calm = true) : CallR X (.builtin "max") (rMaxA X.K) := cr_or (call_max2 hc) (cr_max hc)
theorem cr_minA {X : Cx} (hc : X.calm = true) : CallR X (.builtin "min") (rMinA X.K) := cr_or (call_min2 hc) (cr_min hc)
theorem sMax : SndA K (rMaxA K) RMax := fun E own μ H x u Q QD QX m r k h => by
  unfold RMax at h
  split at h
  · obtain ⟨y, z, rfl, ry, rz⟩ := reps2 r
    cases ry; cases rz
    exact .inl ⟨_, _, rfl, k.here m (rep_v _) h⟩
  · obtain ⟨s, ns, h1, h2, h3, h4⟩ := h
    obtain ⟨z, rfl, rz⟩ := reps1 r
    obtain ⟨a, xs, rfl, g1, g2⟩ := lsq_view m h1 rz
    rw [ints_view h2 g2] at g1
    exact .inr ⟨a, ns, rfl, g1, h3, fun w h5 h6 => k.here m (rep_v _) (h4 w h5 h6)⟩
  · exact h.elim
theorem sMin : SndA K (rMinA K) RMin := fun E own μ H x u Q QD QX m r k h => by
  unfold RMin at h
  split at h
  · obtain ⟨y, z, rfl, ry, rz⟩ := reps2 r
    cases ry; cases rz
    exact .inl ⟨_, _, rfl, k.here m (rep_v _) h⟩
  · obtain ⟨s, ns, h1, h2, h3, h4⟩ := h
    obtain ⟨z, rfl, rz⟩ := reps1 r
    obtain ⟨a, xs, rfl, g1, g2⟩ := lsq_view m h1 rz
    rw [ints_view h2 g2] at g1
    exact .inr ⟨a, ns, rfl, g1, h3, fun w h5 h6 => k.here m (rep_v _) (h4 w h5 h6)⟩
  · exact h.elim
theorem sAbs : SndA K (fun xs H Q => ∃ i, xs = [.int i] ∧ Q (.int (if i < 0 then -i else i)) H) RAbs := fun E own μ H x u Q QD QX m r k ⟨i, e, h⟩ => by
  subst e
  obtain ⟨z, rfl, rz⟩ := reps1 r
  cases rz
  exact ⟨i, rfl, k.here m (rep_v _) h⟩
theorem sInt : SndA K (fun xs H Q => (∃ i, xs = [.int i] ∧ Q (.int i) H) ∨ ∃ k, xs = [.bl k] ∧ Q (.int (if k then 1 else 0)) H) RInt := fun E own μ H x u Q QD QX m r k h => by
  unfold RInt at h
  split at h
  · obtain ⟨z, rfl, rz⟩ := reps1 r
    cases rz
    exact .inl ⟨_, rfl, k.here m (rep_v _) h⟩
  · obtain ⟨z, rfl, rz⟩ := reps1 r
    cases rz
    exact .inr ⟨_, rfl, k.here m (rep_v _) h⟩
  · exact h.elim
theorem sBool : SndA K (fun xs H Q => (∃ i, xs = [.int i] ∧ Q (.bl (i != 0)) H) ∨ ∃ k, xs = [.bl k] ∧ Q (.bl k) H) RBool := fun E own μ H x u Q QD QX m r k h => by
  unfold RBool at h
  split at h
  · obtain ⟨z, rfl, rz⟩ := reps1 r
    cases rz
    exact .inl ⟨_, rfl, k.here m (rep_v _) h⟩
  · obtain ⟨z, rfl, rz⟩ := reps1 r
    cases rz
    exact .inr ⟨_, rfl, k.here m (rep_v _) h⟩
  · exact h.elim
theorem sTuple : SndA K (fun xs H Q => ∃ p ys, xs = [.ref p] ∧ ((SqL K H p ys ∧ ∀ l, H l = none → Q (.ref l) (upd H l (.tup ys))) ∨ (SqT K H p ys ∧ Q (.ref p) H))) RTuple := fun E own μ H x u Q QD QX m r k h => by
  unfold RTuple at h
  split at h
  · rename_i s
    obtain ⟨z, rfl, rz⟩ := reps1 r
    obtain ⟨a, xs, rfl, g1, g2, g3⟩ := id rz
    exact ⟨a, xs, rfl, .inr ⟨g1, k.here (d := .tup s) m rz h⟩⟩
  · obtain ⟨s, h1, h2⟩ := h
    obtain ⟨z, rfl, rz⟩ := reps1 r
    obtain ⟨a, xs, rfl, g1, g2⟩ := lsq_view m h1 rz
    exact ⟨a, xs, rfl, .inl ⟨g1, lf_mkT m k g2 h2⟩⟩
  · exact h.elim
theorem sList {b : Bool} : SndA K (fun xs H Q => ∃ p ys, xs = [.ref p] ∧ (SqL K H p ys ∨ SqT K H p ys) ∧ ∀ l, H l = none → Q (.ref l) (upd H l (.lst ys))) (RList b) := fun E own μ H x u Q QD QX m r k ⟨y, s, e, h1, h2⟩ => by
  subst e
  obtain ⟨z, rfl, rz⟩ := reps1 r
  obtain ⟨a, xs, rfl, g1, g2⟩ := seq_view m h1 rz
  exact ⟨a, xs, rfl, g1, lf_mkL m k g2 h2⟩
theorem cr_sortedA {X : Cx} : CallR X (.builtin "sorted") (fun xs H Q => rSorted X.K xs H Q ∨ rSortedS X.K xs H Q) := cr_or cr_sorted cr_sortedS
theorem reps_map {own : Ow} {μ : Store} {H : Hp} {α : Type} (f : α → V) (l : List α) : Reps K own μ H (l.map fun x => .v (f x)) (l.map f) := by
  have := Reps.ofV (K := K) (own := own) (μ := μ) (H := H) (l.map f)
  rw [List.map_map] at this
  exact this
theorem sSorted {b : Bool} : SndA K (fun xs H Q => rSorted K xs H Q ∨ rSortedS K xs H Q) (RSorted b) := fun E own μ H x u Q QD QX m r k ⟨y, s, e, h1, hl, h2⟩ => by
  subst e
  obtain ⟨z, rfl, rz⟩ := reps1 r
  obtain ⟨a, xs, rfl, g1, g2⟩ := lsq_view m h1 rz
  have l := Reps.len g2
  rcases h2 with ⟨ns, h2, h3⟩ | ⟨ns, h2, h3⟩
  · have e := ints_view h2 g2
    rw [e] at g1 l
    rw [List.length_map] at l
    exact .inl ⟨a, ns, rfl, g1, l ▸ hl, fun ms p q1 q2 n => lf_mkL m k (reps_map V.int ms) (h3 ms q1 q2) p n⟩
  · have e := strs_view h2 g2
    rw [e] at g1 l
    rw [List.length_map] at l
    exact .inr ⟨a, ns, rfl, g1, l ▸ hl, fun ms p q1 q2 n => lf_mkL m k (reps_map V.str ms) (h3 ms q1 q2) p n⟩
end
/-! chains a < b < c -/
def TChain (r r' : R2D) (ta tb tc : TED) : TED := fun σ μ Q X => ta σ μ (fun x μ1 => tb σ μ1 (fun y μ2 => r x y μ2 (fun z μ3 => ∃ k, z = .v (.bl k) ∧ if k = true then tc σ μ3 (fun w μ4 => r' y w μ4 Q X) X else Q (.v (.bl false)) μ3) X) X) X
section
variable {X : Cx} {K : PySem.W.Frag} {E : WX} {a b c : Expr} {ta tb tc : TED} {pos : Pos} {r r' : R2} {R R' : R2D} {s : L2.St} {H : Hp} {Q : VK}
theorem lf_chain (S : Snd2 K r R) (S' : Snd2 K r' R') (h : Lf K E (TChain R R' ta tb tc) s H Q) : tChain r r' (Lf K E ta) (Lf K E tb) (Lf K E tc) s H Q := by
  obtain ⟨own, σ, μ, QD, QX, m, e, t, k⟩ := h
  refine LfG.bind m e k t fun x μ1 own1 u H1 x1 m1 e1 r1 k1 q1 => ?_
  refine LfG.bind m1 e1 k1 q1 fun y μ2 own2 v H2 x2 m2 e2 r2 k2 q2 => ?_
  refine S (fun c d H => E c d s H) own2 μ2 H2 x y u v _ _ QX m2 (Rep.ext x2 _ _ r1) r2 ⟨fun z μ3 own3 w H3 x3 m3 r3 ⟨kk, ez, q3⟩ => ?_, k2.xn⟩ q2
  subst ez
  cases r3
  refine ⟨kk, rfl, ?_⟩
  cases kk with
  | false => exact (k2.ext x3).here m3 (rep_v _) q3
  | true =>
    refine LfG.bind m3 (e2.ext x3) (k2.ext x3) q3 fun z μ4 own4 w H4 x4 m4 e4 r4 k4 q4 => ?_
    exact S' _ own4 μ4 H4 y z v w Q QD QX m4 (Rep.ext (x3.trans x4) _ _ r2) r4 k4 q4
theorem de_chain {op op' : CmpOp} (ho : OpR X (compareOp op) r) (ho' : OpR X (compareOp op') r') (S : Snd2 K r R) (S' : Snd2 K r' R') (ha : PE X a (Lf K E ta)) (hb : PE X b (Lf K E tb)) (hc : PE X c (Lf K E tc)) (hm : lastMarks [op, op'] [b, c] = false := by with_unfolding_all rfl) :
    PE X (.Compare a [op, op'] [b, c] pos) (Lf K E (TChain R R' ta tb tc)) := (pe_chain ho ho' ha hb hc hm).imp fun _ _ _ => lf_chain S S'
theorem dt_chain {op op' : CmpOp} (ho : OpR X (compareOp op) r) (ho' : OpR X (compareOp op') r') (S : Snd2 K r R) (S' : Snd2 K r' R') (ha : PE X a (Lf K E ta)) (hb : PE X b (Lf K E tb)) (hc : PE X c (Lf K E tc)) (hm : lastMarks [op, op'] [b, c] = false := by with_unfolding_all rfl) :
    PT X (.Compare a [op, op'] [b, c] pos) (LfT K E (TTest (TChain R R' ta tb tc))) := (pt_chain ho ho' ha hb hc hm).imp fun _ _ _ h => lf_chain S S' (lf_test h)
end
/-! truth -/
def truD (μ : Store) : D → Option Bool
  | .v .non => some false
  | .v (.bl b) => some b
  | .v (.int i) => some (i != 0)
  | .v _ => none
  | .dK kvs => some (!kvs.isEmpty)
  | x => (seqOf μ x).map fun ds => !ds.isEmpty
def TTru (t : TED) : TTD := fun σ μ Q X => t σ μ (fun d μ1 => ∃ c, truD μ1 d = some c ∧ Q c μ1) X
theorem dt_tru {X : Cx} {K : PySem.W.Frag} {E : WX} {e : Expr} {T : TED} (hK : X.K = K) (h : PE X e (Lf K E T)) (he : ∀ whole, isTrue e X.env whole = (do let v ← whole; standAt e.pos; holding [v] (truthy v)) := by intro _; rfl) : PT X e (LfT K E (TTru T)) := (pt_truth h he).imp fun s H Q h => by
  subst hK
  obtain ⟨own, σ, μ, QD, QX, m, e, t, k⟩ := h
  refine LfG.bind m e k t fun x μ1 own1 u H1 x1 m1 e1 r1 k1 ⟨c, h1, h2⟩ => ⟨c, ?_, k1.here m1 rfl h2⟩
  have seq : (seqOf μ1 x).map (fun ds => !ds.isEmpty) = some c → TruV X.K u H1 c := fun h => by
    cases q : seqOf μ1 x with
    | none => rw [q] at h; cases h
    | some ds =>
      rw [q] at h; cases h
      obtain ⟨a, xs, rfl, g1, g2⟩ := seq_view m1 q r1
      have ee : (!ds.isEmpty) = !xs.isEmpty := by
        have l := Reps.len g2
        cases ds <;> cases xs <;> first | rfl | cases l
      rcases g1 with g1 | g1
      · exact .inl ⟨xs, g1, ee⟩
      · exact .inr (.inl ⟨xs, g1, ee⟩)
  cases x with
  | v y =>
    have r1 : u = y := r1
    subst r1
    cases u <;> cases h1 <;> rfl
  | dK kvs =>
    cases h1
    obtain ⟨a, vs, rfl, g1, _, g3⟩ := r1
    refine .inr (.inr ⟨vs, g1, ?_⟩)
    cases kvs with
    | nil => have g3 : vs = [] := g3; subst g3; rfl
    | cons p l => obtain ⟨y, r, rfl, _⟩ := g3; rfl
  | tup ds => exact seq h1
  | lst ds => exact seq h1
  | frz ds => exact seq h1
  | obj C fs => exact seq h1
  | loc i => exact seq h1
  | exn _ _ _ _ => exact seq h1
/-! methods of lists -/
def TAppend (to te : TED) : TED := fun σ μ Q X => to σ μ (fun d μ1 => ∃ i ds0, d = .loc i ∧ μ1[i]? = some (some (.lst ds0)) ∧ te σ μ1 (fun y μ2 => ∃ ds, μ2[i]? = some (some (.lst ds)) ∧ ds.length < sizeLine ∧ Q (.v .non) (μ2.set i (some (.lst (ds ++ [y]))))) X) X
theorem de_append {X : Cx} {K : PySem.W.Frag} {E : WX} {o e : Expr} {to te : TED} {apos cpos : Pos} (hK : X.K = K) (ho : PE X o (Lf K E to)) (he : PE X e (Lf K E te))
    (hbase : attributeBase o "append" X.env (eval o X.env) = eval o X.env := by rfl)
    (hfew : ((backTo cpos (starEach [e] X.env)).all (fun x => !x.1) && (backToKw cpos (keywordEach [] X.env)).all (fun x => x.1.isSome) && decide ([e].length + ([] : List Keyword).length + (if ([] : List Keyword).isEmpty then 0 else 1) < 30)) = true := by rfl)
    (hline : (apos.endLine == cpos.line) = true := by rfl) (hs : starEach [e] X.env = (false, eval e X.env) :: starEach [] X.env := by rfl) (hplain : (backTo cpos (starEach [] X.env)).any (·.1) = false := by rfl) : PE X (.Call (.Attribute o "append" apos) [e] [] cpos) (Lf K E (TAppend to te)) := by
  subst hK
  refine ⟨fun pins s σ H Q I h => (pe_bm PySem.F.plainAttrs_list PySem.F.slot_list_append PySem.F.type_list_append mt_append ho (pa_cons he pa_nil hs) hbase hfew hline hs hplain).run pins s σ H Q I ?_⟩
  obtain ⟨own, σd, μ, QD, QX, m, er, t, k⟩ := h
  refine LfG.bind m er k t fun d μ1 own1 u H1 x1 m1 e1 r1 k1 ⟨i, ds0, ed, h0, q1⟩ => ?_
  subst ed
  obtain ⟨a, ha, rfl⟩ := r1
  obtain ⟨xs0, g0, _⟩ := m1.ob i _ a h0 ha
  refine ⟨.inl ⟨rfl, _, SqL.of g0⟩, ?_⟩
  refine LfG.bind m1 e1 k1 q1 fun y μ2 own2 v H2 x2 m2 e2 r2 k2 ⟨ds, h1, h2, h4⟩ => ?_
  have ha2 := x2.at ha
  obtain ⟨xs, g1, g2⟩ := m2.ob i _ a h1 ha2
  have ex := Ext.set (o := .lst (ds ++ [y])) (u := .lst (xs ++ [v])) m2 h1 ha2
  exact ⟨a, xs, v, rfl, rfl, g1, by rw [← Reps.len g2]; exact h2, k2.ok (.v .non) _ own2 _ _ ex (m2.set h1 ha2 ⟨_, upd_same, Reps.ext ex _ _ (Reps.app g2 ⟨v, [], rfl, r2, rfl⟩)⟩) (rep_v _) h4⟩
/-! xs[i] = e -/
def GSub (to ti : TED) : TGD := fun d σ μ Q => to σ μ (fun o μ1 => ti σ μ1 (fun j μ2 => ∃ i ds k n, o = .loc i ∧ j = .v (.int k) ∧ μ2[i]? = some (some (.lst ds)) ∧ ixN ds.length k = some n ∧ Q σ (μ2.set i (some (.lst (ds.set n d))))) fun _ _ => False) fun _ _ => False
theorem Reps.set {K : PySem.W.Frag} {own : Ow} {μ : Store} {H : Hp} {d : D} {v : V} (r : Rep K own μ H d v) : ∀ {ds : List D} {xs : List V} (n : Nat), Reps K own μ H ds xs → Reps K own μ H (ds.set n d) (xs.set n v)
  | [], _, n, h => by
    have h : _ = [] := h
    subst h; exact rfl
  | e :: ds, _, 0, h => by
    obtain ⟨y, q, rfl, h1, h2⟩ := h
    exact ⟨v, q, rfl, r, h2⟩
  | e :: ds, _, n + 1, h => by
    obtain ⟨y, q, rfl, h1, h2⟩ := h
    exact ⟨y, _, rfl, h1, Reps.set r n h2⟩
theorem dg_sub {X : Cx} {K : PySem.W.Frag} {E : WX} {o i : Expr} {to ti : TED} {pos : Pos} {vs : List Nat} (ho : PE X o (Lf K E to)) (hi : PE X i (Lf K E ti))
    (ha : ∀ v, assign (.Subscript o i pos) X.env v = (do
      let ov ← holding [v] (eval o X.env)
      let iv ← holding [v, ov] (eval i X.env)
      standAt pos
      holding [v, ov, iv] (setItem ov iv v)
      release [v, ov, iv] []) := by intro _; rfl) : PG X (.Subscript o i pos) (Lg K vs (GSub to ti)) := (pg_sub ho hi set_list ha).imp fun v s H Q h => by
  obtain ⟨own, σ, μ, d, QD, m, e, rd, g, q⟩ := h
  have k0 : Kont (fun _ _ _ (_ : Unit) (_ : Unit) => True) K (fun c d H => E c d s H) own μ H (fun _ _ => False) (fun _ _ => False) (fun _ _ => True) := ⟨fun _ _ _ _ _ _ _ _ z => z.elim, fun _ _ _ _ _ _ _ _ _ z => z.elim⟩
  refine LfG.bind m e k0 g fun x μ1 own1 u H1 x1 m1 e1 r1 k1 q1 => ?_
  refine LfG.bind m1 e1 k1 q1 fun y μ2 own2 w H2 x2 m2 e2 r2 k2 ⟨j, ds, k, n, ex, ey, h1, h2, h3⟩ => ?_
  subst ex ey
  obtain ⟨a, ha, rfl⟩ := r1
  cases r2
  have ha2 := x2.at ha
  obtain ⟨xs, g1, g2⟩ := m2.ob j _ a h1 ha2
  have ex := Ext.set (o := .lst (ds.set n d)) (u := .lst (xs.set n v)) m2 h1 ha2
  have rd2 := Rep.ext (x1.trans x2) _ _ rd
  refine ⟨a, xs, k, n, rfl, rfl, g1, by rw [← Reps.len g2]; exact h2, ?_⟩
  exact q σ _ own2 s _ (fun _ _ => rfl) ((x1.trans x2).trans ex) (m2.set h1 ha2 ⟨_, upd_same, Reps.ext ex _ _ (Reps.set rd2 n g2)⟩) (e2.ext ex) h3
/-! a place given up: what stood there is data from now on -/
def TFrz (i : Nat) (t : TSD) : TSD := fun DD σ μ => ∃ j ds, σ[i]? = some (some (.loc j)) ∧ μ[j]? = some (some (.lst ds)) ∧ t DD (σ.set i (some (.lst ds))) (μ.set j none)
theorem dss_frz {X : Cx} {K : PySem.W.Frag} {E : WX} {l : List Stmt} {t : TSD} (i : Nat) (h : PSs X l (LfS K E t)) : PSs X l (LfS K E (TFrz i t)) := h.imp fun D s H h => by
  obtain ⟨own, σ, μ, DD, m, e, ⟨j, ds, h1, h2, t⟩, k⟩ := h
  obtain ⟨v, h3, a, ha, rfl⟩ := e.at_ i _ h1
  obtain ⟨xs, g1, g2⟩ := m.ob j _ a h2 ha
  have ex : Ext own μ H own (μ.set j none) H := Ext.free
  have m' := m.freed (i := j)
  refine ⟨own, _, _, DD, m', ?_, t, k.ext ex⟩
  have e' := e.ext ex
  have r : Rep K own (μ.set j none) H (.lst ds) (.ref a) := ⟨a, xs, rfl, g1, not_live_free m ha, Reps.ext ex _ _ g2⟩
  have := e'.set i r
  have es : s.set i (some (.ref a)) = s := by
    refine List.ext_getElem? fun n => ?_
    by_cases hn : i = n
    · subst hn
      rw [List.getElem?_set_self (List.getElem?_eq_some_iff.mp h3).1, h3]
    · rw [List.getElem?_set_ne hn]
  rw [es] at this
  exact this
end DL

set_option Elab.async false
set_option linter.all false
set_option maxRecDepth 100000
namespace DL
open PySem L2
section
variable {P : Program} {w : World} {K : PySem.W.Frag} {mg : Str → Option Value} {base : Heap}
/-- a def without defaults, by its body -/
theorem okD {x qual : Str} {st : Stmt} {f : Addr} {fd : FuncData} {N ps : List Str} {k : Nat} {sp : SpD} (F : Fun K x qual st f fd) (S : FnScope N ps (defScope st)) (len : ∀ ds μ QD QX, sp ds μ QD QX → ds.length = ps.length)
    (hbody : ∀ (cdv : Value) (A : Around) (outer : List Env) (s : Shared) (H : Hp) (E : XK), Room k (A.deeper (PyProof.Rows.envOfC qual (defScope st) s.heap.objs.size f cdv)) →
      ∃ T : TSD, PSs (CxD P w K mg base N qual st f cdv A outer s H E) (defBody st) (LfS K (fun c d _ H => E c d H) T) ∧ ∀ ds μ QD QX, Cls' μ.length ds → ClS μ.length μ → sp ds μ QD QX → T (endsC μ.length QD QX) (startD N ds) μ ∨ T (endsD QD QX) (startD N ds) μ) :
    FnD P w K mg base (k + 1) f fd ps sp := by
  obtain ⟨oc, od, kV, doc, pm, an, cdv, ct, osl, rfl, lk, hcd⟩ := F.ex
  exact fnD lk hcd S len fun A outer s H E hr => hbody cdv A outer s H E hr
theorem tkD {N : List Str} {qual : Str} {st : Stmt} {f : Addr} {cdv : Value} {A : Around} {outer : List Env} {s : Shared} {H : Hp} {E : XK} : Tk (CxD P w K mg base N qual st f cdv A outer s H E) (fun c d _ H => E c d H) := tk_of takesD
/-- all parameters given by place -/
theorem Bd.all {fd : FuncData} {ps : List Str} {n : Nat} (hn : n = ps.length) (hb : Binds K fd ps []) : Bd K fd ps n [] (fun ds es => ds ++ es) := by
  refine ⟨fun us ws => us ++ ws, fun us ws => us ++ ws, ⟨fun s us ws X h1 h2 => ?_, fun r1 r2 => r1.append r2⟩, fun own μ H ds vs es zs r1 r2 => Reps.app r1 r2⟩
  have e : ws = [] := List.eq_nil_of_length_eq_zero h2
  subst e
  have := hb s us X (by rw [List.append_nil, h1, hn])
  simpa using this
abbrev gPos : List D → List D → List D := fun ds es => ds ++ es
/-- a def known by its name, called by place -/
abbrev DnP (P : Program) (w : World) (K : PySem.W.Frag) (mg : Str → Option Value) (base : Heap) (k : Nat) (x : Str) (ps : List Str) (n : Nat) (sp : SpD) : Prop := DnD P w K mg base k x ps n [] gPos sp
end
end DL
namespace DL
open PySem L2
theorem ds_par {X : Cx} {K : PySem.W.Frag} {E : WX} {i j : Nat} {x y : Str} {a b : Expr} {ta : TAD} {px py pt pos : Pos} {kt k2 pt2} (hc : X.calm = true) (hN : X.N.Nodup) (hi : X.N[i]? = some x) (hj : X.N[j]? = some y) (hij : i ≠ j)
    (hx : X.env.scope.names.lookup x = some .local) (hy : X.env.scope.names.lookup y = some .local) (ha : PA X [a, b] (LfA K E ta))
    (hw : swappedStores [.Tuple [.Name x px, .Name y py] kt pt] (.Tuple [a, b] k2 pt2) X.env = pure (some [x, y]))
    (hs : swapsWithSole [.Tuple [.Name x px, .Name y py] kt pt] (.Tuple [a, b] k2 pt2) pos.line X.env = pure false := by rfl) :
    PS X (.Assign [.Tuple [.Name x px, .Name y py] kt pt] (.Tuple [a, b] k2 pt2) pos) (LfS K E (TPar i j ta)) := (ps_par hc hN hi hj hij hx hy ha hw hs).imp fun _ _ _ => lfs_par
/-! x += e of a name -/
def TAugI (i : Nat) (f : Int → Int → Int) (te : TED) : TSD := fun DD σ μ => ∃ d, σ[i]? = some (some d) ∧ te σ μ (fun y μ1 => ∃ a b, d = .v (.int a) ∧ y = .v (.int b) ∧ DD.nx (σ.set i (some (.v (.int (f a b))))) μ1) fun x μ' => DD.xn x σ μ'
theorem ds_augI {X : Cx} {K : PySem.W.Frag} {E : WX} {i : Nat} {x : Str} {e : Expr} {te : TED} {op : Operator} {f : Int → Int → Int} {pos pos' : Pos} (hN : X.N.Nodup) (hi : X.N[i]? = some x) (hx : Loc X.env.scope x) (he : PE X e (Lf K E te)) (ho : PIp X op (ipI f)) (hf : X.fn x = true ∨ X.env.scope.names.lookup x = some .local := by first | exact .inl rfl | exact .inr rfl | assumption) :
    PS X (.AugAssign (.Name x pos') op e pos) (LfS K E (TAugI i f te)) := (ps_aug hN hi hx he ho hf).imp fun D s H h => by
  obtain ⟨own, σ, μ, DD, m, e, ⟨d, h0, t⟩, k⟩ := h
  obtain ⟨v, h1, r0⟩ := e.at_ i d h0
  refine ⟨v, h1, LfS.bind m e k t fun y μ1 own1 u H1 x1 m1 e1 r1 k1 ⟨a, b, ed, ey, q⟩ => ?_⟩
  subst ed ey
  cases r0; cases r1
  exact ⟨a, b, rfl, rfl, k1.nx _ μ1 own1 _ H1 Ext.refl m1 (e1.set i (rep_v _)) q⟩
end DL

set_option Elab.async false
set_option linter.all false
set_option maxRecDepth 100000
namespace Du
open PySem L2
def topS (i : Nat) : Stmt := PySem.Challenge.pw_duetimes_k07_crews_by_deeds.main.body.getD i (.Pass ⟨0, 0, 0, 0⟩)
abbrev sNumber : Stmt := topS 16
abbrev sWhole : Stmt := topS 17
abbrev sName : Stmt := topS 18
/-- a def by its name -/
structure Dn (P : Program) (w : World) (K : PySem.W.Frag) (mg : Str → Option Value) (base : Heap) (k : Nat) (x : Str) (ps : List Str) (sp : Sp) : Prop where
  ex : ∃ (f : Addr) (fd : FuncData), FnOk P w K mg base CX0 k f fd ps sp ∧ mg x = some (.ref f) ∧ PySem.W.keepIn K (.ref f) = true ∧ Binds K fd ps []
theorem pcall {X : Cx} {k : Nat} {x : Str} {ps : List Str} {sp : Sp} {p pos : Pos} {e : Expr} {es : List Expr} {t : TA} (D : Dn X.prog X.w X.K X.mg X.base k x ps sp) (hr : Room k X.A) (hg : Gl X x) (ha : PA X (e :: es) t)
    (hdb : (x == ("__debug__" : Str)) = false := by decide) (he : starEach (e :: es) X.env = (false, eval e X.env) :: starEach es X.env := by rfl) (hpl : (backTo pos (starEach es X.env)).any (·.1) = false := by rfl) :
    PE X (.Call (.Name x p) (e :: es) [] pos) (tCall sp [] E0 t) := by
  obtain ⟨f, fd, F, hm, hk, hb⟩ := D.ex
  exact pe_call F hr hg hm hk hb .nil pass0 ha hdb he hpl
theorem Dn.mono {P : Program} {w : World} {K : PySem.W.Frag} {mg : Str → Option Value} {base : Heap} {j k : Nat} {x : Str} {ps : List Str} {sp : Sp} (D : Dn P w K mg base j x ps sp) (h : j ≤ k) : Dn P w K mg base k x ps sp := by
  obtain ⟨f, fd, F, hm, hk, hb⟩ := D.ex
  exact ⟨f, fd, F.mono h, hm, hk, hb⟩
section
variable {P : Program} {w : World} {K : PySem.W.Frag} {mg : Str → Option Value} {base : Heap}
/-! is_number -/
theorem scNumber : FnScope ["thing"] ["thing"] (defScope sNumber) := ⟨rfl, rfl, rfl, by decide +kernel, rfl, by decide +kernel, by decide +kernel⟩
def spNumber (K : PySem.W.Frag) : Sp := fun vs H Q _ => ∃ x : V, vs = [x] ∧
  ((∃ i : Int, x = .int i ∧ Q (.bl true) H) ∨ (∃ b : Bool, x = .bl b ∧ Q (.bl false) H) ∨ (∃ t, TyX K H x t ∧ PySem.W.kitOne K t (.type "int") = some false ∧ Q (.bl false) H))
theorem ok_number {f : Addr} {fd : FuncData} (F : Fun K "is_number" "is_number" sNumber f fd) (mI : mg "isinstance" = none) (mi : mg "int" = none) (mb : mg "bool" = none) :
    FnOk P w K mg base CX0 1 f fd ["thing"] (spNumber K) := by
  refine F.ok scNumber (fun vs H Q E h => ?_) (fun cdv A outer s H vs Q E hr h => ?_)
  · obtain ⟨x, rfl, _⟩ := h
    rfl
  · obtain ⟨x, rfl, h⟩ := h
    refine ⟨_, pss_one (ps_ret (pe_and (pe_callB call_isi (by rfl) mI (by decide +kernel) (pa_cons (pv 0) (pa_cons (pe_bltn (v := .ty "int") (by rfl) mi (by decide +kernel) rfl) pa_nil)))
      (pe_one (pe_not (pe_callB call_isi (by rfl) mI (by decide +kernel) (pa_cons (pv 0) (pa_cons (pe_bltn (v := .ty "bool") (by rfl) mb (by decide +kernel) rfl) pa_nil))))))), ?_⟩
    rcases h with ⟨i, rfl, q⟩ | ⟨b, rfl, q⟩ | ⟨t, ht, ht2, q⟩
    · refine ⟨_, rfl, _, _, _, _, true, rfl, .ty "int", .base (.int _), kit_ty (by decide +kernel), true, rfl, ?_⟩
      exact iteT ⟨_, rfl, _, _, _, _, false, rfl, .ty "bool", .base (.int _), kit_ty (by decide +kernel), false, rfl, q⟩
    · refine ⟨_, rfl, _, _, _, _, true, rfl, .ty "int", .base (.bl _), kit_ty (by decide +kernel), true, rfl, ?_⟩
      exact iteT ⟨_, rfl, _, _, _, _, true, rfl, .ty "bool", .base (.bl _), kit_ty (by decide +kernel), true, rfl, q⟩
    · refine ⟨_, rfl, _, _, _, _, false, rfl, .ty "int", ht, ht2, false, rfl, ?_⟩
      exact iteF q
/-! is_whole -/
theorem scWhole : FnScope ["thing", "least", "most"] ["thing", "least", "most"] (defScope sWhole) := ⟨rfl, rfl, rfl, by decide +kernel, rfl, by decide +kernel, by decide +kernel⟩
def spWhole (K : PySem.W.Frag) : Sp := fun vs H Q _ => ∃ (x : V) (lo hi : Int), vs = [x, .int lo, .int hi] ∧
  ((∃ i : Int, x = .int i ∧ Q (.bl (decide (lo ≤ i) && decide (i ≤ hi))) H) ∨ (∃ b : Bool, x = .bl b ∧ Q (.bl false) H) ∨ (∃ t, TyX K H x t ∧ PySem.W.kitOne K t (.type "int") = some false ∧ Q (.bl false) H))
theorem ok_whole {f : Addr} {fd : FuncData} (F : Fun K "is_whole" "is_whole" sWhole f fd) (DU : Dn P w K mg base 1 "is_number" ["thing"] (spNumber K)) :
    FnOk P w K mg base CX0 2 f fd ["thing", "least", "most"] (spWhole K) := by
  refine F.ok scWhole (fun vs H Q E h => ?_) (fun cdv A outer s H vs Q E hr h => ?_)
  · obtain ⟨x, lo, hi, rfl, _⟩ := h
    rfl
  · obtain ⟨x, lo, hi, rfl, h⟩ := h
    refine ⟨_, pss_one (ps_ret (pe_and (pcall DU hr (by rfl) (pa_cons (pv 0) pa_nil)) (pe_one (pe_chain op_le op_le (pv 1) (pv 0) (pv 2))))), ?_⟩
    rcases h with ⟨i, rfl, q⟩ | ⟨b, rfl, q⟩ | ⟨t, ht, ht2, q⟩
    · refine ⟨_, rfl, _, rfl, .inl ⟨i, rfl, true, rfl, ?_⟩⟩
      refine iteT ⟨_, rfl, _, rfl, _, _, rfl, rfl, _, rfl, ?_⟩
      by_cases h1 : lo ≤ i
      · rw [decide_eq_true h1] at q ⊢
        refine iteT ⟨_, rfl, _, _, rfl, rfl, ?_⟩
        simpa using q
      · rw [decide_eq_false h1] at q ⊢
        exact iteF (by simpa using q)
    · refine ⟨_, rfl, _, rfl, .inr (.inl ⟨b, rfl, false, rfl, ?_⟩)⟩
      exact iteF q
    · refine ⟨_, rfl, _, rfl, .inr (.inr ⟨t, ht, ht2, false, rfl, ?_⟩)⟩
      exact iteF q
end
end Du

set_option Elab.async false
set_option linter.all false
set_option maxRecDepth 100000
namespace Du
open PySem L2
section
variable {P : Program} {w : World} {K : PySem.W.Frag} {mg : Str → Option Value} {base : Heap}
theorem same_upd {H : Hp} {p : Addr} {o : HO} (h : H p = none) : Same H (upd H p o) := fun b x e => by
  rw [upd_ne (ne_of_none e h)]
  exact e
/-- all but one new address stays -/
theorem same_upd2 {H H1 : Hp} {p : Addr} {o : HO} (s : Same H H1) (h : H p = none) : Same H (upd H1 p o) := fun b x e => by
  rw [upd_ne (ne_of_none e h)]
  exact s _ _ e
theorem take_map1 {α β : Type} {l : List α} {i : Nat} {x : α} (f : α → β) (h : l[i]? = some x) : (l.take (i + 1)).map f = (l.take i).map f ++ [f x] := by
  rw [List.take_add_one, h, List.map_append]
  rfl
/-! is_name -/
def letters : Str := "abcdefghijklmnopqrstuvwxyz"
def isLetter (c : Nat) : Bool := decide (c ∈ letters.cps.toList)
def isNm (z : Str) : Bool := decide (1 ≤ z.length) && (decide (z.length ≤ 8) && z.cps.toList.all isLetter)
theorem scName : FnScope ["thing", "sign"] ["thing"] (defScope sName) := ⟨rfl, rfl, rfl, by decide +kernel, rfl, by decide +kernel, by decide +kernel⟩
def spName (K : PySem.W.Frag) : Sp := fun vs H Q _ => ∃ x : V, vs = [x] ∧
  ((∃ z : Str, x = .str z ∧ z.length ≤ sizeLine ∧ ∀ H', Same H H' → Q (.bl (isNm z)) H') ∨ (∃ t, TyX K H x t ∧ PySem.W.kitOne K t (.type "str") = some false ∧ Q (.bl false) H))
theorem ok_name {f : Addr} {fd : FuncData} (F : Fun K "is_name" "is_name" sName f fd) (mI : mg "isinstance" = none) (ms : mg "str" = none) (ml : mg "len" = none) (ma : mg "all" = none)
    (mM : ∃ t, mg "MOST_LETTERS" = some (.int 8 t)) (mL : ∃ t, mg "LETTERS" = some (.str letters t)) :
    FnOk P w K mg base CX0 2 f fd ["thing"] (spName K) := by
  obtain ⟨tM, mM⟩ := mM
  obtain ⟨tL, mL⟩ := mL
  refine F.ok scName (fun vs H Q E h => ?_) (fun cdv A outer s H vs Q E hr h => ?_)
  · obtain ⟨x, rfl, _⟩ := h
    rfl
  · obtain ⟨x, rfl, h⟩ := h
    refine ⟨_, pss_cons (ps_if (PW.pt (pw_or (pt_not (pt_val (pe_callB call_isi (by rfl) mI (by decide +kernel) (pa_cons (pv 0) (pa_cons (pe_bltn (v := .ty "str") (by rfl) ms (by decide +kernel) rfl) pa_nil)))))
        (pw_or1 (pt_not (pt_chain op_le op_le pe_int (pe_callB call_len_str (by rfl) ml (by decide +kernel) (pa_cons (pv 0) pa_nil)) (pe_glob (v := .int 8) rfl mM ⟨_, rfl⟩))))))
        (pss_one (ps_ret pe_bl)) pss_nil)
      (pss_one (ps_ret (pe_callB (cr_all rfl) (by rfl) ma (by decide +kernel) (pa_cons (pe_lc (own := [("sign", 1)]) (g := gName 1) (tt := tYes) rfl scName.nd (pi_str (pv 0))
        (blkOk_by (N := ["thing", "sign"]) (sc := defScope sName) (by decide +kernel)) (fun _ _ _ _ _ => pg_name (i := 1) scName.nd rfl (Or.inl rfl)) (fun _ _ _ _ _ => pts_nil)
        (fun _ _ _ _ _ => pe_cmpR op_in_sign (pv 1) (pe_glob (v := .str letters) rfl mL ⟨_, rfl⟩) (by rfl))) pa_nil)))), ?_⟩
    rcases h with ⟨z, rfl, hz, q⟩ | ⟨t, ht, ht2, q⟩
    · refine ⟨_, rfl, _, _, _, _, true, rfl, .ty "str", .base (.str _), kit_ty (by decide +kernel), true, rfl, ?_⟩
      refine iteF ⟨_, rfl, z, rfl, hz, _, _, rfl, rfl, _, rfl, ?_⟩
      by_cases h1 : 1 ≤ z.length
      · have e1 : decide ((1 : Int) ≤ ((z.length : Nat) : Int)) = true := decide_eq_true (by omega)
        rw [e1]
        refine iteT ⟨_, _, rfl, rfl, _, rfl, ?_⟩
        by_cases h2 : z.length ≤ 8
        · have e2 : decide (((z.length : Nat) : Int) ≤ 8) = true := decide_eq_true (by omega)
          rw [e2]
          refine iteF ?_
          -- the comprehension
          refine ⟨_, rfl, z, rfl, fun D nD => lc_it walk_str (fun i H' => Same H H' ∧ H' D = some (.lst ((z.cps.toList.take i).map fun c => V.bl (isLetter c)))) ⟨same_upd nD, upd_same⟩ (fun _ _ _ _ => trivial) ?_ ?_⟩
          · rintro i x H1 H2 hi ⟨s1, e⟩ ⟨rfl, c, hc, rfl⟩
            have hc' : z.cps.toList[i]? = some c := by simpa using hc
            refine ⟨rfl, _, rfl, c, letters, rfl, rfl, _, e, ?_, same_upd2 s1 nD, ?_⟩
            · rw [List.length_map, List.length_take]
              have : z.cps.toList.length = z.length := by simp [Str.length]
              have h9 : z.length < sizeLine := Nat.lt_of_le_of_lt h2 (by decide)
              omega
            · rw [upd_same, take_map1 _ hc']
              rfl
          · rintro H1 ⟨s1, e⟩
            have el : z.cps.toList.take z.cps.size = z.cps.toList := by
              rw [List.take_of_length_le]
              simp
            rw [el] at e
            refine ⟨D, z.cps.toList.map isLetter, rfl, SqL.of (by rw [e, List.map_map]; rfl), ?_⟩
            have q' := q H1 s1
            have eb : isNm z = (z.cps.toList.map isLetter).all id := by
              unfold isNm
              rw [decide_eq_true h1, decide_eq_true h2, List.all_map]
              rfl
            rw [eb] at q'
            exact q'
        · have e2 : decide (((z.length : Nat) : Int) ≤ 8) = false := decide_eq_false (by omega)
          rw [e2]
          refine iteT ?_
          have q' := q H (Same.refl _)
          unfold isNm at q'
          rw [decide_eq_false h2] at q'
          have q2 : Q (V.bl false) H := by simpa using q'
          exact q2
      · have e1 : decide ((1 : Int) ≤ ((z.length : Nat) : Int)) = false := decide_eq_false (by omega)
        rw [e1]
        refine iteF ⟨_, rfl, ?_⟩
        have q' := q H (Same.refl _)
        unfold isNm at q'
        rw [decide_eq_false h1] at q'
        have q2 : Q (V.bl false) H := by simpa using q'
        exact q2
    · refine ⟨_, rfl, _, _, _, _, false, rfl, .ty "str", ht, ht2, false, rfl, ?_⟩
      exact iteT (iteT q)
end
end Du

set_option Elab.async false
set_option linter.all false
set_option maxRecDepth 100000
namespace Du
open PySem L2
abbrev sHold : Stmt := topS 19
abbrev sAhead : Stmt := topS 20
abbrev sHolds : Stmt := topS 21
section
variable {P : Program} {w : World} {K : PySem.W.Frag} {mg : Str → Option Value} {base : Heap}
theorem tyx_tup {H : Hp} {a : Addr} {xs : List V} (h : SqT K H a xs) : TyX K H (.ref a) (.type "tuple") := by
  rcases h with (h | ⟨o, h⟩) | ⟨o, its, n, hk, hc, _⟩
  · exact .base (.tup h)
  · exact .fTuple h
  · exact .kTuple hk hc
theorem kit_tt : PySem.W.kitOne K (.type "tuple") (.type "tuple") = some true := kit_ty (by decide +kernel)
theorem walk_zipT {a b : Addr} {xs ys : List V} {n : Nat} (hn : n = min xs.length ys.length) : Walk (RZ.ItzT K a b) n (fun H => SqT K H a xs ∧ SqT K H b ys) (YPair (fun i => xs[i]?) (fun i => ys[i]?)) := by
  refine ⟨fun i H hi q => ?_, fun H q => ⟨xs, ys, q.1, q.2, by omega⟩, fun i H v H' hi q y => ?_⟩
  · exact ⟨xs, ys, xs[i]'(by omega), ys[i]'(by omega), q.1, q.2, List.getElem?_eq_getElem (by omega), List.getElem?_eq_getElem (by omega)⟩
  · obtain ⟨T, x, z, h1, h2, h3, h4, h5⟩ := y
    exact ⟨T, x, z, h1, h2, h3, h4 xs q.1, h5 ys q.2⟩
/-! is_hold -/
abbrev Hold := Str × Int × Int
def isHd (h : Hold) (cost : Int) : Bool := isNm h.1 && ((decide (0 ≤ h.2.1) && decide (h.2.1 ≤ cost)) && (decide (1 ≤ h.2.2) && decide (h.2.2 ≤ cost - h.2.1)))
def HdAt (K : PySem.W.Frag) (H : Hp) (v : V) (h : Hold) : Prop := ∃ a, v = .ref a ∧ SqT K H a [.str h.1, .int h.2.1, .int h.2.2]
theorem HdAt.same {H H' : Hp} {v : V} {h : Hold} (d : HdAt K H v h) (s : Same H H') : HdAt K H' v h := by
  obtain ⟨a, e, q⟩ := d
  exact ⟨a, e, q.ext s⟩
theorem scHold : FnScope ["thing", "cost", "tool", "start", "long"] ["thing", "cost"] (defScope sHold) := ⟨rfl, rfl, rfl, by decide +kernel, rfl, by decide +kernel, by decide +kernel⟩
def spHold (K : PySem.W.Frag) : Sp := fun vs H Q _ => ∃ (v : V) (h : Hold) (cost : Int), vs = [v, .int cost] ∧ HdAt K H v h ∧ h.1.length ≤ sizeLine ∧ ∀ H', Same H H' → Q (.bl (isHd h cost)) H'
theorem ok_hold {f : Addr} {fd : FuncData} (F : Fun K "is_hold" "is_hold" sHold f fd) (mI : mg "isinstance" = none) (mt : mg "tuple" = none) (ml : mg "len" = none)
    (DN : Dn P w K mg base 2 "is_name" ["thing"] (spName K)) (DW : Dn P w K mg base 2 "is_whole" ["thing", "least", "most"] (spWhole K)) :
    FnOk P w K mg base CX0 3 f fd ["thing", "cost"] (spHold K) := by
  refine F.ok scHold (fun vs H Q E h => ?_) (fun cdv A outer s H vs Q E hr h => ?_)
  · obtain ⟨v, h, cost, rfl, _⟩ := h
    rfl
  · obtain ⟨v, h, cost, rfl, ⟨a, rfl, hS⟩, hl, q⟩ := h
    refine ⟨_, pss_cons (ps_if (PW.pt (pw_or (pt_not (pt_val (pe_callB call_isi (by rfl) mI (by decide +kernel) (pa_cons (pv 0) (pa_cons (pe_bltn (v := .ty "tuple") (by rfl) mt (by decide +kernel) rfl) pa_nil)))))
        (pw_or1 (pt_cmpR op_ne (pe_callB call_len_seq (by rfl) ml (by decide +kernel) (pa_cons (pv 0) pa_nil)) pe_int (nomark _)))))
        (pss_one (ps_ret pe_bl)) pss_nil)
      (pss_cons (ps_asg (pv 0) (pg_tup rfl (pgs_cons (pg_name (i := 2) scHold.nd rfl (.inl rfl)) (pgs_cons (pg_name (i := 3) scHold.nd rfl (.inl rfl)) (pgs_cons (pg_name (i := 4) scHold.nd rfl (.inl rfl)) pgs_nil)))))
      (pss_one (ps_ret (pe_and (pcall DN hr (by rfl) (pa_cons (pv 2) pa_nil)) (pe_and (pcall DW hr (by rfl) (pa_cons (pv 3) (pa_cons pe_int (pa_cons (pv 1) pa_nil))))
        (pe_one (pcall DW hr (by rfl) (pa_cons (pv 4) (pa_cons pe_int (pa_cons (pe_op op_sub (pv 1) (pv 3)) pa_nil)))))))))), ?_⟩
    refine ⟨_, rfl, _, _, _, _, true, rfl, .ty "tuple", tyx_tup hS, kit_tt, true, rfl, ?_⟩
    refine ⟨_, rfl, a, _, rfl, .inr hS, rfl, _, rfl, ?_⟩
    show if (!decide ((V.int (3 : Nat)) = V.int 3)) = true then _ else _
    refine iteNS rfl ?_
    refine ⟨_, rfl, a, _, rfl, hS, rfl, _, _, rfl, _, _, rfl, _, _, rfl, rfl, ?_⟩
    -- the three questions
    refine ⟨_, rfl, _, rfl, .inl ⟨h.1, rfl, hl, fun H1 s1 => ⟨_, rfl, ?_⟩⟩⟩
    cases e1 : isNm h.1 with
    | false =>
      have q1 := q H1 s1
      unfold isHd at q1
      rw [e1] at q1
      exact q1
    | true =>
      refine ⟨_, rfl, _, rfl, _, _, _, rfl, .inl ⟨_, rfl, _, rfl, ?_⟩⟩
      cases e2 : (decide (0 ≤ h.2.1) && decide (h.2.1 ≤ cost)) with
      | false =>
        have q1 := q H1 s1
        unfold isHd at q1
        rw [e1, e2] at q1
        exact q1
      | true =>
        refine ⟨_, rfl, _, rfl, _, rfl, _, _, rfl, rfl, _, _, _, rfl, .inl ⟨_, rfl, ?_⟩⟩
        have q1 := q H1 s1
        unfold isHd at q1
        rw [e1, e2] at q1
        exact q1
/-! goes_ahead -/
def ahead (h g : Hold) : Bool := if h.1 = g.1 then decide (h.2.1 + h.2.2 ≤ g.2.1) else decide (h.1.cps.toList < g.1.cps.toList)
theorem scAhead : FnScope ["hold", "other", "tool", "start", "long"] ["hold", "other"] (defScope sAhead) := ⟨rfl, rfl, rfl, by decide +kernel, rfl, by decide +kernel, by decide +kernel⟩
def spAhead (K : PySem.W.Frag) : Sp := fun vs H Q _ => ∃ (v u : V) (h g : Hold), vs = [v, u] ∧ HdAt K H v h ∧ HdAt K H u g ∧ Q (.bl (ahead h g)) H
theorem ok_ahead {f : Addr} {fd : FuncData} (F : Fun K "goes_ahead" "goes_ahead" sAhead f fd) : FnOk P w K mg base CX0 2 f fd ["hold", "other"] (spAhead K) := by
  refine F.ok scAhead (fun vs H Q E h => ?_) (fun cdv A outer s H vs Q E hr h => ?_)
  · obtain ⟨v, u, h, g, rfl, _⟩ := h
    rfl
  · obtain ⟨v, u, h, g, rfl, ⟨a, rfl, hS⟩, ⟨b, rfl, hT⟩, q⟩ := h
    refine ⟨_, pss_cons (ps_asg (pv 0) (pg_tup rfl (pgs_cons (pg_name (i := 2) scAhead.nd rfl (.inl rfl)) (pgs_cons (pg_name (i := 3) scAhead.nd rfl (.inl rfl)) (pgs_cons (pg_name (i := 4) scAhead.nd rfl (.inl rfl)) pgs_nil)))))
      (pss_cons (ps_if (pt_cmpR op_eq (pv 2) (pe_ix ix_tup (pv 1) pe_int (fun _ _ => rfl)) (nomark _))
        (pss_one (ps_ret (pe_cmpR op_le (pe_op op_add (pv 3) (pv 4)) (pe_ix ix_tup (pv 1) pe_int (fun _ _ => rfl)) (nomark _)))) pss_nil)
      (pss_one (ps_ret (pe_cmpR op_lt_str (pv 2) (pe_ix ix_tup (pv 1) pe_int (fun _ _ => rfl)) (nomark _))))), ?_⟩
    refine ⟨_, rfl, a, _, rfl, hS, rfl, _, _, rfl, _, _, rfl, _, _, rfl, rfl, ?_⟩
    refine ⟨_, rfl, _, rfl, b, _, _, _, rfl, rfl, hT, at_of (j := 0) rfl rfl, rfl, _, rfl, ?_⟩
    by_cases hz : h.1 = g.1
    · have e1 : decide (V.str h.1 = V.str g.1) = true := decide_eq_true (by rw [hz])
      rw [e1]
      refine iteT ⟨_, rfl, _, rfl, _, _, rfl, rfl, _, rfl, b, _, _, _, rfl, rfl, hT, at_of (j := 1) rfl rfl, _, _, rfl, rfl, ?_⟩
      unfold ahead at q
      rw [if_pos hz] at q
      exact q
    · have e1 : decide (V.str h.1 = V.str g.1) = false := decide_eq_false (fun e => hz (V.str.inj e))
      rw [e1]
      refine iteF ⟨_, rfl, _, rfl, b, _, _, _, rfl, rfl, hT, at_of (j := 0) rfl rfl, _, _, rfl, rfl, ?_⟩
      unfold ahead at q
      rw [if_neg hz] at q
      exact q
end
end Du

set_option Elab.async false
set_option linter.all false
set_option maxRecDepth 100000
namespace Du
open PySem L2
section
variable {P : Program} {w : World} {K : PySem.W.Frag} {mg : Str → Option Value} {base : Heap}
/-! are_holds -/
def HdsAt (K : PySem.W.Frag) (H : Hp) (t : Addr) (hs : List Hold) : Prop := ∃ vs : List V, SqT K H t vs ∧ vs.length = hs.length ∧ ∀ (i : Nat) v h, vs[i]? = some v → hs[i]? = some h → HdAt K H v h
theorem HdsAt.same {H H' : Hp} {t : Addr} {hs : List Hold} (d : HdsAt K H t hs) (s : Same H H') : HdsAt K H' t hs := by
  obtain ⟨vs, h1, h2, h3⟩ := d
  exact ⟨vs, h1.ext s, h2, fun i v h e1 e2 => (h3 i v h e1 e2).same s⟩
def areHds (hs : List Hold) (cost : Int) : Bool := decide (hs.length ≤ 4) && (hs.all (fun h => isHd h cost) && (hs.zip (hs.drop 1)).all fun p => ahead p.1 p.2)
theorem scHolds : FnScope ["thing", "cost", "hold", "other"] ["thing", "cost"] (defScope sHolds) := ⟨rfl, rfl, rfl, by decide +kernel, rfl, by decide +kernel, by decide +kernel⟩
def spHolds (K : PySem.W.Frag) : Sp := fun vs H Q _ => ∃ (t : Addr) (hs : List Hold) (cost : Int), vs = [.ref t, .int cost] ∧ HdsAt K H t hs ∧ (∀ h ∈ hs, h.1.length ≤ sizeLine) ∧ ∀ H', Same H H' → Q (.bl (areHds hs cost)) H'
theorem cut1 (xs : List V) : cutV xs (some 1) none = xs.drop 1 := by
  unfold cutV
  rw [show HT.sIx xs.length 0 (some 1) = min 1 xs.length from HT.sIx_nat xs.length 0 1, HT.sIx_none]
  cases xs with
  | nil => rfl
  | cons x r =>
    rw [show min 1 (x :: r).length = 1 by rw [List.length_cons]; omega]
    show (List.take ((x :: r).length - 1) r) = r
    rw [List.length_cons, Nat.add_sub_cancel, List.take_length]
theorem getmem {α : Type} {l : List α} {i : Nat} {x : α} (h : l[i]? = some x) : x ∈ l := List.mem_of_getElem? h
theorem ok_holds {f : Addr} {fd : FuncData} (F : Fun K "are_holds" "are_holds" sHolds f fd) (mI : mg "isinstance" = none) (mt : mg "tuple" = none) (ml : mg "len" = none) (ma : mg "all" = none) (mz : mg "zip" = none)
    (mM : ∃ t, mg "MOST_HOLDS" = some (.int 4 t)) (DH : Dn P w K mg base 3 "is_hold" ["thing", "cost"] (spHold K)) (DA : Dn P w K mg base 2 "goes_ahead" ["hold", "other"] (spAhead K)) :
    FnOk P w K mg base CX0 4 f fd ["thing", "cost"] (spHolds K) := by
  obtain ⟨tM, mM⟩ := mM
  refine F.ok scHolds (fun vs H Q E h => ?_) (fun cdv A outer s H vs Q E hr h => ?_)
  · obtain ⟨t, hs, cost, rfl, _⟩ := h
    rfl
  · obtain ⟨t, hs, cost, rfl, ⟨vs, hS, hvl, hat⟩, hl, q⟩ := h
    have hr1 : Room 2 _ := hr.mono (by decide)
    refine ⟨_, pss_cons (ps_if (PW.pt (pw_or (pt_not (pt_val (pe_callB call_isi (by rfl) mI (by decide +kernel) (pa_cons (pv 0) (pa_cons (pe_bltn (v := .ty "tuple") (by rfl) mt (by decide +kernel) rfl) pa_nil)))))
        (pw_or1 (pt_cmpR op_gt (pe_callB call_len_seq (by rfl) ml (by decide +kernel) (pa_cons (pv 0) pa_nil)) (pe_glob (v := .int 4) rfl mM ⟨_, rfl⟩) (nomark _)))))
        (pss_one (ps_ret pe_bl)) pss_nil)
      (pss_cons (ps_if (pt_not (pt_val (pe_callB (cr_all rfl) (by rfl) ma (by decide +kernel) (pa_cons (pe_lc (own := [("hold", 2)]) (g := gName 2) (tt := tYes) rfl scHolds.nd (pi_tup (pv 0))
        (blkOk_by (N := ["thing", "cost", "hold", "other"]) (sc := defScope sHolds) (by decide +kernel)) (fun _ _ _ _ _ => pg_name (i := 2) scHolds.nd rfl (Or.inl rfl)) (fun _ _ _ _ _ => pts_nil)
        (fun _ _ _ _ _ => pcall DH hr (by rfl) (pa_cons (pv 2) (pa_cons (pv 1) pa_nil)))) pa_nil)))) (pss_one (ps_ret pe_bl)) pss_nil)
      (pss_one (ps_ret (pe_callB (cr_all rfl) (by rfl) ma (by decide +kernel) (pa_cons (pe_lc (own := [("hold", 2), ("other", 3)]) (g := gTup K 2 (gCons (gName 2) (gCons (gName 3) gNil))) (tt := tYes) rfl scHolds.nd
        (RZ.pi_zipA (by rfl) mz (pa_cons (pv 0) (pa_cons (pe_slice sl_tupA (pv 0) (po_some pe_int) po_none) pa_nil)))
        (blkOk_by (N := ["thing", "cost", "hold", "other"]) (sc := defScope sHolds) (by decide +kernel))
        (fun _ _ _ _ _ => pg_tup rfl (pgs_cons (pg_name (i := 2) scHolds.nd rfl (Or.inl rfl)) (pgs_cons (pg_name (i := 3) scHolds.nd rfl (Or.inl rfl)) pgs_nil))) (fun _ _ _ _ _ => pts_nil)
        (fun _ _ _ _ _ => pcall DA hr1 (by rfl) (pa_cons (pv 2) (pa_cons (pv 3) pa_nil)))) pa_nil))))), ?_⟩
    refine ⟨_, rfl, _, _, _, _, true, rfl, .ty "tuple", tyx_tup hS, kit_tt, true, rfl, ?_⟩
    refine ⟨_, rfl, t, _, rfl, .inr hS, _, _, rfl, rfl, _, rfl, ?_⟩
    rw [hvl]
    by_cases h4 : hs.length ≤ 4
    · have e1 : decide ((4 : Int) < ((hs.length : Nat) : Int)) = false := decide_eq_false (by omega)
      rw [e1]
      refine iteF ?_
      -- [is_hold(hold, cost) for hold in thing]
      refine ⟨_, rfl, t, rfl, ⟨vs, hS⟩, fun D nD => lc_tup (K := K) (a := t) (xs := vs) (fun i H' => Same H H' ∧ H' D = some (.lst ((hs.take i).map fun h => V.bl (isHd h cost)))) ⟨same_upd nD, upd_same⟩ (fun i H' _ z => hS.ext z.1) ?_ ?_⟩
      · rintro i x H1 hx ⟨s1, e⟩
        have hi : i < hs.length := by
          rw [← hvl]
          exact (List.getElem?_eq_some_iff.mp hx).1
        have hh : hs[i]? = some hs[i] := List.getElem?_eq_getElem hi
        refine ⟨rfl, _, rfl, _, rfl, x, hs[i], cost, rfl, (hat i x _ hx hh).same s1, hl _ (getmem hh), fun H2 s2 => ⟨_, s2 _ _ e, ?_, same_upd2 (s1.trans s2) nD, ?_⟩⟩
        · rw [List.length_map, List.length_take]
          exact Nat.lt_of_le_of_lt (Nat.min_le_right _ _) (Nat.lt_of_le_of_lt h4 (by decide))
        · rw [upd_same, take_map1 _ hh]
      · rintro H1 ⟨s1, e⟩
        rw [hvl, List.take_of_length_le (Nat.le_refl _)] at e
        refine ⟨D, hs.map (fun h => isHd h cost), rfl, SqL.of (by rw [e, List.map_map]; rfl), _, rfl, ?_⟩
        have ea : (hs.map fun h => isHd h cost).all id = hs.all fun h => isHd h cost := by
          rw [List.all_map]
          rfl
        rw [ea]
        cases eb : hs.all fun h => isHd h cost with
        | false =>
          have q1 := q H1 s1
          unfold areHds at q1
          rw [eb, decide_eq_true h4] at q1
          exact q1
        | true =>
          refine iteF ?_
          -- [goes_ahead(hold, other) for hold, other in zip(thing, thing[1:])]
          have fin : ∀ (b : Addr) (H2 : Hp), Same H H2 → SqT K H2 b (vs.drop 1) → ∀ (D : Addr), H2 D = none → ∃ W : Nat → Nat → Hp → Prop, (∃ m, W 0 m (upd H2 D (.lst []))) ∧ ∀ i m H, W i m H →
              ((RZ.ItzT K t b).stop i H ∧ rAll K [.ref D] H Q) ∨ ((RZ.ItzT K t b).go i H ∧ ∃ Nx : Hp → Prop, (∀ H', Nx H' → ∃ m', m' < m ∧ W (i + 1) m' H') ∧ ∀ x H', (RZ.ItzT K t b).yld i H x H' →
                gTup K 2 (gCons (gName 2) (gCons (gName 3) gNil)) x (wipe (L2.start ["thing", "cost", "hold", "other"] [V.ref t, V.int cost]) [2, 3]) H' fun σ2 H2 => wipe σ2 [2, 3] = wipe (L2.start ["thing", "cost", "hold", "other"] [V.ref t, V.int cost]) [2, 3] ∧ tYes σ2 H2 fun b H3 =>
                if b = true then tCall (spAhead K) [] E0 (tCons (tVar 2) (tCons (tVar 3) tNil)) σ2 H3 fun y H4 => ∃ acc, H4 D = some (.lst acc) ∧ acc.length < sizeLine ∧ Nx (upd H4 D (.lst (acc ++ [y]))) else Nx H3) := by
            intro b H2 s2 hb D2 nD2
            have hz : (hs.zip (hs.drop 1)).length = hs.length - 1 := by
              rw [List.length_zip, List.length_drop]
              omega
            refine lc_it (walk_zipT (xs := vs) (ys := vs.drop 1) (n := hs.length - 1) (by rw [List.length_drop, hvl]; omega)) (fun i H' => Same H2 H' ∧ H' D2 = some (.lst (((hs.zip (hs.drop 1)).take i).map fun p => V.bl (ahead p.1 p.2)))) ⟨same_upd nD2, upd_same⟩
              (fun i H' _ z => ⟨hS.ext (s2.trans z.1), hb.ext z.1⟩) ?_ ?_
            · rintro i x H3 H4 hi ⟨s3, e3⟩ ⟨T, x1, x2, rfl, nT, rfl, hx1, hx2⟩
              have hi1 : i < hs.length := by omega
              have hi2 : i + 1 < hs.length := by omega
              have g1 : hs[i]? = some hs[i] := List.getElem?_eq_getElem hi1
              have g2 : hs[i + 1]? = some hs[i + 1] := List.getElem?_eq_getElem hi2
              have hx2' : vs[i + 1]? = some x2 := by
                have z : (vs.drop 1)[i]? = some x2 := hx2
                rw [List.getElem?_drop, Nat.add_comm] at z
                exact z
              have sT : Same H3 (upd H3 T (.tup [x1, x2])) := same_upd nT
              have gz : (hs.zip (hs.drop 1))[i]? = some (hs[i], hs[i + 1]) := by
                rw [List.getElem?_zip_eq_some]
                refine ⟨g1, ?_⟩
                rw [List.getElem?_drop, Nat.add_comm]
                exact g2
              have s5 := (s2.trans s3).trans sT
              refine ⟨T, [x1, x2], rfl, SqT.of upd_same, rfl, x1, [x2], rfl, x2, [], rfl, rfl, rfl, _, rfl, _, rfl, x1, x2, hs[i], hs[i + 1], rfl, (hat _ _ _ hx1 g1).same s5, (hat _ _ _ hx2' g2).same s5, _, sT _ _ e3, ?_, same_upd2 (s3.trans sT) nD2, ?_⟩
              · rw [List.length_map, List.length_take]
                exact Nat.lt_of_le_of_lt (Nat.min_le_right _ _) (Nat.lt_of_le_of_lt (show _ ≤ 4 by omega) (by decide))
              · rw [upd_same, take_map1 _ gz]
            · rintro H3 ⟨s3, e3⟩
              rw [List.take_of_length_le (by omega)] at e3
              refine ⟨D2, (hs.zip (hs.drop 1)).map (fun p => ahead p.1 p.2), rfl, SqL.of (by rw [e3, List.map_map]; rfl), ?_⟩
              have q1 := q H3 (s2.trans s3)
              unfold areHds at q1
              rw [eb, decide_eq_true h4] at q1
              rw [List.all_map]
              exact q1
          refine ⟨_, rfl, _, rfl, 1, rfl, t, vs, rfl, hS.ext s1, fun hc => ?_, fun hc p np => ?_⟩
          · have e0 : vs = [] := by
              have h0 := hc.1
              rw [show HT.sIx vs.length 0 (some 1) = min 1 vs.length from HT.sIx_nat vs.length 0 1] at h0
              cases vs with
              | nil => rfl
              | cons x r =>
                rw [List.length_cons] at h0
                omega
            refine ⟨t, t, vs, vs.drop 1, rfl, .inr ⟨hS.ext s1, ?_, fin t H1 s1 ?_⟩⟩
            · rw [e0] at hS ⊢
              exact hS.ext s1
            · rw [e0] at hS ⊢
              exact hS.ext s1
          · have sp := same_upd (o := .tup (cutV vs (some 1) none)) np
            have hb : SqT K (upd H1 p (.tup (cutV vs (some 1) none))) p (vs.drop 1) := by
              rw [← cut1]
              exact SqT.of upd_same
            exact ⟨t, p, vs, vs.drop 1, rfl, .inr ⟨hS.ext (s1.trans sp), hb, fin p _ (s1.trans sp) hb⟩⟩
    · have e1 : decide ((4 : Int) < ((hs.length : Nat) : Int)) = true := decide_eq_true (by omega)
      rw [e1]
      refine iteT ?_
      have q1 := q H (Same.refl _)
      unfold areHds at q1
      rw [decide_eq_false h4] at q1
      exact q1
end
end Du

set_option Elab.async false
set_option linter.all false
set_option maxRecDepth 100000
namespace Du
open PySem L2 PyProof.Rows
section
variable {X : Cx} {CX : CXT} {k : Nat} {f C : Addr} {fd : FuncData} {ps : List Str} {sp : Sp} {pins : List (Addr × Obj)} {σ : L2.St} {H : Hp} {s : Shared}
/-- a call of an own def from somewhere below the body -/
theorem own_call {A : Around} {vs : List V} {us : List Value} {Q : VK} (F : FnOk X.prog X.w X.K X.mg X.base CX0 k f fd ps sp) (hb : Binds X.K fd ps []) (sb : Sub X k A) (I : Inv X pins σ H s) (r : Vals vs us) (h : sp vs H Q E0) :
    wpAny (model X.prog X.w) A (call (.ref f) us) (EP X pins σ Q) X.xe s := by
  have e := I.env0
  have e0 : Env0 X.prog X.w X.K X.mg X.base A X.stack s H := ⟨sb.fr.trans e.frames, e.mod, e.bs, e.bsz, e.funs, e.frf, e.hok, e.bare⟩
  have hl := F.len _ _ _ _ h
  have hu := hb s us I.kIn (by rw [List.append_nil, ← r.length, hl])
  rw [List.append_nil] at hu
  refine wpAny_call (codeAny_mono (F.run A X.stack s H ⟨us, []⟩ us vs Q E0 sb.room e0 hu r h) fun z s' hq => ?_)
  match z, hq with
  | .error _, hq => exact hq.elim
  | .ok (.ret u), hq => exact I.after hq
  | .ok .next, hq => exact hq.elim
  | .ok .brk, hq => exact hq.elim
  | .ok .cont, hq => exact hq.elim
/-- what len wants of an own __len__ -/
def rLenO (C : Addr) (sp : Sp) : List V → Hp → VK → Prop := fun xs H Q => ∃ (a dx : Addr) (fs : List (Str × V)), xs = [.ref a] ∧ H a = some (.ins C dx fs) ∧ sp [.ref a] H (fun v H' => ∃ n : Int, v = .int n ∧ 0 ≤ n ∧ n < 2 ^ 63 ∧ Q (.int n) H') E0
theorem call_lenO (F : FnOk X.prog X.w X.K X.mg X.base CX0 k f fd ps sp) (hb : Binds X.K fd ps []) (hr : Room (k + 1) X.A) (hs : PySem.W.findIn X.K (.ref C) "__len__" = some (some (.ref f))) (hf : PySem.W.isFn X.K (.ref f) = true) :
    CallR X (.builtin "len") (rLenO C sp) := by
  intro pins s σ H xs us Q I r h
  obtain ⟨a, dx, fs, rfl, ha, hsp⟩ := h
  obtain ⟨u, rfl, ru⟩ := vals1 r
  cases ru
  obtain ⟨mA, J, _⟩ := ins_get I.hok ha
  obtain ⟨od, J, _⟩ := J.look
  obtain ⟨m, hF⟩ := I.fr
  refine PySem.W.len_K hF I.ok.mod.kin J hs hf (wpAny_mono (own_call F hb ⟨hr.in1, rfl⟩ I (vs := [.ref a]) (.cons rfl .nil) hsp) (fun v s' q => ?_) fun _ _ z => z)
  obtain ⟨z, H', I', rz, n, rfl, h0, h1, q⟩ := q
  obtain ⟨t, rfl⟩ := rz
  exact ⟨⟨h0, h1⟩, .int n, H', I'.tok _, ⟨_, rfl⟩, q⟩
/-- the body of len over an own __len__ -/
theorem lenO_body {prog : Program} {w : World} {A : Around} {E : Value → Shared → Prop} {K : PySem.W.Frag} {x : Addr} {ox : Obj} {od : Option Obj} {Q : Value → Shared → Prop} (X : K.In s.heap) (I : PySem.W.InstAt s.heap x ox C od)
    (hs : PySem.W.findIn K (.ref C) "__len__" = some (some (.ref f))) (hf : PySem.W.isFn K (.ref f) = true) (h : wpAny (model prog w) A (call (.ref f) [.ref x]) (PySem.W.LenBack Q) E s) :
    wpAny (model prog w) A (Builtin.«len» ⟨[.ref x], []⟩) (fun fin s' => ∃ r, fin = .done (.ret r) ∧ Q r s') E s := by
  unfold Builtin.«len»
  refine wpAny_bind (m := oneArg "len" _) (wpAny_pure (wpAny_bind (m := callSpecial? (.ref x) (Str.ofString "__len__")) (PySem.W.special_fn X I hs (beq_iff_eq.mp hf) (wpAny_mono h (fun r s' hr => ?_) fun _ _ y => y))))
  match r, hr with
  | .int n u, ⟨⟨h0, h1⟩, hq⟩ =>
    refine wpAny_bind (wpAny_holding (wpAny_pure (wpAny_bind (wpAny_letGo ?_))))
    show wpAny _ _ (if n < 0 then _ else if n ≥ 2 ^ 63 then _ else _) _ _ _
    rw [if_neg (Int.not_lt.mpr h0), if_neg (Int.not_le.mpr h1)]; exact wpAny_bind (wpAny_mkInt (wpAny_pure ⟨_, rfl, hq⟩))
theorem truthyO {prog : Program} {w : World} {A : Around} {E : Value → Shared → Prop} {K : PySem.W.Frag} {x : Addr} {ox : Obj} {od : Option Obj} {Q : Bool → Shared → Prop} (X : K.In s.heap) (I : PySem.W.InstAt s.heap x ox C od)
    (hnb : PySem.W.findIn K (.ref C) "__bool__" = some none) (hs : PySem.W.findIn K (.ref C) "__len__" = some (some (.ref f))) (hf : PySem.W.isFn K (.ref f) = true)
    (h : wpAny (model prog w) A.in1 (call (.ref f) [.ref x]) (PySem.W.LenBack fun v s' => ∃ n t, v = .int n t ∧ Q (n != 0) s') E s) : wpAny (model prog w) A (truthy (.ref x)) Q E s := by
  have key : wpAny (model prog w) A (runValue (.builtin "len" ⟨[.ref x], []⟩)) (fun v s' => ∃ n t, v = .int n t ∧ Q (n != 0) s') E s := by
    refine wpAny_runValue (codeAny_builtin entry_len ?_)
    rw [Around.under_plainId plain_len _]
    exact wpAny_mono (lenO_body X I hs hf h) (fun fin s' h' => by obtain ⟨r, rfl, hq⟩ := h'; exact hq) fun _ _ e => e
  unfold truthy
  refine wpAny_bind (m := callSpecial? (.ref x) (Str.ofString "__bool__")) (wpAny_bind (wpAny_bind (I.type.here ((PySem.W.looks_findIn X hnb).here (wpAny_pure ?_)))))
  refine wpAny_bind (wpAny_bind (I.type.here ((PySem.W.looks_findIn X hs).here ?_)))
  refine wpAny_bind (wpAny_mono key (fun v s' q => ?_) fun _ _ e => e)
  obtain ⟨n, t, rfl, q⟩ := q
  exact wpAny_pure q
/-- the truth of an object with an own __len__, as a test -/
theorem pt_lenO {e : Expr} {te : TE} (F : FnOk X.prog X.w X.K X.mg X.base CX0 k f fd ps sp) (hb : Binds X.K fd ps []) (hr : Room (k + 1) X.A) (hnb : PySem.W.findIn X.K (.ref C) "__bool__" = some none)
    (hs : PySem.W.findIn X.K (.ref C) "__len__" = some (some (.ref f))) (hf : PySem.W.isFn X.K (.ref f) = true) (ha : PE X e te)
    (he : ∀ whole, isTrue e X.env whole = (do let v ← whole; standAt e.pos; holding [v] (truthy v)) := by intro _; rfl) :
    PT X e (fun σ H Q => te σ H fun x H' => ∃ (a dx : Addr) (fs : List (Str × V)), x = .ref a ∧ H' a = some (.ins C dx fs) ∧ sp [.ref a] H' (fun v H2 => ∃ n : Int, v = .int n ∧ 0 ≤ n ∧ n < 2 ^ 63 ∧ Q (n != 0) H2) E0) := by
  refine ⟨fun pins s σ H Q I h => isTrue_plain (thn (ha.run pins s σ H _ I h) fun v s1 ⟨x, H1, I1, r1, a, dx, fs, e1, h1, q1⟩ => ?_) (he _)⟩
  subst e1
  cases r1
  obtain ⟨mA, J, _⟩ := ins_get I1.hok h1
  obtain ⟨od, J, _⟩ := J.look
  refine truthyO I1.kIn J hnb hs hf (wpAny_mono (own_call F hb ⟨hr.in1, rfl⟩ I1 (vs := [.ref a]) (.cons rfl .nil) q1) (fun v s' q => ?_) fun _ _ z => z)
  obtain ⟨z, H', I', rz, n, rfl, h0, h2, q⟩ := q
  obtain ⟨t, rfl⟩ := rz
  exact ⟨⟨h0, h2⟩, n, _, rfl, H', I'.tok _, q⟩
/-- len(range(e)) -/
theorem pe_lenRg {e : Expr} {te : L2.St → Hp → (Int → Int → Hp → Prop) → Prop} {p pos : Pos} (hg : Gl X "len") (hm : X.mg "len" = none) (he : PRg X e te) (na : starEach [e] X.env = (false, eval e X.env) :: starEach [] X.env := by rfl) :
    PE X (.Call (.Name "len" p) [e] [] pos) (fun σ H Q => te σ H fun a b H1 => (((b - a).toNat : Nat) : Int) < 2 ^ 63 ∧ Q (.int ((b - a).toNat : Nat)) H1) := by
  refine ⟨fun pins s σ H Q I h => wpAny_Call_Name_kw (ld_blt I hg hm boot_len (callWith_builtin1 (args_cons (thn (he pins s σ H _ I h) fun x s1 ⟨r, a, b, t, u, v, H1, ex, hr, I1, ok, q⟩ => args_nil ?_) na) na))⟩
  subst ex
  exact call_len_range hr (rangeSize_nat a b) ok ⟨.int _, H1, I1.tok _, ⟨_, rfl⟩, q⟩
end
end Du

set_option Elab.async false
set_option linter.all false
set_option maxRecDepth 100000
namespace Du
open PySem L2 PyProof.Rows
section
variable {prog : Program} {w : World} {A : Around} {E : Value → Shared → Prop} {s : Shared} {K : PySem.W.Frag} {x y C f : Addr} {ox : Obj} {od : Option Obj}
/-- object's __ne__ over an own __eq__ -/
theorem neO_body {Q : Fin → Shared → Prop} (hu : A.units < cLine) (X : K.In s.heap) (I : PySem.W.InstAt s.heap x ox C od) (hs : PySem.W.findIn K (.ref C) "__eq__" = some (some (.ref f))) (hf : PySem.W.isFn K (.ref f) = true)
    (h : wpAny (model prog w) A (call (.ref f) [.ref x, .ref y]) (fun v s' => ∃ b, v = .bool b ∧ Q (.done (.ret (.bool (!b)))) s') E s) : wpAny (model prog w) A (Builtin.«object.__ne__» ⟨[.ref x, .ref y], []⟩) Q E s := by
  unfold Builtin.«object.__ne__»
  refine wpAny_bind (m := slotArgs "__ne__" 1 _) (wpAny_pure (wpAny_bind (wpAny_cRoomFor hu ?_)))
  refine wpAny_bind (m := callSpecialIfBound? (.ref x) (Str.ofString "__eq__") [.ref y]) (PySem.W.ifBound_K X I hs hf (wpAny_mono h (fun r s' hr => ?_) fun _ _ e => e))
  obtain ⟨b, rfl, hq⟩ := hr
  exact wpAny_bind (wpAny_truthy_bool (wpAny_pure hq))
theorem neO_try {Q : Option Value → Shared → Prop} (hu : A.units + 1 < cLine) (X : K.In s.heap) (I : PySem.W.InstAt s.heap x ox C od) (hn : PySem.W.findIn K (.ref C) "__ne__" = some (some (.builtin "object.__ne__")))
    (ho : PySem.W.subIn K (.ref C) (.type "object") = some true) (hs : PySem.W.findIn K (.ref C) "__eq__" = some (some (.ref f))) (hf : PySem.W.isFn K (.ref f) = true)
    (h : wpAny (model prog w) A.in1 (call (.ref f) [.ref x, .ref y]) (fun v s' => ∃ b, v = .bool b ∧ Q (some (.bool (!b))) s') E s) : wpAny (model prog w) A (tryCompare (.ref x) (Str.ofString "__ne__") (.ref y)) Q E s := by
  have S := F.cmp_object.ne
  have go : wpAny (model prog w) A (call (.builtin "object.__ne__") [.ref x, .ref y]) (fun v s' => ∃ b, v = .bool b ∧ Q (some (.bool b)) s') E s := by
    refine wpAny_call (codeAny_call_builtin S.plain F.cmpEntry_ne (PySem.W.check_slot F.cmpKind_ne F.cmpSplit_ne (I.type.andThen (PySem.W.looks_subIn X ho)) (F.cmpArgs_ne _ _) ?_))
    exact neO_body hu X I hs hf (wpAny_mono h (fun v s' z => by obtain ⟨b, rfl, q⟩ := z; exact ⟨b, rfl, !b, rfl, q⟩) fun _ _ e => e)
  have fin : wpAny (model prog w) A (call (.builtin "object.__ne__") ([.ref x] ++ [.ref y]) >>= fun v => pure (some v)) (fun r s' => ∃ b, r = some (Value.bool b) ∧ Q (some (.bool b)) s') E s :=
    wpAny_bind (wpAny_mono go (fun v s' z => by obtain ⟨b, rfl, q⟩ := z; exact wpAny_pure ⟨b, rfl, q⟩) fun _ _ e => e)
  unfold tryCompare
  refine wpAny_bind (m := callSpecialIfBound? (.ref x) (Str.ofString "__ne__") [.ref y]) ?_
  have step : wpAny (model prog w) A (callSpecialIfBound? (.ref x) (Str.ofString "__ne__") [.ref y]) (fun r s' => ∃ b, r = some (Value.bool b) ∧ Q (some (.bool b)) s') E s := by
    simp only [callSpecialIfBound?, bindSpecialIfBound?]
    refine wpAny_holding (wpAny_bind (wpAny_bind (wpAny_bind (I.type.here ((PySem.W.looks_findIn X hn).here (wpAny_bind (wpAny_askSetting (wpAny_ite ?_))))))))
    split
    · rw [S.bind]; exact wpAny_bind (wpAny_pure (wpAny_pure (by exact fin)))
    · rw [S.bind]; exact wpAny_tryCatch (wpAny_bind (wpAny_pure (wpAny_pure (by exact fin))))
  refine wpAny_mono step (fun r s' z => ?_) fun _ _ e => e
  obtain ⟨b, rfl, q⟩ := z
  exact wpAny_pure q
theorem neO_rich {Q : Value → Shared → Prop} (hu : A.units + 1 < cLine) (X : K.In s.heap) (I : PySem.W.InstAt s.heap x ox C od) (hy : PySem.W.Looks (model prog w) s.heap (typeOf (.ref y)) (.ref C)) (hn : PySem.W.findIn K (.ref C) "__ne__" = some (some (.builtin "object.__ne__")))
    (ho : PySem.W.subIn K (.ref C) (.type "object") = some true) (hs : PySem.W.findIn K (.ref C) "__eq__" = some (some (.ref f))) (hf : PySem.W.isFn K (.ref f) = true)
    (h : wpAny (model prog w) A.in1 (call (.ref f) [.ref x, .ref y]) (fun v s' => ∃ b, v = .bool b ∧ Q (.bool (!b)) s') E s) : wpAny (model prog w) A (richCompare .NotEq (.ref x) (.ref y)) Q E s := by
  have one : wpAny (model prog w) A (tryCompare (.ref x) (Str.ofString "__ne__") (.ref y)) (fun r s' => ∃ v, r = some v ∧ Q v s') E s :=
    neO_try hu X I hn ho hs hf (wpAny_mono h (fun v s' z => by obtain ⟨b, rfl, q⟩ := z; exact ⟨b, rfl, _, rfl, q⟩) fun _ _ e => e)
  unfold richCompare
  simp only [oneThing_ref, cmpInfo_NotEq]
  refine wpAny_holding (wpAny_bind (wpAny_cRoomFor (Nat.lt_of_succ_lt hu) (wpAny_bind (I.type.here (wpAny_bind (hy.here ?_))))))
  have e : (Value.ref C != Value.ref C) = false := by simp
  simp only [e, Bool.false_eq_true, if_false]
  refine wpAny_bind (wpAny_pure ?_)
  simp only [Bool.false_eq_true, if_false]
  refine wpAny_bind (wpAny_mono one (fun r s' z => ?_) fun _ _ e => e)
  obtain ⟨v, rfl, q⟩ := z
  exact wpAny_pure q
end
/-- x != y of two objects of one class with an own ==, that are equal -/
theorem op_neG {X : Cx} {n : Nat} {C f : Addr} {fd : FuncData} {ps : List Str} {R : Addr → Addr → Hp → Prop} (F : FnOk X.prog X.w X.K X.mg X.base CX0 n f fd ps (spEq R)) (hb : Binds X.K fd ps []) (hr : Room (n + 1) X.A)
    (hn : PySem.W.findIn X.K (.ref C) "__ne__" = some (some (.builtin "object.__ne__"))) (ho : PySem.W.subIn X.K (.ref C) (.type "object") = some true) (hs : PySem.W.findIn X.K (.ref C) "__eq__" = some (some (.ref f))) (hf : PySem.W.isFn X.K (.ref f) = true) :
    OpR X (compareOp .NotEq) (fun x y H Q => DIns C R x y H ∧ ∀ H', Ext H H' → Q (.bl false) H') := by
  intro pins s σ H x y v u Q I rx ry hq
  obtain ⟨⟨a, b, dx, dy, fs, gs, rfl, rfl, ha, hb', hR⟩, q⟩ := hq
  cases rx
  cases ry
  obtain ⟨mA, J, _⟩ := ins_get I.hok ha
  obtain ⟨mB, J', _⟩ := ins_get I.hok hb'
  obtain ⟨od, J, _⟩ := J.look
  obtain ⟨od', J', _⟩ := J'.look
  show wpAny _ _ (richCompare .NotEq (.ref a) (.ref b)) _ _ _
  refine neO_rich (hu_of hr) I.kIn J J'.type hn ho hs hf (wpAny_mono (own_call F hb ⟨hr.in1, rfl⟩ I (vs := [.ref a, .ref b]) (Q := fun v H' => v = .bl true ∧ Q (.bl false) H') (.cons rfl (.cons rfl .nil)) ⟨a, b, rfl, hR, fun H' e => ⟨rfl, q H' e⟩⟩) (fun r s' z => ?_) fun _ _ e => e)
  obtain ⟨v, H', I', rv, rfl, q'⟩ := z
  cases rv
  exact ⟨true, rfl, .bl false, H', I', rfl, q'⟩
/-- repr of data, where nothing is being shown -/
theorem call_reprD {X : Cx} (hg : X.A.guards = some []) (hu : X.A.units + 66 < cLine) : CallR X (.builtin "repr") (fun xs H Q => ∃ (a : Addr) (d : PyData), xs = [.ref a] ∧ Dp X.K H (.ref a) d ∧ d.showable = true ∧ d.hasDict = false ∧ d.depth ≤ 64 ∧ d.shown.length ≤ sizeLine ∧ Q (.str d.shown) H) := by
  intro pins s σ H xs us Q I r h
  obtain ⟨a, d, rfl, hd, h1, h2, h3, h4, q⟩ := h
  obtain ⟨u, rfl, ru⟩ := vals1 r
  cases ru
  obtain ⟨as, hr⟩ := Dp.reads I d _ _ hd rfl
  exact repr_of_reads' hr h1 (PyData.noDict_hsm h2) hg (by omega) (fun _ _ e => e) (fun h' u tk hk => ⟨.str d.shown, H, I.kept hk, ⟨_, rfl⟩, q⟩) h4
end Du

set_option Elab.async false
set_option linter.all false
set_option maxRecDepth 100000
namespace Du
open PySem L2
abbrev sWrongT : Stmt := topS 22
abbrev sInit : Stmt := inClass (topS 24) 0
abbrev sEq : Stmt := inClass (topS 24) 2
abbrev sLen : Stmt := inClass (topS 24) 3
def tf (n : Str) (c g d : Int) (t : Addr) : List (Str × V) := [("name", .str n), ("cost", .int c), ("gap", .int g), ("due", .int d), ("holds", .ref t)]
theorem tf_name (n : Str) (c g d : Int) (t : Addr) : (tf n c g d t).lookup ("name" : Str) = some (.str n) := rfl
theorem tf_cost (n : Str) (c g d : Int) (t : Addr) : (tf n c g d t).lookup ("cost" : Str) = some (.int c) := rfl
theorem tf_gap (n : Str) (c g d : Int) (t : Addr) : (tf n c g d t).lookup ("gap" : Str) = some (.int g) := rfl
theorem tf_due (n : Str) (c g d : Int) (t : Addr) : (tf n c g d t).lookup ("due" : Str) = some (.int d) := rfl
theorem tf_holds (n : Str) (c g d : Int) (t : Addr) : (tf n c g d t).lookup ("holds" : Str) = some (.ref t) := rfl
theorem tf_put (n : Str) (c g d : Int) (t : Addr) : putF "holds" (.ref t) (putF "due" (.int d) (putF "gap" (.int g) (putF "cost" (.int c) (putF "name" (.str n) [])))) = tf n c g d t := rfl
/-- what is asked of the class Task as the top has made it -/
structure TaskC (K : PySem.W.Frag) (mg : Str → Option Value) (C : Addr) : Prop where
  cl : Cls K C
  nN : NoAttr K C "name"
  nC : NoAttr K C "cost"
  nG : NoAttr K C "gap"
  nD : NoAttr K C "due"
  nH : NoAttr K C "holds"
  mg : mg "Task" = some (.ref C)
  kc : PySem.W.findIn K (.ref C) "__class__" = some (some (.builtin "object.__class__"))
  kg : PySem.W.specialIn K (.builtin "object.__class__") "__get__" = some (some (.builtin "getset_descriptor.__get__"))
  kt : PySem.W.takesIn K (.builtin "object.__class__") = some true
  km : PySem.W.mroIn K C (.type "object") = some true
  kk : PySem.W.kitOne K (.ref C) (.ref C) = some true
structure TaskV where
  name : Str
  cost : Int
  gap : Int
  due : Int
  holds : List Hold
/-- a good task -/
def TaskV.ok (t : TaskV) : Prop := isNm t.name = true ∧ (1 ≤ t.cost ∧ t.cost ≤ 99) ∧ (1 ≤ t.gap ∧ t.gap ≤ 600) ∧ (1 ≤ t.due ∧ t.due ≤ t.gap) ∧ areHds t.holds t.cost = true ∧ ∀ h ∈ t.holds, h.1.length ≤ sizeLine
/-- a task stands at x, its holds at h -/
def TaskAt (K : PySem.W.Frag) (C : Addr) (H : Hp) (x : Addr) (v : TaskV) (h : Addr) : Prop := (∃ dx, H x = some (.ins C dx (tf v.name v.cost v.gap v.due h))) ∧ HdsAt K H h v.holds
theorem TaskAt.same {K : PySem.W.Frag} {C : Addr} {H H' : Hp} {x h : Addr} {v : TaskV} (d : TaskAt K C H x v h) (s : Same H H') : TaskAt K C H' x v h := by
  obtain ⟨⟨dx, e⟩, q⟩ := d
  exact ⟨⟨dx, s _ _ e⟩, q.same s⟩
def dueV : Option Int → V
  | none => .non
  | some d => .int d
/-- the heap behind the five fields -/
def initH (H : Hp) (C x dx : Addr) (n : Str) (c g d : Int) (t : Addr) : Hp :=
  upd (upd (upd (upd (upd H x (.ins C dx (putF "name" (.str n) []))) x (.ins C dx (putF "cost" (.int c) (putF "name" (.str n) [])))) x (.ins C dx (putF "gap" (.int g) (putF "cost" (.int c) (putF "name" (.str n) []))))) x
    (.ins C dx (putF "due" (.int d) (putF "gap" (.int g) (putF "cost" (.int c) (putF "name" (.str n) [])))))) x (.ins C dx (putF "holds" (.ref t) (putF "due" (.int d) (putF "gap" (.int g) (putF "cost" (.int c) (putF "name" (.str n) []))))))
theorem initH_keep {H : Hp} {C x dx t b : Addr} {n : Str} {c g d : Int} (hb : b ≠ x) : initH H C x dx n c g d t b = H b := by
  unfold initH
  rw [upd_ne hb, upd_ne hb, upd_ne hb, upd_ne hb, upd_ne hb]
theorem initH_at {K : PySem.W.Frag} {H H2 : Hp} {C x dx h : Addr} {v : TaskV} (hx : H x = some (.ins C dx [])) (s : Same H H2) (hh : HdsAt K H h v.holds) :
    TaskAt K C (initH H2 C x dx v.name v.cost v.gap v.due h) x v h ∧ ∀ b o, H b = some o → b ≠ x → initH H2 C x dx v.name v.cost v.gap v.due h b = some o := by
  have keep : ∀ b o, H b = some o → b ≠ x → initH H2 C x dx v.name v.cost v.gap v.due h b = some o := fun b o e hb => by
    rw [initH_keep hb]
    exact s _ _ e
  refine ⟨⟨⟨dx, by unfold initH; rw [upd_same, tf_put]⟩, ?_⟩, keep⟩
  obtain ⟨vs, q1, q2, q3⟩ := hh
  have kT : ∀ a xs, SqT K H a xs → SqT K (initH H2 C x dx v.name v.cost v.gap v.due h) a xs := fun a xs z => by
    rcases z with (z | ⟨o, z⟩) | z
    · exact .inl (.inl (keep a _ z (ne_of z hx (by intro y; cases y))))
    · exact .inl (.inr ⟨o, keep a _ z (ne_of z hx (by intro y; cases y))⟩)
    · exact .inr z
  exact ⟨vs, kT _ _ q1, q2, fun i v h e1 e2 => by obtain ⟨a, ea, z⟩ := q3 i v h e1 e2; exact ⟨a, ea, kT _ _ z⟩⟩
section
variable {P : Program} {w : World} {K : PySem.W.Frag} {mg : Str → Option Value} {base : Heap}
/-! wrong_in_task of a good one -/
abbrev nWrongT : List Str := ["name", "cost", "gap", "due", "holds"]
theorem scWrongT : FnScope nWrongT nWrongT (defScope sWrongT) := ⟨rfl, rfl, rfl, by decide +kernel, rfl, by decide +kernel, by decide +kernel⟩
def spWrongT (K : PySem.W.Frag) : Sp := fun vs H Q _ => ∃ (h : Addr) (v : TaskV) (od : Option Int), vs = [.str v.name, .int v.cost, .int v.gap, dueV od, .ref h] ∧ v.due = od.getD v.gap ∧ v.ok ∧ HdsAt K H h v.holds ∧ ∀ H', Same H H' → Q .non H'
theorem ok_wrongT {f : Addr} {fd : FuncData} (F : Fun K "wrong_in_task" "wrong_in_task" sWrongT f fd) (mC : ∃ t, mg "MOST_COST" = some (.int 99 t)) (mG : ∃ t, mg "MOST_GAP" = some (.int 600 t))
    (DN : Dn P w K mg base 2 "is_name" ["thing"] (spName K)) (DW : Dn P w K mg base 2 "is_whole" ["thing", "least", "most"] (spWhole K)) (DH : Dn P w K mg base 4 "are_holds" ["thing", "cost"] (spHolds K)) :
    FnOk P w K mg base CX0 5 f fd nWrongT (spWrongT K) := by
  obtain ⟨uC, mC⟩ := mC
  obtain ⟨uG, mG⟩ := mG
  refine F.ok scWrongT (fun vs H Q E h => ?_) (fun cdv A outer s H vs Q E hr h => ?_)
  · obtain ⟨h, v, od, rfl, _⟩ := h
    rfl
  · obtain ⟨h, v, od, rfl, hdue, ⟨o1, o2, o3, o4, o5, o6⟩, hh, k⟩ := h
    have hr1 : Room 2 _ := hr.mono (by decide)
    refine ⟨_, (pss_cons (ps_if (pt_not (pt_val (pcall DN hr1 (by rfl) (pa_cons (pv 0) pa_nil)))) pss_never pss_nil) (pss_cons (ps_if (pt_not (pt_val (pcall DW hr1 (by rfl) (pa_cons (pv 1) (pa_cons pe_int (pa_cons (pe_glob (v := .int 99) rfl mC ⟨_, rfl⟩) pa_nil)))))) pss_never pss_nil) (pss_cons (ps_if (pt_not (pt_val (pcall DW hr1 (by rfl) (pa_cons (pv 2) (pa_cons pe_int (pa_cons (pe_glob (v := .int 600) rfl mG ⟨_, rfl⟩) pa_nil)))))) pss_never pss_nil) (pss_cons (ps_if (PW.pt (pw_and (pt_cmpR op_notN (pv 3) pe_non (nomark _)) (pw_and1 (pt_not (pt_val (pcall DW hr1 (by rfl) (pa_cons (pv 3) (pa_cons pe_int (pa_cons (pv 2) pa_nil))))))))) pss_never pss_nil) (pss_cons (ps_if (pt_not (pt_val (pcall DH hr (by rfl) (pa_cons (pv 4) (pa_cons (pv 1) pa_nil))))) pss_never pss_nil) (pss_one (ps_ret pe_non))))))), ?_⟩
    have hn8 : v.name.length ≤ sizeLine := by
      unfold isNm at o1
      simp only [Bool.and_eq_true, decide_eq_true_eq] at o1
      exact Nat.le_trans o1.2.1 (by decide)
    refine ⟨_, rfl, _, rfl, .inl ⟨_, rfl, hn8, fun H1 s1 => ⟨_, rfl, ?_⟩⟩⟩
    rw [o1]
    refine iteF ⟨_, rfl, _, _, _, rfl, .inl ⟨_, rfl, _, rfl, ?_⟩⟩
    rw [decide_eq_true o2.1, decide_eq_true o2.2]
    refine iteF ⟨_, rfl, _, _, _, rfl, .inl ⟨_, rfl, _, rfl, ?_⟩⟩
    rw [decide_eq_true o3.1, decide_eq_true o3.2]
    refine iteF ⟨_, rfl, rfl, _, rfl, ?_⟩
    cases od with
    | none =>
      refine ⟨_, rfl, _, rfl, h, v.holds, v.cost, rfl, hh.same s1, o6, fun H2 s2 => ⟨_, rfl, ?_⟩⟩
      rw [o5]
      exact iteF (k H2 (s1.trans s2))
    | some d =>
      have ed : v.due = d := hdue
      refine ⟨_, rfl, _, rfl, _, _, _, rfl, .inl ⟨_, rfl, _, rfl, ?_⟩⟩
      rw [ed] at o4
      rw [decide_eq_true o4.1, decide_eq_true o4.2]
      refine ⟨_, rfl, _, rfl, h, v.holds, v.cost, rfl, hh.same s1, o6, fun H2 s2 => ⟨_, rfl, ?_⟩⟩
      rw [o5]
      exact iteF (k H2 (s1.trans s2))
abbrev nInit : List Str := ["self", "name", "cost", "gap", "due", "holds", "part"]
theorem scInit : FnScope nInit ["self", "name", "cost", "gap", "due", "holds"] (defScope sInit) := ⟨rfl, rfl, rfl, by decide +kernel, rfl, by decide +kernel, by decide +kernel⟩
def spInit (K : PySem.W.Frag) (C : Addr) : Sp := fun vs H Q _ => ∃ (x dx h : Addr) (v : TaskV) (od : Option Int), vs = [.ref x, .str v.name, .int v.cost, .int v.gap, dueV od, .ref h] ∧ v.due = od.getD v.gap ∧ v.ok ∧ HdsAt K H h v.holds ∧ H x = some (.ins C dx []) ∧
  ∀ H', TaskAt K C H' x v h → (∀ b o, H b = some o → b ≠ x → H' b = some o) → Q .non H'
theorem ok_init {C f : Addr} {fd : FuncData} {kws : List (Str × V)} (F : FunD K "__init__" "Task.__init__" (defArgs sInit) (defBody sInit) (defScope sInit) [] kws f fd) (T : TaskC K mg C)
    (DT : Dn P w K mg base 5 "wrong_in_task" nWrongT (spWrongT K)) :
    FnOk P w K mg base CX0 6 f fd ["self", "name", "cost", "gap", "due", "holds"] (spInit K C) := by
  refine F.ok (CX := CX0) scInit (fun vs H Q E h => ?_) (fun cdv A outer s H vs Q E hr h => ?_)
  · obtain ⟨x, dx, h, v, od, rfl, _⟩ := h
    rfl
  · obtain ⟨x, dx, h, v, od, rfl, hdue, hok, hh, hx, k⟩ := h
    refine ⟨_, (pss_cons (ps_set (i := 6) scInit.nd rfl (.inl rfl) (pcall DT hr (by rfl) (pa_cons (pv 1) (pa_cons (pv 2) (pa_cons (pv 3) (pa_cons (pv 4) (pa_cons (pv 5) pa_nil))))))) (pss_cons (ps_if (pt_cmpR op_notN (pv 6) pe_non (nomark _)) pss_never pss_nil) (pss_cons (ps_fld (pv 0) (pv 1) rfl) (pss_cons (ps_fld (pv 0) (pv 2) rfl) (pss_cons (ps_fld (pv 0) (pv 3) rfl) (pss_cons (ps_fld (pv 0) (pe_ifExp (pt_cmpR op_isN (pv 4) pe_non (nomark _)) (pv 3) (pv 4)) rfl) (pss_one (ps_fld (pv 0) (pv 5) rfl)))))))), ?_⟩
    refine ⟨_, rfl, _, rfl, _, rfl, _, rfl, _, rfl, h, v, od, rfl, hdue, hok, hh, fun H2 s2 => ?_⟩
    refine ⟨_, rfl, rfl, _, rfl, ?_⟩
    refine iteF ?_
    refine ⟨_, rfl, _, rfl, x, C, dx, [], rfl, s2 _ _ hx, T.cl, T.nN, (by show 0 < 1000; decide), ?_⟩
    refine ⟨_, rfl, _, rfl, x, C, dx, _, rfl, upd_same, T.cl, T.nC, (by show 1 < 1000; decide), ?_⟩
    refine ⟨_, rfl, _, rfl, x, C, dx, _, rfl, upd_same, T.cl, T.nG, (by show 2 < 1000; decide), ?_⟩
    refine ⟨_, rfl, rfl, _, rfl, ?_⟩
    obtain ⟨z1, z2⟩ := initH_at hx s2 hh
    cases od with
    | none =>
      have ed : v.due = v.gap := hdue
      rw [ed] at z1 z2
      exact ⟨_, rfl, _, rfl, x, C, dx, _, rfl, upd_same, T.cl, T.nD, (by show 3 < 1000; decide), _, rfl, _, rfl, x, C, dx, _, rfl, upd_same, T.cl, T.nH, (by show 4 < 1000; decide), k _ z1 z2⟩
    | some d =>
      have ed : v.due = d := hdue
      rw [ed] at z1 z2
      exact ⟨_, rfl, _, rfl, x, C, dx, _, rfl, upd_same, T.cl, T.nD, (by show 3 < 1000; decide), _, rfl, _, rfl, x, C, dx, _, rfl, upd_same, T.cl, T.nH, (by show 4 < 1000; decide), k _ z1 z2⟩
end
end Du

set_option Elab.async false
set_option linter.all false
set_option maxRecDepth 100000
namespace Du
open PySem L2
section
variable {P : Program} {w : World} {K : PySem.W.Frag} {mg : Str → Option Value} {base : Heap}
def hdD (h : Hold) : PyData := .tuple [.str h.1, .int h.2.1, .int h.2.2]
theorem hd_dp {H : Hp} {v : V} {h : Hold} (d : HdAt K H v h) : Dp K H v (hdD h) := by
  obtain ⟨a, rfl, q⟩ := d
  exact .tup q (.cons (.str _) (.cons (.int _) (.cons (.int _) .nil)))
theorem hds_all {H : Hp} : ∀ {vs : List V} {hs : List Hold}, vs.length = hs.length → (∀ (i : Nat) v h, vs[i]? = some v → hs[i]? = some h → HdAt K H v h) → DpAll K H vs (hs.map hdD)
  | [], [], _, _ => .nil
  | v :: vs, h :: hs, hl, q => .cons (hd_dp (q 0 v h rfl rfl)) (hds_all (Nat.succ.inj hl) fun i a b e1 e2 => q (i + 1) a b e1 e2)
theorem hds_dp {H : Hp} {t : Addr} {hs : List Hold} (d : HdsAt K H t hs) : Dp K H (.ref t) (.tuple (hs.map hdD)) := by
  obtain ⟨vs, q1, q2, q3⟩ := d
  exact .tup q1 (hds_all q2 q3)
theorem letter_small {c : Nat} (h : isLetter c = true) : 97 ≤ c ∧ c ≤ 122 := by
  have z : ∀ c ∈ letters.cps.toList, 97 ≤ c ∧ c ≤ 122 := by decide +kernel
  exact z c (of_decide_eq_true h)
theorem nm_len {z : Str} (h : isNm z = true) : 1 ≤ z.length ∧ z.length ≤ 8 := by
  unfold isNm at h
  simp only [Bool.and_eq_true, decide_eq_true_eq] at h
  exact ⟨h.1, h.2.1⟩
theorem nm_codes {z : Str} (h : isNm z = true) : ∀ c ∈ z.cps.toList, 97 ≤ c ∧ c ≤ 122 := by
  unfold isNm at h
  simp only [Bool.and_eq_true, List.all_eq_true] at h
  exact fun c hc => letter_small (h.2.2 c hc)
theorem nm_strOk {z : Str} (h : isNm z = true) : PyData.strOk z = true := by
  unfold PyData.strOk
  rw [← Array.all_toList, List.all_eq_true]
  intro c hc
  have := nm_codes h c hc
  exact decide_eq_true (by omega)
theorem hds_lay : ∀ hs : List Hold, (∀ h ∈ hs, isNm h.1 = true) → PyData.canLayAll0 (hs.map hdD) = true
  | [], _ => rfl
  | h :: hs, q => by
    show (PyData.canLay0 (hdD h) && PyData.canLayAll0 (hs.map hdD)) = true
    rw [hds_lay hs fun g hg => q g (List.mem_cons_of_mem _ hg)]
    have e : PyData.canLay0 (hdD h) = PyData.strOk h.1 := by
      show (PyData.strOk h.1 && (true && (true && true))) = PyData.strOk h.1
      simp
    rw [e, nm_strOk (q h List.mem_cons_self)]
    rfl
theorem hds_depth : ∀ hs : List Hold, PyData.depthAll (hs.map hdD) ≤ 1
  | [] => Nat.zero_le _
  | h :: hs => by
    show max (PyData.depth (hdD h)) (PyData.depthAll (hs.map hdD)) ≤ 1
    have := hds_depth hs
    have e : PyData.depth (hdD h) = 1 := rfl
    omega
theorem hds_shaped {hs : List Hold} (q : ∀ h ∈ hs, isNm h.1 = true) : SeqAt.shaped (.tuple (hs.map hdD)) = true := by
  unfold SeqAt.shaped
  have h1 : PyData.canLay0 (.tuple (hs.map hdD)) = true := by
    simp only [PyData.canLay0]
    exact hds_lay hs q
  have h2 : PyData.depth (.tuple (hs.map hdD)) ≤ 64 := by
    have := hds_depth hs
    simp only [PyData.depth]
    omega
  rw [h1, decide_eq_true h2]
  rfl
theorem hds_eqv {hs : List Hold} (q : ∀ h ∈ hs, isNm h.1 = true) : PyData.eqv (.tuple (hs.map hdD)) (.tuple (hs.map hdD)) = true := SeqAt.eqv_refl _ (SeqAt.canLay_of_shaped (hds_shaped q))
/-! Task.__eq__ -/
theorem scEq : FnScope ["self", "other"] ["self", "other"] (defScope sEq) := ⟨rfl, rfl, rfl, by decide +kernel, rfl, by decide +kernel, by decide +kernel⟩
def TwoTasks (K : PySem.W.Frag) (C : Addr) (a b : Addr) (H : Hp) : Prop := ∃ (v : TaskV) (ha hb : Addr), TaskAt K C H a v ha ∧ TaskAt K C H b v hb ∧ ∀ h ∈ v.holds, isNm h.1 = true
theorem decV (x : V) : decide (x = x) = true := decide_eq_true rfl
theorem ok_eq {C f : Addr} {fd : FuncData} (F : Fun K "__eq__" "Task.__eq__" sEq f fd) (T : TaskC K mg C) (mI : mg "isinstance" = none) :
    FnOk P w K mg base CX0 3 f fd ["self", "other"] (spEq (TwoTasks K C)) := by
  refine F.ok scEq (fun vs H Q E h => ?_) (fun cdv A outer s H vs Q E hr h => ?_)
  · obtain ⟨a, b, rfl, _⟩ := h
    rfl
  · obtain ⟨a, b, rfl, ⟨v, ha, hb, ⟨⟨da, e1⟩, q1⟩, ⟨⟨db, e2⟩, q2⟩, hnm⟩, k⟩ := h
    refine ⟨_, pss_one (ps_ret (pe_and (pe_callB call_isi (by rfl) mI (by decide +kernel) (pa_cons (pv 1) (pa_cons (pe_glob (v := .ref C) rfl T.mg rfl) pa_nil)))
      (pe_and (pe_cmpR op_eq (pe_fld (pv 0) rfl) (pe_fld (pv 1) rfl) (nomark _)) (pe_and (pe_cmpR op_eq (pe_fld (pv 0) rfl) (pe_fld (pv 1) rfl) (nomark _)) (pe_and (pe_cmpR op_eq (pe_fld (pv 0) rfl) (pe_fld (pv 1) rfl) (nomark _))
      (pe_and (pe_cmpR op_eq (pe_fld (pv 0) rfl) (pe_fld (pv 1) rfl) (nomark _)) (pe_one (pe_cmpR (op_eqD hr.units) (pe_fld (pv 0) rfl) (pe_fld (pv 1) rfl) (nomark _))))))))), ?_⟩
    refine ⟨_, rfl, _, _, _, _, true, rfl, .own C, .base (.ins e2 T.cl T.kc T.kg T.kt T.km), T.kk, true, rfl, ?_⟩
    refine iteT ⟨_, rfl, a, C, da, _, _, rfl, e1, T.cl, T.nN, tf_name _ _ _ _ _, _, rfl, b, C, db, _, _, rfl, e2, T.cl, T.nN, tf_name _ _ _ _ _, rfl, _, rfl, ?_⟩
    rw [decV]
    refine iteT ⟨_, rfl, a, C, da, _, _, rfl, e1, T.cl, T.nC, tf_cost _ _ _ _ _, _, rfl, b, C, db, _, _, rfl, e2, T.cl, T.nC, tf_cost _ _ _ _ _, rfl, _, rfl, ?_⟩
    rw [decV]
    refine iteT ⟨_, rfl, a, C, da, _, _, rfl, e1, T.cl, T.nG, tf_gap _ _ _ _ _, _, rfl, b, C, db, _, _, rfl, e2, T.cl, T.nG, tf_gap _ _ _ _ _, rfl, _, rfl, ?_⟩
    rw [decV]
    refine iteT ⟨_, rfl, a, C, da, _, _, rfl, e1, T.cl, T.nD, tf_due _ _ _ _ _, _, rfl, b, C, db, _, _, rfl, e2, T.cl, T.nD, tf_due _ _ _ _ _, rfl, _, rfl, ?_⟩
    rw [decV]
    refine iteT ⟨_, rfl, a, C, da, _, _, rfl, e1, T.cl, T.nH, tf_holds _ _ _ _ _, _, rfl, b, C, db, _, _, rfl, e2, T.cl, T.nH, tf_holds _ _ _ _ _, _, _, hds_dp q1, hds_dp q2, hds_shaped hnm, hds_shaped hnm, ?_⟩
    rw [hds_eqv hnm]
    exact k H (Same.refl _)
/-! Task.__len__ -/
theorem scLen : FnScope ["self"] ["self"] (defScope sLen) := ⟨rfl, rfl, rfl, by decide +kernel, rfl, by decide +kernel, by decide +kernel⟩
def spLenT (K : PySem.W.Frag) (C : Addr) : Sp := fun vs H Q _ => ∃ (a h : Addr) (v : TaskV), vs = [.ref a] ∧ TaskAt K C H a v h ∧ 0 ≤ v.cost ∧ v.cost < 1000 ∧ Q (.int v.cost) H
theorem ok_len {C f : Addr} {fd : FuncData} (F : Fun K "__len__" "Task.__len__" sLen f fd) (T : TaskC K mg C) (ml : mg "len" = none) (mr : mg "range" = none) :
    FnOk P w K mg base CX0 3 f fd ["self"] (spLenT K C) := by
  refine F.ok scLen (fun vs H Q E h => ?_) (fun cdv A outer s H vs Q E hr h => ?_)
  · obtain ⟨a, h, v, rfl, _⟩ := h
    rfl
  · obtain ⟨a, h, v, rfl, ⟨⟨dx, e1⟩, _⟩, h0, h1, q⟩ := h
    refine ⟨_, pss_one (ps_ret (pe_lenRg (by rfl) ml (prg_1 (by rfl) mr (pe_fld (pv 0) rfl)))), ?_⟩
    have en : (((v.cost - 0).toNat : Nat) : Int) = v.cost := by omega
    refine ⟨_, rfl, a, C, dx, _, _, rfl, e1, T.cl, T.nC, tf_cost _ _ _ _ _, _, rfl, by omega, ?_⟩
    rw [en]
    exact q
end
end Du

set_option Elab.async false
set_option linter.all false
set_option maxRecDepth 100000
namespace Du
open PySem L2
abbrev sCell : Stmt := topS 34
abbrev sPurse : Stmt := topS 35
abbrev sTake : Stmt := topS 36
section
variable {P : Program} {w : World} {K : PySem.W.Frag} {mg : Str → Option Value} {base : Heap}
theorem cutV_mem {xs : List V} {lo hi : Option Int} {x : V} (h : x ∈ cutV xs lo hi) : x ∈ xs := List.mem_of_mem_drop (List.mem_of_mem_take h)
/-! _law_cell -/
theorem scCell : FnScope ["_law_script", "_law_k", "_law_state", "_law_cell_here"] ["_law_script", "_law_k"] (defScope sCell) := ⟨rfl, rfl, rfl, by decide +kernel, rfl, by decide +kernel, by decide +kernel⟩
def spCellL (K : PySem.W.Frag) : Sp := fun vs H Q _ => ∃ (a : Addr) (ns : List Int) (k : Nat), vs = [.ref a, .int (k : Int)] ∧ SqL K H a (ns.map V.int) ∧ k < 64 ∧ ∀ (n : Int) H', Same H H' → Q (.int n) H'
theorem ok_cell {f : Addr} {fd : FuncData} (F : Fun K "_law_cell" "_law_cell" sCell f fd) (ml : mg "len" = none) : FnOk P w K mg base CX0 3 f fd ["_law_script", "_law_k"] (spCellL K) := by
  refine F.ok scCell (fun vs H Q E h => ?_) (fun cdv A outer s H vs Q E hr h => ?_)
  · obtain ⟨a, ns, k, rfl, _⟩ := h
    rfl
  · obtain ⟨a, ns, k, rfl, hS, hk, q⟩ := h
    refine ⟨_, pss_cons (ps_if (pt_cmpR op_lt (pv 1) (pe_callB call_len_seq (by rfl) ml (by decide +kernel) (pa_cons (pv 0) pa_nil)) (nomark _)) (pss_one (ps_ret (pe_ix ix_list (pv 0) (pv 1) (fun _ _ => rfl)))) pss_nil)
      (pss_cons (ps_set (i := 2) scCell.nd rfl (.inl rfl) (pe_op op_mod (pe_op op_mul pe_int (pe_op op_add (pe_op op_add (pe_op op_mul (pv 1) (pv 1)) (pe_op op_mul pe_int (pv 1))) pe_int)) pe_int))
      (pss_cons (ps_for PassesOwn.never rfl (pi_list (pe_slice sl_list (pv 0) po_none (po_some pe_int))) (pg_name (i := 3) scCell.nd rfl (.inl rfl))
        (pss_one (ps_set (i := 2) scCell.nd rfl (.inl rfl) (pe_op op_mod (pe_op op_add (pe_op op_mul (pv 2) pe_int) (pv 3)) pe_int))))
      (pss_one (ps_ret (pv 2))))), ?_⟩
    refine ⟨_, rfl, _, rfl, a, _, rfl, .inl hS, _, _, rfl, rfl, _, rfl, ?_⟩
    by_cases hlt : k < ns.length
    · have e1 : decide ((k : Int) < (((ns.map V.int).length : Nat) : Int)) = true := decide_eq_true (by rw [List.length_map]; omega)
      rw [e1]
      have g : (ns.map V.int)[k]? = some (V.int ns[k]) := by
        rw [List.getElem?_map, List.getElem?_eq_getElem hlt]
        rfl
      exact iteT ⟨_, rfl, _, rfl, a, _, _, _, rfl, rfl, hS, at_of rfl g, q _ H (Same.refl _)⟩
    · have e1 : decide ((k : Int) < (((ns.map V.int).length : Nat) : Int)) = false := decide_eq_false (by rw [List.length_map]; omega)
      rw [e1]
      refine iteF ⟨_, rfl, _, rfl, _, _, rfl, rfl, .inl ⟨by omega, by omega⟩, _, rfl, _, _, rfl, rfl, .inl ⟨by decide, by decide⟩, _, _, rfl, rfl, _, _, rfl, rfl, _, _, rfl, rfl, .inl ⟨by decide, by decide⟩, _, _, rfl, rfl, (by show (0 : Int) < 1000000021; decide), ?_⟩
      refine ⟨_, rfl, 3, rfl, a, _, rfl, hS, fun c nc => ?_⟩
      refine ⟨c, rfl, ⟨_, SqL.of upd_same⟩, for_list (K := K) (a := c) (xs := cutV (ns.map V.int) none (some 3)) (fun i σ H' => ∃ (st : Int) (v : Option V), σ = [some (.ref a), some (.int (k : Int)), some (.int st), v] ∧ Same (upd H c (.lst (cutV (ns.map V.int) none (some 3)))) H')
        ⟨_, none, rfl, Same.refl _⟩ (fun i σ H' _ z => ?_) ?_ ?_⟩
      · obtain ⟨_, _, _, s1⟩ := z
        exact SqL.of (s1 _ _ upd_same)
      · rintro i x σ H' hi ⟨st, v, rfl, s1⟩
        obtain ⟨z, _, rfl⟩ := List.mem_map.mp (cutV_mem (List.mem_of_getElem? hi))
        refine ⟨_, rfl, _, _, rfl, rfl, .inr ⟨by decide, by decide⟩, _, rfl, _, _, rfl, rfl, _, _, rfl, rfl, (by show (0 : Int) < 1000000021; decide), ?_⟩
        exact ⟨_, _, rfl, s1⟩
      · rintro σ H' ⟨st, v, rfl, s1⟩
        exact ⟨_, rfl, q st H' ((same_upd nc).trans s1)⟩
/-! _law_purse -/
def Purse (H : Hp) (p : Addr) : Prop := ∃ a d c : Int, H p = some (.lst [.int a, .int d, .int c]) ∧ 0 ≤ a ∧ a < 1000000021 ∧ 0 ≤ d ∧ 0 ≤ c
theorem scPurse : FnScope ["_law_cell_here", "_law_digits"] ["_law_cell_here"] (defScope sPurse) := ⟨rfl, rfl, rfl, by decide +kernel, rfl, by decide +kernel, by decide +kernel⟩
def spPurse : Sp := fun vs H Q _ => ∃ n : Int, vs = [.int n] ∧ ∀ p H', Same H H' → H p = none → Purse H' p → Q (.ref p) H'
theorem ok_purse {f : Addr} {fd : FuncData} (F : Fun K "_law_purse" "_law_purse" sPurse f fd) (ma : mg "abs" = none) : FnOk P w K mg base CX0 3 f fd ["_law_cell_here"] spPurse := by
  refine F.ok scPurse (fun vs H Q E h => ?_) (fun cdv A outer s H vs Q E hr h => ?_)
  · obtain ⟨n, rfl, _⟩ := h
    rfl
  · obtain ⟨n, rfl, q⟩ := h
    refine ⟨_, pss_cons (ps_set (i := 1) scPurse.nd rfl (.inl rfl) pe_int)
      (pss_cons (ps_if (PW.pt (pw_or (pt_cmpR op_lt (pv 0) pe_int (nomark _)) (pw_or1 (pt_cmpR op_ge (pv 0) (pe_op op_pow pe_int pe_int) (nomark _)))))
        (pss_one (ps_set (i := 1) scPurse.nd rfl (.inl rfl) (pe_callB call_abs (by rfl) ma (by decide +kernel) (pa_cons (pv 0) pa_nil)))) pss_nil)
      (pss_one (ps_ret (pe_lst (pa_cons (pe_op op_mod (pv 0) pe_int) (pa_cons (pv 1) (pa_cons pe_int pa_nil))))))), ?_⟩
    have fin : ∀ d : Int, 0 ≤ d → tRet (fun σ H Q => tCons (tOp (rI (fun _ j => 0 < j) fun i j => .int (i % j)) (tVar 0) (tC (.int 1000000021))) (tCons (tVar 1) (tCons (tC (.int 0)) tNil)) σ H fun vs H1 => vs.length ≤ sizeLine ∧ ∀ p, H1 p = none → Q (.ref p) (upd H1 p (.lst vs)))
        { nx := fun _ H' => Q .non H', rt := Q } [some (.int n), some (.int d)] H := by
      intro d hd
      refine ⟨_, rfl, _, _, rfl, rfl, (by show (0 : Int) < 1000000021; decide), _, rfl, (by show 3 ≤ sizeLine; decide), fun p np => ?_⟩
      exact q p _ (same_upd np) np ⟨_, d, 0, upd_same, Int.emod_nonneg _ (by decide), Int.emod_lt_of_pos _ (by decide), hd, Int.le_refl _⟩
    refine ⟨_, rfl, _, _, rfl, rfl, _, rfl, ?_⟩
    by_cases h1 : n < 0
    · rw [decide_eq_true h1]
      refine ⟨_, rfl, n, rfl, ?_⟩
      exact fin _ (by split <;> omega)
    · rw [decide_eq_false h1]
      refine ⟨_, rfl, _, _, rfl, rfl, ⟨by decide, by decide, by decide⟩, _, _, rfl, rfl, _, rfl, ?_⟩
      by_cases h2 : (10 : Int) ^ (18 : Int).toNat ≤ n
      · rw [decide_eq_true h2]
        refine ⟨_, rfl, n, rfl, ?_⟩
        exact fin _ (by split <;> omega)
      · rw [decide_eq_false h2]
        exact fin 0 (Int.le_refl _)
/-! _law_take -/
/-- the purse goes on, all else that is tracked stays -/
structure Step (p : Addr) (H H' : Hp) : Prop where
  purse : Purse H' p
  keep : ∀ b o, b ≠ p → H b = some o → H' b = some o
theorem scTake : FnScope ["_law_purse_here", "_law_many", "_law_state", "_law_taken"] ["_law_purse_here", "_law_many"] (defScope sTake) := ⟨rfl, rfl, rfl, by decide +kernel, rfl, by decide +kernel, by decide +kernel⟩
def spTake : Sp := fun vs H Q _ => ∃ (p : Addr) (m : Int), vs = [.ref p, .int m] ∧ 0 < m ∧ m < 1073741824 ∧ Purse H p ∧ ∀ (r : Int) H', 0 ≤ r → r < m → Step p H H' → Q (.int r) H'
theorem ok_take {f : Addr} {fd : FuncData} (F : Fun K "_law_take" "_law_take" sTake f fd) : FnOk P w K mg base CX0 3 f fd ["_law_purse_here", "_law_many"] spTake := by
  refine F.ok scTake (fun vs H Q E h => ?_) (fun cdv A outer s H vs Q E hr h => ?_)
  · obtain ⟨p, m, rfl, _⟩ := h
    rfl
  · obtain ⟨p, m, rfl, hm, hm2, ⟨a, d, c, hp, a0, a1, d0, c0⟩, q⟩ := h
    refine ⟨_, pss_cons (ps_asg (pe_op op_add (pe_ix ix_list (pv 0) pe_int (fun _ _ => rfl)) pe_int) (pg_sub (pv 0) pe_int set_list))
      (pss_cons (ps_set (i := 2) scTake.nd rfl (.inl rfl) (pe_ix ix_list (pv 0) pe_int (fun _ _ => rfl)))
      (pss_cons (ps_asg (pe_op op_mod (pe_op op_add (pe_op op_add (pe_op op_mul (pv 2) (pe_op op_add (pe_op op_mod (pv 2) pe_int) pe_int)) (pe_op op_mul pe_int (pe_ix ix_list (pv 0) pe_int (fun _ _ => rfl)))) pe_int) pe_int) (pg_sub (pv 0) pe_int set_list))
      (pss_cons (ps_if (pt_cmpR op_gt (pe_ix ix_list (pv 0) pe_int (fun _ _ => rfl)) pe_int (nomark _))
        (pss_cons (ps_set (i := 3) scTake.nd rfl (.inl rfl) (pe_op op_mod (pe_ix ix_list (pv 0) pe_int (fun _ _ => rfl)) (pv 1)))
        (pss_cons (ps_asg (pe_op op_fdiv (pe_ix ix_list (pv 0) pe_int (fun _ _ => rfl)) (pv 1)) (pg_sub (pv 0) pe_int set_list)) (pss_one (ps_ret (pv 3))))) pss_nil)
      (pss_one (ps_ret (pe_op op_mod (pe_op op_fdiv (pe_ix ix_list (pv 0) pe_int (fun _ _ => rfl)) pe_int) (pv 1))))))), ?_⟩
    refine ⟨_, rfl, p, _, _, _, rfl, rfl, SqL.of hp, at_of (j := 2) rfl rfl, _, _, rfl, rfl, _, rfl, p, _, _, 2, rfl, rfl, hp, rfl, ?_⟩
    refine ⟨_, rfl, p, _, _, _, rfl, rfl, SqL.of upd_same, at_of (j := 0) rfl rfl, ?_⟩
    refine ⟨_, rfl, _, rfl, _, _, rfl, rfl, (by show (0 : Int) < 50021; decide), _, _, rfl, rfl, _, _, rfl, rfl, .inl ⟨by omega, by omega⟩, _, rfl, p, _, _, _, rfl, rfl, SqL.of upd_same, at_of (j := 2) rfl rfl, _, _, rfl, rfl, .inl ⟨by decide, by decide⟩, _, _, rfl, rfl, _, _, rfl, rfl, _, _, rfl, rfl, (by show (0 : Int) < 1000000021; decide), ?_⟩
    refine ⟨_, rfl, p, _, _, 0, rfl, rfl, upd_same, rfl, ?_⟩
    refine ⟨_, rfl, p, _, _, _, rfl, rfl, SqL.of upd_same, at_of (j := 1) rfl rfl, _, _, rfl, rfl, _, rfl, ?_⟩
    have keep : ∀ (o1 o2 : HO) b o, b ≠ p → H b = some o → upd (upd H p o1) p o2 b = some o := fun o1 o2 b o hb e => by rw [upd_ne hb, upd_ne hb]; exact e
    have n0 : ∀ z : Int, 0 ≤ z % 1000000021 := fun z => Int.emod_nonneg _ (by decide)
    have n1 : ∀ z : Int, z % 1000000021 < 1000000021 := fun z => Int.emod_lt_of_pos _ (by decide)
    by_cases hd : 0 < d
    · rw [decide_eq_true hd]
      refine ⟨_, rfl, p, _, _, _, rfl, rfl, SqL.of upd_same, at_of (j := 1) rfl rfl, _, rfl, _, _, rfl, rfl, hm, ?_⟩
      refine ⟨_, rfl, p, _, _, _, rfl, rfl, SqL.of upd_same, at_of (j := 1) rfl rfl, _, rfl, _, _, rfl, rfl, ⟨hm, hm2⟩, _, rfl, p, _, _, 1, rfl, rfl, upd_same, rfl, _, rfl, ?_⟩
      refine q _ _ (Int.emod_nonneg _ (by omega)) (Int.emod_lt_of_pos _ hm) ⟨⟨_, _, _, upd_same, n0 _, n1 _, Int.ediv_nonneg d0 (by omega), by omega⟩, fun b o hb e => ?_⟩
      rw [upd_ne hb]
      exact keep _ _ b o hb e
    · rw [decide_eq_false hd]
      refine ⟨_, rfl, p, _, _, _, rfl, rfl, SqL.of upd_same, at_of (j := 0) rfl rfl, _, _, rfl, rfl, ⟨by decide, by decide⟩, _, rfl, _, _, rfl, rfl, hm, ?_⟩
      exact q _ _ (Int.emod_nonneg _ (by omega)) (Int.emod_lt_of_pos _ hm) ⟨⟨_, _, _, upd_same, n0 _, n1 _, d0, by omega⟩, keep _ _⟩
end
end Du

set_option Elab.async false
set_option linter.all false
set_option maxRecDepth 100000
namespace Du
open PySem L2
/-- a text of these signs -/
def ofL (l : List Nat) : Str := ⟨l.toArray⟩
theorem ofL_codes (l : List Nat) : (ofL l).cps.toList = l := by simp [ofL]
theorem ofL_inj {l m : List Nat} (h : ofL l = ofL m) : l = m := by
  have := congrArg (fun z : Str => z.cps.toList) h
  simpa [ofL] using this
theorem ofL_len (l : List Nat) : (ofL l).length = l.length := by simp [ofL, Str.length]
theorem str_ofL (z : Str) : z = ofL z.cps.toList := by
  cases z
  simp [ofL]
theorem app_ofL (l m : List Nat) : ofL l ++ ofL m = ofL (l ++ m) := by
  show Str.append _ _ = _
  simp [Str.append, ofL]
def allL (l : List Nat) : Prop := ∀ c ∈ l, isLetter c = true
theorem nm_ofL {l : List Nat} (h1 : 1 ≤ l.length) (h8 : l.length ≤ 8) (h : allL l) : isNm (ofL l) = true := by
  unfold isNm
  rw [ofL_len, ofL_codes, decide_eq_true h1, decide_eq_true h8]
  show (l.all isLetter) = true
  exact List.all_eq_true.mpr h
theorem nodup_range_map {α : Type} {n : Nat} {f : Nat → α} (h : ∀ i j, i < n → j < n → i < j → f i ≠ f j) : ((List.range n).map f).Nodup := by
  unfold List.Nodup
  rw [List.pairwise_map]
  exact (List.pairwise_lt_range (n := n)).imp_of_mem fun {a b} ha hb hab => h a b (List.mem_range.mp ha) (List.mem_range.mp hb) hab
/-! the words of rows -/
def ownW : List Str := ["task", "door", "every", "let", "leave", "come", "serve", "end", "in", "soon", "none", "go"]
def ix (n : Int) (spot step : Int) (k : Nat) : Nat := ((spot + step * (k : Int)) % n).toNat
theorem ix_lt {n spot step : Int} {k : Nat} (h : 0 < n) : (ix n spot step k : Int) < n ∧ ((ix n spot step k : Nat) : Int) = (spot + step * (k : Int)) % n := by
  have h1 := Int.emod_nonneg (spot + step * (k : Int)) (show n ≠ 0 by omega)
  have h2 := Int.emod_lt_of_pos (spot + step * (k : Int)) h
  unfold ix
  omega
def Stp (step : Int) : Prop := step = 1 ∨ step = 5 ∨ step = 7 ∨ step = 11
theorem ix12 {spot step : Int} (hs : Stp step) {i j : Nat} (hj : j < 12) (hij : i < j) : ix 12 spot step i ≠ ix 12 spot step j := by
  have h1 := (ix_lt (n := 12) (spot := spot) (step := step) (k := i) (by decide)).2
  have h2 := (ix_lt (n := 12) (spot := spot) (step := step) (k := j) (by decide)).2
  rcases hs with rfl | rfl | rfl | rfl <;> omega
theorem ix26 {spot step : Int} (hs : Stp step) {i j : Nat} (hj : j < 12) (hij : i < j) : ix 26 spot step i ≠ ix 26 spot step j := by
  have h1 := (ix_lt (n := 26) (spot := spot) (step := step) (k := i) (by decide)).2
  have h2 := (ix_lt (n := 26) (spot := spot) (step := step) (k := j) (by decide)).2
  rcases hs with rfl | rfl | rfl | rfl <;> omega
def w1 (spot step : Int) (k : Nat) : Str := ownW.getD (ix 12 spot step k) ""
theorem ownW_nodup : ownW.Nodup := by decide +kernel
theorem ownW_nm : ∀ z ∈ ownW, isNm z = true := by decide +kernel
theorem w1_at (spot step : Int) (k : Nat) : ownW[ix 12 spot step k]? = some (w1 spot step k) := by
  have h := (ix_lt (n := 12) (spot := spot) (step := step) (k := k) (by decide)).1
  have hl : ix 12 spot step k < ownW.length := by
    show ix 12 spot step k < 12
    omega
  unfold w1
  rw [List.getD_eq_getElem?_getD, List.getElem?_eq_getElem hl]
  rfl
theorem w1_nm (spot step : Int) (k : Nat) : isNm (w1 spot step k) = true := ownW_nm _ (List.mem_of_getElem? (w1_at spot step k))
theorem w1_nodup {spot step : Int} (hs : Stp step) {n : Nat} (hn : n ≤ 12) : ((List.range n).map (w1 spot step)).Nodup :=
  nodup_range_map fun i j hi hj hij e => ix12 hs (by omega) hij (nd_ix ownW_nodup (w1_at spot step i) (by rw [e]; exact w1_at spot step j))
/-! words about a stem -/
def letterAt (begin step : Int) (k : Nat) : Nat := letters.cps.toList.getD (ix 26 begin step k) 0
theorem letters_nodup : letters.cps.toList.Nodup := by decide +kernel
theorem letters_len : letters.cps.toList.length = 26 := by decide +kernel
theorem letter_at (begin step : Int) (k : Nat) : letters.cps.toList[ix 26 begin step k]? = some (letterAt begin step k) := by
  have h := (ix_lt (n := 26) (spot := begin) (step := step) (k := k) (by decide)).1
  have hl : ix 26 begin step k < letters.cps.toList.length := by
    rw [letters_len]
    omega
  unfold letterAt
  rw [List.getD_eq_getElem?_getD, List.getElem?_eq_getElem hl]
  rfl
theorem letter_is {i c : Nat} (h : letters.cps.toList[i]? = some c) : isLetter c = true := decide_eq_true (List.mem_of_getElem? h)
def w2 (st : List Nat) (cut : Nat) (begin step : Int) (k : Nat) : Str := ofL (st.take cut ++ [letterAt begin step k] ++ st.drop cut)
theorem w2_nm {st : List Nat} {cut : Nat} {begin step : Int} {k : Nat} (h : allL st) (hl : st.length ≤ 7) : isNm (w2 st cut begin step k) = true := by
  refine nm_ofL ?_ ?_ ?_
  · simp
    omega
  · simp
    omega
  · intro c hc
    simp at hc
    rcases hc with hc | hc | hc
    · exact h c (List.mem_of_mem_take hc)
    · rw [hc]
      exact letter_is (letter_at begin step k)
    · exact h c (List.mem_of_mem_drop hc)
theorem w2_nodup {st : List Nat} {cut : Nat} {begin step : Int} (hs : Stp step) {n : Nat} (hn : n ≤ 12) : ((List.range n).map (w2 st cut begin step)).Nodup :=
  nodup_range_map fun i j hi hj hij e => by
    have e1 := ofL_inj e
    rw [List.append_assoc, List.append_assoc] at e1
    have e2 := List.append_cancel_left e1
    have e3 : letterAt begin step i = letterAt begin step j := by
      simpa using e2
    exact ix26 hs (by omega) hij (nd_ix letters_nodup (letter_at begin step i) (by rw [e3]; exact letter_at begin step j))
/-! cuts -/
theorem cutS_to (st : List Nat) (cut : Nat) (h : cut ≤ st.length) : cutS (ofL st) none (some (cut : Int)) = ofL (st.take cut) := by
  unfold cutS
  rw [ofL_codes, ofL_len, HT.sIx_none, HT.sIx_nat, Nat.min_eq_left h]
  rfl
theorem cutS_from (st : List Nat) (cut : Nat) (h : cut ≤ st.length) : cutS (ofL st) (some (cut : Int)) none = ofL (st.drop cut) := by
  unfold cutS
  rw [ofL_codes, ofL_len, HT.sIx_none, HT.sIx_nat, Nat.min_eq_left h, List.take_of_length_le (by rw [List.length_drop]; exact Nat.le_refl _)]
  rfl
theorem join_ones : ∀ l : List Nat, Str.join "" (l.map fun c => (⟨#[c]⟩ : Str)) = ofL l
  | [] => rfl
  | [c] => rfl
  | c :: d :: r => by
    have ih := join_ones (d :: r)
    show (⟨#[c]⟩ : Str) ++ "" ++ Str.join "" ((d :: r).map fun c => (⟨#[c]⟩ : Str)) = ofL (c :: d :: r)
    rw [ih]
    show (ofL [c] ++ ofL []) ++ ofL (d :: r) = ofL (c :: d :: r)
    rw [app_ofL, app_ofL]
    rfl
end Du

set_option Elab.async false
set_option linter.all false
set_option maxRecDepth 100000
namespace Du
open PySem L2
abbrev sWords : Stmt := topS 37
theorem Purse.ne {H : Hp} {p q : Addr} (h : Purse H p) (n : H q = none) : q ≠ p := by
  obtain ⟨_, _, _, e, _⟩ := h
  exact (ne_of_none e n).symm
theorem Step.refl {p : Addr} {H : Hp} (h : Purse H p) : Step p H H := ⟨h, fun _ _ _ e => e⟩
theorem Step.trans {p : Addr} {H H1 H2 : Hp} (a : Step p H H1) (b : Step p H1 H2) : Step p H H2 := ⟨b.purse, fun c o n e => b.keep c o n (a.keep c o n e)⟩
theorem Purse.upd {H : Hp} {p q : Addr} {o : HO} (h : Purse H p) (n : q ≠ p) : Purse (upd H q o) p := by
  obtain ⟨a, d, c, e, r⟩ := h
  exact ⟨a, d, c, by rw [upd_ne n.symm]; exact e, r⟩
theorem Step.put {p q : Addr} {H H1 : Hp} {o : HO} (s : Step p H H1) (n : H q = none) (hq : q ≠ p) : Step p H (upd H1 q o) :=
  ⟨s.purse.upd hq, fun b u nb e => by rw [upd_ne (ne_of_none e n)]; exact s.keep b u nb e⟩
theorem Step.new {p q : Addr} {H : Hp} {o : HO} (h : Purse H p) (n : H q = none) : Step p H (upd H q o) := (Step.refl h).put n (h.ne n)
theorem Step.of_same {p : Addr} {H H' : Hp} (h : Purse H p) (s : Same H H') : Step p H H' := by
  obtain ⟨a, d, c, e, r⟩ := h
  exact ⟨⟨a, d, c, s _ _ e, r⟩, fun b o _ e => s b o e⟩
theorem Step.free {p q : Addr} {H H' : Hp} (s : Step p H H') (n : H' q = none) : H q = none := by
  cases e : H q with
  | none => rfl
  | some o =>
    rw [s.keep q o (s.purse.ne n) e] at n
    cases n
theorem at_nat {α : Type} {xs : List α} {z : Int} {j : Nat} {v : α} (e : z = (j : Int)) (h : xs[j]? = some v) : atI xs z = some v := by
  rw [e]
  exact atI_nat h
theorem range_map_succ {α : Type} (f : Nat → α) (i : Nat) : (List.range (i + 1)).map f = (List.range i).map f ++ [f i] := by
  rw [List.range_succ, List.map_append]
  rfl
end Du

set_option Elab.async false
set_option linter.all false
set_option maxRecDepth 100000
namespace Du
open PySem L2
open PySem.Spec (ltCps)
theorem lt_tri : ∀ a b : List Nat, ltCps a b = false → a ≠ b → ltCps b a = true
  | [], [], _, h => absurd rfl h
  | [], _ :: _, h, _ => by simp [ltCps] at h
  | _ :: _, [], _, _ => rfl
  | a :: r, b :: t, h, hn => by
    simp only [ltCps, Bool.or_eq_false_iff, decide_eq_false_iff_not, Bool.and_eq_false_iff] at h
    simp only [ltCps, Bool.or_eq_true, decide_eq_true_eq, Bool.and_eq_true]
    by_cases e : a = b
    · subst e
      rcases h.2 with z | z
      · simp at z
      · exact .inr ⟨by simp, lt_tri r t z fun q => hn (by rw [q])⟩
    · exact .inl (by omega)
theorem lt_tra : ∀ a b c : List Nat, ltCps a b = true → ltCps b c = true → ltCps a c = true
  | [], [], _, h, _ => by simp [ltCps] at h
  | [], _ :: _, [], _, h => by simp [ltCps] at h
  | [], _ :: _, _ :: _, _, _ => rfl
  | _ :: _, [], _, h, _ => by simp [ltCps] at h
  | _ :: _, _ :: _, [], _, h => by simp [ltCps] at h
  | a :: r, b :: t, c :: u, h1, h2 => by
    simp only [ltCps, Bool.or_eq_true, decide_eq_true_eq, Bool.and_eq_true, beq_iff_eq] at h1 h2 ⊢
    rcases h1 with h1 | ⟨rfl, h1⟩ <;> rcases h2 with h2 | ⟨rfl, h2⟩
    · exact .inl (by omega)
    · exact .inl h1
    · exact .inl h2
    · exact .inr ⟨rfl, lt_tra r t u h1 h2⟩
theorem cps_inj {a b : Str} (h : a.cps.toList = b.cps.toList) : a = b := by
  rw [str_ofL a, str_ofL b, h]
theorem rising_pw : ∀ (p : Str) (r : List Str), PyProof.Rows.risingS p r = true → (p :: r).Nodup → (p :: r).Pairwise fun a b => ltCps a.cps.toList b.cps.toList = true
  | p, [], _, _ => by simp
  | p, x :: r, h, hn => by
    simp only [PyProof.Rows.risingS, Bool.and_eq_true, Bool.not_eq_true'] at h
    have hn' := List.nodup_cons.mp hn
    have ih := rising_pw x r h.2 hn'.2
    have hpx : ltCps p.cps.toList x.cps.toList = true := lt_tri _ _ h.1 fun e => hn'.1 (by rw [cps_inj e.symm]; exact List.mem_cons_self)
    refine List.pairwise_cons.mpr ⟨fun y hy => ?_, ih⟩
    rcases List.mem_cons.mp hy with rfl | hy
    · exact hpx
    · exact lt_tra _ _ _ hpx ((List.pairwise_cons.mp ih).1 y hy)
theorem sorted_pw {ys : List Str} (h : PyProof.Rows.sortedS ys = true) (hn : ys.Nodup) : ys.Pairwise fun a b => ltCps a.cps.toList b.cps.toList = true := by
  cases ys with
  | nil => simp
  | cons p r => exact rising_pw p r h hn
theorem pw_take {ys : List Str} (h : ys.Pairwise fun a b => ltCps a.cps.toList b.cps.toList = true) {i : Nat} {x y : Str} (hx : x ∈ ys.take i) (hy : ys[i]? = some y) : ltCps x.cps.toList y.cps.toList = true := by
  obtain ⟨j, hj⟩ := List.getElem?_of_mem hx
  obtain ⟨hl, e⟩ := List.getElem?_eq_some_iff.mp hj
  rw [List.getElem_take] at e
  rw [List.length_take] at hl
  obtain ⟨hi, e2⟩ := List.getElem?_eq_some_iff.mp hy
  rw [← e, ← e2]
  exact List.pairwise_iff_getElem.mp h j i (by omega) hi (by omega)
theorem ahead_lt {h g : Hold} (hn : ltCps h.1.cps.toList g.1.cps.toList = true) : ahead h g = true := by
  unfold ahead
  have ne : ¬ h.1 = g.1 := fun e => by
    rw [e] at hn
    rw [PyProof.Rows.ltCps_eq] at hn
    exact absurd (of_decide_eq_true hn) (by simp)
  rw [if_neg ne, ← PyProof.Rows.ltCps_eq]
  exact hn
theorem ahead_same {h g : Hold} (e : h.1 = g.1) (hl : h.2.1 + h.2.2 ≤ g.2.1) : ahead h g = true := by
  unfold ahead
  rw [if_pos e]
  exact decide_eq_true hl
def chain (hs : List Hold) : Bool := (hs.zip (hs.drop 1)).all fun p => ahead p.1 p.2
theorem chain_add : ∀ (hs : List Hold) (h : Hold), chain hs = true → (∀ g, hs.getLast? = some g → ahead g h = true) → chain (hs ++ [h]) = true
  | [], h, _, _ => rfl
  | [g], h, _, q => by
    show (ahead g h && true) = true
    rw [q g rfl]
    rfl
  | g :: k :: r, h, c, q => by
    have c' : (ahead g k && chain (k :: r)) = true := c
    rw [Bool.and_eq_true] at c'
    show (ahead g k && chain ((k :: r) ++ [h])) = true
    rw [c'.1, chain_add (k :: r) h c'.2 fun g hg => q g (by rw [List.getLast?_cons_cons]; exact hg)]
    rfl
/-- holds that are good, in the making -/
structure Good (hs : List Hold) (c : Int) : Prop where
  len : hs.length ≤ 4
  all : ∀ h ∈ hs, isHd h c = true
  ch : chain hs = true
theorem Good.ok {hs : List Hold} {c : Int} (g : Good hs c) : areHds hs c = true := by
  unfold areHds
  rw [decide_eq_true g.len]
  have e : (hs.all fun h => isHd h c) = true := List.all_eq_true.mpr g.all
  rw [e]
  exact g.ch
theorem Good.nm {hs : List Hold} {c : Int} (g : Good hs c) : ∀ h ∈ hs, isNm h.1 = true := fun h hh => by
  have z := g.all h hh
  unfold isHd at z
  exact (Bool.and_eq_true_iff.mp z).1
theorem Good.nil (c : Int) : Good [] c := ⟨by simp, by simp, rfl⟩
theorem Good.add {hs : List Hold} {c : Int} {h : Hold} (g : Good hs c) (hl : hs.length < 4) (hh : isHd h c = true) (q : ∀ g, hs.getLast? = some g → ahead g h = true) : Good (hs ++ [h]) c :=
  ⟨by rw [List.length_append]; show hs.length + 1 ≤ 4; omega, fun k hk => by
    rcases List.mem_append.mp hk with z | z
    · exact g.all k z
    · rw [List.mem_singleton.mp z]
      exact hh, chain_add hs h g.ch q⟩
theorem hd_of {z : Str} {s l c : Int} (hz : isNm z = true) (h0 : 0 ≤ s) (h1 : 1 ≤ l) (h2 : s + l ≤ c) : isHd (z, s, l) c = true := by
  unfold isHd
  rw [hz]
  simp
  omega
/-! under a step of the purse -/
theorem sqT_step {K : PySem.W.Frag} {p a : Addr} {H H' : Hp} {xs : List V} (hp : Purse H p) (s : Step p H H') (h : SqT K H a xs) : SqT K H' a xs := by
  obtain ⟨x, d, c, e, _⟩ := hp
  rcases h with (h | ⟨o, h⟩) | h
  · exact .inl (.inl (s.keep a _ (ne_of h e (by intro z; cases z)) h))
  · exact .inl (.inr ⟨o, s.keep a _ (ne_of h e (by intro z; cases z)) h⟩)
  · exact .inr h
theorem HdAt.step {K : PySem.W.Frag} {p : Addr} {H H' : Hp} {v : V} {h : Hold} (d : HdAt K H v h) (hp : Purse H p) (s : Step p H H') : HdAt K H' v h := by
  obtain ⟨a, e, q⟩ := d
  exact ⟨a, e, sqT_step hp s q⟩
theorem HdsAt.step {K : PySem.W.Frag} {p t : Addr} {H H' : Hp} {hs : List Hold} (d : HdsAt K H t hs) (hp : Purse H p) (s : Step p H H') : HdsAt K H' t hs := by
  obtain ⟨vs, h1, h2, h3⟩ := d
  exact ⟨vs, sqT_step hp s h1, h2, fun i v h e1 e2 => (h3 i v h e1 e2).step hp s⟩
end Du

set_option Elab.async false
set_option linter.all false
set_option maxRecDepth 100000
namespace Du
open PySem L2
abbrev pInit : List Str := ["self", "name", "cost", "gap", "due", "holds"]
abbrev FunI (K : PySem.W.Frag) (e0 f : Addr) (fd : FuncData) : Prop := FunD K "__init__" "Task.__init__" (defArgs sInit) (defBody sInit) (defScope sInit) [] [("due", .non), ("holds", .ref e0)] f fd
section
variable {K : PySem.W.Frag} {e0 f : Addr} {fd : FuncData}
def one {α : Type} (l : List α) (i : Nat) : List α := (l.drop i).take 1
theorem one_rel {vs : List V} {us : List Value} (r : Vals vs us) (i : Nat) : Vals (one vs i) (one us i) := (r.drop i).take 1
/-- all five by name -/
theorem kb5 (F : FunI K e0 f fd) : ∃ mv : List Value, KBn K fd pInit 1 ["holds", "gap", "name", "due", "cost"] (fun us ws => us ++ (one ws 2 ++ (one ws 4 ++ (one ws 1 ++ (one ws 3 ++ one ws 0))))) (fun us ws => us ++ (one ws 2 ++ (one ws 4 ++ (one ws 1 ++ (one ws 3 ++ one ws 0))))) :=
  F.kbinds0 1 _ [] (fun us _ ws => us ++ (one ws 2 ++ (one ws 4 ++ (one ws 1 ++ (one ws 3 ++ one ws 0))))) (by simp) (by simp)
    (fun r1 _ r3 => r1.append ((one_rel r3 2).append ((one_rel r3 4).append ((one_rel r3 1).append ((one_rel r3 3).append (one_rel r3 0))))))
    (fun D doc pm an cdv ct us mv ws h1 h2 h3 => match us, mv, ws, h1, h2, h3 with | [_], [], [_, _, _, _, _], _, _, _ => rfl)
/-- four by name -/
theorem kb4 (F : FunI K e0 f fd) : ∃ mv : List Value, KBn K fd pInit 2 ["gap", "due", "cost", "holds"] (fun us ws => us ++ (one ws 2 ++ (one ws 0 ++ (one ws 1 ++ one ws 3)))) (fun us ws => us ++ (one ws 2 ++ (one ws 0 ++ (one ws 1 ++ one ws 3)))) :=
  F.kbinds0 2 _ [] (fun us _ ws => us ++ (one ws 2 ++ (one ws 0 ++ (one ws 1 ++ one ws 3)))) (by simp) (by simp)
    (fun r1 _ r3 => r1.append ((one_rel r3 2).append ((one_rel r3 0).append ((one_rel r3 1).append (one_rel r3 3)))))
    (fun D doc pm an cdv ct us mv ws h1 h2 h3 => match us, mv, ws, h1, h2, h3 with | [_, _], [], [_, _, _, _], _, _, _ => rfl)
theorem kb3 (F : FunI K e0 f fd) : ∃ mv : List Value, KBn K fd pInit 3 ["holds", "due", "gap"] (fun us ws => us ++ (one ws 2 ++ (one ws 1 ++ one ws 0))) (fun us ws => us ++ (one ws 2 ++ (one ws 1 ++ one ws 0))) :=
  F.kbinds0 3 _ [] (fun us _ ws => us ++ (one ws 2 ++ (one ws 1 ++ one ws 0))) (by simp) (by simp)
    (fun r1 _ r3 => r1.append ((one_rel r3 2).append ((one_rel r3 1).append (one_rel r3 0))))
    (fun D doc pm an cdv ct us mv ws h1 h2 h3 => match us, mv, ws, h1, h2, h3 with | [_, _, _], [], [_, _, _], _, _, _ => rfl)
theorem kb2 (F : FunI K e0 f fd) : ∃ mv : List Value, KBn K fd pInit 4 ["due", "holds"] (fun us ws => us ++ ws) (fun us ws => us ++ ws) :=
  F.kbinds0 4 _ [] (fun us _ ws => us ++ ws) (by simp) (by simp) (fun r1 _ r3 => r1.append r3)
    (fun D doc pm an cdv ct us mv ws h1 h2 h3 => match us, mv, ws, h1, h2, h3 with | [_, _, _, _], [], [_, _], _, _, _ => rfl)
theorem kbD (F : FunI K e0 f fd) : ∃ mv : List Value, KBn K fd pInit 4 ["due"] (fun us ws => us ++ (ws ++ mv)) (fun us ws => us ++ (ws ++ [V.ref e0])) :=
  F.kbinds0 4 _ [("holds", V.ref e0)] (fun us mv ws => us ++ (ws ++ mv)) (by simp) (by simp) (fun r1 r2 r3 => r1.append (r3.append r2))
    (fun D doc pm an cdv ct us mv ws h1 h2 h3 => match us, mv, ws, h1, h2, h3 with | [_, _, _, _], [_], [_], _, _, _ => ⟨_, _, _, _, _, _, rfl, rfl, rfl⟩)
theorem kbH (F : FunI K e0 f fd) : ∃ mv : List Value, KBn K fd pInit 4 ["holds"] (fun us ws => us ++ (mv ++ ws)) (fun us ws => us ++ ([V.non] ++ ws)) :=
  F.kbinds0 4 _ [("due", V.non)] (fun us mv ws => us ++ (mv ++ ws)) (by simp) (by simp) (fun r1 r2 r3 => r1.append (r2.append r3))
    (fun D doc pm an cdv ct us mv ws h1 h2 h3 => match us, mv, ws, h1, h2, h3 with | [_, _, _, _], [_], [_], _, _, _ => ⟨_, _, _, _, _, _, rfl, rfl, rfl⟩)
theorem kb0 (F : FunI K e0 f fd) : ∃ ds, Vals [V.non, V.ref e0] ds ∧ Binds K fd pInit ds :=
  F.binds0 4 (by simp) rfl (fun D doc pm an cdv ct us ks h1 h2 => match us, ks, h1, h2 with | [_, _, _, _], [_, _], _, _ => ⟨_, _, _, _, _, _, rfl, rfl, _, _, _, _, _, _, rfl, rfl, rfl⟩)
end
end Du

set_option Elab.async false
set_option linter.all false
set_option maxRecDepth 100000
namespace Du
open PySem L2 PyProof.Rows
section
variable {P : Program} {w : World} {K : PySem.W.Frag} {mg : Str → Option Value} {base : Heap} {k : Nat} {f : Addr} {N ps : List Str} {A : Around} {outer : List Env} {s : Shared} {H : Hp} {args : Args} {us : List Value} {vs : List V} {Q : VK}
/-- a def's call where one stands, by its body there -/
theorem fn_at {name qual : Str} {params : Arguments} {body : List Stmt} {scope : Scope} {dV kV doc pm cdv ct oc : Value} {an od : Option Addr} {osl : Array (Option Value)}
    (lk : K.lookup f = some ⟨oc, od, .func (PySem.W.fnOf name qual params body scope dV kV doc pm an cdv ct), osl⟩) (hcd : PySem.W.codeIn K cdv qual = true) (S : FnScope N ps scope) (hr : Room (k + 1) A) (e0 : Env0 P w K mg base A outer s H)
    (hb : BindsTo s (PySem.W.fnOf name qual params body scope dV kV doc pm an cdv ct) args (ps.zip us)) (r : Vals vs us) (hl : vs.length = ps.length)
    (go : ∃ t, PSs (cxOf CX0 P w K mg base N qual scope f cdv A outer s H E0).nox body t ∧ t { nx := fun _ H' => Q .non H', rt := Q } (L2.start N vs) H) : codeAny (model P w) A (.call (.ref f) args) (CR CX0 outer P w H s Q E0) s := by
  have kept := fun b o e => (e0.bs b o e).1
  have KX : K.In s.heap := e0.mod.kin.keeps kept
  refine codeAny_call_function hr.depth (KX _ _ lk) rfl S.co S.gen rfl (PySem.W.codeRec_of KX hcd) (hb _ _ _ _ (wpAny_newFunctionEnv_cells S.kind (fun y hy => (S.par y.1 (List.of_mem_zip hy).1).imp id fun q => ⟨q, PySem.W.cellsFrom_some _ _ _ (.inl q)⟩) fun env he s1 x => ?_))
  subst he
  obtain ⟨t, ht, hq⟩ := go
  have I := inv_start (CX := CX0) (E := E0) S hr.hd e0 hl r x
  refine ⟨(e0.mod.nolimit.keeps kept).keeps x.toInCall.keep, codeAny_func (wpAny_mono (ht.nox.run [] s1 _ H _ I hq) (fun fl s' hs => ?_) fun _ _ z => z)⟩
  match fl, hs with
  | .ret u, ⟨v, σ', H', J, rv, q⟩ => exact ⟨v, H', J.os, J.bare, J.base, J.hok, rv, q⟩
  | .next, ⟨σ', H', J, q⟩ => exact ⟨V.non, H', J.os, J.bare, J.base, J.hok, rfl, q⟩
  | .brk, ⟨_, _, _, q⟩ => exact q.elim
  | .cont, ⟨_, _, _, q⟩ => exact q.elim
end
/-- the law's def, called by the claim's own caller -/
def LawOk (P : Program) (w : World) (K : PySem.W.Frag) (mg : Str → Option Value) (base : Heap) (fa : Addr) (fd : FuncData) (x : Str) (sp : Sp) : Prop :=
  ∀ (s : Shared) (H : Hp) (u : Value) (v : V) (Q : VK), Env0 P w K mg base callerA [] s H → BindsTo s fd ⟨[u], []⟩ [(x, u)] → RelV v u → sp [v] H Q E0 → codeAny (model P w) callerA (.call (.ref fa) ⟨[u], []⟩) (CR CX0 [] P w H s Q E0) s
theorem law_at {P : Program} {w : World} {K : PySem.W.Frag} {mg mb : Str → Option Value} {fa a : Addr} {fd : FuncData} {x : Str} {sp : Sp} {s1 : Shared} {vs : List Value} {ns : List Int}
    (KX : K.In s1.heap) (hns : s1.heap.Ns mainGlobals mg) (hb : s1.heap.Ns builtinsNs mb) (hbb : ∀ y : Str, y ≠ "__name__" → mb y = bootBuiltins y) (hlim : s1.heap.NoLimit) (hg : s1.gens = #[])
    (ha : s1.heap.get? a = some { cls := .type "list", data := .seq vs.toArray }) (hi : IntsAre vs ns) (hl : ns.length ≤ sizeLine)
    (F : ∀ base : Heap, K.In base → base.Ns mainGlobals mg → LawOk P w K mg base fa fd x sp) (hbind : ∀ (s : Shared) (u : Value), BindsTo s fd ⟨[u], []⟩ [(x, u)])
    (hsp : ∀ H : Hp, SqL K H a (ns.map V.int) → sp [.ref a] H (fun v _ => v = .bl true) E0) :
    codeAny (model P w) callerA (.call (.ref fa) ⟨[.ref a], []⟩) (fun r s' => r = .ok (.ret (.bool true)) ∧ OldK s1.heap s'.heap ∧ s'.os = s1.os ∧ AllBare s'.gens) s1 := by
  have rv := vals_ints hi
  let H : Hp := fun b => if b = a ∧ K.lookup a = none then some (.frz { cls := .type "list", data := .seq vs.toArray } (.lst (ns.map V.int))) else none
  have hH : ∀ b u, H b = some u → b = a ∧ K.lookup a = none ∧ u = .frz { cls := .type "list", data := .seq vs.toArray } (.lst (ns.map V.int)) := fun b u e => by
    by_cases hc : b = a ∧ K.lookup a = none
    · have e' := (if_pos hc).symm.trans e
      exact ⟨hc.1, hc.2, (Option.some.inj e').symm⟩
    · have e' := (if_neg hc).symm.trans e
      cases e'
  have hS : SqL K H a (ns.map V.int) := by
    cases hk : K.lookup a with
    | none => exact .inl (.inr ⟨_, if_pos ⟨rfl, hk⟩⟩)
    | some o =>
      have eo := (KX a o hk).symm.trans ha
      cases eo
      exact .inr ⟨_, vs.toArray, _, hk, rfl, rfl, rfl, by rw [List.size_toArray, hi.length]; exact hl, by simpa using rv⟩
  have hok : HOk P w H s1.heap := fun b u e => by
    obtain ⟨rfl, _, rfl⟩ := hH b u e
    exact ⟨ha, by rw [List.length_map]; exact hl, vs, _, rv, ha⟩
  have noD : ∀ {b : Addr} {o : Obj} {es : Array DictEntry} {ep : Nat}, s1.heap.get? b = some o → o.data = .dict es ep → H b = none := fun {b o es ep} e d => by
    cases q : H b with
    | none => rfl
    | some u =>
      obtain ⟨rfl, _⟩ := hH b u q
      cases ha.symm.trans e
      cases (show Data.seq vs.toArray _ = Data.dict es ep from d)
  have ns' : ∀ {b : Addr} {m : Str → Option Value}, s1.heap.Ns b m → (hidT s1.heap H).Ns b m := fun ⟨o, es, ep, e, d, z⟩ => ⟨o, es, ep, hidT_get e (noD e d), d, z⟩
  have hKb : K.In (hidT s1.heap H) := fun b o e => hidT_get (KX b o e) (by
    cases q : H b with
    | none => rfl
    | some u =>
      obtain ⟨rfl, hk, _⟩ := hH b u q
      rw [hk] at e
      cases e)
  obtain ⟨mc, l1, l2⟩ := hlim
  have e0 : Env0 P w K mg (hidT s1.heap H) callerA [] s1 H := ⟨rfl, ⟨hKb, ns' hns, ⟨mb, ns' hb, hbb⟩, ⟨mc, ns' l1, l2⟩⟩, fun b o e => of_hidT e, Nat.le_of_eq (hidT_size _ _), trivial, (fun b z => nomatch z), hok, .of_eq hg⟩
  refine codeAny_mono (F _ hKb (ns' hns) s1 H (.ref a) (.ref a) _ e0 (hbind s1 (.ref a)) rfl (hsp H hS)) fun r s' h => ?_
  match r, h with
  | .error _, h => exact h.elim
  | .ok .next, h => exact h.elim
  | .ok .brk, h => exact h.elim
  | .ok .cont, h => exact h.elim
  | .ok (.ret u), ⟨v, H', os, bare, un, hok', rvu, q⟩ =>
    have q' : v = .bl true := q
    subst q'
    obtain rfl : u = Value.bool true := rvu
    refine ⟨rfl, OldK.of_keep fun b o e => ?_, os, bare⟩
    cases z : H b with
    | none => exact un.keep b o e z (fun y => nomatch y) (fun y => nomatch y)
    | some y =>
      obtain ⟨rfl, hk, rfl⟩ := hH b y z
      have e2 := (hok' _ _ (un.frzs _ _ _ z)).1
      rw [← Option.some.inj (ha.symm.trans e)]
      exact e2
theorem walk_at {l : PySem.W.OpenLaw} {n : Nat} {q : Program} {loose : List Str} {XP : (Str → Option Value) → Heap → Prop} {YP : World → Heap → Prop} {d : DefRec} {K : Params → PySem.W.Frag} {sp : World → Sp} {x : Str} (hn : l.most = some n) (hn2 : n ≤ sizeLine) (hdf : d.params.defaults = [])
    (hY : ∀ (w : World) (h : Heap), YP w h → (K w.params).In h)
    (F : ∀ (w : World) (mg : Str → Option Value) (fa : Addr) (h : Heap), (K w.params).In h → h.Ns mainGlobals mg → mg d.name = some (.ref fa) →
      ∃ fd : FuncData, (∀ (s : Shared) (u : Value), BindsTo s fd ⟨[u], []⟩ [(x, u)]) ∧ ∀ base : Heap, (K w.params).In base → base.Ns mainGlobals mg → LawOk l.prog w (K w.params) mg base fa fd x (sp w))
    (hsp : ∀ (w : World) (H : Hp) (a : Addr) (ns : List Int), ns.length ≤ n → SqL (K w.params) H a (ns.map V.int) → sp w [.ref a] H (fun v _ => v = .bl true) E0) :
    PySem.W.WalkO q loose XP YP l.row.toRowW d [] (fun f vs => PySem.call f vs) := by
  refine Att.attach_call hn hdf fun w s0 s1 mg mb fa o pm cd doc a vs ns G Y ho hd hcd hmg hobj hints hlen hg => ?_
  obtain ⟨fd, hb, hF⟩ := F w mg fa _ (hY w _ Y) G.T.g hmg
  exact law_at (hY w _ Y) G.T.g G.T.b G.T.builtins G.T.nolimit hg hobj hints (Nat.le_trans hlen hn2) hF hb fun H hS => hsp w H a ns hlen hS
end Du

set_option Elab.async false
set_option linter.all false
set_option maxRecDepth 100000
set_option maxHeartbeats 1000000
namespace Du
open PySem PySem.W PySem.Calls PyProof.Rows PySem.HandSPX
open L2 (defArgs defBody defScope inClass)
/-- what the written part says of an error class over ValueError with one field -/
structure ErrC (P : Program) (K : Frag) (mg : Str → Option Value) (x fld qual : Str) (st : Stmt) (C fI : Addr) : Prop where
  gC : mg x = some (.ref C)
  cls : ∃ nm q N bs bm sn sub ab col dd k0 k1 k2 k3 k5, K.lookup C = some (excClassObj nm q C N bs bm true sn sub ab col dd k0 k1 k2 k3 k5 "ValueError.__new__") ∧ refsVE bm = true
  sa : findIn K (.ref C) "__setattr__" = some (some (.builtin "object.__setattr__"))
  ga : findIn K (.ref C) "__getattribute__" = some (some (.builtin "BaseException.__getattribute__"))
  gg : findIn K (.ref C) "__getattr__" = some none
  noN : findIn K (.ref C) fld = some none
  iC : findIn K (.ref C) "__init__" = some (some (.ref fI))
  tC : typeIn K (.ref fI) = some (.type "function")
  kC : keepIn K (.ref C) = true
  exC : subIn K (.ref C) (.type "BaseException") = some true
  veC : subIn K (.ref C) (.type "ValueError") = some true
  tyC : typeIn K (.ref C) = some (.type "type")
  hdC : hasDictIn K C = true
  mro : mroIn K C (.ref C) = some true
  sup : ks_superIn K C C "__init__" = some (some (.builtin "ValueError.__init__"))
  any : nsIn K cStatics "thirdparty.any" = some none
  top : (P.main.scope.names.lookup ("super" : Str)).isSome = false
  mS : mg "super" = none
  fn : ∃ (oc : Value) (od : Option Addr) (doc pm : Value) (an : Option Addr) (cda cc : Addr) (ct : Value) (osl : Array (Option Value)) (ccl cl : Value) (cdd cld : Option Addr) (ccs csl : Array (Option Value)) (vs : Array Value) (file : Str) (tf : Tok),
    K.lookup fI = some ⟨oc, od, .func (ksFn "__init__" qual (defArgs st) (defBody st) (defScope st) .none .none doc pm an (.ref cda) ct cc), osl⟩ ∧ codeIn K (.ref cda) qual = true ∧
    K.lookup cda = some ⟨ccl, cdd, .fields vs, ccs⟩ ∧ vs[2]? = some (.str file tf) ∧ ((P.main.file : Str) == file) = true ∧ K.lookup cc = some ⟨cl, cld, .cell (some (.ref C)), csl⟩
/-- what __init__ leaves of a fresh exception at x -/
structure ErrEnd (h h' : Heap) (x C dx : Addr) (fld : Str) (v : Value) : Prop where
  keep : ∀ b o, b ≠ x → h.get? b = some o → h'.get? b = some o
  obj : ∃ t1 : Addr, h'.get? x = some { cls := .ref C, dict := some dx, data := .fields #[.ref t1, .none, .none, .none, .bool false, .none] }
  dbig : h.objs.size ≤ dx
  dne : dx ≠ x
  ns : h'.Ns1 dx (fun y => if y = fld then some v else none)
section
variable {prog : Program} {w : World} {A : Around} {E : Value → Shared → Prop} {h : Heap} {g : Array GenState} {d : Drawn} {t : Nat} {os : OsState}
variable {nm q : Str} {C N : Addr} {bs bm : List Value} {hdct : Bool} {sn : List Str} {sub : List Value} {ab : Bool} {col : Option Bool} {dd : Option Addr} {k0 k1 k2 k3 k5 : Option Value} {B newId i : String} {bmB : List Value}
/-- the bound __init__ of the built-in base, called -/
theorem call_mw (FB : ExcBaseFacts B newId i bmB) {u e t0 : Addr} {rest : List Value} {Q : Value → Shared → Prop} (hC : h.get? C = some (excClassObj nm q C N bs bm hdct sn sub ab col dd k0 k1 k2 k3 k5 newId)) (he : h.get? e = some (excO C t0)) (hu : h.get? u = some (kxs_mw i e))
    (hrest : rest.length ≤ sizeLine) (hq : ∀ h' t1, (∀ b o, b ≠ e → h.get? b = some o → h'.get? b = some o) → h'.get? e = some (excO C t1) → Q .none ⟨h', g, d, t, os⟩) : wpAny (model prog w) A (call (.ref u) rest) Q E ⟨h, g, d, t, os⟩ := by
  refine wpAny_call (codeAny_of_tree ?_)
  show wpAny _ A.in1 (callAny (.ref u) ⟨rest, []⟩) _ _ _
  simp only [callAny]
  refine wpAny_bind (wpAny_load hu (KFB.if_so (show (Value.type "method-wrapper" == Value.type "method" || Value.type "method-wrapper" == Value.type "builtin_function_or_method" || Value.type "method-wrapper" == Value.type "method-wrapper") = true by decide) (wpAny_bind (check_bound_init FB.toExcCallFacts hC he rfl (wpAny_bind (wpAny_pure (wpAny_pure ⟨plainId_quiet FB.init.plain _, codeAny_builtin FB.initEntry ?_⟩)))))))
  exact exc_init_tree (cls := .ref C) (t0 := t0) (dv := none) (c2 := .none) (c3 := .none) (b4 := .bool false) he hrest fun h' k e' _ => hq h' _ k e'
end
abbrev sNoTask : Stmt := inClass (topS 3) 0
section
variable {prog : Program} {w : World} {A : Around} {E : Value → Shared → Prop} {R : Result → Shared → Prop} {s : Shared} {K : Frag} {mg mb : Str → Option Value} {C fI : Addr} {nm qual : Str}
theorem init_NoTask (T : ErrC prog K mg nm "part" qual sNoTask C fI) {x t0 : Addr} {v : Value} (X : K.In s.heap) (hlim : s.heap.NoLimit) (G : s.heap.Ns mainGlobals mg) (Bn : s.heap.Ns builtinsNs mb) (hbb : ∀ y : Str, y ≠ "__name__" → mb y = bootBuiltins y)
    (hx : s.heap.get? x = some (excO C t0)) (hnx : K.lookup x = none) (hroom : A.depth < recursionLimit) (hq : ∀ h' tk dx, ErrEnd s.heap h' x C dx "part" v → R (.ok (.ret .none)) { s with heap := h', toks := tk }) : codeAny (model prog w) A (.call (.ref fI) ⟨[.ref x, v], []⟩) R s := by
  obtain ⟨oc, od, doc, pm, an, cda, cc, ct, osl, ccl, cl, cdd, cld, ccs, csl, vs, file, tf, lk, hcd, hcode, hvs, hfile, hcell⟩ := T.fn
  obtain ⟨nm', q', N', bs, bm, sn, sub, ab, col, dd, k0, k1, k2, k3, k5, hC, hbm⟩ := T.cls
  have hcl : clsIn K C = some { name := nm', bases := bs, mro := .ref C :: bm, ns := N', qualname := q', hasDict := true, slotNames := sn, subclasses := sub, abstract := ab, collection := col, hasDel := false } := by unfold clsIn; rw [hC] <;> rfl
  have nocell : ∀ y ∈ (defScope sNoTask).names, y.2 ≠ .cell := by decide +kernel
  refine ks_codeAny_call_defAt (binds := [(("self" : Str), Value.ref x), ("part", v)]) hroom (X _ _ lk) rfl hlim (codeRec_of X hcd) rfl (BindsTo.of_eq rfl) nocell (fun y hy => ?_) (fun h1 hn k => ?_)
  · rcases List.mem_cons.mp hy with rfl | hy
    · rfl
    · rw [List.mem_singleton.mp hy]
      rfl
  have X1 : K.In h1 := X.keeps k
  have hx1 := k _ _ hx
  have I1 : InstAt h1 x (excO C t0) C none := ⟨hx1, rfl, rfl, trivial⟩
  obtain ⟨oD, hD1, cdD, hD2⟩ : ∃ oD, h1.get? C = some oD ∧ ∃ cd, oD.data = .cls cd := ⟨_, X1 _ _ hC, _, rfl⟩
  refine ks_wpAt_execs_cons (ks_wpAt_Expr_any (ks_wpAt_MethodCall ?_))
  refine ks_wpAt_super_base rfl rfl (by decide) rfl (X1 _ _ lk) rfl rfl rfl (X1 _ _ hcode) rfl hvs hfile T.top ?_
  refine ks_loadName_global rfl rfl (loadGlobal_builtin (G.keeps k) T.mS (Bn.keeps k) ((hbb _ (by decide)).trans PyProof.Rows.Boot.«super») ⟨rfl, ?_⟩)
  refine wpAny_loadName_free rfl rfl rfl ⟨_, X1 _ _ hcell, rfl⟩ ?_
  refine wpAny_loadName_local rfl rfl hn rfl ?_
  refine ks_wpAny_isType_cls hD1 hD2 ⟨rfl, ?_⟩
  refine ks_wpAny_call_super hD1 hD2 hx1 rfl (fun c e => by cases e) (looks_mroIn X1 T.mro) (fun h2 hso k2 => ?_)
  have X2 : K.In h2 := X1.keeps k2
  have hx2 := k2 _ _ hx1
  have I2 : InstAt h2 x (excO C t0) C none := ⟨hx2, rfl, rfl, trivial⟩
  have hm := T.sup
  unfold ks_superIn at hm
  rw [hcl] at hm
  have hmro : W.Looks (model prog w) h2 (mroOf (.ref C)) (.ref C :: bm) := (looks_clsIn X2 hcl).andThen .now
  refine kxs_getMethod kxs_ValueError hso (looks_opaque X2 T.any) hmro rfl X2 hm (I2.type.andThen (looks_subIn X2 T.veC)) (ks_ne X2 I2 hcl) (by decide) ?_
  have k3 : ∀ b o, h2.get? b = some o → (h2.push (kxs_mw "ValueError.__init__" x)).get? b = some o := fun b o e => Heap.get?_push_of_some _ e
  refine kxs_callWith (i := "ValueError.__init__") (x := x) rfl (evalArgs_plain (args_cons (Calls.Constant_str (args_nil ⟨Heap.get?_push_at rfl rfl, ?_⟩))))
  refine call_mw F.excBase_ValueError (k3 _ _ (X2 _ _ hC)) (k3 _ _ hx2) (Heap.get?_push_at rfl rfl) (by show 1 ≤ sizeLine; decide) fun h4 t1 k4 hx4 => ?_
  -- the field
  have kx : ∀ b o, b ≠ x → h1.get? b = some o → h4.get? b = some o := fun b o hb e => k4 b o hb (k3 b o (k2 b o e))
  have X4 : K.In h4 := fun b o e => kx b o (fun z => by rw [z, hnx] at e; cases e) (X1 b o e)
  have hL : s.heap.objs.size ≠ x := Nat.ne_of_gt (Heap.lt_size hx)
  obtain ⟨oL, esL, epL, eL, rL⟩ := id hn
  have hn4 : h4.Ns s.heap.objs.size _ := ⟨oL, esL, epL, kx _ _ hL eL, rL⟩
  refine ks_wpAt_execs_cons (ks_wpAt_Assign_Attr (wpAt_of_wpAny (wpAny_Name (wpAny_loadName_local rfl rfl hn4 rfl (wpAny_Name (wpAny_loadName_local rfl rfl hn4 rfl ?_) (by decide))) (by decide))))
  refine set_plain X4 (ox := excO C t1) (od := none) ⟨hx4, rfl, rfl, trivial⟩ T.sa ?_
  refine exc_osa X4 hx4 hcl (show refsVE (.ref C :: bm) = true from hbm) rfl T.noN (fun h5 tk5 dx k5 dn dne hx5 hn5 => ?_)
  refine wpAt_of_wpAny (wpAny_execs_nil (hq h5 tk5 dx ⟨fun b o hb e => k5 b o hb (kx b o hb (k b o e)), ⟨t1, hx5⟩, ?_, dne, hn5⟩))
  have z : s.heap.objs.size < h4.objs.size := hn4.lt
  have dn' : h4.objs.size ≤ dx := dn
  omega
/-- the error made -/
structure ErrMade (h h' : Heap) (e C d : Addr) (fld : Str) (v : Value) : Prop where
  keep : ∀ b o, h.get? b = some o → h'.get? b = some o
  new : h.objs.size ≤ e
  obj : ∃ oe vs, h'.get? e = some oe ∧ oe.cls = .ref C ∧ oe.dict = some d ∧ oe.data = .fields vs ∧ vs[1]? = some .none ∧ vs[2]? = some .none
  dbig : h.objs.size ≤ d
  dne : d ≠ e
  ns : h'.Ns1 d (fun y => if y = fld then some v else none)
theorem made_NoTask (T : ErrC prog K mg nm "part" qual sNoTask C fI) {v : Value} (X : K.In s.heap) (hlim : s.heap.NoLimit) (G : s.heap.Ns mainGlobals mg) (Bn : s.heap.Ns builtinsNs mb) (hbb : ∀ y : Str, y ≠ "__name__" → mb y = bootBuiltins y) (hroom : A.depth + 1 < recursionLimit)
    (hq : ∀ h' tk e d, ErrMade s.heap h' e C d "part" v → R (.ok (.ret (.ref e))) { s with heap := h', toks := tk }) : codeAny (model prog w) A (.call (.ref C) ⟨[v], []⟩) R s := by
  obtain ⟨nm', q', N', bs, bm, sn, sub, ab, col, dd, k0, k1, k2, k3, k5, hC, hbm⟩ := T.cls
  obtain ⟨hp, g, dr, tk, os⟩ := s
  have k : ∀ b o, hp.get? b = some o → ((hp.push (kdv_tup [v])).push (excO C hp.objs.size)).get? b = some o := fun b o e => Heap.get?_push_of_some _ (Heap.get?_push_of_some _ e)
  have hget : ((hp.push (kdv_tup [v])).push (excO C hp.objs.size)).get? (hp.objs.size + 1) = some (excO C hp.objs.size) := by heap_get
  have hnx : K.lookup (hp.objs.size + 1) = none := by
    cases e : K.lookup (hp.objs.size + 1) with
    | none => rfl
    | some o => exact absurd (Nat.lt_of_succ_lt (Heap.lt_size (show hp.get? (hp.objs.size + 1) = some o from X _ _ e))) (Nat.lt_irrefl _)
  refine call_own F.excBase_ValueError (fun X => refsVE_contains X bm hbm) (X _ _ hC) (looks_findIn X T.iC) (fun self => bind_fn X self T.tC) (by show 1 ≤ sizeLine; decide) ?_
  refine init_NoTask (s := ⟨(hp.push (kdv_tup [v])).push (excO C hp.objs.size), g, dr, tk, os⟩) T (X.keeps k) (hlim.keeps k) (G.keeps k) (Bn.keeps k) hbb hget hnx hroom fun h' tk' dx m => ?_
  obtain ⟨k', ⟨t1, hx⟩, dn, dne, hns⟩ := m
  have z : hp.objs.size + 1 + 1 ≤ dx := by
    have q := dn
    rw [Heap.size_push, Heap.size_push] at q
    exact q
  exact ⟨rfl, hq h' tk' (hp.objs.size + 1) dx ⟨fun b o e => k' b o (Nat.ne_of_lt (Nat.lt_succ_of_lt (Heap.lt_size e))) (k b o e), Nat.le_succ _, ⟨_, _, hx, rfl, rfl, rfl, rfl, rfl⟩, Nat.le_trans (Nat.le_trans (Nat.le_succ _) (Nat.le_succ _)) z, dne, hns⟩⟩
end
end Du

set_option Elab.async false
set_option linter.all false
set_option maxRecDepth 100000
set_option maxHeartbeats 1000000
namespace Du
open PySem PySem.Spec PyProof.Rows L2
open L2N (Zn)
/-- an object's classes as a tuple: how a clause's match is seen -/
def Mat (K : PySem.W.Frag) (cs : List Value) : Prop := ∀ {M : Model} {h : Heap} {cls : Value} {tp e : Addr}, K.In h → PySem.W.Looks M h (typeOf (.ref e)) cls → h.get? tp = some { cls := .type "tuple", data := .seq cs.toArray } → PySem.W.exmAny K cls cs = some true → PySem.W.Looks M h (excMatches (.ref e) (.ref tp)) true
theorem mat2 {K : PySem.W.Frag} {c1 c2 : Value} : Mat K [c1, c2] := fun X L hp hx => PySem.W.exm_tup2 X L hp hx
theorem mat3 {K : PySem.W.Frag} {c1 c2 c3 : Value} : Mat K [c1, c2, c3] := fun X L hp hx => PySem.W.exm_tup3 X L hp hx
/-- the clause's tuple, laid where the error is handled -/
def Lays (X : Cx) (te : Expr) (cs : List Value) : Prop := ∀ (a : Addr) (oe : Obj) (pn : List (Addr × Obj)) (σ : L2.St) (H : Hp) (s : Shared) (Q : Value → Shared → Prop) (E : Value → Shared → Prop), Inv (X.suite a ((a, oe) :: pn)) [] σ H s →
  (∀ tp h', h'.get? tp = some { cls := .type "tuple", data := .seq cs.toArray } → (∀ b o, s.heap.get? b = some o → h'.get? b = some o) → Q (.ref tp) { s with heap := h' }) → wpAny (model X.prog X.w) (X.A.mark (some (.ref a))) (eval te X.env) Q E s
theorem name_at {X : Cx} {x : Str} {c : Value} {np : Pos} (hc : Names X x c) {a : Addr} {oe : Obj} {pn : List (Addr × Obj)} {σ : L2.St} {H : Hp} {s : Shared} {Q : Value → Shared → Prop} {E : Value → Shared → Prop} (S : Inv (X.suite a ((a, oe) :: pn)) [] σ H s) (q : Q c s) :
    wpAny (model X.prog X.w) (X.A.mark (some (.ref a))) (eval (.Name x np) X.env) Q E s := by
  obtain ⟨hg, hd, hm | ⟨hm, hv, hn⟩⟩ := hc
  · exact ld_glob (X := X.suite a ((a, oe) :: pn)) S hg hm q hd
  · exact ld_blt (X := X.suite a ((a, oe) :: pn)) S hg hm hv q hn hd
theorem lays2 {X : Cx} {x1 x2 : Str} {c1 c2 : Value} {n1 n2 tp : Pos} {kk : Nat} (h1 : Names X x1 c1) (h2 : Names X x2 c2) : Lays X (.Tuple [.Name x1 n1, .Name x2 n2] kk tp) [c1, c2] := fun a oe pn σ H s Q E S q =>
  wpAny_Tuple_spliced (args_cons (name_at h1 S (args_cons (name_at h2 S (args_nil ⟨by show 2 ≤ sizeLine; decide, q _ _ (Heap.get?_push_size _ rfl) fun b o e => Heap.get?_push_of_some _ e⟩)))))
theorem lays3 {X : Cx} {x1 x2 x3 : Str} {c1 c2 c3 : Value} {n1 n2 n3 tp : Pos} {kk : Nat} (h1 : Names X x1 c1) (h2 : Names X x2 c2) (h3 : Names X x3 c3) : Lays X (.Tuple [.Name x1 n1, .Name x2 n2, .Name x3 n3] kk tp) [c1, c2, c3] := fun a oe pn σ H s Q E S q =>
  wpAny_Tuple_spliced (args_cons (name_at h1 S (args_cons (name_at h2 S (args_cons (name_at h3 S (args_nil ⟨by show 3 ≤ sizeLine; decide, q _ _ (Heap.get?_push_size _ rfl) fun b o e => Heap.get?_push_of_some _ e⟩)))))))
theorem flying_push {B h h' : Heap} {l : List Env} {a : Addr} {Z : Obj → Prop} (k : ∀ b o, h.get? b = some o → h'.get? b = some o) (f : HandSPX.FlyingZ B l a Z h) : HandSPX.FlyingZ B l a Z h' := by
  obtain ⟨f1, f2, f3, oe, vs, T, oT, ts, t1, t2, t3, t4, t5, t6, t7, t8, t9⟩ := f
  exact ⟨fun b o e => k b o (f1 b o e), f2, Heap.FunFrames.of_keeps (fun b o e _ => ⟨o, k b o e, rfl⟩) f3, oe, vs, T, oT, ts, k _ _ t1, t2, t3, t4, t5, t6, k _ _ t7, t8, t9⟩
/-- what 'except (..) as n' wishes of an exception of the body, each of which it takes -/
def wTup (K : PySem.W.Frag) (cs : List Value) (i : Nat) (ts : Addr → Value → Option Addr → TS) (D : Ends) : WX := fun cls d σ H =>
  PySem.W.exmAny K cls cs = some true ∧ ∀ a, H a = none → ts a cls d { nx := fun σ' H' => D.nx (σ'.set i none) H', rt := D.rt, bk := fun σ' H' => D.bk (σ'.set i none) H', ct := fun σ' H' => D.ct (σ'.set i none) H' } (σ.set i (some (.ref a))) H
theorem ps_try_tup {X : Cx} {n : Str} {i : Nat} {te : Expr} {cs : List Value} {body suite : List Stmt} {b0 : Stmt} {pos pos' : Pos} {tb : WX → TS} {ts : Addr → Value → Option Addr → TS} (hs : X.stack = X.env :: X.outer) (hf : X.env.frame = some X.env.locals) (hN : X.N.Nodup) (hi : X.N[i]? = some n)
    (hln : X.env.kindOf n = some .local) (hl : Lays X te cs) (hm : Mat X.K cs)
    (hb : ∀ (W : WX) (pn : List (Addr × Obj)) (xe : Value → Shared → Prop), L2N.Takes (X.tr pn xe) W → PassesOwn (model X.prog X.w) X.A X.env xe → PSs (X.tr pn xe) body (tb W))
    (hsu : ∀ (a : Addr) (oe : Obj) (cls : Value) (d : Option Addr) (pn : List (Addr × Obj)), Zn cls d oe → (∃ vs, oe.data = .fields vs) → PSs (X.suite a ((a, oe) :: pn)) (b0 :: suite) (ts a cls d)) :
    PS X (.Try body [.ExceptHandler (some te) (some n) (b0 :: suite) pos'] [] [] pos) (fun D σ H => tb (wTup X.K cs i ts D) D σ H) := by
  refine ⟨fun pins s σ H D I h => ?_⟩
  have ok := I.ok
  refine wpAny_Try_except (wpAny_mono ((hb (wTup X.K cs i ts D) (X.pn ++ pins) (fun e s1 => wpAny (model X.prog X.w) X.A (noteFrame e X.env) (fun _ s2 => wpAny (model X.prog X.w) X.A (setFlight e none) (fun _ s3 =>
    wpAny (model X.prog X.w) X.A (handleBy e X.env [.ExceptHandler (some te) (some n) (b0 :: suite) pos']) (SP X pins D) X.xe s3) X.xe s2) X.xe s1) (fun u s' xx => ?_) PassesOwn.looking).run [] s σ H D (I.toTry _) h) (fun f s1 hsp => ?_) (fun _ _ he => he))
  · obtain ⟨a, B, sI, pins', σ', H', cls, d, rfl, J', nb, up, sky, na, os, ag, hyes, go⟩ := xx
    have J : Inv X pins σ' H' sI := J'.ofTry ok
    have hfr : X.A.frames = some (X.env :: X.outer) := by rw [ok.frames, hs]
    show wpAny (model X.prog X.w) X.A (noteFrame (.ref a) X.env) _ _ _
    refine L2N.Sky.land Zn.steady hfr hf (by rw [← hs]; exact sky) fun h3 fl3 up3 => ?_
    obtain ⟨oe3, vs3, he3, hz3, hd3⟩ := fl3.there
    have nfr : a ∉ frs (X.env :: X.outer) := fun m => by
      obtain ⟨_, o', e', hnf⟩ := fl3.2.2.1.mem m
      cases he3.symm.trans e'
      exact hnf _ hd3
    have nL : a ≠ X.env.locals := fun z => nfr (List.mem_filterMap.mpr ⟨X.env, List.mem_cons_self, by rw [hf, z]⟩)
    have nF : a ∉ X.fs := fun m => by
      obtain ⟨e, he, q⟩ := List.mem_filterMap.mp m
      exact nfr (List.mem_filterMap.mpr ⟨e, List.mem_cons_of_mem _ he, q⟩)
    have J3 : Inv X pins σ' H' { s' with heap := h3 } := J.landed nb fl3.1 (up.trans up3) os ag
    refine wpAny_handleBy_cons (codeAny_handlers_test ?_) (by intro q; cases q)
    refine hl a oe3 (X.pn ++ pins) σ' H' _ _ _ (J3.suite he3 hd3 na nL nF) fun tp h4 ht k4 => ?_
    have fl4 := flying_push k4 fl3
    have up4 : h3.UpToSlots h4 := Heap.UpToSlots.of_keeps k4
    have LT : PySem.W.Looks (model X.prog X.w) h4 (typeOf (.ref a)) cls := fun A Q E s k q => wpAny_typeOf_ref (k _ _ (k4 _ _ he3)) (by rw [hz3.1]; exact q)
    refine (hm (J3.kIn.keeps k4) LT ht hyes).here ?_
    show codeAny (model X.prog X.w) (X.A.mark (some (.ref a))) (.handlers (.ref a) [.ExceptHandler none (some n) (b0 :: suite) pos'] X.env) _ _
    refine codeAny_handlers_suite_as (HandSPX.lands_againZ (s := { s' with heap := h4 }) fl4 fun h5 fl5 up5 => ?_)
    have J5 : Inv X pins σ' H' { s' with heap := h5 } := J.landed nb fl5.1 (((up.trans up3).trans up4).trans up5) os ag
    obtain ⟨oe5, vs5, he5, hz5, hd5⟩ := fl5.there
    refine store_ok (X := X.suite a ((a, oe5) :: (X.pn ++ pins))) (v := .ref a) (J5.suite he5 hd5 na nL nF) hN hi (.inl hln) rfl (fun s6 S6 => ?_) (.inr hln)
    refine wpAny_mono ((hsu a oe5 cls d (X.pn ++ pins) hz5 ⟨_, hd5⟩).run [] s6 _ H' _ S6 (go a na)) (fun f s7 hsp => ?_) (fun _ _ z => False.elim z)
    match f, hsp with
    | .next, ⟨σ6, H6, S7, q6⟩ => exact gone_ok (S7.unsuite ok) hN hi hln fun s8 J8 => ⟨_, _, J8, q6⟩
    | .brk, ⟨σ6, H6, S7, q6⟩ => exact gone_ok (S7.unsuite ok) hN hi hln fun s8 J8 => ⟨_, _, J8, q6⟩
    | .cont, ⟨σ6, H6, S7, q6⟩ => exact gone_ok (S7.unsuite ok) hN hi hln fun s8 J8 => ⟨_, _, J8, q6⟩
    | .ret u, ⟨v6, σ6, H6, S7, r6, q6⟩ => exact gone_ok (S7.unsuite ok) hN hi hln fun s8 J8 => ⟨_, _, _, J8, r6, q6⟩
  · match f, hsp with
    | .next, ⟨σ', H', J', q⟩ => exact wpAny_execs_nil ⟨σ', H', J'.ofTry ok, q⟩
    | .brk, ⟨σ', H', J', q⟩ => exact ⟨σ', H', J'.ofTry ok, q⟩
    | .cont, ⟨σ', H', J', q⟩ => exact ⟨σ', H', J'.ofTry ok, q⟩
    | .ret u, ⟨v, σ', H', J', r, q⟩ => exact ⟨v, σ', H', J'.ofTry ok, r, q⟩
end Du

set_option Elab.async false
set_option linter.all false
set_option maxRecDepth 100000
set_option maxHeartbeats 1000000
namespace Du
open PySem PySem.Spec PyProof.Rows L2
open L2N (Zn)
/-- an error class with one field, by its making -/
structure Err (P : Program) (w : World) (K : PySem.W.Frag) (mg : Str → Option Value) (x fld : Str) (C : Addr) : Prop where
  gC : mg x = some (.ref C)
  kC : PySem.W.keepIn K (.ref C) = true
  exC : PySem.W.subIn K (.ref C) (.type "BaseException") = some true
  tyC : PySem.W.typeIn K (.ref C) = some (.type "type")
  ga : PySem.W.findIn K (.ref C) "__getattribute__" = some (some (.builtin "BaseException.__getattribute__"))
  gg : PySem.W.findIn K (.ref C) "__getattr__" = some none
  noN : PySem.W.findIn K (.ref C) fld = some none
  hdC : PySem.W.hasDictIn K C = true
  made : ∀ {A : Around} {R : Result → Shared → Prop} {s : Shared} {mb : Str → Option Value} {v : Value}, K.In s.heap → s.heap.NoLimit → s.heap.Ns mainGlobals mg → s.heap.Ns builtinsNs mb → (∀ y : Str, y ≠ "__name__" → mb y = bootBuiltins y) → A.depth + 1 < recursionLimit →
    (∀ h' tk e d, ErrMade s.heap h' e C d fld v → R (.ok (.ret (.ref e))) { s with heap := h', toks := tk }) → codeAny (model P w) A (.call (.ref C) ⟨[v], []⟩) R s
theorem relO_fld {v : V} {u : Value} {fld : Str} (r : RelV v u) (f : Str) : RelO (List.lookup f [(fld, v)]) (if f = fld then some u else none) := by
  by_cases h : f = fld
  · subst h
    rw [if_pos rfl, show List.lookup f [(f, v)] = some v by simp [List.lookup]]
    exact r
  · have e : (f == fld) = false := by simpa using h
    rw [if_neg h, show List.lookup f [(fld, v)] = none by simp [List.lookup, e]]
    trivial
def tMkErr (C : Addr) (fld : Str) (ta : TA) : L2.St → Hp → XK → Prop := fun σ H Q => ta σ H fun vs H1 => ∃ v, vs = [v] ∧ ∀ d, H1 d = none → Q (.ref C) (some d) (upd H1 d (.xd [(fld, v)]))
theorem pmk_err {X : Cx} {C : Addr} {x fld : Str} {a : Expr} {ta : TA} {p pos : Pos} {k : Nat} (T : Err X.prog X.w X.K X.mg x fld C) (hr : Room k X.A) (hg : Gl X x) (ha : PA X [a] ta) (hdb : (x == ("__debug__" : Str)) = false := by decide)
    (he : starEach (a :: []) X.env = (false, eval a X.env) :: starEach [] X.env := by rfl) (hpl : (backTo pos (starEach [] X.env)).any (·.1) = false := by rfl) : L2N.PMk X (.Call (.Name x p) [a] [] pos) (tMkErr C fld ta) := by
  intro pins s σ H Q I h
  refine wpAny_Call_Name_kw (ld_glob I hg T.gC (PySem.W.callWith_K (h₀ := X.base) I.ok.mod.kin T.kC (thn (ha.run pos pins s σ H _ I h) fun us s1 hh => ?_) he hpl) hdb)
  obtain ⟨vs, H1, I1, r1, v, rfl, q1⟩ := hh
  obtain ⟨v', rfl, rv⟩ := vals1 r1
  refine ⟨I1.kIn, ?_⟩
  obtain ⟨mb, hb, hbb⟩ := I1.ok.mod.blt
  have hlim := I1.nolimit
  have G := I1.ok.mod.glob.keeps I1.bk
  have B := hb.keeps I1.bk
  show wpAny _ _ (call (.ref C) [v']) _ _ _
  refine wpAny_call (T.made I1.kIn hlim G B hbb (by have := hr.dp; omega) fun h' tk' e d M => ?_)
  obtain ⟨hp, g, dr, tk, os⟩ := s1
  show L2N.MkP X pins σ Q (.ref e) ⟨h', g, dr, tk', os⟩
  obtain ⟨oe, fv, hoe, hc, hd, hdat, h1, h2⟩ := M.obj
  obtain ⟨G', g1, g2⟩ := restrict h' fun b => decide (b ≠ e)
  have gk : ∀ b, b ≠ e → G'.get? b = h'.get? b := fun b hb => g1 b (decide_eq_true hb)
  have ge : G'.get? e = none := g2 e (by simp)
  have old : ∀ b o, hp.get? b = some o → G'.get? b = some o := fun b o q => (gk b (Nat.ne_of_lt (Nat.lt_of_lt_of_le (Heap.lt_size q) M.new))).trans (M.keep b o q)
  have J : Inv X pins σ (upd H1 d (.xd [(fld, v)])) ⟨G', g, dr, tk', os⟩ := I1.laid (t' := tk') old M.dbig ⟨_, M.ns.at (fun o q => (gk d M.dne).trans q), fun f => relO_fld rv f⟩
  refine ⟨e, oe, fv, ⟨G', g, dr, tk', os⟩, _, .ref C, some d, rfl, J, fun b o q => ?_, ge, hoe, ⟨hc, hd, fun vs ev => ?_⟩, hdat, h1, ?_, rfl, I1.bare, raises_own T.exC T.tyC, q1 d (I1.hok.fresh M.dbig)⟩
  · by_cases hb : b = e
    · rw [hb] at q
      cases ge.symm.trans q
    · exact (gk b hb).symm.trans q
  · cases hdat.symm.trans ev
    exact h2
  · rw [upd_ne (Ne.symm M.dne)]
    exact I1.hok.fresh M.new
/-- raise X(e) -/
theorem ps_raiseErr {X : Cx} {C : Addr} {x fld : Str} {a : Expr} {ta : TA} {W : WX} {p pos pos2 : Pos} {k : Nat} (hc : X.calm = true) (T : Err X.prog X.w X.K X.mg x fld C) (hr : Room k X.A) (tk : L2N.Takes X W) (hg : Gl X x) (ha : PA X [a] ta) (hdb : (x == ("__debug__" : Str)) = false := by decide)
    (he : starEach (a :: []) X.env = (false, eval a X.env) :: starEach [] X.env := by rfl) (hpl : (backTo pos (starEach [] X.env)).any (·.1) = false := by rfl) :
    PS X (.Raise (some (.Call (.Name x p) [a] [] pos)) none pos2) (fun _ σ H => tMkErr C fld ta σ H fun cls d H' => W cls d σ H') := L2N.ps_raise hc tk (pmk_err T hr hg ha hdb he hpl)
theorem err_of {P : Program} {w : World} {K : PySem.W.Frag} {mg : Str → Option Value} {x qual : Str} {C fI : Addr} (T : ErrC P K mg x "part" qual sNoTask C fI) : Err P w K mg x "part" C :=
  ⟨T.gC, T.kC, T.exC, T.tyC, T.ga, T.gg, T.noN, T.hdC, fun X l G B hb hr q => made_NoTask T X l G B hb hr q⟩
end Du

set_option Elab.async false
set_option linter.all false
set_option maxRecDepth 100000
set_option maxHeartbeats 1000000
namespace Du
open PySem PySem.Spec PyProof.Rows L2
open L2N (Zn)
open L2H (RoomH Hot1 PinOk cxH inv_startH roomH_of)
/-- what isinstance asks of an error's class -/
structure ErrI (K : PySem.W.Frag) (C : Addr) : Prop where
  ga : PySem.W.findIn K (.ref C) "__getattribute__" = some (some (.builtin "BaseException.__getattribute__"))
  gg : PySem.W.findIn K (.ref C) "__getattr__" = some none
  exC : PySem.W.subIn K (.ref C) (.type "BaseException") = some true
  hdC : PySem.W.hasDictIn K C = true
  ha : PySem.W.findIn K (.ref C) "__class__" = some (some (.builtin "object.__class__"))
  hn : PySem.W.specialIn K (.builtin "object.__class__") "__get__" = some (some (.builtin "getset_descriptor.__get__"))
  ht : PySem.W.takesIn K (.builtin "object.__class__") = some true
  hm : PySem.W.mroIn K C (.type "object") = some true
/-- a pinned error with its dict -/
theorem err_at {X : Cx} {pins : List (Addr × Obj)} {σ : L2.St} {H : Hp} {s : Shared} {a C dd : Addr} {oe : Obj} {fs : List (Str × V)} (hp : (a, oe) ∈ X.pn) (hz : Zn (.ref C) (some dd) oe) (hf : ∃ vs, oe.data = .fields vs) (I : Inv X pins σ H s) (hd : H dd = some (.xd fs)) :
    ∃ (od : Obj) (mA : Str → Option Value), PySem.W.InstAt s.heap a oe C (some od) ∧ (∀ f, RelO (fs.lookup f) (mA f)) ∧ ∀ f, PySem.W.lookIn f od = some (mA f) := by
  obtain ⟨ha, _⟩ := I.pin (a, oe) (List.mem_append_left _ hp)
  obtain ⟨vs, hv⟩ := hf
  obtain ⟨mA, hns, hr⟩ := (show ObjOk X.prog X.w H s.heap dd (.xd fs) from I.hok dd _ hd)
  obtain ⟨od, ho, hl⟩ := lookIn_ns hns
  exact ⟨od, mA, ⟨ha, hz.1, by unfold PySem.W.notCls; rw [hv] <;> rfl, by rw [hz.2.1]; exact ho⟩, hr, hl⟩
/-- isinstance(e, c), isinstance(e, (c, ..)), e a pinned error -/
def rIsX (K : PySem.W.Frag) (C a dd : Addr) : List V → Hp → VK → Prop := fun xs H Q => ∃ fs : List (Str × V), H dd = some (.xd fs) ∧
  ((∃ (c : V) (cv : Value) (b : Bool), xs = [.ref a, c] ∧ ClsV c cv ∧ PySem.W.kitOne K (.ref C) cv = some b ∧ Q (.bl b) H) ∨ (∃ (tp : Addr) (cs : List V) (us : List Value) (b : Bool), xs = [.ref a, .ref tp] ∧ H tp = some (.tup cs) ∧ Paired ClsV cs us ∧ PySem.W.kitAny K (.ref C) us = some b ∧ Q (.bl b) H))
theorem call_isX {X : Cx} {a C dd : Addr} {oe : Obj} (T : ErrI X.K C) (hp : (a, oe) ∈ X.pn) (hz : Zn (.ref C) (some dd) oe) (hf : ∃ vs, oe.data = .fields vs) : CallR X (.builtin "isinstance") (rIsX X.K C a dd) := by
  intro pins s σ H xs us Q I r h
  obtain ⟨fs, hd, h⟩ := h
  obtain ⟨od, mA, J, _, _⟩ := err_at hp hz hf I hd
  have Z := PySem.W.kitx_exc (x := a) (ox := oe) (od := some od) (by obtain ⟨cd, hc, _⟩ := PySem.W.any_some T.hdC; rw [hc]; rfl) T.ga T.gg T.exC T.ha T.hn T.ht T.hm
  rcases h with ⟨c, cv, b, rfl, k, e, q⟩ | ⟨tp, cs, ws, b, rfl, hT, k, e, q⟩
  · obtain ⟨u1, u2, rfl, r1, r2⟩ := vals2 r
    cases (show u1 = Value.ref a from r1)
    cases k.eq r2
    exact PySem.W.kia_one Z I.kIn J e (fun z => nomatch z) fun tk => ⟨.bl b, H, I.tok tk, rfl, q⟩
  · obtain ⟨u1, u2, rfl, r1, r2⟩ := vals2 r
    cases (show u1 = Value.ref a from r1)
    cases (show u2 = Value.ref tp from r2)
    obtain ⟨_, its, rv, ⟨oc, odd, dt, sl⟩, h1, h2, n, h3⟩ := (show ObjOk X.prog X.w H s.heap tp (.tup cs) from I.hok tp _ hT)
    cases ClsV.all k rv
    simp only at h2 h3
    subst h2 h3
    exact PySem.W.kia_tup Z I.kIn J h1 e (fun z => nomatch z) fun tk => ⟨.bl b, H, I.tok tk, rfl, q⟩
/-- e.fld, e a pinned error -/
theorem pe_fldX {X : Cx} {a C dd : Addr} {oe : Obj} {fld : Str} {e : Expr} {te : TE} {pos : Pos} (T : ErrI X.K C) (hno : PySem.W.findIn X.K (.ref C) fld = some none) (hp : (a, oe) ∈ X.pn) (hz : Zn (.ref C) (some dd) oe) (hf : ∃ vs, oe.data = .fields vs) (he : PE X e te)
    (hb : attributeBase e fld X.env (eval e X.env) = eval e X.env := by rfl) : PE X (.Attribute e fld pos) (fun σ H Q => te σ H fun x H1 => x = .ref a ∧ ∃ (fs : List (Str × V)) (v : V), H1 dd = some (.xd fs) ∧ fs.lookup fld = some v ∧ Q v H1) := by
  refine ⟨fun pins s σ H Q I h => attr_of hb (thn (he.run pins s σ H _ I h) fun u s1 hh => ?_)⟩
  obtain ⟨x, H1, I1, rx, rfl, fs, v, hd, hl, q⟩ := hh
  cases (show u = Value.ref a from rx)
  obtain ⟨od, mA, J, hr, hlk⟩ := err_at hp hz hf I1 hd
  obtain ⟨u, hu, ru⟩ := RelO.some_of (v := v) (o := mA fld) (by rw [← hl]; exact hr fld)
  exact HandSPX.exc_get I1.kIn J T.ga T.gg T.exC (PySem.W.findObj_own T.hdC hno rfl (by rw [hlk, hu])) (handed_of ru) ⟨v, H1, I1.tok _, ru, q⟩
/-! a def that is handed the error that is being handled -/
structure FnE (P : Program) (w : World) (K : PySem.W.Frag) (mg : Str → Option Value) (base : Heap) (k : Nat) (f : Addr) (fd : FuncData) (ps : List Str) (sp : Addr × Obj → Sp) : Prop where
  len : ∀ p vs H Q, sp p vs H Q E0 → vs.length = ps.length
  run : ∀ (A : Around) (outer : List Env) (s : Shared) (H : Hp) (args : Args) (us : List Value) (vs : List V) (Q : VK) (p : Addr × Obj), RoomH k A → Hot1 A p → PinOk outer H s p → Env0 P w K mg base A outer s H → BindsTo s fd args (ps.zip us) → Vals vs us → sp p vs H Q E0 →
    codeAny (model P w) A (.call (.ref f) args) (CR CX0 outer P w H s Q E0) s
theorem fnE_of {P : Program} {w : World} {K : PySem.W.Frag} {mg : Str → Option Value} {base : Heap} {k : Nat} {x qual : Str} {st : Stmt} {f : Addr} {fd : FuncData} {N ps : List Str} {sp : Addr × Obj → Sp} (F : Fun K x qual st f fd) (S : FnScope N ps (defScope st)) (len : ∀ p vs H Q, sp p vs H Q E0 → vs.length = ps.length)
    (hbody : ∀ (cdv : Value) (A : Around) (outer : List Env) (s : Shared) (H : Hp) (vs : List V) (Q : VK) (p : Addr × Obj), Hot1 A p → RoomH k (A.deeper (envOfC qual (defScope st) s.heap.objs.size f cdv)) → sp p vs H Q E0 →
      ∃ t, PSs (cxH CX0 P w K mg base N qual (defScope st) f cdv A outer s H E0 p).nox (defBody st) t ∧ t { nx := fun _ H' => Q .non H', rt := Q } (L2.start N vs) H) : FnE P w K mg base (k + 1) f fd ps sp := by
  obtain ⟨oc, od, kV, doc, pm, an, cdv, ct, osl, rfl, lk, hcd⟩ := F.ex
  refine ⟨len, fun A outer s H args us vs Q p hr hot hpin e0 hb r hsp => ?_⟩
  have kept := fun b o e => (e0.bs b o e).1
  have KX : K.In s.heap := e0.mod.kin.keeps kept
  refine codeAny_call_function hr.depth (KX _ _ lk) rfl S.co S.gen rfl (PySem.W.codeRec_of KX hcd) (hb _ _ _ _ (wpAny_newFunctionEnv_cells S.kind (fun y hy => (S.par y.1 (List.of_mem_zip hy).1).imp id fun q => ⟨q, PySem.W.cellsFrom_some _ _ _ (.inl q)⟩) fun env he s1 x => ?_))
  subst he
  obtain ⟨t, ht, hq⟩ := hbody cdv A outer s H vs Q p hot (hr.deeper _) hsp
  have I := inv_startH (CX := CX0) (E := E0) S hpin e0 (len p vs H Q hsp) r x
  refine ⟨(e0.mod.nolimit.keeps kept).keeps x.toInCall.keep, codeAny_func (wpAny_mono (ht.nox.run [] s1 _ H _ I hq) (fun fl s' hs => ?_) fun _ _ z => z)⟩
  match fl, hs with
  | .ret u, ⟨v, σ', H', J, rv, q⟩ => exact ⟨v, H', J.os, J.bare, J.base, J.hok, rv, q⟩
  | .next, ⟨σ', H', J, q⟩ => exact ⟨V.non, H', J.os, J.bare, J.base, J.hok, rfl, q⟩
  | .brk, ⟨_, _, _, q⟩ => exact q.elim
  | .cont, ⟨_, _, _, q⟩ => exact q.elim
/-- f(e), e the error that is being handled -/
theorem pe_callE {X : Cx} {k : Nat} {f : Addr} {fd : FuncData} {ps : List Str} {sp : Addr × Obj → Sp} {x : Str} {q pos : Pos} {e : Expr} {es : List Expr} {t : TA} {p : Addr × Obj} (F : FnE X.prog X.w X.K X.mg X.base k f fd ps sp) (hr : RoomH k X.A) (hot : Hot1 X.A p) (hp : p ∈ X.pn) (hg : Gl X x) (hm : X.mg x = some (.ref f))
    (hk : PySem.W.keepIn X.K (.ref f) = true) (hb : Binds X.K fd ps []) (ha : PA X (e :: es) t) (hdb : (x == ("__debug__" : Str)) = false := by decide) (he : starEach (e :: es) X.env = (false, eval e X.env) :: starEach es X.env := by rfl) (hpl : (backTo pos (starEach es X.env)).any (·.1) = false := by rfl) :
    PE X (.Call (.Name x q) (e :: es) [] pos) (fun σ H Q => t σ H fun vs H1 => sp p vs H1 Q E0) := by
  refine ⟨fun pins s σ H Q I h => wpAny_Call_Name_kw (ld_glob I hg hm (PySem.W.callWith_K (h₀ := X.base) I.ok.mod.kin hk (thn (ha.run pos pins s σ H _ I h) fun us s1 ⟨vs, H1, I1, r, q⟩ => ⟨I1.kIn, ?_⟩) he hpl) hdb)⟩
  have b := hb s1 us I1.kIn (by rw [List.append_nil, ← r.length]; exact F.len _ _ _ _ q)
  rw [List.append_nil] at b
  have P1 := I1.pin p (List.mem_append_left _ hp)
  refine wpAny_call (codeAny_mono (F.run X.A X.stack s1 H1 ⟨us, []⟩ us vs Q p hr hot ⟨P1.1, P1.2.1, fun m => (List.mem_cons.mp (I1.stkSub p.1 m)).elim P1.2.2.1 P1.2.2.2.1, P1.2.2.2.2⟩ I1.env0 b r q) fun z s' hq => ?_)
  match z, hq with
  | .error _, hq => exact hq.elim
  | .ok (.ret u), hq => exact I1.after hq
  | .ok .next, hq => exact hq.elim
  | .ok .brk, hq => exact hq.elim
  | .ok .cont, hq => exact hq.elim
end Du

set_option Elab.async false
set_option linter.all false
set_option maxRecDepth 100000
set_option maxHeartbeats 1000000
namespace Du
open PySem L2 PyProof.Rows
section
variable {X : Cx} {k : Nat} {f C : Addr} {fd : FuncData} {ps : List Str} {sp : Sp}
/-- what an own __repr__ promises of the object at a: the text t -/
def ReprSp (sp : Sp) (H0 : Hp) (a : Addr) (t : Str) : Prop := ∀ H, Same H0 H → ∀ Q : VK, (∀ H', Same H H' → Q (.str t) H') → sp [.ref a] H Q E0
/-- a class with an own __repr__ -/
structure OwnR (P : Program) (w : World) (K : PySem.W.Frag) (mg : Str → Option Value) (base : Heap) (k : Nat) (C : Addr) (sp : Sp) : Prop where
  ex : ∃ (f : Addr) (fd : FuncData) (ps : List Str), FnOk P w K mg base CX0 k f fd ps sp ∧ Binds K fd ps [] ∧ PySem.W.findIn K (.ref C) "__repr__" = some (some (.ref f)) ∧ PySem.W.isFn K (.ref f) = true
/-- repr(x), x of an own class -/
theorem call_reprO (R : OwnR X.prog X.w X.K X.mg X.base k C sp) (hr : Room (k + 1) X.A) : CallR X (.builtin "repr") (fun xs H Q => ∃ (a dx : Addr) (fs : List (Str × V)) (t : Str), xs = [.ref a] ∧ H a = some (.ins C dx fs) ∧ ReprSp sp H a t ∧ ∀ H', Same H H' → Q (.str t) H') := by
  obtain ⟨f, fd, ps, F, hb, hs, hf⟩ := R.ex
  intro pins s σ H xs us Q I r h
  obtain ⟨a, dx, fs, t, rfl, ha, hsp, q⟩ := h
  obtain ⟨u, rfl, ru⟩ := vals1 r
  cases ru
  obtain ⟨mA, J, _⟩ := ins_get I.hok ha
  obtain ⟨od, J, _⟩ := J.look
  obtain ⟨m, hF⟩ := I.fr
  refine PySem.W.repr_K (by have := hr.un; show X.A.units + 1 < cLine; omega) hF I.ok.mod.kin J hs hf (wpAny_mono (own_call F hb ⟨hr.in1, rfl⟩ I (vs := [.ref a]) (Q := fun v H' => v = .str t ∧ Q (.str t) H') (.cons rfl .nil) (hsp H (Same.refl _) _ fun H' s' => ⟨rfl, q H' s'⟩)) (fun v s' q => ?_) fun _ _ z => z)
  obtain ⟨z, H', I', rz, rfl, q⟩ := q
  obtain ⟨tk, rfl⟩ := rz
  exact ⟨.str t, H', I', ⟨_, rfl⟩, q⟩
/-- v is shown as t by repr, whatever else is being shown -/
def SItem (X : Cx) (n : Nat) (H0 : Hp) (v : V) (t : Str) : Prop := ∀ (A : Around) (g : List Code) (pins : List (Addr × Obj)) (σ : L2.St) (s : Shared) (H : Hp) (u : Value) (Q : Str → Shared → Prop) (base : Nat), A.guards = some g → (∀ b, v = .ref b → Clear g b) → Same H0 H → base + t.length ≤ sizeLine → Sub X n A → Inv X pins σ H s → RelV v u →
  (∀ s' H', Same H H' → Inv X pins σ H' s' → Q t s') → wpAny (model X.prog X.w) A (pyReprUnder base u) Q X.xe s
theorem SItem.of_is {n : Nat} {H0 : Hp} {v : V} {t : Str} (h : ∀ u, RelV v u → ReprIs X.prog X.w u t) : SItem X n H0 v t := fun A g pins σ s H u Q base _ _ _ hb _ I r q => h u r base hb A X.xe s Q fun tk => q _ H (Same.refl _) (I.tok tk)
theorem SItem.int {n : Nat} {H0 : Hp} {i : Int} (h : i.natAbs.log2 < 1920) : SItem X n H0 (.int i) (toString i) := .of_is fun u r => by
  obtain ⟨t, rfl⟩ := r
  exact ReprIs.int t h
theorem SItem.str {n : Nat} {H0 : Hp} {z : Str} (h : (reprText z).length ≤ sizeLine) : SItem X n H0 (.str z) (reprText z) := .of_is fun u r => by
  obtain ⟨t, rfl⟩ := r
  exact ReprIs.str z t h
theorem SItem.bl {n : Nat} {H0 : Hp} {b : Bool} : SItem X n H0 (.bl b) (if b then "True" else "False") := .of_is fun u r => by
  cases r
  exact ReprIs.bool b
theorem SItem.non {n : Nat} {H0 : Hp} : SItem X n H0 .non "None" := .of_is fun u r => by
  cases r
  exact ReprIs.none
theorem SItem.own {H0 : Hp} {a dx : Addr} {fs : List (Str × V)} {t : Str} (R : OwnR X.prog X.w X.K X.mg X.base k C sp) (ha : H0 a = some (.ins C dx fs)) (hsp : ReprSp sp H0 a t) : SItem X k H0 (.ref a) t := by
  obtain ⟨f, fd, ps, F, hb, hs, hf⟩ := R.ex
  intro A g pins σ s H u Q base _ _ s0 hbase sb I r q
  cases (show u = Value.ref a from r)
  obtain ⟨mA, J, _⟩ := ins_get I.hok (s0 _ _ ha)
  obtain ⟨od, J, _⟩ := J.look
  have hu : A.units < cLine := by have := sb.room.un; omega
  refine wpAny_pyReprUnder_ref (by omega) ?_
  unfold pyReprObjUnder pyReprObjBy
  refine wpAny_bind (wpAny_cRoomFor hu (wpAny_bind (wpAny_bind (J.type.here ((PySem.W.looks_findIn I.kIn hs).here ?_)))))
  show wpAny _ _ (if (some (Value.ref f)).isNone = true then _ else _) _ _ _
  rw [if_neg (by simp)]
  have go : wpAny (model X.prog X.w) A (call (.ref f) [.ref a]) (fun v s' => ∃ tk, v = .str t tk ∧ Q t s') X.xe s := wpAny_mono (own_call F hb sb I (vs := [.ref a]) (Q := fun v H' => v = .str t ∧ Same H H') (.cons rfl .nil) (hsp H s0 _ fun H' s' => ⟨rfl, s'⟩)) (fun v s' z => by
    obtain ⟨z, H', I', rz, rfl, sm⟩ := z
    obtain ⟨tk, rfl⟩ := rz
    exact ⟨tk, rfl, q s' H' sm I'⟩) fun _ _ z => z
  refine wpAny_bind (m := callSpecialIfBoundBy? _ (.ref a) (Str.ofString "__repr__")) ?_
  simp only [callSpecialIfBoundBy?, bindSpecialIfBound?]
  refine wpAny_holding (wpAny_bind (wpAny_bind (wpAny_bind (J.type.here ((PySem.W.looks_findIn I.kIn hs).here (wpAny_bind (wpAny_askSetting (wpAny_ite ?_))))))))
  have fin : wpAny (model X.prog X.w) A (call (.ref f) ([.ref a] ++ []) >>= fun v => pure (some v)) (fun r s' => wpAny (model X.prog X.w) A (match r with
      | some r => do
        if ← isInstance r (.type "str") then pure r else raiseError "TypeError" s!"__repr__ returned non-string (type {← typeNameOf r})"
      | none => unsupported "repr:special-get-raises") (fun v s' => ∃ x u, v = .str x u ∧ Q x s') X.xe s') X.xe s := by
    refine wpAny_bind (wpAny_mono go (fun v s' z => ?_) fun _ _ z => z)
    obtain ⟨tk, rfl, q'⟩ := z
    exact wpAny_pure (wpAny_bind (wpAny_isInstance (T := "str") (b := true) rfl isSubtype_str_str (wpAny_pure ⟨t, tk, rfl, q'⟩)))
  split
  · exact wpAny_bind ((PySem.W.bind_fn I.kIn _ (beq_iff_eq.mp hf)).here (wpAny_pure (by exact fin)))
  · exact wpAny_tryCatch (wpAny_bind ((PySem.W.bind_fn I.kIn _ (beq_iff_eq.mp hf)).here (wpAny_pure (by exact fin))))
/-- item by item -/
inductive SItems (X : Cx) (n : Nat) (H : Hp) : List V → List Str → Prop
  | nil : SItems X n H [] []
  | cons {v : V} {t : Str} {vs : List V} {ts : List Str} : SItem X n H v t → SItems X n H vs ts → SItems X n H (v :: vs) (t :: ts)
theorem SItems.len {n : Nat} {H : Hp} {vs : List V} {ts : List Str} (h : SItems X n H vs ts) : ts.length = vs.length := by
  induction h with
  | nil => rfl
  | cons _ _ ih => simp [ih]
theorem tupFoldJ {n : Nat} {H0 : Hp} {A : Around} {g : List Code} {pins : List (Addr × Obj)} {σ : L2.St} (sb : Sub X n A) (hg : A.guards = some g) : ∀ (vs : List V) (ts : List Str) (us : List Value) (acc : Array Str) (m : Nat) (s : Shared) (H : Hp) (Q : (Array Str × Nat) → Shared → Prop), SItems X n H0 vs ts → (∀ v ∈ vs, ∀ b, v = .ref b → Clear g b) → Vals vs us → Same H0 H → Inv X pins σ H s → m + piled ts ≤ sizeLine →
    (∀ s' H', Same H H' → Inv X pins σ H' s' → Q ⟨acc ++ ts.toArray, m + piled ts⟩ s') → wpAny (model X.prog X.w) A (forIn us (⟨acc, m⟩ : (Array Str × Nat)) tupBody) Q X.xe s := by
  intro vs
  induction vs with
  | nil =>
    intro ts us acc m s H Q hT _ hv _ I hn q
    cases hT
    cases hv
    rw [List.forIn_nil]
    exact wpAny_pure (by simpa [piled] using q s H (Same.refl _) I)
  | cons v vs ih =>
    intro ts us acc m s H Q hT hc hv s0 I hn q
    cases hT with
    | cons hx hl =>
      rename_i t ts'
      cases hv with
      | cons r rs =>
        rw [piled_cons] at hn
        rw [List.forIn_cons]
        refine wpAny_bind (wpAny_bind (hx A g pins σ s H _ _ (m + 1) hg (hc v List.mem_cons_self) s0 (by omega) sb I r fun s' H' sm I' => wpAny_pure ?_))
        refine ih ts' _ (acc.push t) (m + (t.length + 2)) s' H' Q hl (fun v hv => hc v (List.mem_cons_of_mem _ hv)) rs (s0.trans sm) I' (by omega) fun s2 H2 sm2 I2 => ?_
        have e : m + piled (t :: ts') = m + (t.length + 2) + piled ts' := by
          rw [piled_cons]
          omega
        have q' := q s2 H2 (sm.trans sm2) I2
        rw [e] at q'
        simpa using q'
/-- repr of a tuple, shown item by item, where nothing is being shown -/
theorem call_reprT {n : Nat} (hg : X.A.guards = some []) (hr : Room (n + 2) X.A) : CallR X (.builtin "repr") (fun xs H Q => ∃ (a : Addr) (vs : List V) (ts : List Str), xs = [.ref a] ∧ H a = some (.tup vs) ∧ SItems X n H vs ts ∧ (∀ v ∈ vs, v ≠ .ref a) ∧ (tupleText ts).length ≤ sizeLine ∧ ∀ H', Same H H' → Q (.str (tupleText ts)) H') := by
  intro pins s σ H xs us Q I r h
  obtain ⟨a, vs, ts, rfl, ha, hT, hne, hz, q⟩ := h
  obtain ⟨u, rfl, ru⟩ := vals1 r
  cases ru
  obtain ⟨_, its, rv, ⟨oc, odd, dt, sl⟩, h1, h2, m, h3⟩ := (show ObjOk X.prog X.w H s.heap a (.tup vs) from I.hok a _ ha)
  simp only at h2 h3
  subst h2 h3
  have hTy : s.TypeIs (.ref a) "tuple" := ⟨_, h1, rfl⟩
  have hun := hr.un
  have hp := piled_le_tupleText ts
  have hlen : ts.length = its.length := hT.len.trans rv.length
  refine call_repr_slot (by omega) hTy F.slot_tuple_repr ?_
  refine wpAny_call (codeAny_call_builtin_own (Code.quiet_builtin _ (by decide +kernel)) F.entry_tuple_repr (F.slot_tuple_repr.check _ _ _ _ _ _ _ _ hTy (F.args_tuple_repr_1 _) ?_))
  show wpOwn _ _ _ (Builtin.tupleReprAt 0 ⟨[.ref a], []⟩) _ _ _
  rw [tuple_repr_tree, tupleReprUnderWay_eq]
  refine wpOwn_bind (wpOwn_stackTailAny (A := X.A.in1) hg (tupGuardF_off _) (tupGuardF_pos _) (wpOwn_of_wpAny ?_))
  show wpAny _ _ (tupleReprRest 0 (.ref a)) _ _ s
  unfold tupleReprRest Builtin.Tuple.tupleItemsOf
  refine wpAny_bind (wpAny_bind (wpAny_seqItems h1 rfl (wpAny_pure ?_)))
  rw [← Array.forIn_toList]
  have sb : Sub X n (X.A.in1.under (.builtin "tuple.__repr__" ⟨[.ref a], []⟩)) := by
    refine ⟨⟨hr.hd, ?_, ?_⟩, rfl⟩
    · have := hr.dp
      have hw : (Code.builtin "tuple.__repr__" ⟨[.ref a], []⟩).weight = 1 := by first | rfl | (show 0 + 0 + (if (Code.builtin "tuple.__repr__" ⟨[.ref a], []⟩).isGuard then 1 else 0) + 0 = 1; rw [isGuard_tuple_repr]; rfl)
      show X.A.depth + (Code.builtin "tuple.__repr__" ⟨[.ref a], []⟩).weight + 3 * n + 5 < _
      omega
    · rw [units_under_tuple_repr]
      show X.A.units + 1 + 1 + 16 * n + 200 < _
      omega
  refine wpAny_bind (tupFoldJ sb (guards_under_guard (isGuard_tuple_repr _) hg) vs ts _ _ _ s H _ hT (fun v hv b e => (Clear.nil b).cons (a := a) fun z => hne v hv (by rw [e, z])) rv (Same.refl _) I (by omega) fun s' H' sm I' => ?_)
  refine wpAny_bind (wpAny_mkStr (wpAny_pure ?_) (by simpa [tupleText, hlen] using hz))
  have q' := q H' sm
  refine ⟨_, _, rfl, .str (tupleText ts), H', I'.tok _, ⟨s'.toks, ?_⟩, q'⟩
  simp [tupleText, hlen]
end
end Du

set_option Elab.async false
set_option linter.all false
set_option maxRecDepth 100000
set_option maxHeartbeats 1000000
namespace Du
open PySem L2 PyProof.Rows
/-- what is shown whatever else is being shown: as t -/
inductive It (P : Program) (w : World) (K : PySem.W.Frag) (mg : Str → Option Value) (base : Heap) (n : Nat) (H : Hp) : V → Str → Prop
  | non : It P w K mg base n H .non "None"
  | bl (b : Bool) : It P w K mg base n H (.bl b) (if b then "True" else "False")
  | int (i : Int) : i.natAbs.log2 < 1920 → It P w K mg base n H (.int i) (toString i)
  | str (z : Str) : (reprText z).length ≤ sizeLine → It P w K mg base n H (.str z) (reprText z)
  | own {C a dx : Addr} {k : Nat} {sp : Sp} {fs : List (Str × V)} {t : Str} : OwnR P w K mg base k C sp → k ≤ n → H a = some (.ins C dx fs) → ReprSp sp H a t → It P w K mg base n H (.ref a) t
  | emp {a : Addr} : H a = some (.dK []) → It P w K mg base n H (.ref a) "{}"
inductive Its (P : Program) (w : World) (K : PySem.W.Frag) (mg : Str → Option Value) (base : Heap) (n : Nat) (H : Hp) : List V → List Str → Prop
  | nil : Its P w K mg base n H [] []
  | cons {v : V} {t : Str} {vs : List V} {ts : List Str} : It P w K mg base n H v t → Its P w K mg base n H vs ts → Its P w K mg base n H (v :: vs) (t :: ts)
/-- v is shown as t by repr -/
inductive Sh (P : Program) (w : World) (K : PySem.W.Frag) (mg : Str → Option Value) (base : Heap) (n : Nat) (H : Hp) : V → Str → Prop
  | it {v : V} {t : Str} : It P w K mg base n H v t → Sh P w K mg base n H v t
  | dat {a : Addr} {d : PyData} : Dp K H (.ref a) d → d.showable = true → d.hasDict = false → d.depth ≤ 64 → d.shown.length ≤ sizeLine → Sh P w K mg base n H (.ref a) d.shown
  | tup {a : Addr} {vs : List V} {ts : List Str} : H a = some (.tup vs) → Its P w K mg base n H vs ts → (∀ v ∈ vs, v ≠ .ref a) → (tupleText ts).length ≤ sizeLine → Sh P w K mg base n H (.ref a) (tupleText ts)
section
variable {P : Program} {w : World} {K : PySem.W.Frag} {mg : Str → Option Value} {base : Heap} {n : Nat} {H H' : Hp} {v : V} {t : Str}
theorem ReprSp.same {sp : Sp} {a : Addr} (h : ReprSp sp H a t) (s : Same H H') : ReprSp sp H' a t := fun H2 s2 => h H2 (s.trans s2)
theorem It.same (h : It P w K mg base n H v t) (s : Same H H') : It P w K mg base n H' v t := by
  cases h with
  | non => exact .non
  | bl b => exact .bl b
  | int i h => exact .int i h
  | str z h => exact .str z h
  | own R hk ha hs => exact .own R hk (s _ _ ha) (hs.same s)
  | emp h => exact .emp (s _ _ h)
theorem Its.same {vs : List V} {ts : List Str} (h : Its P w K mg base n H vs ts) (s : Same H H') : Its P w K mg base n H' vs ts := by
  induction h with
  | nil => exact .nil
  | cons h _ ih => exact .cons (h.same s) ih
mutual
theorem dp_same (s : Same H H') : ∀ (d : PyData) (v : V), Dp K H v d → Dp K H' v d
  | .none, _, h => by cases h; exact .non
  | .bool _, _, h => by cases h; exact .bl _
  | .int _, _, h => by cases h; exact .int _
  | .str _, _, h => by cases h; exact .str _
  | .list ds, _, h => by
    cases h with
    | lst q a => exact .lst (q.ext s) (dps_same s ds _ a)
  | .tuple ds, _, h => by
    cases h with
    | tup q a => exact .tup (q.ext s) (dps_same s ds _ a)
  | .dict _, _, h => nomatch h
theorem dps_same (s : Same H H') : ∀ (ds : List PyData) (vs : List V), DpAll K H vs ds → DpAll K H' vs ds
  | [], _, h => by cases h; exact .nil
  | d :: ds, _, h => by
    cases h with
    | cons h1 h2 => exact .cons (dp_same s d _ h1) (dps_same s ds _ h2)
end
theorem Sh.same (h : Sh P w K mg base n H v t) (s : Same H H') : Sh P w K mg base n H' v t := by
  cases h with
  | it h => exact .it (h.same s)
  | dat h a b c d => exact .dat (dp_same s _ _ h) a b c d
  | tup h i a b => exact .tup (s _ _ h) (i.same s) a b
end
section
variable {X : Cx} {n : Nat} {H : Hp} {v : V} {t : Str}
theorem emp_reprK {pins : List (Addr × Obj)} {σ : L2.St} {s : Shared} {a : Addr} (I : Inv X pins σ H s) (h : H a = some (.dK [])) : ReprK X.prog X.w [a] s.heap 1 (.ref a) "{}" := by
  obtain ⟨_, hsm, vs, hkv, o, es, ep, ho, hx, hd, _, hp, _⟩ := dk_of I.hok h
  cases hkv
  have e : es.toList = [] := by
    generalize es.toList = l at hp
    cases hp
    rfl
  have z : dictText [] = ("{}" : Str) := by decide +kernel
  rw [← z]
  exact ReprK.dict ho hx.1 hd hsm (fun q => nomatch q) (by rw [e]; exact .nil)
theorem It.item (h : It X.prog X.w X.K X.mg X.base n H v t) : SItem X n H v t := by
  cases h with
  | non => exact .non
  | bl b => exact .bl
  | int i h => exact .int h
  | str z h => exact .str h
  | own R hk ha hs => exact fun A g pins σ s H2 u Q base hg hc s0 hb sb I r q => SItem.own R ha hs A g pins σ s H2 u Q base hg hc s0 hb (sb.mono hk) I r q
  | emp h =>
    intro A g pins σ s H2 u Q base hg hc s0 hb sb I r q
    cases (show u = Value.ref _ from r)
    have hun := sb.room.un
    exact emp_reprK I (s0 _ _ h) base hb A g X.xe s Q hg (fun b hb => by rw [List.mem_singleton.mp hb]; exact hc _ rfl) (by omega) (fun _ _ e => e) fun h' tk k => q _ H2 (Same.refl _) (I.kept k)
theorem Its.items {vs : List V} {ts : List Str} (h : Its X.prog X.w X.K X.mg X.base n H vs ts) : SItems X n H vs ts := by
  induction h with
  | nil => exact .nil
  | cons h _ ih => exact .cons h.item ih
/-- repr(v) -/
theorem call_repr (hg : X.A.guards = some []) (hr : Room (n + 2) X.A) : CallR X (.builtin "repr") (fun xs H Q => ∃ (v : V) (t : Str), xs = [v] ∧ Sh X.prog X.w X.K X.mg X.base n H v t ∧ ∀ H', Same H H' → Q (.str t) H') := by
  intro pins s σ H xs us Q I r h
  obtain ⟨v, t, rfl, hs, q⟩ := h
  have hun := hr.un
  cases hs with
  | it h =>
    cases h with
    | non =>
      obtain ⟨u, rfl, ru⟩ := vals1 r
      cases ru
      exact P.repr_of_none ⟨.str "None", H, I.tok _, ⟨_, rfl⟩, q H (Same.refl _)⟩
    | bl b =>
      obtain ⟨u, rfl, ru⟩ := vals1 r
      cases ru
      exact P.repr_of_bool ⟨.str _, H, I.tok _, ⟨_, rfl⟩, q H (Same.refl _)⟩
    | int i h =>
      obtain ⟨u, rfl, ru⟩ := vals1 r
      obtain ⟨tk, rfl⟩ := ru
      exact P.repr_of_int h ⟨.str _, H, I.tok _, ⟨_, rfl⟩, q H (Same.refl _)⟩
    | str z h =>
      obtain ⟨u, rfl, ru⟩ := vals1 r
      obtain ⟨tk, rfl⟩ := ru
      exact P.repr_of_str ⟨.str _, H, I.tok _, ⟨_, rfl⟩, q H (Same.refl _)⟩ h
    | own R hk ha hs => exact call_reprO R (hr.mono (by omega)) pins s σ H _ us Q I r ⟨_, _, _, _, rfl, ha, hs, q⟩
    | emp h =>
      obtain ⟨u, rfl, ru⟩ := vals1 r
      cases ru
      obtain ⟨_, hsm, vs, hkv, o, es, ep, ho, hx, hd, _, hp, _⟩ := dk_of I.hok h
      cases hkv
      have e : es.toList = [] := by
        generalize es.toList = l at hp
        cases hp
        rfl
      have rd : Reads s.heap (.ref _) (.dict []) _ := .dict (kvs := []) ho hx.1 hd (by rw [e]; exact .nil) (by rw [e]; exact .nil)
      have z : PyData.shown (.dict []) = ("{}" : Str) := by decide +kernel
      refine repr_of_reads' rd rfl (fun _ hm => ?_) hg (by show X.A.units + (0 + 1 + 1) < cLine; omega) (fun _ _ e => e) (fun h' u tk hk => ⟨.str "{}", H, I.kept hk, ⟨u, by rw [z]⟩, q H (Same.refl _)⟩) (by rw [z]; decide +kernel)
      simp only [List.append_nil, List.mem_singleton] at hm
      rw [← hm] at hsm
      simp at hsm
  | dat h a b c d => exact call_reprD hg (by omega) pins s σ H _ us Q I r ⟨_, _, rfl, h, a, b, c, d, q H (Same.refl _)⟩
  | tup h i a b => exact call_reprT hg hr pins s σ H _ us Q I r ⟨_, _, _, rfl, h, i.items, a, b, q⟩
end
end Du

set_option Elab.async false
set_option linter.all false
set_option maxRecDepth 100000
set_option maxHeartbeats 1000000
namespace Du
open PySem L2 PyProof.Rows
open L2N (Zn)
open L2H (RoomH Hot1 PinOk cxH roomH_of)
/-- o.m(k = v, ..) -/
def tMethK (C : Addr) (m : Str) (n : Nat) (sp : Sp) (gV : List V → List V → List V) (E : XK) (ta : TE) (tk : TA) : TE := fun σ H Q => ta σ H fun x H1 => ∃ a dx fs, x = .ref a ∧ H1 a = some (.ins C dx fs) ∧ fs.lookup m = none ∧ tk σ H1 fun zs H2 => zs.length = n ∧ sp (gV [.ref a] zs) H2 Q E
theorem pe_methK0 {X : Cx} {CX : CXT} {k : Nat} {f C : Addr} {fd : FuncData} {ps ks : List Str} {sp : Sp} {E : XK} {m : Str} {o : Expr} {kws : List Keyword} {ta : TE} {tk : TA} {apos pos : Pos} {g : List Value → List Value → List Value} {gV : List V → List V → List V} {pl : Sem Bool}
    (he : PE X o ta) (c : Cls X.K C) (hm : Meth X.K C m f) (F : FnOk X.prog X.w X.K X.mg X.base CX k f fd ps sp) (hr : Room k X.A) (hb : KBn X.K fd ps 1 ks g gV) (hx : Passes CX X E) (hkw : PK X kws tk)
    (hall : (backToKw pos (keywordEach kws X.env)).all (·.1.isSome) = true := by rfl) (hks : (backToKw pos (keywordEach kws X.env)).filterMap (·.1) = ks := by rfl)
    (hpl : ((backTo pos (starEach [] X.env)).any (·.1) || (backToKw pos (keywordEach kws X.env)).any (·.1.isNone)) = false := by rfl)
    (ht : eval (.Call (.Attribute o m apos) [] kws pos) X.env = (do
      let ov ← eval o X.env
      standAt apos.atName
      let (f, first) ← holding [ov] (getMethod ov m pl)
      callWith pos f first (backTo pos (starEach [] X.env)) (backToKw pos (keywordEach kws X.env))) := by rfl) : PE X (.Call (.Attribute o m apos) [] kws pos) (tMethK C m ks.length sp gV E ta tk) := by
  refine ⟨fun pins s σ H Q I h => PySem.W.methodCall_KW (pl := pl) (thn (he.run pins s σ H _ I h) fun u s1 ⟨x, H1, I1, rx, a, dx, fs, ex, ea, l, q⟩ => ?_) ht⟩
  subst ex
  obtain rfl : u = Value.ref a := rx
  refine getmeth_ok I1 ea c hm l (PySem.W.callWith_KW0 (first := [.ref a]) (h₀ := X.base) I.ok.mod.kin hm.kp hall ?_ hpl)
  refine thn (hkw.run pos pins s1 σ H1 _ I1 q) fun ws s2 ⟨zs, H2, I2, rz, l2, q2⟩ => ⟨I2.kIn, ?_⟩
  rw [hks]
  have r1 : Vals [V.ref a] [Value.ref a] := .cons rfl .nil
  refine wpAny_call (codeAny_mono (F.run X.A X.stack s2 H2 ⟨[Value.ref a], ks.zip ws⟩ (g [Value.ref a] ws) (gV [.ref a] zs) Q E hr I2.env0 (hb.to s2 [Value.ref a] ws I2.kIn rfl (rz.length.symm.trans l2)) (hb.rel r1 rz) q2) fun r s' hq => ?_)
  match r, hq with
  | .error e, hq => exact hx pins σ H2 s2 e s' I2 hq
  | .ok (.ret u), hq => exact I2.after hq
  | .ok .next, hq => exact hq.elim
  | .ok .brk, hq => exact hq.elim
  | .ok .cont, hq => exact hq.elim
/-- o.m(k = v, ..) in a try: what is raised may be seen with the slots as they are -/
def tMethKT (C : Addr) (m : Str) (n : Nat) (sp : Sp) (gV : List V → List V → List V) (E : L2.St → XK) (ta : TE) (tk : TA) : TE := fun σ H Q => ta σ H fun x H1 => ∃ a dx fs, x = .ref a ∧ H1 a = some (.ins C dx fs) ∧ fs.lookup m = none ∧ tk σ H1 fun zs H2 => zs.length = n ∧ sp (gV [.ref a] zs) H2 Q (E σ)
theorem pe_methKT0 {X : Cx} {CX : CXT} {k : Nat} {f C : Addr} {fd : FuncData} {ps ks : List Str} {sp : Sp} {E : L2.St → XK} {m : Str} {o : Expr} {kws : List Keyword} {ta : TE} {tk : TA} {apos pos : Pos} {g : List Value → List Value → List Value} {gV : List V → List V → List V} {pl : Sem Bool}
    (he : PE X o ta) (c : Cls X.K C) (hm : Meth X.K C m f) (F : FnOk X.prog X.w X.K X.mg X.base CX k f fd ps sp) (hr : Room k X.A) (hb : KBn X.K fd ps 1 ks g gV) (hx : ∀ σ, PassesAt CX X σ (E σ)) (hkw : PK X kws tk)
    (hall : (backToKw pos (keywordEach kws X.env)).all (·.1.isSome) = true := by rfl) (hks : (backToKw pos (keywordEach kws X.env)).filterMap (·.1) = ks := by rfl)
    (hpl : ((backTo pos (starEach [] X.env)).any (·.1) || (backToKw pos (keywordEach kws X.env)).any (·.1.isNone)) = false := by rfl)
    (ht : eval (.Call (.Attribute o m apos) [] kws pos) X.env = (do
      let ov ← eval o X.env
      standAt apos.atName
      let (f, first) ← holding [ov] (getMethod ov m pl)
      callWith pos f first (backTo pos (starEach [] X.env)) (backToKw pos (keywordEach kws X.env))) := by rfl) : PE X (.Call (.Attribute o m apos) [] kws pos) (tMethKT C m ks.length sp gV E ta tk) := by
  refine ⟨fun pins s σ H Q I h => PySem.W.methodCall_KW (pl := pl) (thn (he.run pins s σ H _ I h) fun u s1 ⟨x, H1, I1, rx, a, dx, fs, ex, ea, l, q⟩ => ?_) ht⟩
  subst ex
  obtain rfl : u = Value.ref a := rx
  refine getmeth_ok I1 ea c hm l (PySem.W.callWith_KW0 (first := [.ref a]) (h₀ := X.base) I.ok.mod.kin hm.kp hall ?_ hpl)
  refine thn (hkw.run pos pins s1 σ H1 _ I1 q) fun ws s2 ⟨zs, H2, I2, rz, l2, q2⟩ => ⟨I2.kIn, ?_⟩
  rw [hks]
  have r1 : Vals [V.ref a] [Value.ref a] := .cons rfl .nil
  refine wpAny_call (codeAny_mono (F.run X.A X.stack s2 H2 ⟨[Value.ref a], ks.zip ws⟩ (g [Value.ref a] ws) (gV [.ref a] zs) Q (E σ) hr I2.env0 (hb.to s2 [Value.ref a] ws I2.kIn rfl (rz.length.symm.trans l2)) (hb.rel r1 rz) q2) fun r s' hq => ?_)
  match r, hq with
  | .error e, hq => exact hx σ pins H2 s2 e s' I2 hq
  | .ok (.ret u), hq => exact I2.after hq
  | .ok .next, hq => exact hq.elim
  | .ok .brk, hq => exact hq.elim
  | .ok .cont, hq => exact hq.elim
/-- o.m(e, ..) in a try -/
def tMethT (C : Addr) (m : Str) (sp : Sp) (E : L2.St → XK) (ta : TE) (t : TA) : TE := fun σ H Q => ta σ H fun x H1 => ∃ a dx fs, x = .ref a ∧ H1 a = some (.ins C dx fs) ∧ fs.lookup m = none ∧ t σ H1 fun vs H2 => sp (.ref a :: vs) H2 Q (E σ)
theorem pe_methT {X : Cx} {CX : CXT} {k : Nat} {f C : Addr} {fd : FuncData} {ps : List Str} {sp : Sp} {E : L2.St → XK} {m : Str} {o e : Expr} {es : List Expr} {ta : TE} {t : TA} {apos pos : Pos} {pl : Sem Bool}
    (he : PE X o ta) (c : Cls X.K C) (hm : Meth X.K C m f) (F : FnOk X.prog X.w X.K X.mg X.base CX k f fd ps sp) (hr : Room k X.A) (hb : Binds X.K fd ps []) (hx : ∀ σ, PassesAt CX X σ (E σ)) (ha : PA X (e :: es) t)
    (hst : starEach (e :: es) X.env = (false, eval e X.env) :: starEach es X.env := by rfl) (hpl : (backTo pos (starEach es X.env)).any (·.1) = false := by rfl)
    (ht : eval (.Call (.Attribute o m apos) (e :: es) [] pos) X.env = (do
      let ov ← eval o X.env
      standAt apos.atName
      let (f, first) ← holding [ov] (getMethod ov m pl)
      callWith pos f first (backTo pos (starEach (e :: es) X.env)) (backToKw pos (keywordEach [] X.env))) := by rfl) : PE X (.Call (.Attribute o m apos) (e :: es) [] pos) (tMethT C m sp E ta t) := by
  refine ⟨fun pins s σ H Q I h => PySem.W.methodCall_KW (pl := pl) (thn (he.run pins s σ H _ I h) fun u s1 ⟨x, H1, I1, rx, a, dx, fs, ex, ea, l, q⟩ => ?_) ht⟩
  subst ex
  obtain rfl : u = Value.ref a := rx
  refine getmeth_ok I1 ea c hm l (PySem.W.callWith_K (first := [.ref a]) (h₀ := X.base) I.ok.mod.kin hm.kp (thn (ha.run pos pins s1 σ H1 _ I1 q) fun us s2 ⟨vs, H2, I2, r, q2⟩ => ⟨I2.kIn, ?_⟩) hst hpl)
  exact run_fnS (us := .ref a :: us) (vs := .ref a :: vs) F hr hb (hx σ) I2 (.cons rfl r) q2
/-- o.m() in a try -/
theorem pe_methT0 {X : Cx} {CX : CXT} {k : Nat} {f C : Addr} {fd : FuncData} {ps : List Str} {sp : Sp} {E : L2.St → XK} {m : Str} {o : Expr} {ta : TE} {apos pos : Pos} {pl : Sem Bool}
    (he : PE X o ta) (c : Cls X.K C) (hm : Meth X.K C m f) (F : FnOk X.prog X.w X.K X.mg X.base CX k f fd ps sp) (hr : Room k X.A) (hb : Binds X.K fd ps []) (hx : ∀ σ, PassesAt CX X σ (E σ))
    (ht : eval (.Call (.Attribute o m apos) [] [] pos) X.env = (do
      let ov ← eval o X.env
      standAt apos.atName
      let (f, first) ← holding [ov] (getMethod ov m pl)
      callWith pos f first (backTo pos (starEach [] X.env)) (backToKw pos (keywordEach [] X.env))) := by rfl) : PE X (.Call (.Attribute o m apos) [] [] pos) (tMethT C m sp E ta tNil) := by
  refine ⟨fun pins s σ H Q I h => PySem.W.methodCall_KW (pl := pl) (thn (he.run pins s σ H _ I h) fun u s1 ⟨x, H1, I1, rx, a, dx, fs, ex, ea, l, q⟩ => ?_) ht⟩
  subst ex
  obtain rfl : u = Value.ref a := rx
  exact getmeth_ok I1 ea c hm l (PySem.W.callWith_K0 (first := [.ref a]) I1.kIn hm.kp (run_fnS (us := [.ref a]) (vs := [.ref a]) F hr hb (hx σ) I1 (.cons rfl .nil) q))
/-- a block by what it is seen to do -/
theorem pss_of {X : Cx} {st : List Stmt} {t' : TS} (h : ∀ (pins : List (Addr × Obj)) (s : Shared) (σ : L2.St) (H : Hp) (D : Ends), Inv X pins σ H s → t' D σ H → ∃ t, PSs X st t ∧ t D σ H) : PSs X st t' := ⟨fun pins s σ H D I q => by
  obtain ⟨t, ht, q'⟩ := h pins s σ H D I q
  exact ht.run pins s σ H D I q'⟩
/-! a def that must know that nothing is being shown -/
structure FnG (P : Program) (w : World) (K : PySem.W.Frag) (mg : Str → Option Value) (base : Heap) (k : Nat) (f : Addr) (fd : FuncData) (ps : List Str) (sp : Sp) : Prop where
  len : ∀ vs H Q, sp vs H Q E0 → vs.length = ps.length
  run : ∀ (A : Around) (outer : List Env) (s : Shared) (H : Hp) (args : Args) (us : List Value) (vs : List V) (Q : VK), A.guards = some [] → Room k A → Env0 P w K mg base A outer s H → BindsTo s fd args (ps.zip us) → Vals vs us → sp vs H Q E0 →
    codeAny (model P w) A (.call (.ref f) args) (CR CX0 outer P w H s Q E0) s
theorem fnG_of {P : Program} {w : World} {K : PySem.W.Frag} {mg : Str → Option Value} {base : Heap} {k : Nat} {x qual : Str} {st : Stmt} {f : Addr} {fd : FuncData} {N ps : List Str} {sp : Sp} (F : Fun K x qual st f fd) (S : FnScope N ps (defScope st)) (len : ∀ vs H Q, sp vs H Q E0 → vs.length = ps.length)
    (hbody : ∀ (cdv : Value) (A : Around) (outer : List Env) (s : Shared) (H : Hp) (vs : List V) (Q : VK), (A.deeper (envOfC qual (defScope st) s.heap.objs.size f cdv)).guards = some [] → Room k (A.deeper (envOfC qual (defScope st) s.heap.objs.size f cdv)) → sp vs H Q E0 →
      ∃ t, PSs (cxOf CX0 P w K mg base N qual (defScope st) f cdv A outer s H E0).nox (defBody st) t ∧ t { nx := fun _ H' => Q .non H', rt := Q } (L2.start N vs) H) : FnG P w K mg base (k + 1) f fd ps sp := by
  obtain ⟨oc, od, kV, doc, pm, an, cdv, ct, osl, rfl, lk, hcd⟩ := F.ex
  exact ⟨len, fun A outer s H args us vs Q hg hr e0 hb r hsp => fn_at lk hcd S hr e0 hb r (len vs H Q hsp) (hbody cdv A outer s H vs Q hg (hr.deeper _) hsp)⟩
structure DnG (P : Program) (w : World) (K : PySem.W.Frag) (mg : Str → Option Value) (base : Heap) (k : Nat) (x : Str) (ps : List Str) (sp : Sp) : Prop where
  ex : ∃ (f : Addr) (fd : FuncData), FnG P w K mg base k f fd ps sp ∧ mg x = some (.ref f) ∧ PySem.W.keepIn K (.ref f) = true ∧ Binds K fd ps []
theorem pcallG {X : Cx} {k : Nat} {x : Str} {ps : List Str} {sp : Sp} {p pos : Pos} {e : Expr} {es : List Expr} {t : TA} (D : DnG X.prog X.w X.K X.mg X.base k x ps sp) (hG : X.A.guards = some []) (hr : Room k X.A) (hg : Gl X x) (ha : PA X (e :: es) t)
    (hdb : (x == ("__debug__" : Str)) = false := by decide) (he : starEach (e :: es) X.env = (false, eval e X.env) :: starEach es X.env := by rfl) (hpl : (backTo pos (starEach es X.env)).any (·.1) = false := by rfl) :
    PE X (.Call (.Name x p) (e :: es) [] pos) (tCall sp [] E0 t) := by
  obtain ⟨f, fd, F, hm, hk, hb⟩ := D.ex
  refine ⟨fun pins s σ H Q I h => wpAny_Call_Name_kw (ld_glob I hg hm (PySem.W.callWith_K (h₀ := X.base) I.ok.mod.kin hk (thn (ha.run pos pins s σ H _ I h) fun us s1 ⟨vs, H1, I1, r, q⟩ => ⟨I1.kIn, ?_⟩) he hpl) hdb)⟩
  have q : sp vs H1 Q E0 := by
    have z : sp (vs ++ []) H1 Q E0 := q
    rwa [List.append_nil] at z
  have b := hb s1 us I1.kIn (by rw [List.append_nil, ← r.length]; exact F.len _ _ _ q)
  rw [List.append_nil] at b
  refine wpAny_call (codeAny_mono (F.run X.A X.stack s1 H1 ⟨us, []⟩ us vs Q hG hr I1.env0 b r q) fun z s' hq => ?_)
  match z, hq with
  | .error _, hq => exact hq.elim
  | .ok (.ret u), hq => exact I1.after hq
  | .ok .next, hq => exact hq.elim
  | .ok .brk, hq => exact hq.elim
  | .ok .cont, hq => exact hq.elim
/-- repr(x), x of an own class, while an error is being handled -/
theorem call_reprOE {X : Cx} {k : Nat} {f C : Addr} {fd : FuncData} {sp : Sp} {p : Addr × Obj} (F : FnE X.prog X.w X.K X.mg X.base k f fd ["self"] (fun _ => sp)) (hb : Binds X.K fd ["self"] []) (hs : PySem.W.findIn X.K (.ref C) "__repr__" = some (some (.ref f))) (hf : PySem.W.isFn X.K (.ref f) = true)
    (hr : RoomH (k + 1) X.A) (hot : Hot1 X.A p) (hp : p ∈ X.pn) : CallR X (.builtin "repr") (fun xs H Q => ∃ (a dx : Addr) (fs : List (Str × V)) (t : Str), xs = [.ref a] ∧ H a = some (.ins C dx fs) ∧ ReprSp sp H a t ∧ ∀ H', Same H H' → Q (.str t) H') := by
  intro pins s σ H xs us Q I r h
  obtain ⟨a, dx, fs, t, rfl, ha, hsp, q⟩ := h
  obtain ⟨u, rfl, ru⟩ := vals1 r
  cases ru
  obtain ⟨mA, J, _⟩ := ins_get I.hok ha
  obtain ⟨od, J, _⟩ := J.look
  obtain ⟨m, hF⟩ := I.fr
  have hu := hr.un
  have hd := hr.dp
  refine PySem.W.repr_K (by show X.A.units + 1 < cLine; omega) hF I.ok.mod.kin J hs hf ?_
  have e := I.env0
  have e0 : Env0 X.prog X.w X.K X.mg X.base X.A.in1 X.stack s H := ⟨e.frames, e.mod, e.bs, e.bsz, e.funs, e.frf, e.hok, e.bare⟩
  have b := hb s [Value.ref a] I.kIn (by rfl)
  rw [List.append_nil] at b
  have P1 := I.pin p (List.mem_append_left _ hp)
  refine wpAny_call (codeAny_mono (F.run X.A.in1 X.stack s H ⟨[Value.ref a], []⟩ [Value.ref a] [V.ref a] (fun v H' => v = .str t ∧ Q (.str t) H') p ⟨by show X.A.depth + 3 * k + 5 < _; omega, by show X.A.units + 1 + 16 * k + 200 < _; omega⟩ hot
    ⟨P1.1, P1.2.1, fun m => (List.mem_cons.mp (I.stkSub p.1 m)).elim P1.2.2.1 P1.2.2.2.1, P1.2.2.2.2⟩ e0 b (.cons rfl .nil) (hsp H (Same.refl _) _ fun H' s' => ⟨rfl, q H' s'⟩)) fun z s' hq => ?_)
  match z, hq with
  | .error _, hq => exact hq.elim
  | .ok .next, hq => exact hq.elim
  | .ok .brk, hq => exact hq.elim
  | .ok .cont, hq => exact hq.elim
  | .ok (.ret u), hq =>
    obtain ⟨v, H', I', rv, rfl, q'⟩ := I.after hq
    obtain ⟨tk, rfl⟩ := rv
    exact ⟨.str t, H', I', ⟨_, rfl⟩, q'⟩
/-- repr of plain things, while an error is being handled too -/
theorem call_reprP {X : Cx} (hg : X.A.guards = some []) (hu : X.A.units + 66 < cLine) : CallR X (.builtin "repr") (fun xs H Q => ∃ (v : V) (t : Str), xs = [v] ∧ (v = .non ∧ t = "None" ∨ (∃ b : Bool, v = .bl b ∧ t = (if b then ("True" : Str) else ("False" : Str))) ∨ (∃ i : Int, v = .int i ∧ i.natAbs.log2 < 1920 ∧ t = toString i) ∨ (∃ z : Str, v = .str z ∧ (reprText z).length ≤ sizeLine ∧ t = reprText z) ∨
    (∃ a, v = .ref a ∧ H a = some (.dK []) ∧ t = "{}") ∨ (∃ a d, v = .ref a ∧ Dp X.K H (.ref a) d ∧ d.showable = true ∧ d.hasDict = false ∧ d.depth ≤ 64 ∧ d.shown.length ≤ sizeLine ∧ t = d.shown)) ∧ Q (.str t) H) := by
  intro pins s σ H xs us Q I r h
  obtain ⟨v, t, rfl, hs, q⟩ := h
  obtain ⟨u, rfl, ru⟩ := vals1 r
  rcases hs with ⟨rfl, rfl⟩ | ⟨b, rfl, rfl⟩ | ⟨i, rfl, hi, rfl⟩ | ⟨z, rfl, hz, rfl⟩ | ⟨a, rfl, h, rfl⟩ | ⟨a, d, rfl, hd, h1, h2, h3, h4, rfl⟩
  · cases ru
    exact P.repr_of_none ⟨.str "None", H, I.tok _, ⟨_, rfl⟩, q⟩
  · cases ru
    exact P.repr_of_bool ⟨.str _, H, I.tok _, ⟨_, rfl⟩, q⟩
  · obtain ⟨tk, rfl⟩ := ru
    exact P.repr_of_int hi ⟨.str _, H, I.tok _, ⟨_, rfl⟩, q⟩
  · obtain ⟨tk, rfl⟩ := ru
    exact P.repr_of_str ⟨.str _, H, I.tok _, ⟨_, rfl⟩, q⟩ hz
  · cases ru
    obtain ⟨_, hsm, vs, hkv, o, es, ep, ho, hx, hd, _, hp, _⟩ := dk_of I.hok h
    cases hkv
    have e : es.toList = [] := by
      generalize es.toList = l at hp
      cases hp
      rfl
    have rd : Reads s.heap (.ref _) (.dict []) _ := .dict (kvs := []) ho hx.1 hd (by rw [e]; exact .nil) (by rw [e]; exact .nil)
    have z : PyData.shown (.dict []) = ("{}" : Str) := by decide +kernel
    refine repr_of_reads' rd rfl (fun _ hm => ?_) hg (by show X.A.units + (0 + 1 + 1) < cLine; omega) (fun _ _ e => e) (fun h' u tk hk => ⟨.str "{}", H, I.kept hk, ⟨u, by rw [z]⟩, q⟩) (by rw [z]; decide +kernel)
    simp only [List.append_nil, List.mem_singleton] at hm
    rw [← hm] at hsm
    simp at hsm
  · exact call_reprD hg (by omega) pins s σ H _ [u] Q I (.cons ru .nil) ⟨_, _, rfl, hd, h1, h2, h3, h4, q⟩
end Du

set_option Elab.async false
set_option linter.all false
set_option maxRecDepth 100000
namespace Du
open PySem L2 PyProof.Rows
theorem iteN {c : Bool} {A B : Prop} (e : c = false) (h : B) : if c = true then A else B := by
  rw [e]
  exact iteF h
theorem iteY {c : Bool} {A B : Prop} (e : c = true) (h : A) : if c = true then A else B := by
  rw [e]
  exact iteT h
/-- a statement whose end is told once for all its ways -/
def tJ (t : TS) : TS := fun D σ H => ∃ J : L2.St → Hp → Prop, t { D with nx := J } σ H ∧ ∀ σ' H', J σ' H' → D.nx σ' H'
theorem ps_j {X : Cx} {st : Stmt} {t : TS} (h : PS X st t) : PS X st (tJ t) := by
  refine ⟨fun pins s σ H D I ⟨J, hJ, hN⟩ => thn (h.run pins s σ H { D with nx := J } I hJ) fun f s1 q => ?_⟩
  cases f with
  | next =>
    obtain ⟨σ', H', I', q⟩ := q
    exact ⟨σ', H', I', hN _ _ q⟩
  | ret v => exact q
  | brk => exact q
  | cont => exact q
/-- an expression whose value is told once for all its ways -/
def tJe (t : TE) : TE := fun σ H Q => ∃ J : VK, t σ H J ∧ ∀ v H', J v H' → Q v H'
theorem pe_j {X : Cx} {e : Expr} {t : TE} (h : PE X e t) : PE X e (tJe t) := ⟨fun pins s σ H Q I ⟨J, hJ, hN⟩ => thn (h.run pins s σ H J I hJ) fun u s1 ⟨v, H', I', r, q⟩ => ⟨v, H', I', r, hN _ _ q⟩⟩
/-- f(k = v, ..) -/
def tCallK0 (n : Nat) (sp : Sp) (gV : List V → List V → List V) (E : XK) (tk : TA) : TE := fun σ H Q => tk σ H fun zs H2 => zs.length = n ∧ sp (gV [] zs) H2 Q E
theorem pe_callK0 {X : Cx} {CX : CXT} {k : Nat} {f : Addr} {fd : FuncData} {x : Str} {p pos : Pos} {ps ks : List Str} {sp : Sp} {E : XK} {kws : List Keyword} {tk : TA} {g : List Value → List Value → List Value} {gV : List V → List V → List V}
    (F : FnOk X.prog X.w X.K X.mg X.base CX k f fd ps sp) (hr : Room k X.A) (hg : Gl X x) (hm : X.mg x = some (.ref f)) (hk : PySem.W.keepIn X.K (.ref f) = true) (hb : KBn X.K fd ps 0 ks g gV) (hx : Passes CX X E) (hkw : PK X kws tk)
    (hall : (backToKw pos (keywordEach kws X.env)).all (·.1.isSome) = true := by rfl) (hks : (backToKw pos (keywordEach kws X.env)).filterMap (·.1) = ks := by rfl)
    (hdb : (x == ("__debug__" : Str)) = false := by decide)
    (hpl : ((backTo pos (starEach [] X.env)).any (·.1) || (backToKw pos (keywordEach kws X.env)).any (·.1.isNone)) = false := by rfl) :
    PE X (.Call (.Name x p) [] kws pos) (tCallK0 ks.length sp gV E tk) := by
  refine ⟨fun pins s σ H Q I h => ?_⟩
  refine wpAny_Call_Name_kw (ld_glob I hg hm ?_ hdb)
  refine PySem.W.callWith_KW0 (h₀ := X.base) I.ok.mod.kin hk hall ?_ hpl
  refine thn (hkw.run pos pins s σ H _ I h) fun ws s2 ⟨zs, H2, I2, rz, l2, q2⟩ => ⟨I2.kIn, ?_⟩
  rw [hks]
  refine wpAny_call (codeAny_mono (F.run X.A X.stack s2 H2 ⟨[], ks.zip ws⟩ (g [] ws) (gV [] zs) Q E hr I2.env0 (hb.to s2 [] ws I2.kIn rfl (rz.length.symm.trans l2)) (hb.rel .nil rz) q2) fun r s' hq => ?_)
  match r, hq with
  | .error e, hq => exact hx pins σ H2 s2 e s' I2 hq
  | .ok (.ret u), hq => exact I2.after hq
  | .ok .next, hq => exact hq.elim
  | .ok .brk, hq => exact hq.elim
  | .ok .cont, hq => exact hq.elim
/-- a def by its name, for keywords -/
structure DnK (P : Program) (w : World) (K : PySem.W.Frag) (mg : Str → Option Value) (base : Heap) (k : Nat) (x : Str) (ps : List Str) (sp : Sp) (n : Nat) (ks : List Str) (gV : List V → List V → List V) : Prop where
  ex : ∃ (f : Addr) (fd : FuncData) (g : List Value → List Value → List Value), FnOk P w K mg base CX0 k f fd ps sp ∧ mg x = some (.ref f) ∧ PySem.W.keepIn K (.ref f) = true ∧ KBn K fd ps n ks g gV
theorem pcallK0 {X : Cx} {k : Nat} {x : Str} {ps ks : List Str} {sp : Sp} {p pos : Pos} {kws : List Keyword} {tk : TA} {gV : List V → List V → List V} (D : DnK X.prog X.w X.K X.mg X.base k x ps sp 0 ks gV) (hr : Room k X.A) (hg : Gl X x) (hkw : PK X kws tk)
    (hall : (backToKw pos (keywordEach kws X.env)).all (·.1.isSome) = true := by rfl) (hks : (backToKw pos (keywordEach kws X.env)).filterMap (·.1) = ks := by rfl)
    (hdb : (x == ("__debug__" : Str)) = false := by decide)
    (hpl : ((backTo pos (starEach [] X.env)).any (·.1) || (backToKw pos (keywordEach kws X.env)).any (·.1.isNone)) = false := by rfl) :
    PE X (.Call (.Name x p) [] kws pos) (tCallK0 ks.length sp gV E0 tk) := by
  obtain ⟨f, fd, g, F, hm, hk, hb⟩ := D.ex
  exact pe_callK0 F hr hg hm hk hb pass0 hkw hall hks hdb hpl
end Du

set_option Elab.async false
set_option linter.all false
set_option maxRecDepth 100000
namespace Du
open PySem L2 DL PyProof.Rows
open L2N (Zn)
/-! raise X(e) -/
def TRaise (C : Addr) (fld : Str) (te : TED) : TSD := fun DD σ μ => te σ μ (fun d μ1 => DD.xn ⟨.ref C, some [(fld, d)]⟩ σ μ1) fun x μ' => DD.xn x σ μ'
theorem ds_raise {X : Cx} {K : PySem.W.Frag} {E : WX} {C : Addr} {x fld : Str} {a : Expr} {te : TED} {p pos pos2 : Pos} {k : Nat} (hc : X.calm = true) (T : Err X.prog X.w X.K X.mg x fld C) (hr : Room k X.A) (tk : L2N.Takes X E) (hg : Gl X x) (ha : PE X a (Lf K E te)) (hdb : (x == ("__debug__" : Str)) = false := by decide)
    (he : starEach (a :: []) X.env = (false, eval a X.env) :: starEach [] X.env := by rfl) (hpl : (backTo pos (starEach [] X.env)).any (·.1) = false := by rfl) :
    PS X (.Raise (some (.Call (.Name x p) [a] [] pos)) none pos2) (LfS K E (TRaise C fld te)) := (ps_raiseErr hc T hr tk hg (pa_cons ha pa_nil he) hdb he hpl).imp fun D s H h => by
  obtain ⟨own, σ, μ, DD, m, e, t, k⟩ := h
  refine LfS.bind m e k t fun d μ1 own1 v H1 x1 m1 e1 r1 k1 q1 => ?_
  refine ⟨v, rfl, fun dd nd => ?_⟩
  have ex := ext_upd (own := own1) (μ := μ1) (o := .xd [(fld, v)]) nd
  exact k1.xn _ σ μ1 own1 s (.ref C) (some dd) _ ex (rel_upd m1 nd) (e1.ext ex) ⟨rfl, fun fs q => by
    cases q
    exact ⟨dd, [(fld, v)], rfl, upd_same, fun l => m1.free nd l, v, [], rfl, Rep.ext ex _ _ r1, rfl⟩⟩ q1
/-! try: .. except (C1, ..) as e: .. -/
/-- what the clause does with an error x: it takes it, its class is told by isinstance -/
def sutE (i : Nat) (DD : EndsD) : EndsD := ⟨fun σ2 μ2 => DD.nx (σ2.set i none) μ2, DD.rt, fun σ2 μ2 => DD.bk (σ2.set i none) μ2, fun σ2 μ2 => DD.ct (σ2.set i none) μ2, fun _ _ _ => False⟩
def xTry (K : PySem.W.Frag) (cs : List Value) (i : Nat) (ts : Addr → Addr → Addr → TSD) (DD : EndsD) : Exn → Ev → Store → Prop := fun x σ' μ' =>
  ∃ C fs, x = ⟨.ref C, some fs⟩ ∧ PySem.W.exmAny K (.ref C) cs = some true ∧ ErrI K C ∧ ∀ a dd, ts a dd C (sutE i DD) (σ'.set i (some (.exn a dd C fs))) μ'
def TTry (K : PySem.W.Frag) (cs : List Value) (i : Nat) (tb : TSD) (ts : Addr → Addr → Addr → TSD) : TSD := fun DD σ μ => tb { DD with xn := xTry K cs i ts DD } σ μ
theorem RelE.gone {K : PySem.W.Frag} {own : Ow} {μ : Store} {H : Hp} {σ : Ev} {s : L2.St} (h : RelE K own μ H σ s) (i : Nat) : RelE K own μ H (σ.set i none) (s.set i none) := by
  refine ⟨by simpa using h.ln, fun j d e => ?_⟩
  by_cases hi : i = j
  · subst hi
    by_cases hlt : i < σ.length
    · rw [List.getElem?_set_self hlt] at e; cases e
    · rw [List.getElem?_eq_none (by simpa using hlt)] at e; cases e
  · rw [List.getElem?_set_ne hi] at e ⊢
    exact h.at_ j d e
theorem ds_try {X : Cx} {K : PySem.W.Frag} {E : WX} {n : Str} {i : Nat} {te : Expr} {cs : List Value} {body suite : List Stmt} {b0 : Stmt} {pos pos' : Pos} {tb : TSD} {ts : Addr → Addr → Addr → TSD} (hK : X.K = K) (hs : X.stack = X.env :: X.outer) (hf : X.env.frame = some X.env.locals) (hN : X.N.Nodup) (hi : X.N[i]? = some n)
    (hln : X.env.kindOf n = some .local) (hl : Lays X te cs) (hm : Mat X.K cs)
    (hb : ∀ (W : WX) (pn : List (Addr × Obj)) (xe : Value → Shared → Prop), L2N.Takes (X.tr pn xe) W → PassesOwn (model X.prog X.w) X.A X.env xe → PSs (X.tr pn xe) body (LfS K W tb))
    (hsu : ∀ (a dd C : Addr) (oe : Obj) (pn : List (Addr × Obj)), ErrI K C → Zn (.ref C) (some dd) oe → (∃ vs, oe.data = .fields vs) → PSs (X.suite a ((a, oe) :: pn)) (b0 :: suite) (LfS K EF (ts a dd C))) :
    PS X (.Try body [.ExceptHandler (some te) (some n) (b0 :: suite) pos'] [] [] pos) (LfS K E (TTry K cs i tb ts)) := by
  subst hK
  refine PS.imp (ps_try_tup (ts := fun a cls d => fun D s H => ∃ C dd, cls = .ref C ∧ d = some dd ∧ ErrI X.K C ∧ LfS X.K EF (ts a dd C) D s H) hs hf hN hi hln hl hm hb fun a oe cls d pn hz hv => pss_of fun pins s σ H D I h => ?_) fun D s H h => ?_
  · obtain ⟨C, dd, rfl, rfl, hE, h⟩ := h
    exact ⟨_, hsu a dd C oe pn hE hz hv, h⟩
  · obtain ⟨own, σ, μ, DD, m, e, t, k⟩ := h
    have hiσ : ∀ {σ' : Ev} {s' : L2.St} {own' μ' H'}, RelE X.K own' μ' H' σ' s' → True := fun _ => trivial
    refine ⟨own, σ, μ, _, m, e, t, ⟨k.nx, k.rt, k.bk, k.ct, fun x σ' μ' own' s' c d H' ex m' e' rx q => ?_⟩⟩
    obtain ⟨C, fs, rfl, hx, hE, q⟩ := q
    obtain ⟨ec, rx⟩ := rx
    cases ec
    obtain ⟨dd, vs, rfl, h1, h2, h3⟩ := rx fs rfl
    refine ⟨hx, fun a na => ⟨C, dd, rfl, rfl, hE, own', _, μ', _, m', e'.set (d := .exn a dd C fs) i (v := .ref a) ⟨vs, rfl, h1, h2, h3⟩, q a dd, ?_⟩⟩
    have k' := k.ext ex
    exact ⟨fun a1 b1 c1 d1 f1 g1 m1 r1 q1 => k'.nx _ b1 c1 _ f1 g1 m1 (RelE.gone r1 i) q1, k'.rt, fun a1 b1 c1 d1 f1 g1 m1 r1 q1 => k'.bk _ b1 c1 _ f1 g1 m1 (RelE.gone r1 i) q1, fun a1 b1 c1 d1 f1 g1 m1 r1 q1 => k'.ct _ b1 c1 _ f1 g1 m1 (RelE.gone r1 i) q1, fun _ _ _ _ _ _ _ _ _ _ _ _ z => z.elim⟩
/-- e.fld of the error that is handled -/
def TFldE (a dd C : Addr) (fld : Str) (te : TED) : TED := fun σ μ Q X => te σ μ (fun d μ1 => ∃ fs d', d = .exn a dd C fs ∧ fs.lookup fld = some d' ∧ Q d' μ1) X
theorem de_fldE {X : Cx} {K : PySem.W.Frag} {E : WX} {a C dd : Addr} {oe : Obj} {fld : Str} {e : Expr} {te : TED} {pos : Pos} (hK : X.K = K) (T : ErrI K C) (hno : PySem.W.findIn K (.ref C) fld = some none) (hp : (a, oe) ∈ X.pn) (hz : Zn (.ref C) (some dd) oe) (hf : ∃ vs, oe.data = .fields vs) (he : PE X e (Lf K E te))
    (hb : attributeBase e fld X.env (eval e X.env) = eval e X.env := by rfl) : PE X (.Attribute e fld pos) (Lf K E (TFldE a dd C fld te)) := by
  subst hK
  refine (pe_fldX T hno hp hz hf he hb).imp fun s H Q h => ?_
  obtain ⟨own, σ, μ, QD, QX, m, e, t, k⟩ := h
  refine LfG.bind m e k t fun x μ1 own1 u H1 x1 m1 e1 r1 k1 ⟨fs, d', ex, hl, q1⟩ => ?_
  subst ex
  obtain ⟨vs, rfl, h1, h2, h3⟩ := r1
  obtain ⟨v, hv, rv⟩ := (h3.look (f := fld)).1 d' hl
  exact ⟨rfl, vs, v, h1, hv, k1.here m1 rv q1⟩
/-- isinstance(e, c), isinstance(e, (c1, ..)) -/
def RIsiE (K : PySem.W.Frag) (a dd C : Addr) : RAD := fun ds μ Q _ => match ds with
  | [.exn a' dd' C' _, .tup cs] => a' = a ∧ dd' = dd ∧ C' = C ∧ ∃ us b, cs.mapM clsD = some us ∧ PySem.W.kitAny K (.ref C) us = some b ∧ Q (.v (.bl b)) μ
  | [.exn a' dd' C' _, c] => a' = a ∧ dd' = dd ∧ C' = C ∧ ∃ u b, clsD c = some u ∧ PySem.W.kitOne K (.ref C) u = some b ∧ Q (.v (.bl b)) μ
  | _ => False
def rIsXT (K : PySem.W.Frag) (C a dd : Addr) : List V → Hp → VK → Prop := fun xs H Q => rIsX K C a dd xs H Q ∨ ∃ (fs : List (Str × V)) (tp : Addr) (cs : List V) (us : List Value) (b : Bool), H dd = some (.xd fs) ∧ xs = [.ref a, .ref tp] ∧ SqT K H tp cs ∧ Paired ClsV cs us ∧ PySem.W.kitAny K (.ref C) us = some b ∧ Q (.bl b) H
theorem call_isXT {X : Cx} {a C dd : Addr} {oe : Obj} (T : ErrI X.K C) (hp : (a, oe) ∈ X.pn) (hz : Zn (.ref C) (some dd) oe) (hf : ∃ vs, oe.data = .fields vs) : CallR X (.builtin "isinstance") (rIsXT X.K C a dd) := by
  refine cr_or (call_isX T hp hz hf) ?_
  intro pins s σ H xs us Q I r h
  obtain ⟨fs, tp, cs, ws, b, hd, rfl, hT, k, e, q⟩ := h
  obtain ⟨od, mA, J, _, _⟩ := err_at hp hz hf I hd
  have Z := PySem.W.kitx_exc (x := a) (ox := oe) (od := some od) (by obtain ⟨cd, hc, _⟩ := PySem.W.any_some T.hdC; rw [hc]; rfl) T.ga T.gg T.exC T.ha T.hn T.ht T.hm
  obtain ⟨u1, u2, rfl, r1, r2⟩ := vals2 r
  cases (show u1 = Value.ref a from r1)
  cases (show u2 = Value.ref tp from r2)
  obtain ⟨its, rv, ht, hz2⟩ := I.tuple hT
  have e3 := ClsV.all k rv
  subst e3
  obtain ⟨⟨oc, odd, dt, sl⟩, h1, h2, n, h3⟩ := ht
  simp only at h2 h3
  subst h2 h3
  exact PySem.W.kia_tup Z I.kIn J h1 e (fun z => nomatch z) fun tk => ⟨.bl b, H, I.tok tk, rfl, q⟩
theorem sIsiE {K : PySem.W.Frag} {a dd C : Addr} : SndA K (rIsXT K C a dd) (RIsiE K a dd C) := fun E own μ H x u Q QD QX m r k h => by
  unfold RIsiE at h
  split at h
  · obtain ⟨rfl, rfl, rfl, us, b, h2, h3, h4⟩ := h
    obtain ⟨y, z, rfl, ⟨vs, rfl, g0, _, _⟩, tp, cs, rfl, g1, g3, g2⟩ := reps2 r
    exact .inr ⟨vs, tp, cs, us, b, g0, rfl, g1, clss_view h2 g2, h3, k.here m (rep_v _) h4⟩
  · obtain ⟨rfl, rfl, rfl, u, b, h2, h3, h4⟩ := h
    obtain ⟨y, z, rfl, ⟨vs, rfl, g0, _, _⟩, rz⟩ := reps2 r
    exact .inl ⟨vs, g0, .inl ⟨_, u, b, rfl, cls_view h2 rz, h3, k.here m (rep_v _) h4⟩⟩
  · exact h.elim
/-! repr -/
def shSc : V → Option Str
  | .non => some "None"
  | .bl b => some (if b then "True" else "False")
  | .int i => if i.natAbs.log2 < 1920 then some (toString i) else none
  | .str z => if (reprText z).length ≤ sizeLine then some (reprText z) else none
  | _ => none
/-- what is shown whatever else is being shown; rp: an own class's text -/
def shIt (rp : Addr → List (Str × D) → Option Str) : D → Option Str
  | .v x => shSc x
  | .obj C fs => rp C fs
  | .dK [] => some "{}"
  | _ => none
def shIts (rp : Addr → List (Str × D) → Option Str) : List D → Option (List Str)
  | [] => some []
  | d :: ds => match shIt rp d, shIts rp ds with
    | some t, some ts => some (t :: ts)
    | _, _ => none
/-- a promise, of a def that raises nothing here -/
def sp0 (K : PySem.W.Frag) (sp : SpD) : Sp := fun vs H Q _ => LfSp K sp vs H Q E0
theorem fn0 {P : Program} {w : World} {K : PySem.W.Frag} {mg : Str → Option Value} {base : Heap} {k : Nat} {f : Addr} {fd : FuncData} {ps : List Str} {sp : SpD} (F : FnD P w K mg base k f fd ps sp) : FnOk P w K mg base CX0 k f fd ps (sp0 K sp) := by
  refine ⟨fun vs H Q E h => F.len vs H Q E0 h, fun A outer s H args us vs Q E hr e0 hb r h => ?_⟩
  refine codeAny_mono (F.run A outer s H args us vs Q E0 hr e0 hb r h) fun r s' hq => ?_
  match r, hq with
  | .error e, hq =>
    obtain ⟨_, _, _, _, _, _, _, _, _, _, _, _, z⟩ := hq
    exact z.elim
  | .ok (.ret u), hq => exact hq
  | .ok .next, hq => exact hq
  | .ok .brk, hq => exact hq
  | .ok .cont, hq => exact hq
/-- an own class, shown by its own __repr__ -/
structure ShC (P : Program) (w : World) (K : PySem.W.Frag) (mg : Str → Option Value) (base : Heap) (n : Nat) (rp : Addr → List (Str × D) → Option Str) : Prop where
  own : ∀ C fs t, rp C fs = some t → ClF 0 fs ∧ ∃ k sp, k ≤ n ∧ OwnR P w K mg base k C (sp0 K sp) ∧ ∀ μ QD QX, QD (.v (.str t)) μ → sp [.obj C fs] μ QD QX
theorem reprSp_of {K : PySem.W.Frag} {own : Ow} {μ : Store} {H : Hp} {a C : Addr} {fs : List (Str × D)} {t : Str} {sp : SpD} (m : RelM K own μ H) (r : Rep K own μ H (.obj C fs) (.ref a)) (hc : ClF 0 fs) (h : ∀ μ QD QX, QD (.v (.str t)) μ → sp [.obj C fs] μ QD QX) : ReprSp (sp0 K sp) H a t := fun H1 s1 Q q => by
  have lv : ∀ b, Live own μ b → ∃ o, H1 b = some o := fun b hb => by
    rcases hb with ⟨i, o, g1, g2⟩ | hb
    · obtain ⟨u, e⟩ := m.tr b (List.mem_of_getElem? g1)
      exact ⟨u, s1 _ _ e⟩
    · obtain ⟨_, u, e⟩ := m.pv b hb
      exact ⟨u, s1 _ _ e⟩
  have t1 : Tr K own μ H ⟨own.l, fun b => Live own μ b⟩ μ H1 := ⟨fun b o e n => ⟨s1 _ _ e, by
    rintro (l | l)
    · exact n (.inl l)
    · exact n l⟩, fun _ _ e => e⟩
  have r1 := Rep.tr t1 _ _ r
  have c : Cut 0 ⟨own.l, fun b => Live own μ b⟩ μ ⟨[], fun b => Live own μ b⟩ [] := ⟨rfl, by simp, by simp⟩
  have r0 := Rep.cut c (d := .obj C fs) hc r1
  refine ⟨⟨[], fun b => Live own μ b⟩, [.obj C fs], [], fun d μ' => d = .v (.str t) ∧ μ' = [], fun _ _ => False, ⟨List.nodup_nil, rfl, fun i o b e => by simp at e, fun b hb => by simp at hb, fun b hb => ⟨by simp, lv b hb⟩⟩, ⟨.ref a, [], rfl, r0, rfl⟩, h _ _ _ ⟨rfl, rfl⟩, ⟨fun d μ' own' v H' ex m' rd ⟨e1, e2⟩ => ?_, fun _ _ _ _ _ _ _ _ _ z => z.elim⟩⟩
  subst e1
  cases rd
  exact q H' fun b o e => ex.keep b o e fun ⟨i, o, g1, _⟩ => by simp at g1
theorem call_reprTS {X : Cx} {n : Nat} (hg : X.A.guards = some []) (hr : Room (n + 2) X.A) : CallR X (.builtin "repr") (fun xs H Q => ∃ (a : Addr) (vs : List V) (ts : List Str), xs = [.ref a] ∧ SqT X.K H a vs ∧ SItems X n H vs ts ∧ (∀ v ∈ vs, ∀ b, v = .ref b → (∃ C dx fs, H b = some (.ins C dx fs)) ∨ H b = some (.dK [])) ∧ (tupleText ts).length ≤ sizeLine ∧ ∀ H', Same H H' → Q (.str (tupleText ts)) H') := by
  intro pins s σ H xs us Q I r h
  obtain ⟨a, vs, ts, rfl, ha, hT, hni, hz, q⟩ := h
  obtain ⟨u, rfl, ru⟩ := vals1 r
  cases ru
  obtain ⟨its, rv, ⟨⟨oc, odd, dt, sl⟩, h1, h2, m, h3⟩, _⟩ := I.tuple ha
  simp only at h2 h3
  subst h2 h3
  have hne : ∀ v ∈ vs, v ≠ .ref a := fun v hv e => by
    rcases hni v hv a e with ⟨C, dx, fs, g⟩ | g
    · obtain ⟨_, _, _, g1, _⟩ := (show ObjOk X.prog X.w H s.heap a (.ins C dx fs) from I.hok a _ g)
      rw [h1] at g1
      cases g1
    · obtain ⟨_, _, ws, _, o, es, ep, g1, _, g3, _⟩ := (show ObjOk X.prog X.w H s.heap a (.dK []) from I.hok a _ g)
      rw [h1] at g1
      cases g1
      cases g3
  have hTy : s.TypeIs (.ref a) "tuple" := ⟨_, h1, rfl⟩
  have hun := hr.un
  have hp := piled_le_tupleText ts
  have hlen : ts.length = its.length := hT.len.trans rv.length
  refine call_repr_slot (by omega) hTy F.slot_tuple_repr ?_
  refine wpAny_call (codeAny_call_builtin_own (Code.quiet_builtin _ (by decide +kernel)) F.entry_tuple_repr (F.slot_tuple_repr.check _ _ _ _ _ _ _ _ hTy (F.args_tuple_repr_1 _) ?_))
  show wpOwn _ _ _ (Builtin.tupleReprAt 0 ⟨[.ref a], []⟩) _ _ _
  rw [tuple_repr_tree, tupleReprUnderWay_eq]
  refine wpOwn_bind (wpOwn_stackTailAny (A := X.A.in1) hg (tupGuardF_off _) (tupGuardF_pos _) (wpOwn_of_wpAny ?_))
  show wpAny _ _ (tupleReprRest 0 (.ref a)) _ _ s
  unfold tupleReprRest Builtin.Tuple.tupleItemsOf
  refine wpAny_bind (wpAny_bind (wpAny_seqItems h1 rfl (wpAny_pure ?_)))
  rw [← Array.forIn_toList]
  have sb : Sub X n (X.A.in1.under (.builtin "tuple.__repr__" ⟨[.ref a], []⟩)) := by
    refine ⟨⟨hr.hd, ?_, ?_⟩, rfl⟩
    · have := hr.dp
      have hw : (Code.builtin "tuple.__repr__" ⟨[.ref a], []⟩).weight = 1 := by first | rfl | (show 0 + 0 + (if (Code.builtin "tuple.__repr__" ⟨[.ref a], []⟩).isGuard then 1 else 0) + 0 = 1; rw [isGuard_tuple_repr]; rfl)
      show X.A.depth + (Code.builtin "tuple.__repr__" ⟨[.ref a], []⟩).weight + 3 * n + 5 < _
      omega
    · rw [units_under_tuple_repr]
      show X.A.units + 1 + 1 + 16 * n + 200 < _
      omega
  refine wpAny_bind (tupFoldJ sb (guards_under_guard (isGuard_tuple_repr _) hg) vs ts _ _ _ s H _ hT (fun v hv b e => (Clear.nil b).cons (a := a) fun z => hne v hv (by rw [e, z])) rv (Same.refl _) I (by omega) fun s' H' sm I' => ?_)
  refine wpAny_bind (wpAny_mkStr (wpAny_pure ?_) (by simpa [tupleText, hlen] using hz))
  have q' := q H' sm
  refine ⟨_, _, rfl, .str (tupleText ts), H', I'.tok _, ⟨s'.toks, ?_⟩, q'⟩
  simp [tupleText, hlen]
inductive ShD (rp : Addr → List (Str × D) → Option Str) : D → Str → Prop
  | it {d : D} {t : Str} : shIt rp d = some t → ShD rp d t
  | dat {d : D} {p : PyData} : (∃ l, d = .tup l ∨ d = .lst l) → toPy d = some p → p.showable = true → p.hasDict = false → p.depth ≤ 64 → p.shown.length ≤ sizeLine → ShD rp d p.shown
  | tup {ds : List D} {ts : List Str} : shIts rp ds = some ts → (tupleText ts).length ≤ sizeLine → ShD rp (.tup ds) (tupleText ts)
section
variable {P : Program} {w : World} {K : PySem.W.Frag} {mg : Str → Option Value} {base : Heap} {n : Nat} {rp : Addr → List (Str × D) → Option Str} {own : Ow} {μ : Store} {H : Hp}
theorem shSc_it {x : V} {t : Str} (h : shSc x = some t) : It P w K mg base n H x t := by
  unfold shSc at h
  split at h
  · cases h; exact .non
  · cases h; exact .bl _
  · split at h
    · rename_i q; cases h; exact .int _ q
    · cases h
  · split at h
    · rename_i q; cases h; exact .str _ q
    · cases h
  · cases h
theorem shIt_it (S : ShC P w K mg base n rp) (m : RelM K own μ H) {d : D} {v : V} {t : Str} (h : shIt rp d = some t) (r : Rep K own μ H d v) : It P w K mg base n H v t ∧ ∀ b, v = .ref b → (∃ C dx fs, H b = some (.ins C dx fs)) ∨ H b = some (.dK []) := by
  unfold shIt at h
  split at h
  · rename_i x
    have r : v = x := r
    subst r
    refine ⟨shSc_it h, fun b e => ?_⟩
    subst e
    cases h
  · rename_i C fs
    obtain ⟨hc, k, sp, hk, O, hs⟩ := S.own C fs t h
    obtain ⟨a, dx, vs, e, h1, h2, h3⟩ := id r
    subst e
    exact ⟨.own O hk h1 (reprSp_of m r hc hs), fun b e => by cases e; exact .inl ⟨_, _, _, h1⟩⟩
  · cases h
    obtain ⟨a, vs, rfl, h1, h2, h3⟩ := r
    have h3 : vs = [] := h3
    subst h3
    exact ⟨.emp h1, fun b e => by cases e; exact .inr h1⟩
  · cases h
end
def rReprA (X : Cx) (n : Nat) : List V → Hp → VK → Prop := fun xs H Q => (∃ (a : Addr) (vs : List V) (ts : List Str), xs = [.ref a] ∧ SqT X.K H a vs ∧ SItems X n H vs ts ∧ (∀ v ∈ vs, ∀ b, v = .ref b → (∃ C dx fs, H b = some (.ins C dx fs)) ∨ H b = some (.dK [])) ∧ (tupleText ts).length ≤ sizeLine ∧ ∀ H', Same H H' → Q (.str (tupleText ts)) H') ∨
  ∃ (v : V) (t : Str), xs = [v] ∧ Sh X.prog X.w X.K X.mg X.base n H v t ∧ ∀ H', Same H H' → Q (.str t) H'
theorem cr_reprA {X : Cx} {n : Nat} (hg : X.A.guards = some []) (hr : Room (n + 2) X.A) : CallR X (.builtin "repr") (rReprA X n) := cr_or (call_reprTS hg hr) (call_repr hg hr)
def RRepr (rp : Addr → List (Str × D) → Option Str) : RAD := fun ds μ Q _ => match ds with
  | [x] => ∃ t, ShD rp x t ∧ Q (.v (.str t)) μ
  | _ => False
theorem sRepr {X : Cx} {K : PySem.W.Frag} {n : Nat} {rp : Addr → List (Str × D) → Option Str} (hK : X.K = K) (S : ShC X.prog X.w X.K X.mg X.base n rp) : SndA K (rReprA X n) (RRepr rp) := fun E own μ H x u Q QD QX m r k h => by
  subst hK
  unfold RRepr at h
  split at h
  case h_2 => exact h.elim
  rename_i x
  obtain ⟨t, hs, q⟩ := h
  obtain ⟨v, rfl, rv⟩ := reps1 r
  have fin : ∀ t, QD (.v (.str t)) μ → ∀ H', Same H H' → Q (.str t) H' := fun t q H' sm => k.ok (.v (.str t)) μ own _ H' (Ext.same sm) (m.same sm) (rep_v _) q
  cases hs with
  | it h => exact .inr ⟨v, t, rfl, .it (shIt_it S m h rv).1, fin _ q⟩
  | dat hl hp h1 h2 h3 h4 =>
    have hd := dp_of hp rv
    have hv : ∃ a, v = .ref a := by
      obtain ⟨l, rfl | rfl⟩ := hl
      · obtain ⟨a, _, e, _⟩ := rv; exact ⟨a, e⟩
      · obtain ⟨a, _, e, _⟩ := rv; exact ⟨a, e⟩
    obtain ⟨a, rfl⟩ := hv
    exact .inr ⟨_, _, rfl, .dat hd h1 h2 h3 h4, fin _ q⟩
  | tup h hz =>
    rename_i ds ts
    obtain ⟨a, xs, rfl, g1, _, g3⟩ := rv
    have key : ∀ (ds : List D) (xs : List V) (ts : List Str), shIts rp ds = some ts → Reps X.K own μ H ds xs → SItems X n H xs ts ∧ ∀ v ∈ xs, ∀ b, v = .ref b → (∃ C dx fs, H b = some (.ins C dx fs)) ∨ H b = some (.dK []) := by
      intro ds
      induction ds with
      | nil =>
        intro xs ts h r
        have r : xs = [] := r
        cases h; subst r
        exact ⟨.nil, fun v hv => by simp at hv⟩
      | cons d ds ih =>
        intro xs ts h r
        obtain ⟨y, q, rfl, r1, r2⟩ := r
        have h : (match shIt rp d, shIts rp ds with | some t, some ts => some (t :: ts) | _, _ => none) = some ts := h
        split at h
        · rename_i t1 ts1 e1 e2
          cases h
          obtain ⟨i1, i2⟩ := shIt_it S m e1 r1
          obtain ⟨i3, i4⟩ := ih q ts1 e2 r2
          refine ⟨.cons i1.item i3, fun v hv b e => ?_⟩
          rcases List.mem_cons.mp hv with rfl | hv
          · exact i2 b e
          · exact i4 v hv b e
        · cases h
    obtain ⟨k1, k2⟩ := key ds xs ts h g3
    exact .inl ⟨a, xs, ts, rfl, g1, k1, k2, hz, fin _ q⟩
end Du

set_option Elab.async false
set_option linter.all false
set_option maxRecDepth 100000
namespace Du
open PySem L2 DL
def TJoin (to te : TED) : TED := fun σ μ Q X => to σ μ (fun x μ1 => ∃ a, x = .v (.str a) ∧ te σ μ1 (fun y μ2 => ∃ s ys, seqOf μ2 y = some s ∧ strsD s = some ys ∧ (ys.map (·.length)).sum + ys.length * a.length ≤ 16777216 ∧ Q (.v (.str (Txt.join a ys))) μ2) X) X
theorem de_join {X : Cx} {K : PySem.W.Frag} {E : WX} {o e : Expr} {to te : TED} {apos pos : Pos} (hK : X.K = K) (ho : PE X o (Lf K E to)) (he : PE X e (Lf K E te)) (h1 : starEach [e] X.env = [(false, eval e X.env)] := by rfl) (h2 : attributeBase o "join" X.env (eval o X.env) = eval o X.env := by rfl) (h3 : (apos.endLine == pos.line) = true := by rfl) : PE X (.Call (.Attribute o "join" apos) [e] [] pos) (Lf K E (TJoin to te)) := (pe_join ho he h1 h2 h3).imp fun s H Q h => by
  subst hK
  obtain ⟨own, σ, μ, QD, QX, m, er, t, k⟩ := h
  refine LfG.bind m er k t fun x μ1 own1 u H1 x1 m1 e1 r1 k1 q1 => ?_
  obtain ⟨a, rfl, q1⟩ := q1
  cases r1
  refine ⟨⟨a, rfl⟩, LfG.bind m1 e1 k1 q1 fun y μ2 own2 v H2 x2 m2 e2 r2 k2 q2 => ?_⟩
  obtain ⟨s', ys, g1, g2, g3, g4⟩ := q2
  obtain ⟨p, xs, rfl, g5, g6⟩ := seq_view m2 g1 r2
  have e := strs_view g2 g6
  subst e
  exact ⟨a, p, ys, rfl, rfl, g5, g3, k2.here m2 (rep_v _) g4⟩
end Du

set_option Elab.async false
set_option linter.all false
set_option maxRecDepth 100000
namespace DL
open PySem L2
/-- a comprehension whose elements are told one by one, the store as it was -/
theorem comp_map {g : TGD} {te : TED} {σ : Ev} {μ : Store} {Q : List D → Store → Prop} (f : D → D) : ∀ (ds acc : List D), (∀ d ∈ ds, ∀ R : D → Store → Prop, R (f d) μ → g d σ μ fun σ' μ' => te σ' μ' R fun _ _ => False) → acc.length + ds.length ≤ sizeLine → Q (acc ++ ds.map f) μ → CompD g TYes te σ Q ds acc μ
  | [], acc, _, _, q => by
    rw [List.map_nil, List.append_nil] at q
    exact q
  | d :: ds, acc, h, hl, q => by
    refine h d List.mem_cons_self _ ⟨?_, comp_map f ds (acc ++ [f d]) (fun e he => h e (List.mem_cons_of_mem _ he)) ?_ ?_⟩
    · rw [List.length_cons] at hl; omega
    · rw [List.length_append, List.length_singleton]; rw [List.length_cons] at hl; omega
    · rw [List.append_assoc]
      exact q
/-- .. with a test -/
theorem comp_flt {g : TGD} {tt : TTD} {te : TED} {σ : Ev} {μ : Store} {Q : List D → Store → Prop} (f : D → Option D) : ∀ (ds acc : List D), (∀ d ∈ ds, ∀ (R : D → Store → Prop) (S : Store → Prop), (match f d with | some y => R y μ | none => S μ) → g d σ μ fun σ' μ' => tt σ' μ' (fun b μ2 => if b = true then te σ' μ2 R (fun _ _ => False) else S μ2) fun _ _ => False) → acc.length + ds.length ≤ sizeLine → Q (acc ++ ds.filterMap f) μ → CompD g tt te σ Q ds acc μ
  | [], acc, _, _, q => by
    rw [List.filterMap_nil, List.append_nil] at q
    exact q
  | d :: ds, acc, h, hl, q => by
    refine h d List.mem_cons_self _ _ ?_
    rw [List.length_cons] at hl
    cases e : f d with
    | none =>
      rw [List.filterMap_cons, e] at q
      exact comp_flt f ds acc (fun e he => h e (List.mem_cons_of_mem _ he)) (by omega) q
    | some y =>
      rw [List.filterMap_cons, e] at q
      refine ⟨by omega, comp_flt f ds (acc ++ [y]) (fun e he => h e (List.mem_cons_of_mem _ he)) (by rw [List.length_append, List.length_singleton]; omega) ?_⟩
      rw [List.append_assoc]
      exact q
/-- .. by an invariant: behind i items the list is acc -/
theorem comp_inv {g : TGD} {te : TED} {σ : Ev} {Q : List D → Store → Prop} {ds : List D} {μ : Store} (I : Nat → List D → Store → Prop) (h0 : I 0 [] μ) (hl : ds.length ≤ sizeLine) (hi : ∀ i acc μ, I i acc μ → acc.length = i)
    (hs : ∀ i d acc μ, ds[i]? = some d → I i acc μ → g d σ μ fun σ' μ' => te σ' μ' (fun y μ3 => I (i + 1) (acc ++ [y]) μ3) fun _ _ => False) (mono : ∀ d μ (R R' : D → Store → Prop), (∀ y μ3, R y μ3 → R' y μ3) → (g d σ μ fun σ' μ' => te σ' μ' R fun _ _ => False) → g d σ μ fun σ' μ' => te σ' μ' R' fun _ _ => False) (hq : ∀ acc μ, I ds.length acc μ → Q acc μ) : CompD g TYes te σ Q ds [] μ := by
  have key : ∀ (n i : Nat) (acc : List D) (μ : Store), n + i = ds.length → I i acc μ → CompD g TYes te σ Q (ds.drop i) acc μ := by
    intro n
    induction n with
    | zero =>
      intro i acc μ e h
      have e : i = ds.length := by omega
      subst e
      rw [List.drop_length]
      exact hq acc μ h
    | succ n ih =>
      intro i acc μ e h
      have hlt : i < ds.length := by omega
      rw [List.drop_eq_getElem_cons hlt]
      refine mono _ _ _ _ (fun y μ3 hy => ⟨?_, ih (i + 1) (acc ++ [y]) μ3 (by omega) hy⟩) (hs i _ acc μ (List.getElem?_eq_getElem hlt) h)
      rw [hi i acc μ h]
      omega
  exact key ds.length 0 [] μ (by omega) h0
/-- a loop by an invariant -/
theorem loop_inv {g : TGD} {tb : TSD} {DD : EndsD} {ds : List D} {σ : Ev} {μ : Store} (I : Nat → Ev → Store → Prop) (h0 : I 0 σ μ)
    (hs : ∀ i d σ μ (nx : Ev → Store → Prop), ds[i]? = some d → I i σ μ → (∀ σ' μ', I (i + 1) σ' μ' → nx σ' μ') → g d σ μ fun σ' μ' => tb { DD with nx := nx, ct := nx, bk := DD.nx } σ' μ') (hd : ∀ σ μ, I ds.length σ μ → DD.nx σ μ) : LoopD g tb DD ds σ μ := by
  have key : ∀ (n i : Nat) (σ : Ev) (μ : Store), n + i = ds.length → I i σ μ → LoopD g tb DD (ds.drop i) σ μ := by
    intro n
    induction n with
    | zero =>
      intro i σ μ e h
      have e : i = ds.length := by omega
      subst e
      rw [List.drop_length]
      exact hd σ μ h
    | succ n ih =>
      intro i σ μ e h
      have hlt : i < ds.length := by omega
      rw [List.drop_eq_getElem_cons hlt]
      exact hs i _ σ μ _ (List.getElem?_eq_getElem hlt) h fun σ' μ' h' => ih (i + 1) σ' μ' (by omega) h'
  exact key ds.length 0 σ μ (by omega) h0
theorem rgD_at {a c : Int} {n i : Nat} {d : D} (h : (rgD a n c)[i]? = some d) : i < n ∧ d = .v (.int (a + (i : Int) * c)) := by
  unfold rgD at h
  rw [List.getElem?_map] at h
  cases e : (List.range n)[i]? with
  | none => rw [e] at h; cases h
  | some j =>
    rw [e] at h
    obtain ⟨h1, h2⟩ := List.getElem?_eq_some_iff.mp e
    rw [List.getElem_range] at h2
    subst h2
    rw [List.length_range] at h1
    cases h
    exact ⟨h1, rfl⟩
theorem rgD_len {a c : Int} {n : Nat} : (rgD a n c).length = n := by simp [rgD]
/-! the store, place by place -/
theorem seq_loc {μ : Store} {i : Nat} {ds : List D} (h : μ[i]? = some (some (.lst ds))) : seqOf μ (.loc i) = some ds := by
  show (match μ[i]? with | some (some (.lst ds)) => some ds | _ => none) = _
  rw [h]
theorem set_at {μ : Store} {i : Nat} {o o' : Ob} (h : μ[i]? = some (some o)) : (μ.set i (some o'))[i]? = some (some o') := List.getElem?_set_self (List.getElem?_eq_some_iff.mp h).1
theorem set_ne {μ : Store} {i j : Nat} {o : Option Ob} (h : i ≠ j) : (μ.set i o)[j]? = μ[j]? := List.getElem?_set_ne h
end DL

set_option Elab.async false
set_option linter.all false
set_option maxRecDepth 100000
set_option maxHeartbeats 1000000
namespace Du
open PySem L2 PyProof.Rows PySem.SeqAt
open AutoSeq1 (wpAny_loadPart')
section
variable {prog : Program} {w : World} {A : Around} {E : Value → Shared → Prop} {s : Shared} {K : PySem.W.Frag} {x C f : Addr} {ox : Obj} {od : Option Obj}
theorem sub_int : PySem.W.subIn K (.type "int") (.ref C) = some false := by
  have e : fastBuiltinMro "int" = some [.type "int", .type "object"] := by decide +kernel
  show (fastBuiltinMro "int").map (·.contains (.ref C)) = some false
  rw [e]; simp
theorem sub_bool : PySem.W.subIn K (.type "bool") (.ref C) = some false := by
  have e : fastBuiltinMro "bool" = some [.type "bool", .type "int", .type "object"] := by decide +kernel
  show (fastBuiltinMro "bool").map (·.contains (.ref C)) = some false
  rw [e]; simp
theorem sub_str : PySem.W.subIn K (.type "str") (.ref C) = some false := by
  have e : fastBuiltinMro "str" = some [.type "str", .type "object"] := by decide +kernel
  show (fastBuiltinMro "str").map (·.contains (.ref C)) = some false
  rw [e]; simp
theorem sub_tuple : PySem.W.subIn K (.type "tuple") (.ref C) = some false := by
  have e : fastBuiltinMro "tuple" = some [.type "tuple", .type "object"] := by decide +kernel
  show (fastBuiltinMro "tuple").map (·.contains (.ref C)) = some false
  rw [e]; simp
theorem sub_list : PySem.W.subIn K (.type "list") (.ref C) = some false := by
  have e : fastBuiltinMro "list" = some [.type "list", .type "object"] := by decide +kernel
  show (fastBuiltinMro "list").map (·.contains (.ref C)) = some false
  rw [e]; simp
theorem sub_dict : PySem.W.subIn K (.type "dict") (.ref C) = some false := by
  have e : fastBuiltinMro "dict" = some [.type "dict", .type "object"] := by decide +kernel
  show (fastBuiltinMro "dict").map (·.contains (.ref C)) = some false
  rw [e]; simp
theorem inst_no {M : Model} {T : String} {Q : Bool → Shared → Prop} (X : K.In s.heap) (I : PySem.W.InstAt s.heap x ox C od) (h : PySem.W.subIn K (.ref C) (.type T) = some false) (q : Q false s) : wpAny M A (isInstance (.ref x) (.type T)) Q E s := by
  unfold isInstance
  exact wpAny_bind (I.type.here ((PySem.W.looks_subIn X h).here q))
/-! what builtin things say of an own object: nothing -/
/-- a value of a builtin type that says nothing of the object at x -/
structure Dec (prog : Program) (w : World) (s : Shared) (x : Addr) (u : Value) (T : String) : Prop where
  ty : s.TypeIs u T
  one : ∀ op, oneThing? op u (.ref x) = none
  eq : ∀ (A : Around) (E : Value → Shared → Prop) (Q : Option Value → Shared → Prop), Q none s → wpAny (model prog w) A (tryCompare u (cmpInfo .Eq).2.1 (.ref x)) Q E s
  ne : ∀ (A : Around) (E : Value → Shared → Prop) (Q : Option Value → Shared → Prop), Q none s → wpAny (model prog w) A (tryCompare u (cmpInfo .NotEq).2.1 (.ref x)) Q E s
theorem none_eq0 {dx : Addr} {Q : Fin → Shared → Prop} (X : K.In s.heap) (J : PySem.W.InstAt s.heap x (PySem.W.instObj C dx) C od) (q : Q (.done (.ret .notImplemented)) s) : wpAny (model prog w) A (Builtin.«NoneType.__eq__» ⟨[.none, .ref x], []⟩) Q E s := by
  obtain ⟨hp, g, d, tk, os⟩ := s
  wp_walk
  exact q
theorem none_ne0 {dx : Addr} {Q : Fin → Shared → Prop} (X : K.In s.heap) (J : PySem.W.InstAt s.heap x (PySem.W.instObj C dx) C od) (q : Q (.done (.ret .notImplemented)) s) : wpAny (model prog w) A (Builtin.«NoneType.__ne__» ⟨[.none, .ref x], []⟩) Q E s := by
  obtain ⟨hp, g, d, tk, os⟩ := s
  wp_walk
  exact q
theorem dec_none {dx : Addr} (X : K.In s.heap) (J : PySem.W.InstAt s.heap x (PySem.W.instObj C dx) C od) : Dec prog w s x .none "NoneType" := by
  refine ⟨rfl, fun op => by cases op <;> rfl, fun A E Q q => ?_, fun A E Q q => ?_⟩
  · exact wpAny_tryCompare_declines (T := "NoneType") rfl F.slot_NoneType_eq (GQ.call_here F.slot_NoneType_eq rfl F.entry_NoneType_eq (F.args_NoneType_eq_2 _ _) (none_eq0 X J ⟨rfl, q⟩))
  · exact wpAny_tryCompare_declines (T := "NoneType") rfl F.slot_NoneType_ne (GQ.call_here F.slot_NoneType_ne rfl F.entry_NoneType_ne (F.args_NoneType_ne_2 _ _) (none_ne0 X J ⟨rfl, q⟩))
theorem int_eq0 {dx : Addr} {Q : Fin → Shared → Prop} (X : K.In s.heap) (J : PySem.W.InstAt s.heap x (PySem.W.instObj C dx) C od) (i : Int) (t : Tok) (q : Q (.done (.ret .notImplemented)) s) : wpAny (model prog w) A (Builtin.«int.__eq__» ⟨[(.int i t), .ref x], []⟩) Q E s := by
  obtain ⟨hp, g, d, tk, os⟩ := s
  wp_walk using wpAny_load J.at_
  exact q
theorem int_ne0 {dx : Addr} {Q : Fin → Shared → Prop} (X : K.In s.heap) (J : PySem.W.InstAt s.heap x (PySem.W.instObj C dx) C od) (i : Int) (t : Tok) (q : Q (.done (.ret .notImplemented)) s) : wpAny (model prog w) A (Builtin.«int.__ne__» ⟨[(.int i t), .ref x], []⟩) Q E s := by
  obtain ⟨hp, g, d, tk, os⟩ := s
  wp_walk using wpAny_load J.at_
  exact q
theorem dec_int {dx : Addr} (X : K.In s.heap) (J : PySem.W.InstAt s.heap x (PySem.W.instObj C dx) C od) (i : Int) (t : Tok) : Dec prog w s x (.int i t) "int" := by
  refine ⟨rfl, fun op => by cases op <;> rfl, fun A E Q q => ?_, fun A E Q q => ?_⟩
  · exact wpAny_tryCompare_declines (T := "int") rfl F.slot_int_eq (GQ.call_here F.slot_int_eq rfl F.entry_int_eq (F.args_int_eq_2 _ _) (int_eq0 X J i t ⟨rfl, q⟩))
  · exact wpAny_tryCompare_declines (T := "int") rfl F.slot_int_ne (GQ.call_here F.slot_int_ne rfl F.entry_int_ne (F.args_int_ne_2 _ _) (int_ne0 X J i t ⟨rfl, q⟩))
theorem bool_eq0 {dx : Addr} {Q : Fin → Shared → Prop} (X : K.In s.heap) (J : PySem.W.InstAt s.heap x (PySem.W.instObj C dx) C od) (b : Bool) (q : Q (.done (.ret .notImplemented)) s) : wpAny (model prog w) A (Builtin.«int.__eq__» ⟨[(.bool b), .ref x], []⟩) Q E s := by
  obtain ⟨hp, g, d, tk, os⟩ := s
  wp_walk using wpAny_load J.at_
  exact q
theorem bool_ne0 {dx : Addr} {Q : Fin → Shared → Prop} (X : K.In s.heap) (J : PySem.W.InstAt s.heap x (PySem.W.instObj C dx) C od) (b : Bool) (q : Q (.done (.ret .notImplemented)) s) : wpAny (model prog w) A (Builtin.«int.__ne__» ⟨[(.bool b), .ref x], []⟩) Q E s := by
  obtain ⟨hp, g, d, tk, os⟩ := s
  wp_walk using wpAny_load J.at_
  exact q
theorem dec_bool {dx : Addr} (X : K.In s.heap) (J : PySem.W.InstAt s.heap x (PySem.W.instObj C dx) C od) (b : Bool) : Dec prog w s x (.bool b) "bool" := by
  refine ⟨rfl, fun op => by cases op <;> rfl, fun A E Q q => ?_, fun A E Q q => ?_⟩
  · exact wpAny_tryCompare_declines (T := "bool") rfl F.slot_bool_eq (GQ.call_here F.slot_bool_eq rfl F.entry_int_eq (F.args_int_eq_2 _ _) (bool_eq0 X J b ⟨rfl, q⟩))
  · exact wpAny_tryCompare_declines (T := "bool") rfl F.slot_bool_ne (GQ.call_here F.slot_bool_ne rfl F.entry_int_ne (F.args_int_ne_2 _ _) (bool_ne0 X J b ⟨rfl, q⟩))
theorem str_eq0 {dx : Addr} {Q : Fin → Shared → Prop} (X : K.In s.heap) (J : PySem.W.InstAt s.heap x (PySem.W.instObj C dx) C od) (z : Str) (t : Tok) (q : Q (.done (.ret .notImplemented)) s) : wpAny (model prog w) A (Builtin.«str.__eq__» ⟨[(.str z t), .ref x], []⟩) Q E s := by
  obtain ⟨hp, g, d, tk, os⟩ := s
  wp_walk using wpAny_load J.at_
  exact q
theorem str_ne0 {dx : Addr} {Q : Fin → Shared → Prop} (X : K.In s.heap) (J : PySem.W.InstAt s.heap x (PySem.W.instObj C dx) C od) (z : Str) (t : Tok) (q : Q (.done (.ret .notImplemented)) s) : wpAny (model prog w) A (Builtin.«str.__ne__» ⟨[(.str z t), .ref x], []⟩) Q E s := by
  obtain ⟨hp, g, d, tk, os⟩ := s
  wp_walk using wpAny_load J.at_
  exact q
theorem dec_str {dx : Addr} (X : K.In s.heap) (J : PySem.W.InstAt s.heap x (PySem.W.instObj C dx) C od) (z : Str) (t : Tok) : Dec prog w s x (.str z t) "str" := by
  refine ⟨rfl, fun op => by cases op <;> rfl, fun A E Q q => ?_, fun A E Q q => ?_⟩
  · exact wpAny_tryCompare_declines (T := "str") rfl F.slot_str_eq (GQ.call_here F.slot_str_eq rfl F.entry_str_eq (F.args_str_eq_2 _ _) (str_eq0 X J z t ⟨rfl, q⟩))
  · exact wpAny_tryCompare_declines (T := "str") rfl F.slot_str_ne (GQ.call_here F.slot_str_ne rfl F.entry_str_ne (F.args_str_ne_2 _ _) (str_ne0 X J z t ⟨rfl, q⟩))
theorem tuple_eq0 {dx : Addr} {Q : Fin → Shared → Prop} (X : K.In s.heap) (J : PySem.W.InstAt s.heap x (PySem.W.instObj C dx) C od) (h : PySem.W.subIn K (.ref C) (.type "tuple") = some false) {l : Addr} (q : Q (.done (.ret .notImplemented)) s) : wpAny (model prog w) A (Builtin.«tuple.__eq__» ⟨[(.ref l), .ref x], []⟩) Q E s := by
  obtain ⟨hp, g, d, tk, os⟩ := s
  wp_walk using inst_no X J h
  exact q
theorem tuple_ne0 {dx : Addr} {Q : Fin → Shared → Prop} (X : K.In s.heap) (J : PySem.W.InstAt s.heap x (PySem.W.instObj C dx) C od) (h : PySem.W.subIn K (.ref C) (.type "tuple") = some false) {l : Addr} (q : Q (.done (.ret .notImplemented)) s) : wpAny (model prog w) A (Builtin.«tuple.__ne__» ⟨[(.ref l), .ref x], []⟩) Q E s := by
  obtain ⟨hp, g, d, tk, os⟩ := s
  wp_walk using inst_no X J h
  exact q
theorem dec_tuple {dx : Addr} (X : K.In s.heap) (J : PySem.W.InstAt s.heap x (PySem.W.instObj C dx) C od) (h : PySem.W.subIn K (.ref C) (.type "tuple") = some false) {l : Addr} (hT : s.TypeIs (.ref l) "tuple") : Dec prog w s x (.ref l) "tuple" := by
  refine ⟨hT, fun op => by cases op <;> rfl, fun A E Q q => ?_, fun A E Q q => ?_⟩
  · exact wpAny_tryCompare_declines (T := "tuple") hT F.slot_tuple_eq (GQ.call_here F.slot_tuple_eq hT F.entry_tuple_eq (F.args_tuple_eq_2 _ _) (tuple_eq0 X J h ⟨rfl, q⟩))
  · exact wpAny_tryCompare_declines (T := "tuple") hT F.slot_tuple_ne (GQ.call_here F.slot_tuple_ne hT F.entry_tuple_ne (F.args_tuple_ne_2 _ _) (tuple_ne0 X J h ⟨rfl, q⟩))
theorem list_eq0 {dx : Addr} {Q : Fin → Shared → Prop} (X : K.In s.heap) (J : PySem.W.InstAt s.heap x (PySem.W.instObj C dx) C od) (h : PySem.W.subIn K (.ref C) (.type "list") = some false) {l : Addr} (q : Q (.done (.ret .notImplemented)) s) : wpAny (model prog w) A (Builtin.«list.__eq__» ⟨[(.ref l), .ref x], []⟩) Q E s := by
  obtain ⟨hp, g, d, tk, os⟩ := s
  wp_walk using inst_no X J h
  exact q
theorem list_ne0 {dx : Addr} {Q : Fin → Shared → Prop} (X : K.In s.heap) (J : PySem.W.InstAt s.heap x (PySem.W.instObj C dx) C od) (h : PySem.W.subIn K (.ref C) (.type "list") = some false) {l : Addr} (q : Q (.done (.ret .notImplemented)) s) : wpAny (model prog w) A (Builtin.«list.__ne__» ⟨[(.ref l), .ref x], []⟩) Q E s := by
  obtain ⟨hp, g, d, tk, os⟩ := s
  wp_walk using inst_no X J h
  exact q
theorem dec_list {dx : Addr} (X : K.In s.heap) (J : PySem.W.InstAt s.heap x (PySem.W.instObj C dx) C od) (h : PySem.W.subIn K (.ref C) (.type "list") = some false) {l : Addr} (hT : s.TypeIs (.ref l) "list") : Dec prog w s x (.ref l) "list" := by
  refine ⟨hT, fun op => by cases op <;> rfl, fun A E Q q => ?_, fun A E Q q => ?_⟩
  · exact wpAny_tryCompare_declines (T := "list") hT F.slot_list_eq (GQ.call_here F.slot_list_eq hT F.entry_list_eq (F.args_list_eq_2 _ _) (list_eq0 X J h ⟨rfl, q⟩))
  · exact wpAny_tryCompare_declines (T := "list") hT F.slot_list_ne (GQ.call_here F.slot_list_ne hT F.entry_list_ne (F.args_list_ne_2 _ _) (list_ne0 X J h ⟨rfl, q⟩))
theorem dict_eq0 {dx : Addr} {Q : Fin → Shared → Prop} (X : K.In s.heap) (J : PySem.W.InstAt s.heap x (PySem.W.instObj C dx) C od) (h : PySem.W.subIn K (.ref C) (.type "dict") = some false) {l : Addr} (q : Q (.done (.ret .notImplemented)) s) : wpAny (model prog w) A (Builtin.«dict.__eq__» ⟨[(.ref l), .ref x], []⟩) Q E s := by
  obtain ⟨hp, g, d, tk, os⟩ := s
  wp_walk using inst_no X J h
  exact q
theorem dict_ne0 {dx : Addr} {Q : Fin → Shared → Prop} (X : K.In s.heap) (J : PySem.W.InstAt s.heap x (PySem.W.instObj C dx) C od) (h : PySem.W.subIn K (.ref C) (.type "dict") = some false) {l : Addr} (q : Q (.done (.ret .notImplemented)) s) : wpAny (model prog w) A (Builtin.«dict.__ne__» ⟨[(.ref l), .ref x], []⟩) Q E s := by
  obtain ⟨hp, g, d, tk, os⟩ := s
  wp_walk using inst_no X J h
  exact q
theorem dec_dict {dx : Addr} (X : K.In s.heap) (J : PySem.W.InstAt s.heap x (PySem.W.instObj C dx) C od) (h : PySem.W.subIn K (.ref C) (.type "dict") = some false) {l : Addr} (hT : s.TypeIs (.ref l) "dict") : Dec prog w s x (.ref l) "dict" := by
  refine ⟨hT, fun op => by cases op <;> rfl, fun A E Q q => ?_, fun A E Q q => ?_⟩
  · exact wpAny_tryCompare_declines (T := "dict") hT F.slot_dict_eq (GQ.call_here F.slot_dict_eq hT F.entry_dict_eq (F.args_dict_eq_2 _ _) (dict_eq0 X J h ⟨rfl, q⟩))
  · exact wpAny_tryCompare_declines (T := "dict") hT F.slot_dict_ne (GQ.call_here F.slot_dict_ne hT F.entry_dict_ne (F.args_dict_ne_2 _ _) (dict_ne0 X J h ⟨rfl, q⟩))
end
end Du

set_option Elab.async false
set_option linter.all false
set_option maxRecDepth 100000
set_option maxHeartbeats 1000000
namespace Du
open PySem L2 PyProof.Rows PySem.SeqAt
open AutoSeq1 (wpAny_loadPart')
open MeetsSeq
section
variable {prog : Program} {w : World} {A : Around} {E : Value → Shared → Prop} {s : Shared} {K : PySem.W.Frag} {x dx C f : Addr} {od : Option Obj} {u : Value}
/-! object's __ne__ over an own ==, whatever is beside it -/
theorem neU_body {Q : Fin → Shared → Prop} (hu : A.units < cLine) (X : K.In s.heap) (I : PySem.W.InstAt s.heap x (PySem.W.instObj C dx) C od) (hs : PySem.W.findIn K (.ref C) "__eq__" = some (some (.ref f))) (hf : PySem.W.isFn K (.ref f) = true)
    (h : wpAny (model prog w) A (call (.ref f) [.ref x, u]) (fun v s' => ∃ b, v = .bool b ∧ Q (.done (.ret (.bool (!b)))) s') E s) : wpAny (model prog w) A (Builtin.«object.__ne__» ⟨[.ref x, u], []⟩) Q E s := by
  unfold Builtin.«object.__ne__»
  refine wpAny_bind (m := slotArgs "__ne__" 1 _) (wpAny_pure (wpAny_bind (wpAny_cRoomFor hu ?_)))
  refine wpAny_bind (m := callSpecialIfBound? (.ref x) (Str.ofString "__eq__") [u]) (PySem.W.ifBound_K X I hs hf (wpAny_mono h (fun r s' hr => ?_) fun _ _ e => e))
  obtain ⟨b, rfl, hq⟩ := hr
  exact wpAny_bind (wpAny_truthy_bool (wpAny_pure hq))
theorem neU_try {Q : Option Value → Shared → Prop} (hu : A.units + 1 < cLine) (X : K.In s.heap) (I : PySem.W.InstAt s.heap x (PySem.W.instObj C dx) C od) (hn : PySem.W.findIn K (.ref C) "__ne__" = some (some (.builtin "object.__ne__")))
    (ho : PySem.W.subIn K (.ref C) (.type "object") = some true) (hs : PySem.W.findIn K (.ref C) "__eq__" = some (some (.ref f))) (hf : PySem.W.isFn K (.ref f) = true)
    (h : wpAny (model prog w) A.in1 (call (.ref f) [.ref x, u]) (fun v s' => ∃ b, v = .bool b ∧ Q (some (.bool (!b))) s') E s) : wpAny (model prog w) A (tryCompare (.ref x) (Str.ofString "__ne__") u) Q E s := by
  have S := F.cmp_object.ne
  have go : wpAny (model prog w) A (call (.builtin "object.__ne__") [.ref x, u]) (fun v s' => ∃ b, v = .bool b ∧ Q (some (.bool b)) s') E s := by
    refine wpAny_call (codeAny_call_builtin S.plain F.cmpEntry_ne (PySem.W.check_slot F.cmpKind_ne F.cmpSplit_ne (I.type.andThen (PySem.W.looks_subIn X ho)) (F.cmpArgs_ne _ _) ?_))
    exact neU_body hu X I hs hf (wpAny_mono h (fun v s' z => by obtain ⟨b, rfl, q⟩ := z; exact ⟨b, rfl, !b, rfl, q⟩) fun _ _ e => e)
  have fin : wpAny (model prog w) A (call (.builtin "object.__ne__") ([.ref x] ++ [u]) >>= fun v => pure (some v)) (fun r s' => ∃ b, r = some (Value.bool b) ∧ Q (some (.bool b)) s') E s :=
    wpAny_bind (wpAny_mono go (fun v s' z => by obtain ⟨b, rfl, q⟩ := z; exact wpAny_pure ⟨b, rfl, q⟩) fun _ _ e => e)
  unfold tryCompare
  refine wpAny_bind (m := callSpecialIfBound? (.ref x) (Str.ofString "__ne__") [u]) ?_
  have step : wpAny (model prog w) A (callSpecialIfBound? (.ref x) (Str.ofString "__ne__") [u]) (fun r s' => ∃ b, r = some (Value.bool b) ∧ Q (some (.bool b)) s') E s := by
    simp only [callSpecialIfBound?, bindSpecialIfBound?]
    refine wpAny_holding (wpAny_bind (wpAny_bind (wpAny_bind (I.type.here ((PySem.W.looks_findIn X hn).here (wpAny_bind (wpAny_askSetting (wpAny_ite ?_))))))))
    split
    · rw [S.bind]; exact wpAny_bind (wpAny_pure (wpAny_pure (by exact fin)))
    · rw [S.bind]; exact wpAny_tryCatch (wpAny_bind (wpAny_pure (wpAny_pure (by exact fin))))
  refine wpAny_mono step (fun r s' z => ?_) fun _ _ e => e
  obtain ⟨b, rfl, q⟩ := z
  exact wpAny_pure q
/-- x != y, x of an own class -/
theorem neU_rich {Q : Value → Shared → Prop} {tb : Value} (hu : A.units + 1 < cLine) (X : K.In s.heap) (I : PySem.W.InstAt s.heap x (PySem.W.instObj C dx) C od) (hy : PySem.W.Looks (model prog w) s.heap (typeOf u) tb) (hnf : PySem.W.notFirst K C tb = true) (hn : PySem.W.findIn K (.ref C) "__ne__" = some (some (.builtin "object.__ne__")))
    (ho : PySem.W.subIn K (.ref C) (.type "object") = some true) (hs : PySem.W.findIn K (.ref C) "__eq__" = some (some (.ref f))) (hf : PySem.W.isFn K (.ref f) = true)
    (h : wpAny (model prog w) A.in1 (call (.ref f) [.ref x, u]) (fun v s' => ∃ b, v = .bool b ∧ Q (.bool (!b)) s') E s) : wpAny (model prog w) A (richCompare .NotEq (.ref x) u) Q E s := by
  have one : wpAny (model prog w) A (tryCompare (.ref x) (Str.ofString "__ne__") u) (fun r s' => ∃ v, r = some v ∧ Q v s') E s :=
    neU_try hu X I hn ho hs hf (wpAny_mono h (fun v s' z => by obtain ⟨b, rfl, q⟩ := z; exact ⟨b, rfl, _, rfl, q⟩) fun _ _ e => e)
  unfold richCompare
  simp only [oneThing_ref, cmpInfo_NotEq]
  refine wpAny_holding (wpAny_bind (wpAny_cRoomFor (Nat.lt_of_succ_lt hu) (wpAny_bind (I.type.here (wpAny_bind (hy.here ?_))))))
  split
  · rename_i q
    have e : PySem.W.subIn K tb (.ref C) = some false := by
      rcases Bool.or_eq_true_iff.mp hnf with e | e
      · rw [beq_iff_eq.mp e] at q; simp at q
      · exact beq_iff_eq.mp e
    refine wpAny_bind ((PySem.W.looks_subIn X e).here ?_)
    simp only [Bool.false_eq_true, if_false]
    refine wpAny_bind (wpAny_mono one (fun r s' z => ?_) fun _ _ e => e)
    obtain ⟨v, rfl, q⟩ := z
    exact wpAny_pure q
  · refine wpAny_bind (wpAny_pure ?_)
    simp only [Bool.false_eq_true, if_false]
    refine wpAny_bind (wpAny_mono one (fun r s' z => ?_) fun _ _ e => e)
    obtain ⟨v, rfl, q⟩ := z
    exact wpAny_pure q
/-- y == x, y builtin, x of an own class -/
theorem rc_ownR {T : String} {Q : Value → Shared → Prop} (hu : A.units < cLine) (X : K.In s.heap) (I : PySem.W.InstAt s.heap x (PySem.W.instObj C dx) C od) (D : Dec prog w s x u T) (hT : PySem.W.subIn K (.ref C) (.type T) = some false)
    (hs : PySem.W.findIn K (.ref C) "__eq__" = some (some (.ref f))) (hf : PySem.W.isFn K (.ref f) = true)
    (h : wpAny (model prog w) A (call (.ref f) [.ref x, u]) (fun v s' => ∃ b, v = .bool b ∧ Q (.bool b) s') E s) : wpAny (model prog w) A (richCompare .Eq u (.ref x)) Q E s := by
  have two : wpAny (model prog w) A (tryCompare (.ref x) (Str.ofString "__eq__") u) (fun r s' => ∃ v, r = some v ∧ Q v s') E s := by
    unfold tryCompare
    refine wpAny_bind (PySem.W.ifBound_K X I hs hf (wpAny_mono h (fun v s' hv => ?_) fun _ _ e => e))
    obtain ⟨b, rfl, q⟩ := hv
    exact wpAny_pure ⟨_, rfl, q⟩
  unfold richCompare
  simp only [D.one, cmpInfo_Eq]
  refine wpAny_holding (wpAny_bind (wpAny_cRoomFor hu (wpAny_bind (wpAny_typeOf D.ty (wpAny_bind (I.type.here ?_))))))
  have e : (Value.type T != Value.ref C) = true := by simp
  simp only [e, if_true]
  refine wpAny_bind ((PySem.W.looks_subIn X hT).here ?_)
  simp only [Bool.false_eq_true, if_false, Bool.not_false, if_true]
  refine wpAny_bind (m := tryCompare u _ (.ref x)) (D.eq _ _ _ ?_)
  refine wpAny_bind (m := tryCompare (.ref x) _ u) (wpAny_mono two (fun r s1 z => ?_) fun _ _ e => e)
  obtain ⟨v, rfl, q⟩ := z
  exact wpAny_pure q
/-- y != x, y builtin, x of an own class -/
theorem ne_ownR {T : String} {Q : Value → Shared → Prop} (hu : A.units + 1 < cLine) (X : K.In s.heap) (I : PySem.W.InstAt s.heap x (PySem.W.instObj C dx) C od) (D : Dec prog w s x u T) (hT : PySem.W.subIn K (.ref C) (.type T) = some false)
    (hn : PySem.W.findIn K (.ref C) "__ne__" = some (some (.builtin "object.__ne__"))) (ho : PySem.W.subIn K (.ref C) (.type "object") = some true) (hs : PySem.W.findIn K (.ref C) "__eq__" = some (some (.ref f))) (hf : PySem.W.isFn K (.ref f) = true)
    (h : wpAny (model prog w) A.in1 (call (.ref f) [.ref x, u]) (fun v s' => ∃ b, v = .bool b ∧ Q (.bool (!b)) s') E s) : wpAny (model prog w) A (richCompare .NotEq u (.ref x)) Q E s := by
  have two : wpAny (model prog w) A (tryCompare (.ref x) (Str.ofString "__ne__") u) (fun r s' => ∃ v, r = some v ∧ Q v s') E s :=
    neU_try hu X I hn ho hs hf (wpAny_mono h (fun v s' z => by obtain ⟨b, rfl, q⟩ := z; exact ⟨b, rfl, _, rfl, q⟩) fun _ _ e => e)
  unfold richCompare
  simp only [D.one, cmpInfo_NotEq]
  refine wpAny_holding (wpAny_bind (wpAny_cRoomFor (Nat.lt_of_succ_lt hu) (wpAny_bind (wpAny_typeOf D.ty (wpAny_bind (I.type.here ?_))))))
  have e : (Value.type T != Value.ref C) = true := by simp
  simp only [e, if_true]
  refine wpAny_bind ((PySem.W.looks_subIn X hT).here ?_)
  simp only [Bool.false_eq_true, if_false, Bool.not_false, if_true]
  refine wpAny_bind (m := tryCompare u _ (.ref x)) (D.ne _ _ _ ?_)
  refine wpAny_bind (m := tryCompare (.ref x) _ u) (wpAny_mono two (fun r s1 z => ?_) fun _ _ e => e)
  obtain ⟨v, rfl, q⟩ := z
  exact wpAny_pure q
end
/-! on the abstract heap -/
/-- a class with an own == -/
structure OwnE (P : Program) (w : World) (K : PySem.W.Frag) (mg : Str → Option Value) (base : Heap) (k : Nat) (C : Addr) (sp : Sp) : Prop where
  ex : ∃ (f : Addr) (fd : FuncData) (ps : List Str), FnOk P w K mg base CX0 k f fd ps sp ∧ Binds K fd ps [] ∧ PySem.W.findIn K (.ref C) "__eq__" = some (some (.ref f)) ∧ PySem.W.isFn K (.ref f) = true
  ne : PySem.W.findIn K (.ref C) "__ne__" = some (some (.builtin "object.__ne__"))
  ob : PySem.W.subIn K (.ref C) (.type "object") = some true
  nN : PySem.W.subIn K (.ref C) (.type "NoneType") = some false
  nI : PySem.W.subIn K (.ref C) (.type "int") = some false
  nB : PySem.W.subIn K (.ref C) (.type "bool") = some false
  nS : PySem.W.subIn K (.ref C) (.type "str") = some false
  nT : PySem.W.subIn K (.ref C) (.type "tuple") = some false
  nL : PySem.W.subIn K (.ref C) (.type "list") = some false
  nD : PySem.W.subIn K (.ref C) (.type "dict") = some false
/-- what the own == says of the object at a and y: b -/
def EqSp (sp : Sp) (H0 : Hp) (a : Addr) (y : V) (b : Bool) : Prop := ∀ H, Same H0 H → ∀ Q : VK, (∀ H', Same H H' → Q (.bl b) H') → sp [.ref a, y] H Q E0
theorem EqSp.same {sp : Sp} {H H' : Hp} {a : Addr} {y : V} {b : Bool} (h : EqSp sp H a y b) (s : Same H H') : EqSp sp H' a y b := fun H2 s2 => h H2 (s.trans s2)
/-- a plain thing, by its type's name -/
inductive Pl (K : PySem.W.Frag) (H : Hp) : V → String → Prop
  | non : Pl K H .non "NoneType"
  | bl (b : Bool) : Pl K H (.bl b) "bool"
  | int (i : Int) : Pl K H (.int i) "int"
  | str (z : Str) : Pl K H (.str z) "str"
  | tup {a : Addr} {xs : List V} : SqT K H a xs → Pl K H (.ref a) "tuple"
  | lst {a : Addr} {xs : List V} : SqL K H a xs → Pl K H (.ref a) "list"
  | dic {a : Addr} {kvs : List (Key × V)} : H a = some (.dK kvs) → Pl K H (.ref a) "dict"
section
variable {X : Cx} {pins : List (Addr × Obj)} {σ : L2.St} {H H' : Hp} {s : Shared} {k n : Nat} {C a : Addr} {sp : Sp} {y : V} {T : String} {b : Bool}
theorem Pl.same {K : PySem.W.Frag} (p : Pl K H y T) (s : Same H H') : Pl K H' y T := by
  cases p with
  | non => exact .non
  | bl b => exact .bl b
  | int i => exact .int i
  | str z => exact .str z
  | tup h => exact .tup (h.ext s)
  | lst h => exact .lst (h.ext s)
  | dic h => exact .dic (s _ _ h)
theorem Pl.ty (I : Inv X pins σ H s) (p : Pl X.K H y T) {u : Value} (r : RelV y u) : s.TypeIs u T := by
  cases p with
  | non => cases r; rfl
  | bl b => cases r; rfl
  | int i => obtain ⟨t, rfl⟩ := r; rfl
  | str z => obtain ⟨t, rfl⟩ := r; rfl
  | tup h =>
    cases (show u = Value.ref _ from r)
    obtain ⟨its, _, ⟨o, ho, hc, _⟩, _⟩ := I.tuple h
    exact ⟨o, ho, hc⟩
  | lst h =>
    cases (show u = Value.ref _ from r)
    obtain ⟨its, _, ⟨o, n, ho, hc, _⟩, _⟩ := I.list h
    exact ⟨o, ho, hc⟩
  | dic h =>
    cases (show u = Value.ref _ from r)
    obtain ⟨_, _, vs, _, o, es, ep, ho, hx, _⟩ := dk_of I.hok h
    exact ⟨o, ho, hx.1⟩
theorem Pl.sub {K : PySem.W.Frag} (p : Pl K H y T) : PySem.W.subIn K (.type T) (.ref C) = some false := by
  cases p with
  | non => exact HN.sub_none
  | bl b => exact sub_bool
  | int i => exact sub_int
  | str z => exact sub_str
  | tup h => exact sub_tuple
  | lst h => exact sub_list
  | dic h => exact sub_dict
theorem Pl.nsub {P : Program} {w : World} {K : PySem.W.Frag} {mg : Str → Option Value} {base : Heap} (O : OwnE P w K mg base k C sp) (p : Pl K H y T) : PySem.W.subIn K (.ref C) (.type T) = some false := by
  cases p with
  | non => exact O.nN
  | bl b => exact O.nB
  | int i => exact O.nI
  | str z => exact O.nS
  | tup h => exact O.nT
  | lst h => exact O.nL
  | dic h => exact O.nD
theorem Pl.dec (O : OwnE X.prog X.w X.K X.mg X.base k C sp) (I : Inv X pins σ H s) (p : Pl X.K H y T) {u : Value} (r : RelV y u) {dx : Addr} {od : Option Obj} (J : PySem.W.InstAt s.heap a (PySem.W.instObj C dx) C od) : Dec X.prog X.w s a u T := by
  have t := p.ty I r
  cases p with
  | non => cases r; exact dec_none I.kIn J
  | bl b => cases r; exact dec_bool I.kIn J b
  | int i => obtain ⟨t1, rfl⟩ := r; exact dec_int I.kIn J i t1
  | str z => obtain ⟨t1, rfl⟩ := r; exact dec_str I.kIn J z t1
  | tup h => cases (show u = Value.ref _ from r); exact dec_tuple I.kIn J O.nT t
  | lst h => cases (show u = Value.ref _ from r); exact dec_list I.kIn J O.nL t
  | dic h => cases (show u = Value.ref _ from r); exact dec_dict I.kIn J O.nD t
/-- what may stand beside an object of the class C: a plain thing, or an object whose class does not go first -/
inductive Yt (K : PySem.W.Frag) (C : Addr) (H : Hp) : V → Prop
  | pl {y : V} {T : String} : Pl K H y T → Yt K C H y
  | own {c C' dx : Addr} {fs : List (Str × V)} : H c = some (.ins C' dx fs) → PySem.W.notFirst K C (.ref C') = true → Yt K C H (.ref c)
theorem Yt.same {K : PySem.W.Frag} (p : Yt K C H y) (s : Same H H') : Yt K C H' y := by
  cases p with
  | pl p => exact .pl (p.same s)
  | own e n => exact .own (s _ _ e) n
theorem looks_ty {M : Model} {u : Value} (t : s.TypeIs u T) : PySem.W.Looks M s.heap (typeOf u) (.type T) := by
  intro A Q E s' hk q
  refine wpAny_typeOf (T := T) ?_ q
  cases u <;> first | exact t | (obtain ⟨o, h1, h2⟩ := t; exact ⟨o, hk _ _ h1, h2⟩)
theorem Yt.looks (I : Inv X pins σ H s) (p : Yt X.K C H y) {u : Value} (r : RelV y u) : ∃ tb, PySem.W.Looks (model X.prog X.w) s.heap (typeOf u) tb ∧ PySem.W.notFirst X.K C tb = true := by
  cases p with
  | pl p => exact ⟨_, looks_ty (p.ty I r), by unfold PySem.W.notFirst; rw [p.sub]; simp⟩
  | own e n =>
    cases (show u = Value.ref _ from r)
    obtain ⟨mB, J', _⟩ := ins_get I.hok e
    obtain ⟨od', J', _⟩ := J'.look
    exact ⟨_, J'.type, n⟩
/-- x op y answers b, whatever stands around -/
def RcB (X : Cx) (n : Nat) (op : CmpOp) (H0 : Hp) (x y : V) (b : Bool) : Prop := ∀ (A : Around) (pins : List (Addr × Obj)) (s : Shared) (σ : L2.St) (H : Hp) (u v : Value), Sub X n A → Inv X pins σ H s → Same H0 H → RelV x u → RelV y v →
  wpAny (model X.prog X.w) A (richCompare op u v) (fun r s' => r = .bool b ∧ ∃ H', Inv X pins σ H' s' ∧ Same H H') X.xe s
def EqB (X : Cx) (n : Nat) (H0 : Hp) (x y : V) (b : Bool) : Prop := ∀ (A : Around) (pins : List (Addr × Obj)) (s : Shared) (σ : L2.St) (H : Hp) (u v : Value), Sub X n A → Inv X pins σ H s → Same H0 H → RelV x u → RelV y v →
  wpAny (model X.prog X.w) A (eqBool u v) (fun r s' => r = b ∧ ∃ H', Inv X pins σ H' s' ∧ Same H H') X.xe s
theorem RcB.same {op : CmpOp} {x : V} (h : RcB X n op H x y b) (s : Same H H') : RcB X n op H' x y b := fun A pins sh σ H2 u v sb I s2 => h A pins sh σ H2 u v sb I (s.trans s2)
theorem EqB.same {x : V} (h : EqB X n H x y b) (s : Same H H') : EqB X n H' x y b := fun A pins sh σ H2 u v sb I s2 => h A pins sh σ H2 u v sb I (s.trans s2)
theorem EqB.mono {m : Nat} {x : V} (h : EqB X n H x y b) (hn : n ≤ m) : EqB X m H x y b := fun A pins sh σ H2 u v sb => h A pins sh σ H2 u v (sb.mono hn)
theorem RcB.mono {m : Nat} {op : CmpOp} {x : V} (h : RcB X n op H x y b) (hn : n ≤ m) : RcB X m op H x y b := fun A pins sh σ H2 u v sb => h A pins sh σ H2 u v (sb.mono hn)
theorem EqSp.call {f : Addr} {fd : FuncData} {ps : List Str} (F : FnOk X.prog X.w X.K X.mg X.base CX0 k f fd ps sp) (hb : Binds X.K fd ps []) {A : Around} (sb : Sub X k A) (I : Inv X pins σ H s) {u : Value} (r : RelV y u) (e : EqSp sp H a y b) :
    wpAny (model X.prog X.w) A (call (.ref f) [.ref a, u]) (fun v s' => v = .bool b ∧ ∃ H', Inv X pins σ H' s' ∧ Same H H') X.xe s := by
  refine wpAny_mono (own_call F hb sb I (vs := [.ref a, y]) (us := [.ref a, u]) (Q := fun v H' => v = .bl b ∧ Same H H') (.cons rfl (.cons r .nil)) (e H (Same.refl _) _ fun H' s' => ⟨rfl, s'⟩)) (fun v s' z => ?_) fun _ _ e => e
  obtain ⟨z, H', I', rz, rfl, sm⟩ := z
  cases rz
  exact ⟨rfl, H', I', sm⟩
theorem rcb_own (O : OwnE X.prog X.w X.K X.mg X.base k C sp) {dx : Addr} {fs : List (Str × V)} (ha : H a = some (.ins C dx fs)) (hy : Yt X.K C H y) (e : EqSp sp H a y b) : RcB X k .Eq H (.ref a) y b := by
  intro A pins s σ H1 u v sb I s1 rx ry
  obtain ⟨f, fd, ps, F, hb, hs, hf⟩ := O.ex
  cases (show u = Value.ref _ from rx)
  obtain ⟨mA, J, _⟩ := ins_get I.hok (s1 _ _ ha)
  obtain ⟨od, J, _⟩ := J.look
  obtain ⟨tb, lk, nf⟩ := (hy.same s1).looks I ry
  obtain ⟨m, hF⟩ := I.fr
  refine PySem.W.cmp_K (op := .Eq) sb.room.units0 hF I.ok.mod.kin J lk nf hs hf (wpAny_mono ((e.same s1).call F hb sb I ry) (fun v s' z => ?_) fun _ _ e => e)
  obtain ⟨rfl, z⟩ := z
  exact ⟨rfl, z⟩
theorem rcb_ownNe (O : OwnE X.prog X.w X.K X.mg X.base k C sp) {dx : Addr} {fs : List (Str × V)} (ha : H a = some (.ins C dx fs)) (hy : Yt X.K C H y) (e : EqSp sp H a y b) : RcB X (k + 1) .NotEq H (.ref a) y (!b) := by
  intro A pins s σ H1 u v sb I s1 rx ry
  obtain ⟨f, fd, ps, F, hb, hs, hf⟩ := O.ex
  cases (show u = Value.ref _ from rx)
  obtain ⟨mA, J, _⟩ := ins_get I.hok (s1 _ _ ha)
  obtain ⟨od, J, _⟩ := J.look
  obtain ⟨tb, lk, nf⟩ := (hy.same s1).looks I ry
  have hu : A.units + 1 < cLine := by have := sb.room.un; omega
  refine neU_rich hu I.kIn J lk nf O.ne O.ob hs hf (wpAny_mono ((e.same s1).call F hb sb.in1 I ry) (fun v s' z => ?_) fun _ _ e => e)
  obtain ⟨rfl, z⟩ := z
  exact ⟨b, rfl, rfl, z⟩
theorem rcb_refl (O : OwnE X.prog X.w X.K X.mg X.base k C sp) {dx : Addr} {fs : List (Str × V)} (ha : H a = some (.ins C dx fs)) (hy : Pl X.K H y T) (e : EqSp sp H a y b) : RcB X k .Eq H y (.ref a) b := by
  intro A pins s σ H1 u v sb I s1 rx ry
  obtain ⟨f, fd, ps, F, hb, hs, hf⟩ := O.ex
  cases (show v = Value.ref _ from ry)
  obtain ⟨mA, J, _⟩ := ins_get I.hok (s1 _ _ ha)
  obtain ⟨od, J, _⟩ := J.look
  refine rc_ownR sb.room.units0 I.kIn J ((hy.same s1).dec O I rx J) (hy.nsub O) hs hf (wpAny_mono ((e.same s1).call F hb sb I rx) (fun v s' z => ?_) fun _ _ e => e)
  obtain ⟨rfl, z⟩ := z
  exact ⟨b, rfl, rfl, z⟩
theorem rcb_reflNe (O : OwnE X.prog X.w X.K X.mg X.base k C sp) {dx : Addr} {fs : List (Str × V)} (ha : H a = some (.ins C dx fs)) (hy : Pl X.K H y T) (e : EqSp sp H a y b) : RcB X (k + 1) .NotEq H y (.ref a) (!b) := by
  intro A pins s σ H1 u v sb I s1 rx ry
  obtain ⟨f, fd, ps, F, hb, hs, hf⟩ := O.ex
  cases (show v = Value.ref _ from ry)
  obtain ⟨mA, J, _⟩ := ins_get I.hok (s1 _ _ ha)
  obtain ⟨od, J, _⟩ := J.look
  have hu : A.units + 1 < cLine := by have := sb.room.un; omega
  refine ne_ownR hu I.kIn J ((hy.same s1).dec O I rx J) (hy.nsub O) O.ne O.ob hs hf (wpAny_mono ((e.same s1).call F hb sb.in1 I rx) (fun v s' z => ?_) fun _ _ e => e)
  obtain ⟨rfl, z⟩ := z
  exact ⟨b, rfl, rfl, z⟩
/-- == within lists and tuples: the same object is equal to itself -/
theorem RcB.eqB {x : V} (h : RcB X n .Eq H x y b) (hs : x = y → b = true) (hr : (∃ a, x = .ref a) ∨ ∃ a, y = .ref a) : EqB X n H x y b := by
  intro A pins s σ H1 u v sb I s1 rx ry
  have hne : (u == v) = true → x = y := fun e => by
    have e := eq_of_beq e
    subst e
    rcases hr with ⟨a, rfl⟩ | ⟨a, rfl⟩
    · cases (show u = Value.ref _ from rx)
      cases y <;> first | (obtain ⟨_, z⟩ := (show ∃ t, _ from ry); cases z; done) | (cases ry; done) | (cases (show Value.ref a = Value.ref _ from ry); rfl)
    · cases (show u = Value.ref _ from ry)
      cases x <;> first | (obtain ⟨_, z⟩ := (show ∃ t, _ from rx); cases z; done) | (cases rx; done) | (cases (show Value.ref a = Value.ref _ from rx); rfl)
  unfold eqBool
  refine wpAny_holding ?_
  refine wpAny_ite_split (fun hab => ?_) (fun _ => ?_)
  · exact wpAny_bind (wpAny_rule (wpAny_pure ⟨(hs (hne hab)).symm, H1, I, Same.refl _⟩))
  · have go : wpAny (model X.prog X.w) A (richCompare .Eq u v >>= fun r => truthOfDropped r) (fun r s' => r = b ∧ ∃ H', Inv X pins σ H' s' ∧ Same H1 H') X.xe s := by
      refine wpAny_bind (wpAny_mono (h A pins s σ H1 u v sb I s1 rx ry) (fun r s' z => ?_) fun _ _ e => e)
      obtain ⟨rfl, z⟩ := z
      exact wpAny_truthy_bool ⟨rfl, z⟩
    rcases hr with ⟨a, rfl⟩ | ⟨a, rfl⟩
    · cases (show u = Value.ref _ from rx)
      exact go
    · cases (show v = Value.ref _ from ry)
      cases u <;> exact go
/-- as expressions -/
theorem op_eqB (hr : Room n X.A) : OpR X (compareOp .Eq) (fun x y H Q => ∃ b, RcB X n .Eq H x y b ∧ ∀ H', Same H H' → Q (.bl b) H') := by
  intro pins s σ H x y v u Q I rx ry hq
  obtain ⟨b, d, q⟩ := hq
  show wpAny (model X.prog X.w) X.A (richCompare .Eq v u) (EP X pins σ Q) X.xe s
  refine wpAny_mono (d X.A pins s σ H v u ⟨hr, rfl⟩ I (Same.refl _) rx ry) (fun r s' z => ?_) fun _ _ x => x
  obtain ⟨rfl, H', I', e⟩ := z
  exact ⟨.bl b, H', I', rfl, q H' e⟩
theorem op_neB (hr : Room n X.A) : OpR X (compareOp .NotEq) (fun x y H Q => ∃ b, RcB X n .NotEq H x y b ∧ ∀ H', Same H H' → Q (.bl b) H') := by
  intro pins s σ H x y v u Q I rx ry hq
  obtain ⟨b, d, q⟩ := hq
  show wpAny (model X.prog X.w) X.A (richCompare .NotEq v u) (EP X pins σ Q) X.xe s
  refine wpAny_mono (d X.A pins s σ H v u ⟨hr, rfl⟩ I (Same.refl _) rx ry) (fun r s' z => ?_) fun _ _ x => x
  obtain ⟨rfl, H', I', e⟩ := z
  exact ⟨.bl b, H', I', rfl, q H' e⟩
end
end Du

set_option Elab.async false
set_option linter.all false
set_option maxRecDepth 100000
set_option maxHeartbeats 1000000
namespace Du
open PySem L2 PyProof.Rows PySem.SeqAt
open AutoSeq1 (wpAny_loadPart')
open MeetsSeq
/-! x in [..], by any == -/
section
variable {prog : Program} {w : World} {A : Around} {R : Result → Shared → Prop}
/-- the list is read anew at each turn: N items, the i-th of which is equal to x, or not, as bs says -/
def ListB (prog : Program) (w : World) (A : Around) (E : Value → Shared → Prop) (l : Addr) (x : Value) (N : Nat) (bs : Nat → Bool) (I : Shared → Prop) : Prop :=
  ∀ s, I s → ∃ (items : Array Value) (n : Nat) (dd : Option Addr) (sl : Array (Option Value)), s.heap.get? l = some { cls := .type "list", dict := dd, data := .seq items n, slots := sl } ∧ items.size = N ∧
    ∀ i (h1 : i < items.size), wpAny (model prog w) A.in1 (eqBool items[i] x) (fun r s' => r = bs i ∧ I s') E s
theorem contains_loopB (l : Addr) (x : Value) (N : Nat) (bs : Nat → Bool) (I : Shared → Prop) (hl : ListB prog w A (fun e s' => R (.error e) s') l x N bs I) (k : Nat) :
    ∀ i : Nat, N - i = k → i ≤ N → ∀ s, I s → (∀ s', I s' → R (.ok (.ret (.bool ((List.range' i (N - i)).any bs)))) s') →
      wpAny (model prog w) A.in1 (Builtin.«list.__contains__.loop» ⟨[.ref l, x, rawInt i], []⟩) (GQ.FinOf prog w A R) (fun e s' => R (.error e) s') s := by
  induction k with
  | zero =>
    intro i hk hi s h q
    obtain ⟨items, n, dd, sl, hl1, hN, _⟩ := hl s h
    have q1 := q s h
    have e0 : N - i = 0 := hk
    rw [e0] at q1
    obtain ⟨hp, g, d, tk, os⟩ := s
    wp_walk using wpAny_loadPart' hl1
    have hi1 : items[((i : Nat) : Int).toNat]? = none := by simp; omega
    rw [hi1]
    wp_walk
    exact q1
  | succ k ih =>
    intro i hk hi s h q
    obtain ⟨items, n, dd, sl, hl1, hN, turn⟩ := hl s h
    have hlt : i < items.size := by omega
    have ht := turn i hlt
    obtain ⟨hp, g, d, tk, os⟩ := s
    wp_walk using wpAny_loadPart' hl1
    have hi1 : items[((i : Nat) : Int).toNat]? = some items[i] := by simp [hlt]
    have hc : ((i : Int) + 1) = ((i + 1 : Nat) : Int) := by omega
    have er : List.range' i (N - i) = i :: List.range' (i + 1) (N - (i + 1)) := by
      have e : N - i = (N - (i + 1)) + 1 := by omega
      rw [e, List.range'_succ]
    rw [hi1]
    refine wpAny_bind (wpAny_mono ht (fun r s2 h2 => ?_) fun _ _ x => x)
    obtain ⟨hr, h2⟩ := h2
    subst hr
    cases hb : bs i with
    | true =>
      have q1 := q s2 h2
      rw [er, List.any_cons, hb] at q1
      obtain ⟨hp2, g2, d2, tk2, os2⟩ := s2
      wp_walk
      exact q1
    | false =>
      have hrec := ih (i + 1) (by omega) (by omega) s2 h2 fun s' h' => by
        have q1 := q s' h'
        rw [er, List.any_cons, hb] at q1
        exact q1
      obtain ⟨hp2, g2, d2, tk2, os2⟩ := s2
      wp_walk
      rw [hc]
      exact ⟨plainId_quiet plain_contains_loop _, codeAny_builtin entry_contains_loop (by
        rw [Around.under_plainId plain_contains_loop _]
        exact hrec)⟩
theorem list_containsB (l : Addr) (x : Value) (N : Nat) (bs : Nat → Bool) (I : Shared → Prop) (hl : ListB prog w A (fun e s' => R (.error e) s') l x N bs I)
    {s : Shared} (h : I s) (q : ∀ s', I s' → R (.ok (.ret (.bool ((List.range N).any bs)))) s') :
    wpAny (model prog w) A.in1 (Builtin.«list.__contains__» ⟨[.ref l, x], []⟩) (GQ.FinOf prog w A R) (fun e s' => R (.error e) s') s := by
  have hrec := contains_loopB (A := A) (R := R) l x N bs I hl _ 0 rfl (Nat.zero_le _) s h fun s' h' => by
    have q1 := q s' h'
    rw [List.range_eq_range'] at q1
    simpa using q1
  obtain ⟨hp, g, d, tk, os⟩ := s
  wp_walk
  exact ⟨plainId_quiet plain_contains_loop _, codeAny_builtin entry_contains_loop (by
    rw [Around.under_plainId plain_contains_loop _]
    exact hrec)⟩
end
theorem any_range : ∀ (bs : List Bool), (List.range bs.length).any (fun i => bs.getD i false) = bs.any id := by
  intro bs
  have e : bs = (List.range bs.length).map (fun i => bs.getD i false) := by
    apply List.ext_getElem?
    intro i
    rw [List.getElem?_map]
    by_cases h : i < bs.length
    · rw [List.getElem?_range h, List.getElem?_eq_getElem h]
      simp [List.getElem?_eq_getElem h]
    · rw [List.getElem?_eq_none (by omega), List.getElem?_eq_none (by simp; omega)]
      rfl
  conv => rhs; rw [e]
  rw [List.any_map]
  rfl
section
variable {X : Cx} {n : Nat}
/-- item by item against x: bs -/
def InB (X : Cx) (n : Nat) (H : Hp) (zs : List V) (x : V) (bs : List Bool) : Prop := zs.length = bs.length ∧ ∀ (i : Nat) z b, zs[i]? = some z → bs[i]? = some b → EqB X n H z x b
theorem InB.nil {H : Hp} {x : V} : InB X n H [] x [] := ⟨rfl, fun i z b e _ => by simp at e⟩
theorem InB.cons {H : Hp} {x z : V} {zs : List V} {b : Bool} {bs : List Bool} (h : EqB X n H z x b) (t : InB X n H zs x bs) : InB X n H (z :: zs) x (b :: bs) := by
  refine ⟨by rw [List.length_cons, List.length_cons, t.1], fun i a c h1 h2 => ?_⟩
  cases i with
  | zero =>
    simp at h1 h2
    subst h1; subst h2
    exact h
  | succ i =>
    simp at h1 h2
    exact t.2 i a c h1 h2
theorem inB_call {A : Around} (sb : Sub X (n + 1) A) {pins : List (Addr × Obj)} {σ : L2.St} {H : Hp} {s : Shared} {p : Addr} {zs : List V} {x : V} {u : Value} {bs : List Bool} (I : Inv X pins σ H s) (hp : H p = some (.lst zs)) (rx : RelV x u) (hb : InB X n H zs x bs) {Q : Bool → Shared → Prop}
    (q : ∀ s' H', Inv X pins σ H' s' → Same H H' → Q (bs.any id) s') : wpAny (model X.prog X.w) A (contains (.ref p) u) Q X.xe s := by
  obtain ⟨_, its0, k0, r0, e0⟩ := I.hok p _ hp
  have hT : s.TypeIs (.ref p) "list" := ⟨_, e0, rfl⟩
  refine wpAny_contains_slot hT F.slot_list_contains (GQ.call_here F.slot_list_contains hT F.entry_list_contains (F.args_list_contains_2 _ _) ?_)
  refine list_containsB p u bs.length (fun i => bs.getD i false) (fun s' => ∃ H', Inv X pins σ H' s' ∧ Same H H') (fun s' h => ?_) ⟨H, I, Same.refl _⟩ fun s' h => ?_
  · obtain ⟨H1, I1, s1⟩ := h
    obtain ⟨_, its, k, r, e⟩ := I1.hok p _ (s1 _ _ hp)
    have hz : its.length = bs.length := by rw [← r.length, hb.1]
    refine ⟨its.toArray, _, _, _, e, by rw [List.size_toArray, hz], fun i h1 => ?_⟩
    have h1' : i < its.length := by simpa using h1
    have k1 : i < zs.length := by rw [r.length]; exact h1'
    obtain ⟨v, hv, rv⟩ := r.get (List.getElem?_eq_getElem k1)
    have g1 : its.toArray[i] = v := by
      rw [List.getElem?_eq_getElem h1'] at hv
      simpa using Option.some.inj hv
    rw [g1]
    have k2 : i < bs.length := by omega
    have eb : bs[i]? = some (bs.getD i false) := by
      rw [List.getElem?_eq_getElem k2, List.getD_eq_getElem?_getD, List.getElem?_eq_getElem k2]
      rfl
    refine wpAny_mono ((hb.2 i _ _ (List.getElem?_eq_getElem k1) eb).same s1 A.in1 pins s' σ H1 v u sb.in1 I1 (Same.refl _) rv rx) (fun r' s2 z => ?_) fun _ _ x => x
    obtain ⟨hr, H2, I2, s2'⟩ := z
    exact ⟨hr, H2, I2, s1.trans s2'⟩
  · obtain ⟨H1, I1, s1⟩ := h
    refine wpAny_truthy_bool ?_
    rw [any_range]
    exact q s' H1 I1 s1
theorem op_inB (hr : Room (n + 1) X.A) : OpR X (compareOp .In) (fun x y H Q => ∃ (p : Addr) (zs : List V) (bs : List Bool), y = .ref p ∧ H p = some (.lst zs) ∧ InB X n H zs x bs ∧ ∀ H', Same H H' → Q (.bl (bs.any id)) H') := by
  intro pins s σ H x y v u Q I rx ry hq
  obtain ⟨p, zs, bs, rfl, hp, hb, q⟩ := hq
  cases (show u = Value.ref _ from ry)
  show wpAny _ X.A (do return Value.bool (← contains (.ref p) v) : Sem Value) _ _ s
  exact wpAny_bind (inB_call ⟨hr, rfl⟩ I hp rx hb fun s' H' I' s1 => wpAny_pure ⟨.bl _, H', I', rfl, q H' s1⟩)
theorem op_notInB (hr : Room (n + 1) X.A) : OpR X (compareOp .NotIn) (fun x y H Q => ∃ (p : Addr) (zs : List V) (bs : List Bool), y = .ref p ∧ H p = some (.lst zs) ∧ InB X n H zs x bs ∧ ∀ H', Same H H' → Q (.bl (!bs.any id)) H') := by
  intro pins s σ H x y v u Q I rx ry hq
  obtain ⟨p, zs, bs, rfl, hp, hb, q⟩ := hq
  cases (show u = Value.ref _ from ry)
  show wpAny _ X.A (do return Value.bool (!(← contains (.ref p) v)) : Sem Value) _ _ s
  exact wpAny_bind (inB_call ⟨hr, rfl⟩ I hp rx hb fun s' H' I' s1 => wpAny_pure ⟨.bl _, H', I', rfl, q H' s1⟩)
end
end Du

set_option Elab.async false
set_option linter.all false
set_option maxRecDepth 100000
set_option maxHeartbeats 1000000
namespace Du
open PySem L2 PyProof.Rows
/-- x == y answers b: one of them is of an own class -/
inductive EqR (P : Program) (w : World) (K : PySem.W.Frag) (mg : Str → Option Value) (base : Heap) (n : Nat) (H : Hp) : V → V → Bool → Prop
  | ownL {C a dx : Addr} {k : Nat} {sp : Sp} {fs : List (Str × V)} {y : V} {b : Bool} : OwnE P w K mg base k C sp → k ≤ n → H a = some (.ins C dx fs) → Yt K C H y → EqSp sp H a y b → EqR P w K mg base n H (.ref a) y b
  | ownR {C a dx : Addr} {k : Nat} {sp : Sp} {fs : List (Str × V)} {y : V} {T : String} {b : Bool} : OwnE P w K mg base k C sp → k ≤ n → H a = some (.ins C dx fs) → Pl K H y T → EqSp sp H a y b → EqR P w K mg base n H y (.ref a) b
section
variable {P : Program} {w : World} {K : PySem.W.Frag} {mg : Str → Option Value} {base : Heap} {n : Nat} {H H' : Hp} {x y : V} {b : Bool}
theorem EqR.same (h : EqR P w K mg base n H x y b) (s : Same H H') : EqR P w K mg base n H' x y b := by
  cases h with
  | ownL O hk ha hy e => exact .ownL O hk (s _ _ ha) (hy.same s) (e.same s)
  | ownR O hk ha hy e => exact .ownR O hk (s _ _ ha) (hy.same s) (e.same s)
theorem EqR.refs (h : EqR P w K mg base n H x y b) : (∃ a, x = .ref a) ∨ ∃ a, y = .ref a := by
  cases h with
  | ownL O hk ha hy e => exact .inl ⟨_, rfl⟩
  | ownR O hk ha hy e => exact .inr ⟨_, rfl⟩
end
section
variable {X : Cx} {n : Nat} {H : Hp} {x y : V} {b : Bool}
theorem EqR.rc (h : EqR X.prog X.w X.K X.mg X.base n H x y b) : RcB X n .Eq H x y b := by
  cases h with
  | ownL O hk ha hy e => exact (rcb_own O ha hy e).mono hk
  | ownR O hk ha hy e => exact (rcb_refl O ha hy e).mono hk
theorem EqR.ne (h : EqR X.prog X.w X.K X.mg X.base n H x y b) : RcB X (n + 1) .NotEq H x y (!b) := by
  cases h with
  | ownL O hk ha hy e => exact (rcb_ownNe O ha hy e).mono (Nat.succ_le_succ hk)
  | ownR O hk ha hy e => exact (rcb_reflNe O ha hy e).mono (Nat.succ_le_succ hk)
end
def rEqR (P : Program) (w : World) (K : PySem.W.Frag) (mg : Str → Option Value) (base : Heap) (n : Nat) : R2 := fun x y H Q => ∃ b, EqR P w K mg base n H x y b ∧ ∀ H', Same H H' → Q (.bl b) H'
def rNeR (P : Program) (w : World) (K : PySem.W.Frag) (mg : Str → Option Value) (base : Heap) (n : Nat) : R2 := fun x y H Q => ∃ b, EqR P w K mg base n H x y b ∧ ∀ H', Same H H' → Q (.bl (!b)) H'
/-- x against each of zs -/
inductive InR (P : Program) (w : World) (K : PySem.W.Frag) (mg : Str → Option Value) (base : Heap) (n : Nat) (H : Hp) (x : V) : List V → List Bool → Prop
  | nil : InR P w K mg base n H x [] []
  | cons {z : V} {zs : List V} {b : Bool} {bs : List Bool} : EqR P w K mg base n H z x b → (z = x → b = true) → InR P w K mg base n H x zs bs → InR P w K mg base n H x (z :: zs) (b :: bs)
def rInR (P : Program) (w : World) (K : PySem.W.Frag) (mg : Str → Option Value) (base : Heap) (n : Nat) (neg : Bool) : R2 := fun x y H Q => ∃ (p : Addr) (zs : List V) (bs : List Bool), y = .ref p ∧ H p = some (.lst zs) ∧ InR P w K mg base n H x zs bs ∧ ∀ H', Same H H' → Q (.bl (if neg then !bs.any id else bs.any id)) H'
section
variable {X : Cx} {n : Nat}
theorem op_eqR (hr : Room n X.A) : OpR X (compareOp .Eq) (rEqR X.prog X.w X.K X.mg X.base n) := fun pins s σ H x y v u Q I rx ry hq => by
  obtain ⟨b, e, q⟩ := hq
  exact op_eqB hr pins s σ H x y v u Q I rx ry ⟨b, e.rc, q⟩
theorem op_neR (hr : Room (n + 1) X.A) : OpR X (compareOp .NotEq) (rNeR X.prog X.w X.K X.mg X.base n) := fun pins s σ H x y v u Q I rx ry hq => by
  obtain ⟨b, e, q⟩ := hq
  exact op_neB hr pins s σ H x y v u Q I rx ry ⟨!b, e.ne, q⟩
theorem InR.inB {H : Hp} {x : V} {zs : List V} {bs : List Bool} (h : InR X.prog X.w X.K X.mg X.base n H x zs bs) : InB X n H zs x bs := by
  induction h with
  | nil => exact .nil
  | cons e hs _ ih => exact .cons (e.rc.eqB hs e.refs) ih
theorem op_inR (hr : Room (n + 1) X.A) : OpR X (compareOp .In) (rInR X.prog X.w X.K X.mg X.base n false) := fun pins s σ H x y v u Q I rx ry hq => by
  obtain ⟨p, zs, bs, e1, e2, h, q⟩ := hq
  exact op_inB hr pins s σ H x y v u Q I rx ry ⟨p, zs, bs, e1, e2, h.inB, q⟩
theorem op_notInR (hr : Room (n + 1) X.A) : OpR X (compareOp .NotIn) (rInR X.prog X.w X.K X.mg X.base n true) := fun pins s σ H x y v u Q I rx ry hq => by
  obtain ⟨p, zs, bs, e1, e2, h, q⟩ := hq
  exact op_notInB hr pins s σ H x y v u Q I rx ry ⟨p, zs, bs, e1, e2, h.inB, q⟩
end
end Du

set_option Elab.async false
set_option linter.all false
set_option maxRecDepth 100000
namespace Du
open PySem PyProof.Rows PySem.SeqAt
open AutoSeq1 (wpAny_loadPart')
open MeetsSeq
section
variable {prog : Program} {w : World} {A : Around} {R : Result → Shared → Prop}
theorem tupU_eq (l b : Addr) (xs ys : Array Value) (n n2 : Nat) (dd dd2 : Option Addr) (sl sl2 : Array (Option Value)) (bs : Nat → Bool) (I : Shared → Prop)
    (turn : ∀ i (h1 : i < xs.size) (h2 : i < ys.size) s, I s → wpAny (model prog w) A.in1 (eqBool xs[i] ys[i]) (fun r s' => r = bs i ∧ I s') (fun e s' => R (.error e) s') s)
    (fin : ∀ s, I s → R (.ok (.ret (.bool ((List.range (min xs.size ys.size)).all bs && xs.size == ys.size)))) s) {s : Shared} (hl1 : s.heap.get? l = some { cls := .type "tuple", dict := dd, data := .seq xs n, slots := sl }) (hb1 : s.heap.get? b = some { cls := .type "tuple", dict := dd2, data := .seq ys n2, slots := sl2 }) (h : I s) :
    wpAny (model prog w) A.in1 (Builtin.«tuple.__eq__» ⟨[.ref l, .ref b], []⟩) (GQ.FinOf prog w A R) (fun e s' => R (.error e) s') s := by
  have f2 := AutoSeq1.sub_tuple_tuple
  have hZ : (xs.toList.zip ys.toList).length = min xs.size ys.size := by simp
  have h0 := h
  obtain ⟨hp, g, d, tk, os⟩ := s
  wp_walk using wpAny_loadPart' hl1, wpAny_loadPart' hb1, wpAny_forIn_list _ (fun rest b s' => b.1 = none ∧ ∃ i, rest = (xs.toList.zip ys.toList).drop i ∧ (∀ j, j < i → bs j = true) ∧ I s') _
  case turn =>
    rintro ⟨y, x⟩ rest b s' ⟨hb', i, hz, hB, hI⟩
    have hlt : i < (xs.toList.zip ys.toList).length := by
      rcases Nat.lt_or_ge i (xs.toList.zip ys.toList).length with h' | h'
      · exact h'
      · rw [List.drop_of_length_le h'] at hz; cases hz
    have hm : i < min xs.size ys.size := hZ ▸ hlt
    have h1 : i < xs.size := Nat.lt_of_lt_of_le hm (Nat.min_le_left _ _)
    have h2 : i < ys.size := Nat.lt_of_lt_of_le hm (Nat.min_le_right _ _)
    rw [List.drop_eq_getElem_cons hlt] at hz
    injection hz with hyx hrest
    have hy : y = xs[i] := by have := congrArg Prod.fst hyx; simpa using this
    have hx : x = ys[i] := by have := congrArg Prod.snd hyx; simpa using this
    subst hy hx
    refine wpAny_bind (wpAny_mono (turn i h1 h2 s' hI) (fun r s2 q2 => ?_) fun _ _ x => x)
    obtain ⟨hr, q2⟩ := q2
    subst hr
    cases hbi : bs i with
    | true =>
      wp_walk
      refine ⟨rfl, i + 1, hrest, fun j hj => ?_, q2⟩
      by_cases e : j = i
      · rw [e]; exact hbi
      · exact hB j (by omega)
    | false =>
      have e : (List.range (min xs.size ys.size)).all bs = false := by
        rw [List.all_eq_false]
        exact ⟨i, List.mem_range.mpr hm, by rw [hbi]; decide⟩
      have q3 := fin s2 q2
      rw [e, Bool.false_and] at q3
      wp_walk
      exact q3
  case fin =>
    rintro ⟨b1, b2⟩ s' ⟨hb', i, hz, hB, hI⟩
    simp only at hb'
    subst hb'
    have hge : min xs.size ys.size ≤ i := by
      rcases Nat.lt_or_ge i (xs.toList.zip ys.toList).length with h' | h'
      · rw [List.drop_eq_getElem_cons h'] at hz; cases hz
      · exact hZ ▸ h'
    have e : (List.range (min xs.size ys.size)).all bs = true := by
      rw [List.all_eq_true]
      exact fun j hj => hB j (by have := List.mem_range.mp hj; omega)
    have hR := fin s' hI
    rw [e, Bool.true_and] at hR
    wp_walk
    exact hR
  case h =>
    exact ⟨rfl, 0, rfl, fun j hj => absurd hj (by omega), h0⟩
theorem tupU_ne (l b : Addr) (xs ys : Array Value) (n n2 : Nat) (dd dd2 : Option Addr) (sl sl2 : Array (Option Value)) (bs : Nat → Bool) (I : Shared → Prop)
    (turn : ∀ i (h1 : i < xs.size) (h2 : i < ys.size) s, I s → wpAny (model prog w) A.in1 (eqBool xs[i] ys[i]) (fun r s' => r = bs i ∧ I s') (fun e s' => R (.error e) s') s)
    (fin : ∀ s, I s → R (.ok (.ret (.bool (!((List.range (min xs.size ys.size)).all bs && xs.size == ys.size))))) s) {s : Shared} (hl1 : s.heap.get? l = some { cls := .type "tuple", dict := dd, data := .seq xs n, slots := sl }) (hb1 : s.heap.get? b = some { cls := .type "tuple", dict := dd2, data := .seq ys n2, slots := sl2 }) (h : I s) :
    wpAny (model prog w) A.in1 (Builtin.«tuple.__ne__» ⟨[.ref l, .ref b], []⟩) (GQ.FinOf prog w A R) (fun e s' => R (.error e) s') s := by
  have f2 := AutoSeq1.sub_tuple_tuple
  have hZ : (xs.toList.zip ys.toList).length = min xs.size ys.size := by simp
  have h0 := h
  obtain ⟨hp, g, d, tk, os⟩ := s
  wp_walk using wpAny_loadPart' hl1, wpAny_loadPart' hb1, wpAny_forIn_list _ (fun rest b s' => b.1 = none ∧ ∃ i, rest = (xs.toList.zip ys.toList).drop i ∧ (∀ j, j < i → bs j = true) ∧ I s') _
  case turn =>
    rintro ⟨y, x⟩ rest b s' ⟨hb', i, hz, hB, hI⟩
    have hlt : i < (xs.toList.zip ys.toList).length := by
      rcases Nat.lt_or_ge i (xs.toList.zip ys.toList).length with h' | h'
      · exact h'
      · rw [List.drop_of_length_le h'] at hz; cases hz
    have hm : i < min xs.size ys.size := hZ ▸ hlt
    have h1 : i < xs.size := Nat.lt_of_lt_of_le hm (Nat.min_le_left _ _)
    have h2 : i < ys.size := Nat.lt_of_lt_of_le hm (Nat.min_le_right _ _)
    rw [List.drop_eq_getElem_cons hlt] at hz
    injection hz with hyx hrest
    have hy : y = xs[i] := by have := congrArg Prod.fst hyx; simpa using this
    have hx : x = ys[i] := by have := congrArg Prod.snd hyx; simpa using this
    subst hy hx
    refine wpAny_bind (wpAny_mono (turn i h1 h2 s' hI) (fun r s2 q2 => ?_) fun _ _ x => x)
    obtain ⟨hr, q2⟩ := q2
    subst hr
    cases hbi : bs i with
    | true =>
      wp_walk
      refine ⟨rfl, i + 1, hrest, fun j hj => ?_, q2⟩
      by_cases e : j = i
      · rw [e]; exact hbi
      · exact hB j (by omega)
    | false =>
      have e : (List.range (min xs.size ys.size)).all bs = false := by
        rw [List.all_eq_false]
        exact ⟨i, List.mem_range.mpr hm, by rw [hbi]; decide⟩
      have q3 := fin s2 q2
      rw [e, Bool.false_and] at q3
      wp_walk
      exact q3
  case fin =>
    rintro ⟨b1, b2⟩ s' ⟨hb', i, hz, hB, hI⟩
    simp only at hb'
    subst hb'
    have hge : min xs.size ys.size ≤ i := by
      rcases Nat.lt_or_ge i (xs.toList.zip ys.toList).length with h' | h'
      · rw [List.drop_eq_getElem_cons h'] at hz; cases hz
      · exact hZ ▸ h'
    have e : (List.range (min xs.size ys.size)).all bs = true := by
      rw [List.all_eq_true]
      exact fun j hj => hB j (by have := List.mem_range.mp hj; omega)
    have hR := fin s' hI
    rw [e, Bool.true_and] at hR
    wp_walk
    exact hR
  case h =>
    exact ⟨rfl, 0, rfl, fun j hj => absurd hj (by omega), h0⟩
variable {E : Value → Shared → Prop} {l b : Addr} {xs ys : Array Value} {Q : Value → Shared → Prop} {s : Shared}
theorem rc_tupU (hu : A.units < cLine) (bs : Nat → Bool) (I : Shared → Prop) (hl : s.heap.IsTuple l xs) (hb : s.heap.IsTuple b ys)
    (turn : ∀ i (h1 : i < xs.size) (h2 : i < ys.size) s, I s → wpAny (model prog w) A.in1 (eqBool xs[i] ys[i]) (fun r s' => r = bs i ∧ I s') E s) (fin : ∀ s, I s → Q (.bool ((List.range (min xs.size ys.size)).all bs && xs.size == ys.size)) s) (h : I s) : wpAny (model prog w) A (richCompare .Eq (.ref l) (.ref b)) Q E s := by
  obtain ⟨⟨k1, d1, x1, w1⟩, g1, e1, n, f1⟩ := id hl
  obtain ⟨⟨k2, d2, x2, w2⟩, g2, e2, n2, f2⟩ := id hb
  simp only at e1 f1 e2 f2
  subst e1 f1 e2 f2
  refine wpAny_richCompare_same_room (op := .Eq) ⟨_, g1, rfl⟩ ⟨_, g2, rfl⟩ F.slot_tuple_eq (GQ.call_here F.slot_tuple_eq ⟨_, g1, rfl⟩ F.entry_tuple_eq (F.args_tuple_eq_2 _ _) ?_) hu
  exact tupU_eq (R := wants (fun v s' => v ≠ .notImplemented ∧ Q v s') E) l b xs ys n n2 d1 d2 w1 w2 bs I turn (fun s' q => ⟨(fun x => nomatch x), fin s' q⟩) g1 g2 h
theorem ne_tupU (hu : A.units < cLine) (bs : Nat → Bool) (I : Shared → Prop) (hl : s.heap.IsTuple l xs) (hb : s.heap.IsTuple b ys)
    (turn : ∀ i (h1 : i < xs.size) (h2 : i < ys.size) s, I s → wpAny (model prog w) A.in1 (eqBool xs[i] ys[i]) (fun r s' => r = bs i ∧ I s') E s) (fin : ∀ s, I s → Q (.bool (!((List.range (min xs.size ys.size)).all bs && xs.size == ys.size))) s) (h : I s) : wpAny (model prog w) A (richCompare .NotEq (.ref l) (.ref b)) Q E s := by
  obtain ⟨⟨k1, d1, x1, w1⟩, g1, e1, n, f1⟩ := id hl
  obtain ⟨⟨k2, d2, x2, w2⟩, g2, e2, n2, f2⟩ := id hb
  simp only at e1 f1 e2 f2
  subst e1 f1 e2 f2
  refine wpAny_richCompare_same_room (op := .NotEq) ⟨_, g1, rfl⟩ ⟨_, g2, rfl⟩ F.slot_tuple_ne (GQ.call_here F.slot_tuple_ne ⟨_, g1, rfl⟩ F.entry_tuple_ne (F.args_tuple_ne_2 _ _) ?_) hu
  exact tupU_ne (R := wants (fun v s' => v ≠ .notImplemented ∧ Q v s') E) l b xs ys n n2 d1 d2 w1 w2 bs I turn (fun s' q => ⟨(fun x => nomatch x), fin s' q⟩) g1 g2 h
end
end Du

set_option Elab.async false
set_option linter.all false
set_option maxRecDepth 100000
namespace Du
open PySem L2 DL
/-! == of things some of which are of own classes -/
abbrev EqS := Addr → List (Str × D) → D → Bool → Prop
structure EqC (P : Program) (w : World) (K : PySem.W.Frag) (mg : Str → Option Value) (base : Heap) (n : Nat) (eqs : EqS) : Prop where
  own : ∀ C fs y b, eqs C fs y b → ClF 0 fs ∧ Cl 0 y ∧ ∃ k sp, k ≤ n ∧ OwnE P w K mg base k C (sp0 K sp) ∧ ∀ μ QD QX, QD (.v (.bl b)) μ → sp [.obj C fs, y] μ QD QX
  nf : ∀ C fs C' fs' b, eqs C fs (.obj C' fs') b → PySem.W.notFirst K C (.ref C') = true
  rf : ∀ C fs b, eqs C fs (.obj C fs) b → b = true
/-- of a built-in kind -/
def plT : D → Bool
  | .v .non => true
  | .v (.bl _) => true
  | .v (.int _) => true
  | .v (.str _) => true
  | .tup _ => true
  | .lst _ => true
  | .dK _ => true
  | _ => false
def isOb : D → Bool
  | .obj _ _ => true
  | _ => false
theorem pl_view {K : PySem.W.Frag} {own : Ow} {μ : Store} {H : Hp} {d : D} {v : V} (h : plT d = true) (r : Rep K own μ H d v) : ∃ T, Pl K H v T := by
  cases d with
  | v x =>
    have r : v = x := r
    subst r
    cases v <;> first | (cases h; done) | exact ⟨_, .non⟩ | exact ⟨_, .bl _⟩ | exact ⟨_, .int _⟩ | exact ⟨_, .str _⟩
  | tup ds => obtain ⟨a, xs, rfl, h1, _⟩ := r; exact ⟨_, .tup h1⟩
  | lst ds => obtain ⟨a, xs, rfl, h1, _⟩ := r; exact ⟨_, .lst (SqL.of h1)⟩
  | dK ds => obtain ⟨a, xs, rfl, h1, _⟩ := r; exact ⟨_, .dic h1⟩
  | _ => cases h
/-! what its place tells -/
mutual
def Pn : D → Bool
  | .v (.ref _) => false
  | .v _ => true
  | .tup ds => Pns ds
  | .obj _ fs => PnF fs
  | _ => false
def Pns : List D → Bool
  | [] => true
  | d :: ds => Pn d && Pns ds
def PnF : List (Str × D) → Bool
  | [] => true
  | (_, d) :: ds => Pn d && PnF ds
end
theorem Pns.mem : ∀ {ds : List D} {d : D}, Pns ds = true → d ∈ ds → Pn d = true
  | e :: r, d, h, hd => by
    have h : (Pn e && Pns r) = true := h
    rw [Bool.and_eq_true] at h
    rcases List.mem_cons.mp hd with rfl | hd
    · exact h.1
    · exact Pns.mem h.2 hd
/-- the kind of what stands at a place -/
def tagD : D → Option Nat
  | .v (.ref _) => none
  | .v _ => some 0
  | .tup _ => some 1
  | .lst _ => some 2
  | .obj _ _ => some 3
  | .dK _ => some 4
  | _ => none
def idOk (x y : D) : Bool := (Pn x && Pn y) || (match tagD x, tagD y with
  | some i, some j => i != j
  | _, _ => false)
section
variable {X : Cx} {pins : List (Addr × Obj)} {σ : L2.St} {H : Hp} {s : Shared} {own own' : Ow} {μ μ' : Store}
theorem sqT_fun (I : Inv X pins σ H s) {a : Addr} {xs ys : List V} (h1 : SqT X.K H a xs) (h2 : SqT X.K H a ys) : xs = ys := by
  obtain ⟨its, r1, ⟨o, ho, _, n, e⟩, _⟩ := I.tuple h1
  obtain ⟨jts, r2, ⟨o', ho', _, n', e'⟩, _⟩ := I.tuple h2
  rw [ho] at ho'
  cases ho'
  rw [e] at e'
  cases e'
  exact Vals.inj r1 r2
/-- the kind of what stands at an address, by the state -/
theorem tup_not_ins (I : Inv X pins σ H s) {a C dx : Addr} {xs : List V} {fs : List (Str × V)} (h1 : SqT X.K H a xs) (h2 : H a = some (.ins C dx fs)) : False := by
  obtain ⟨its, r1, ⟨o, ho, hc, _⟩, _⟩ := I.tuple h1
  obtain ⟨_, _, _, g1, _⟩ := (show ObjOk X.prog X.w H s.heap a (.ins C dx fs) from I.hok a _ h2)
  rw [ho] at g1
  cases g1
  cases hc
mutual
theorem rep_inj (I : Inv X pins σ H s) : ∀ (d d' : D) (v : V), Pn d = true → Pn d' = true → Rep X.K own μ H d v → Rep X.K own' μ' H d' v → d = d'
  | .v x, .v y, v, _, _, r, r' => by
    have r : v = x := r
    have r' : v = y := r'
    rw [← r, ← r']
  | .v x, .tup ds, v, h, _, r, r' => by
    obtain ⟨a, xs, e, _⟩ := r'
    have r : v = x := r
    rw [e] at r
    subst r
    cases h
  | .v x, .obj C fs, v, h, _, r, r' => by
    obtain ⟨a, dx, xs, e, _⟩ := r'
    have r : v = x := r
    rw [e] at r
    subst r
    cases h
  | .tup ds, .v y, v, _, h, r, r' => by
    obtain ⟨a, xs, e, _⟩ := r
    have r' : v = y := r'
    rw [e] at r'
    subst r'
    cases h
  | .obj C fs, .v y, v, _, h, r, r' => by
    obtain ⟨a, dx, xs, e, _⟩ := r
    have r' : v = y := r'
    rw [e] at r'
    subst r'
    cases h
  | .tup ds, .tup es, v, h, h', r, r' => by
    obtain ⟨a, xs, rfl, g1, _, g2⟩ := r
    obtain ⟨a', ys, e, g3, _, g4⟩ := r'
    cases e
    have e := sqT_fun I g1 g3
    subst e
    rw [reps_inj I ds es xs h h' g2 g4]
  | .tup ds, .obj C fs, v, _, _, r, r' => by
    obtain ⟨a, xs, rfl, g1, _, g2⟩ := r
    obtain ⟨a', dx, ys, e, g3, _⟩ := r'
    cases e
    exact (tup_not_ins I g1 g3).elim
  | .obj C fs, .tup ds, v, _, _, r', r => by
    obtain ⟨a, xs, rfl, g1, _, g2⟩ := r
    obtain ⟨a', dx, ys, e, g3, _⟩ := r'
    cases e
    exact (tup_not_ins I g1 g3).elim
  | .obj C fs, .obj C' fs', v, h, h', r, r' => by
    obtain ⟨a, dx, xs, rfl, g1, _, g2⟩ := r
    obtain ⟨a', dx', ys, e, g3, _, g4⟩ := r'
    cases e
    rw [g1] at g3
    cases g3
    rw [repF_inj I fs fs' xs h h' g2 g4]
  | .lst _, _, _, h, _, _, _ => by cases h
  | .frz _, _, _, h, _, _, _ => by cases h
  | .dK _, _, _, h, _, _, _ => by cases h
  | .loc _, _, _, h, _, _, _ => by cases h
  | .exn _ _ _ _, _, _, h, _, _, _ => by cases h
  | _, .lst _, _, _, h, _, _ => by cases h
  | _, .frz _, _, _, h, _, _ => by cases h
  | _, .dK _, _, _, h, _, _ => by cases h
  | _, .loc _, _, _, h, _, _ => by cases h
  | _, .exn _ _ _ _, _, _, h, _, _ => by cases h
theorem reps_inj (I : Inv X pins σ H s) : ∀ (d d' : List D) (v : List V), Pns d = true → Pns d' = true → Reps X.K own μ H d v → Reps X.K own' μ' H d' v → d = d'
  | [], [], _, _, _, _, _ => rfl
  | [], e :: es, v, _, _, r, r' => by
    have r : v = [] := r
    obtain ⟨y, z, e', _⟩ := r'
    rw [r] at e'
    cases e'
  | d :: ds, [], v, _, _, r', r => by
    have r : v = [] := r
    obtain ⟨y, z, e', _⟩ := r'
    rw [r] at e'
    cases e'
  | d :: ds, e :: es, v, h, h', r, r' => by
    have h : (Pn d && Pns ds) = true := h
    have h' : (Pn e && Pns es) = true := h'
    rw [Bool.and_eq_true] at h h'
    obtain ⟨y, z, rfl, g1, g2⟩ := r
    obtain ⟨y', z', e', g3, g4⟩ := r'
    cases e'
    rw [rep_inj I d e y h.1 h'.1 g1 g3, reps_inj I ds es z h.2 h'.2 g2 g4]
theorem repF_inj (I : Inv X pins σ H s) : ∀ (d d' : List (Str × D)) (v : List (Str × V)), PnF d = true → PnF d' = true → RepF X.K own μ H d v → RepF X.K own' μ' H d' v → d = d'
  | [], [], _, _, _, _, _ => rfl
  | [], (f, e) :: es, v, _, _, r, r' => by
    have r : v = [] := r
    obtain ⟨y, z, e', _⟩ := r'
    rw [r] at e'
    cases e'
  | (f, d) :: ds, [], v, _, _, r', r => by
    have r : v = [] := r
    obtain ⟨y, z, e', _⟩ := r'
    rw [r] at e'
    cases e'
  | (f, d) :: ds, (g, e) :: es, v, h, h', r, r' => by
    obtain ⟨y, z, rfl, g1, g2⟩ := r
    obtain ⟨y', z', e', g3, g4⟩ := r'
    cases e'
    have h : (Pn d && PnF ds) = true := h
    have h' : (Pn e && PnF es) = true := h'
    rw [Bool.and_eq_true] at h h'
    rw [rep_inj I d e y h.1 h'.1 g1 g3, repF_inj I ds es z h.2 h'.2 g2 g4]
end
theorem tag_ne (I : Inv X pins σ H s) {x y : D} {v : V} {i j : Nat} (hx : tagD x = some i) (hy : tagD y = some j) (rx : Rep X.K own μ H x v) (ry : Rep X.K own' μ' H y v) : i = j := by
  have lt : ∀ {a : Addr} {xs ys : List V}, H a = some (.lst xs) → SqT X.K H a ys → False := fun {a xs ys} h h2 => by
    obtain ⟨its, r1, ⟨o, ho, hc, _⟩, _⟩ := I.tuple h2
    obtain ⟨_, its, k0, r0, e0⟩ := I.hok a _ h
    rw [ho] at e0
    cases e0
    exact absurd hc (by simp)
  have dt : ∀ {a : Addr} {xs : List (Key × V)} {ys : List V}, H a = some (.dK xs) → SqT X.K H a ys → False := fun {a xs ys} h h2 => by
    obtain ⟨its, r1, ⟨o, ho, hc, _⟩, _⟩ := I.tuple h2
    obtain ⟨_, _, vs, _, o', es, ep, ho', hx, _⟩ := dk_of I.hok h
    rw [ho] at ho'
    cases ho'
    have hx := hx.1
    rw [hc] at hx
    exact absurd hx (by simp)
  cases x with
  | v x =>
    have rx : v = x := rx
    subst rx
    cases y with
    | v y =>
      have ry : v = y := ry
      subst ry
      rw [hx] at hy
      cases hy; rfl
    | tup ds => obtain ⟨a, xs, e, _⟩ := ry; subst e; cases hx
    | lst ds => obtain ⟨a, xs, e, _⟩ := ry; subst e; cases hx
    | obj C ds => obtain ⟨a, dx, xs, e, _⟩ := ry; subst e; cases hx
    | dK ds => obtain ⟨a, xs, e, _⟩ := ry; subst e; cases hx
    | _ => cases hy
  | tup ds =>
    obtain ⟨a, xs, e, h1, _⟩ := rx
    subst e
    cases hx
    cases y with
    | v y => have ry : V.ref a = y := ry; subst ry; cases hy
    | tup ds => cases hy; rfl
    | lst ds => obtain ⟨a', xs, e, h2, _⟩ := ry; cases e; exact (lt h2 h1).elim
    | obj C ds => obtain ⟨a', dx, xs, e, h2, _⟩ := ry; cases e; exact (tup_not_ins I h1 h2).elim
    | dK ds => obtain ⟨a', xs, e, h2, _⟩ := ry; cases e; exact (dt h2 h1).elim
    | _ => cases hy
  | lst ds =>
    obtain ⟨a, xs, e, h1, _⟩ := rx
    subst e
    cases hx
    cases y with
    | v y => have ry : V.ref a = y := ry; subst ry; cases hy
    | tup ds => obtain ⟨a', xs, e, h2, _⟩ := ry; cases e; exact (lt h1 h2).elim
    | lst ds => cases hy; rfl
    | obj C ds => obtain ⟨a', dx, xs, e, h2, _⟩ := ry; cases e; rw [h1] at h2; cases h2
    | dK ds => obtain ⟨a', xs, e, h2, _⟩ := ry; cases e; rw [h1] at h2; cases h2
    | _ => cases hy
  | obj C ds =>
    obtain ⟨a, dx, xs, e, h1, _⟩ := rx
    subst e
    cases hx
    cases y with
    | v y => have ry : V.ref a = y := ry; subst ry; cases hy
    | tup ds => obtain ⟨a', xs, e, h2, _⟩ := ry; cases e; exact (tup_not_ins I h2 h1).elim
    | lst ds => obtain ⟨a', xs, e, h2, _⟩ := ry; cases e; rw [h1] at h2; cases h2
    | obj C ds => cases hy; rfl
    | dK ds => obtain ⟨a', xs, e, h2, _⟩ := ry; cases e; rw [h1] at h2; cases h2
    | _ => cases hy
  | dK ds =>
    obtain ⟨a, xs, e, h1, _⟩ := rx
    subst e
    cases hx
    cases y with
    | v y => have ry : V.ref a = y := ry; subst ry; cases hy
    | tup ds => obtain ⟨a', xs, e, h2, _⟩ := ry; cases e; exact (dt h1 h2).elim
    | lst ds => obtain ⟨a', xs, e, h2, _⟩ := ry; cases e; rw [h1] at h2; cases h2
    | obj C ds => obtain ⟨a', dx, xs, e, h2, _⟩ := ry; cases e; rw [h1] at h2; cases h2
    | dK ds => cases hy; rfl
    | _ => cases hy
  | _ => cases hx
end
mutual
theorem eqv_self : ∀ (d : D) (p : PyData), toPy d = some p → PyData.eqv p p = true
  | .v .non, p, h => by cases h; simp [PyData.eqv]
  | .v (.bl b), p, h => by cases h; simp [PyData.eqv]
  | .v (.int _), p, h => by cases h; simp [PyData.eqv]
  | .v (.str _), p, h => by cases h; simp [PyData.eqv]
  | .v (.byt _), p, h => by cases h
  | .v (.flt _), p, h => by cases h
  | .v (.ref _), p, h => by cases h
  | .v (.ty _), p, h => by cases h
  | .tup ds, p, h => by
    have h : (toPys ds).map PyData.tuple = some p := h
    cases q : toPys ds with
    | none => rw [q] at h; cases h
    | some ps => rw [q] at h; cases h; rw [PyData.eqv]; exact eqvs_self ds ps q
  | .lst ds, p, h => by
    have h : (toPys ds).map PyData.list = some p := h
    cases q : toPys ds with
    | none => rw [q] at h; cases h
    | some ps => rw [q] at h; cases h; rw [PyData.eqv]; exact eqvs_self ds ps q
  | .frz _, p, h => by cases h
  | .obj _ _, p, h => by cases h
  | .dK _, p, h => by cases h
  | .loc _, p, h => by cases h
  | .exn _ _ _ _, p, h => by cases h
theorem eqvs_self : ∀ (ds : List D) (ps : List PyData), toPys ds = some ps → PyData.eqvAll ps ps = true
  | [], ps, h => by cases h; rw [PyData.eqvAll]
  | d :: ds, ps, h => by
    have h : (match toPy d, toPys ds with | some p, some ps => some (p :: ps) | _, _ => none) = some ps := h
    split at h
    · rename_i p ps' q1 q2
      cases h
      rw [PyData.eqvAll, eqv_self d p q1, eqvs_self ds ps' q2]
      rfl
    · cases h
end
inductive QDe (eqs : EqS) : Nat → D → D → Bool → Prop
  | dat {n : Nat} {x y : D} {p q : PyData} : toPy x = some p → toPy y = some q → SeqAt.shaped p = true → SeqAt.shaped q = true → QDe eqs n x y (PyData.eqv p q)
  | ownL {n : Nat} {C : Addr} {fs : List (Str × D)} {y : D} {b : Bool} : eqs C fs y b → (plT y || isOb y) = true → QDe eqs n (.obj C fs) y b
  | ownR {n : Nat} {C : Addr} {fs : List (Str × D)} {y : D} {b : Bool} : eqs C fs y b → plT y = true → QDe eqs n y (.obj C fs) b
  | tup {n : Nat} {xs ys : List D} {bs : Nat → Bool} : (∀ (i : Nat) (x y : D), xs[i]? = some x → ys[i]? = some y → QDe eqs n x y (bs i)) → (∀ (i : Nat) (x y : D), xs[i]? = some x → ys[i]? = some y → idOk x y = true) → QDe eqs (n + 1) (.tup xs) (.tup ys) ((List.range (min xs.length ys.length)).all bs && xs.length == ys.length)
theorem eqSp_of {K : PySem.W.Frag} {own : Ow} {μ : Store} {H : Hp} {a C : Addr} {fs : List (Str × D)} {y : D} {vy : V} {b : Bool} {sp : SpD} (m : RelM K own μ H) (r : Rep K own μ H (.obj C fs) (.ref a)) (ry : Rep K own μ H y vy) (hc : ClF 0 fs) (hy : Cl 0 y) (h : ∀ μ QD QX, QD (.v (.bl b)) μ → sp [.obj C fs, y] μ QD QX) : EqSp (sp0 K sp) H a vy b := fun H1 s1 Q q => by
  have lv : ∀ b, Live own μ b → ∃ o, H1 b = some o := fun b hb => by
    rcases hb with ⟨i, o, g1, g2⟩ | hb
    · obtain ⟨u, e⟩ := m.tr b (List.mem_of_getElem? g1)
      exact ⟨u, s1 _ _ e⟩
    · obtain ⟨_, u, e⟩ := m.pv b hb
      exact ⟨u, s1 _ _ e⟩
  have t1 : Tr K own μ H ⟨own.l, fun b => Live own μ b⟩ μ H1 := ⟨fun b o e n => ⟨s1 _ _ e, by
    rintro (l | l)
    · exact n (.inl l)
    · exact n l⟩, fun _ _ e => e⟩
  have c : Cut 0 ⟨own.l, fun b => Live own μ b⟩ μ ⟨[], fun b => Live own μ b⟩ [] := ⟨rfl, by simp, by simp⟩
  have r0 := Rep.cut c (d := .obj C fs) hc (Rep.tr t1 _ _ r)
  have ry0 := Rep.cut c hy (Rep.tr t1 _ _ ry)
  refine ⟨⟨[], fun b => Live own μ b⟩, [.obj C fs, y], [], fun d μ' => d = .v (.bl b) ∧ μ' = [], fun _ _ => False, ⟨List.nodup_nil, rfl, fun i o b e => by simp at e, fun b hb => by simp at hb, fun b hb => ⟨by simp, lv b hb⟩⟩, ⟨.ref a, [vy], rfl, r0, vy, [], rfl, ry0, rfl⟩, h _ _ _ ⟨rfl, rfl⟩, ⟨fun d μ' own' v H' ex m' rd ⟨e1, e2⟩ => ?_, fun _ _ _ _ _ _ _ _ _ z => z.elim⟩⟩
  subst e1
  cases rd
  exact q H' fun b o e => ex.keep b o e fun ⟨i, o, g1, _⟩ => by simp at g1
section
variable {X : Cx} {n m : Nat} {eqs : EqS} {x y : D} {b : Bool}
theorem QDe.mono {m' : Nat} (h : QDe eqs m x y b) : m ≤ m' → QDe eqs m' x y b := by
  induction h generalizing m' with
  | dat a b c d => exact fun _ => .dat a b c d
  | ownL a b => exact fun _ => .ownL a b
  | ownR a b => exact fun _ => .ownR a b
  | tup a b ih =>
    intro hm
    obtain ⟨k, rfl⟩ : ∃ k, m' = k + 1 := ⟨m' - 1, by omega⟩
    exact .tup (fun i x y h1 h2 => ih i x y h1 h2 (by omega)) b
theorem QDe.self (E : EqC X.prog X.w X.K X.mg X.base n eqs) (h : QDe eqs m x y b) : x = y → b = true := by
  induction h with
  | dat h1 h2 _ _ =>
    intro e
    subst e
    rw [h1] at h2
    cases h2
    exact eqv_self _ _ h1
  | ownL h _ =>
    intro e
    subst e
    exact E.rf _ _ _ h
  | ownR h hp =>
    intro e
    subst e
    cases hp
  | tup h _ ih =>
    rename_i xs ys bs
    intro e
    cases e
    rw [Nat.min_self, beq_self_eq_true, Bool.and_true, List.all_eq_true]
    intro i hi
    have hi := List.mem_range.mp hi
    exact ih i _ _ (List.getElem?_eq_getElem hi) (List.getElem?_eq_getElem hi) rfl
theorem QDe.same_ref (E : EqC X.prog X.w X.K X.mg X.base n eqs) {pins : List (Addr × Obj)} {σ : L2.St} {H : Hp} {s : Shared} {own : Ow} {μ : Store} (I : Inv X pins σ H s) (h : QDe eqs m x y b) (hi : idOk x y = true) {v : V} (rx : Rep X.K own μ H x v) (ry : Rep X.K own μ H y v) : b = true := by
  rcases Bool.or_eq_true_iff.mp hi with hp | ht
  · rw [Bool.and_eq_true] at hp
    exact h.self E (rep_inj I x y v hp.1 hp.2 rx ry)
  · split at ht
    · rename_i i j e1 e2
      exact absurd (tag_ne I e1 e2 rx ry) (by simpa using ht)
    · cases ht
/-- item by item -/
theorem at_reps {K : PySem.W.Frag} {own : Ow} {μ : Store} {H : Hp} {ds : List D} {xs : List V} (r : Reps K own μ H ds xs) {i : Nat} {v : V} (h : xs[i]? = some v) : ∃ d, ds[i]? = some d ∧ Rep K own μ H d v := Reps.get r h
theorem RcB.eqI {n : Nat} {H0 : Hp} {x y : V} {b : Bool} (h : RcB X n .Eq H0 x y b) (hs : ∀ pins s σ H, Inv X pins σ H s → Same H0 H → x = y → b = true) (hr : (∃ a, x = .ref a) ∨ ∃ a, y = .ref a) : EqB X n H0 x y b := by
  intro A pins s σ H1 u v sb I s1 rx ry
  exact ((show RcB X n .Eq H1 x y b from h.same s1).eqB (hs pins s σ H1 I s1) hr) A pins s σ H1 u v sb I (Same.refl _) rx ry
theorem QDe.rcb (E : EqC X.prog X.w X.K X.mg X.base n eqs) (h : QDe eqs m x y b) : ∀ {own : Ow} {μ : Store} {H : Hp} {vx vy : V}, RelM X.K own μ H → Rep X.K own μ H x vx → Rep X.K own μ H y vy → RcB X (n + m) .Eq H vx vy b ∧ (idOk x y = true → EqB X (n + m) H vx vy b) := by
  induction h with
  | dat h1 h2 h3 h4 =>
    intro own μ H vx vy M rx ry
    have d1 := dp_of h1 rx
    have d2 := dp_of h2 ry
    have go : ∀ (A : Around) (pins : List (Addr × Obj)) (s : Shared) (σ : L2.St) (H1 : Hp) (u v : Value), Inv X pins σ H1 s → Same H H1 → RelV vx u → RelV vy v → (∃ as, Reads s.heap u _ as) ∧ ∃ bs, Reads s.heap v _ bs := fun A pins s σ H1 u v I s1 ru rv =>
      ⟨Dp.reads I _ _ _ (dp_of h1 (Rep.ext (Ext.same s1) _ _ rx)) ru, Dp.reads I _ _ _ (dp_of h2 (Rep.ext (Ext.same s1) _ _ ry)) rv⟩
    refine ⟨fun A pins s σ H1 u v sb I s1 ru rv => ?_, fun _ A pins s σ H1 u v sb I s1 ru rv => ?_⟩
    · obtain ⟨⟨as, r1⟩, bs, r2⟩ := go A pins s σ H1 u v I s1 ru rv
      exact SeqAt.compareEq_shaped r1 r2 h3 h4 sb.room.units ⟨rfl, H1, I, Same.refl _⟩
    · obtain ⟨⟨as, r1⟩, bs, r2⟩ := go A pins s σ H1 u v I s1 ru rv
      exact SeqAt.eqAt_reads _ _ A s u v as bs r1 r2 (SeqAt.canLay_of_shaped h3) (SeqAt.canLay_of_shaped h4) (SeqAt.room_of_shaped h3 sb.room.units) _ _ _ _ ⟨rfl, H1, I, Same.refl _⟩
  | ownL h hy =>
    rename_i n0 C fs y b
    intro own μ H vx vy M rx ry
    obtain ⟨hc, hcy, k, sp, hk, O, hs⟩ := E.own _ _ _ _ h
    obtain ⟨a, dx, vs, rfl, h1, h2, h3⟩ := id rx
    have yt : Yt X.K C H vy := by
      rcases Bool.or_eq_true_iff.mp hy with hy | hy
      · obtain ⟨T, p⟩ := pl_view hy ry
        exact .pl p
      · cases hd : y with
        | obj C' fs' =>
          subst hd
          obtain ⟨c, dx', vs', rfl, g1, _⟩ := ry
          exact .own g1 (E.nf _ _ _ _ _ h)
        | _ => subst hd; cases hy
    have R : RcB X n .Eq H (.ref a) vy _ := (rcb_own O h1 yt (eqSp_of M rx ry hc hcy hs)).mono hk
    refine ⟨R.mono (Nat.le_add_right _ _), fun hi => ?_⟩
    refine RcB.eqI (R.mono (Nat.le_add_right _ _)) (fun pins s σ H1 I s1 e => ?_) (.inl ⟨_, rfl⟩)
    subst e
    have ex := Ext.same (own := own) (μ := μ) s1
    exact QDe.same_ref (m := 0) E I (.ownL h hy) hi (Rep.ext ex _ _ rx) (Rep.ext ex _ _ ry)
  | ownR h hy =>
    intro own μ H vx vy M rx ry
    obtain ⟨hc, hcy, k, sp, hk, O, hs⟩ := E.own _ _ _ _ h
    obtain ⟨a, dx, vs, rfl, h1, h2, h3⟩ := id ry
    obtain ⟨T, p⟩ := pl_view hy rx
    have R : RcB X n .Eq H vx (.ref a) _ := (rcb_refl O h1 p (eqSp_of M ry rx hc hcy hs)).mono hk
    refine ⟨R.mono (Nat.le_add_right _ _), fun hi => ?_⟩
    refine RcB.eqI (R.mono (Nat.le_add_right _ _)) (fun pins s σ H1 I s1 e => ?_) (.inr ⟨_, rfl⟩)
    subst e
    have ex := Ext.same (own := own) (μ := μ) s1
    exact QDe.same_ref (m := 0) E I (.ownR h hy) hi (Rep.ext ex _ _ rx) (Rep.ext ex _ _ ry)
  | tup h hi ih =>
    rename_i m xs ys bs
    intro own μ H vx vy M rx ry
    obtain ⟨a, us, rfl, h1, _, h3⟩ := id rx
    obtain ⟨c, ws, rfl, g1, _, g3⟩ := id ry
    have l1 := Reps.len h3
    have l2 := Reps.len g3
    have items : ∀ i v w, us[i]? = some v → ws[i]? = some w → EqB X (n + m) H v w (bs i) := fun i v w e1 e2 => by
      obtain ⟨d, q1, q2⟩ := at_reps h3 e1
      obtain ⟨d', q3, q4⟩ := at_reps g3 e2
      exact (ih i d d' q1 q3 M q2 q4).2 (hi i d d' q1 q3)
    have R : RcB X (n + (m + 1)) .Eq H (.ref a) (.ref c) ((List.range (min xs.length ys.length)).all bs && xs.length == ys.length) := fun A pins s σ H1 u v sb I s1 ru rv => by
      cases (show u = Value.ref _ from ru)
      cases (show v = Value.ref _ from rv)
      obtain ⟨its, rv1, hT1, _⟩ := I.tuple (h1.ext s1)
      obtain ⟨jts, rv2, hT2, _⟩ := I.tuple (g1.ext s1)
      have z1 : its.toArray.size = xs.length := by rw [List.size_toArray, ← rv1.length, l1]
      have z2 : jts.toArray.size = ys.length := by rw [List.size_toArray, ← rv2.length, l2]
      rw [← z1, ← z2]
      refine rc_tupU sb.room.units0 bs (fun s' => ∃ H', Inv X pins σ H' s' ∧ Same H1 H') hT1 hT2 (fun i k1 k2 s' ⟨H', I', s2⟩ => ?_) (fun s' ⟨H', I', s2⟩ => ⟨rfl, H', I', s2⟩) ⟨H1, I, Same.refl _⟩
      have k1' : i < its.length := by simpa using k1
      have k2' : i < jts.length := by simpa using k2
      have j1 : i < us.length := by rw [rv1.length]; exact k1'
      have j2 : i < ws.length := by rw [rv2.length]; exact k2'
      obtain ⟨v1, hv1, r1⟩ := rv1.get (List.getElem?_eq_getElem j1)
      obtain ⟨v2, hv2, r2⟩ := rv2.get (List.getElem?_eq_getElem j2)
      have e1 : its.toArray[i] = v1 := by
        rw [List.getElem?_eq_getElem k1'] at hv1
        simpa using Option.some.inj hv1
      have e2 : jts.toArray[i] = v2 := by
        rw [List.getElem?_eq_getElem k2'] at hv2
        simpa using Option.some.inj hv2
      rw [e1, e2]
      refine wpAny_mono ((items i _ _ (List.getElem?_eq_getElem j1) (List.getElem?_eq_getElem j2)).same (s1.trans s2) A.in1 pins s' σ H' v1 v2 (show Sub X (n + m) A.in1 from Sub.in1 (n := n + m) sb) I' (Same.refl _) r1 r2) (fun r' s3 z => ?_) fun _ _ x => x
      obtain ⟨hr, H2, I2, s4⟩ := z
      exact ⟨hr, H2, I2, s2.trans s4⟩
    refine ⟨R, fun hid => RcB.eqI R (fun pins s σ H1 I s1 e => ?_) (.inl ⟨_, rfl⟩)⟩
    cases e
    have ex := Ext.same (own := own) (μ := μ) s1
    exact QDe.same_ref (m := m + 1) E I (.tup h hi) hid (Rep.ext ex _ _ rx) (Rep.ext ex _ _ ry)
theorem QDe.rne (E : EqC X.prog X.w X.K X.mg X.base n eqs) (h : QDe eqs m x y b) {own : Ow} {μ : Store} {H : Hp} {vx vy : V} (M : RelM X.K own μ H) (rx : Rep X.K own μ H x vx) (ry : Rep X.K own μ H y vy) : RcB X (n + m + 1) .NotEq H vx vy (!b) := by
  cases h with
  | dat h1 h2 h3 h4 =>
    intro A pins s σ H1 u v sb I s1 ru rv
    obtain ⟨as, r1⟩ := Dp.reads I _ _ _ (dp_of h1 (Rep.ext (Ext.same s1) _ _ rx)) ru
    obtain ⟨bs, r2⟩ := Dp.reads I _ _ _ (dp_of h2 (Rep.ext (Ext.same s1) _ _ ry)) rv
    exact SeqAt.compareNe_shaped r1 r2 h3 h4 sb.room.units ⟨rfl, H1, I, Same.refl _⟩
  | ownL h hy =>
    obtain ⟨hc, hcy, k, sp, hk, O, hs⟩ := E.own _ _ _ _ h
    obtain ⟨a, dx, vs, rfl, h1, h2, h3⟩ := id rx
    rename_i C fs
    have yt : Yt X.K C H vy := by
      rcases Bool.or_eq_true_iff.mp hy with hy | hy
      · obtain ⟨T, p⟩ := pl_view hy ry
        exact .pl p
      · cases hd : y with
        | obj C' fs' =>
          subst hd
          obtain ⟨c, dx', vs', rfl, g1, _⟩ := ry
          exact .own g1 (E.nf _ _ _ _ _ h)
        | _ => subst hd; cases hy
    exact (rcb_ownNe O h1 yt (eqSp_of M rx ry hc hcy hs)).mono (by omega)
  | ownR h hy =>
    obtain ⟨hc, hcy, k, sp, hk, O, hs⟩ := E.own _ _ _ _ h
    obtain ⟨a, dx, vs, rfl, h1, h2, h3⟩ := id ry
    obtain ⟨T, p⟩ := pl_view hy rx
    exact (rcb_reflNe O h1 p (eqSp_of M ry rx hc hcy hs)).mono (by omega)
  | tup h hi =>
    rename_i m xs ys bs
    obtain ⟨a, us, rfl, h1, _, h3⟩ := id rx
    obtain ⟨c, ws, rfl, g1, _, g3⟩ := id ry
    have l1 := Reps.len h3
    have l2 := Reps.len g3
    have items : ∀ i v w, us[i]? = some v → ws[i]? = some w → EqB X (n + m) H v w (bs i) := fun i v w e1 e2 => by
      obtain ⟨d, q1, q2⟩ := at_reps h3 e1
      obtain ⟨d', q3, q4⟩ := at_reps g3 e2
      exact ((h i d d' q1 q3).rcb E M q2 q4).2 (hi i d d' q1 q3)
    refine RcB.mono (n := n + (m + 1)) (fun A pins s σ H1 u v sb I s1 ru rv => ?_) (by omega)
    cases (show u = Value.ref _ from ru)
    cases (show v = Value.ref _ from rv)
    obtain ⟨its, rv1, hT1, _⟩ := I.tuple (h1.ext s1)
    obtain ⟨jts, rv2, hT2, _⟩ := I.tuple (g1.ext s1)
    have z1 : its.toArray.size = xs.length := by rw [List.size_toArray, ← rv1.length, l1]
    have z2 : jts.toArray.size = ys.length := by rw [List.size_toArray, ← rv2.length, l2]
    rw [← z1, ← z2]
    refine ne_tupU sb.room.units0 bs (fun s' => ∃ H', Inv X pins σ H' s' ∧ Same H1 H') hT1 hT2 (fun i k1 k2 s' ⟨H', I', s2⟩ => ?_) (fun s' ⟨H', I', s2⟩ => ⟨rfl, H', I', s2⟩) ⟨H1, I, Same.refl _⟩
    have k1' : i < its.length := by simpa using k1
    have k2' : i < jts.length := by simpa using k2
    have j1 : i < us.length := by rw [rv1.length]; exact k1'
    have j2 : i < ws.length := by rw [rv2.length]; exact k2'
    obtain ⟨v1, hv1, r1⟩ := rv1.get (List.getElem?_eq_getElem j1)
    obtain ⟨v2, hv2, r2⟩ := rv2.get (List.getElem?_eq_getElem j2)
    have e1 : its.toArray[i] = v1 := by
      rw [List.getElem?_eq_getElem k1'] at hv1
      simpa using Option.some.inj hv1
    have e2 : jts.toArray[i] = v2 := by
      rw [List.getElem?_eq_getElem k2'] at hv2
      simpa using Option.some.inj hv2
    rw [e1, e2]
    refine wpAny_mono ((items i _ _ (List.getElem?_eq_getElem j1) (List.getElem?_eq_getElem j2)).same (s1.trans s2) A.in1 pins s' σ H' v1 v2 (show Sub X (n + m) A.in1 from Sub.in1 (n := n + m) sb) I' (Same.refl _) r1 r2) (fun r' s3 z => ?_) fun _ _ x => x
    obtain ⟨hr, H2, I2, s4⟩ := z
    exact ⟨hr, H2, I2, s2.trans s4⟩
end
/-! as readings -/
inductive QDx (eqs : EqS) (N : Nat) : D → D → Bool → Prop
  | int (i j : Int) : QDx eqs N (.v (.int i)) (.v (.int j)) (decide (i = j))
  | str (i j : Str) : QDx eqs N (.v (.str i)) (.v (.str j)) (decide (i = j))
  | bl (i j : Bool) : QDx eqs N (.v (.bl i)) (.v (.bl j)) (decide (i = j))
  | ob {x y : D} {b : Bool} : QDe eqs N x y b → QDx eqs N x y b
def REqO (eqs : EqS) (N : Nat) (neg : Bool) : R2D := fun x y μ Q _ => ∃ b, QDx eqs N x y b ∧ Q (.v (.bl (if neg then !b else b))) μ
def rEqO (X : Cx) (n : Nat) : R2 := fun x y H Q => rEq x y H Q ∨ ∃ b, RcB X n .Eq H x y b ∧ ∀ H', Same H H' → Q (.bl b) H'
def rNeO (X : Cx) (n : Nat) : R2 := fun x y H Q => rNe x y H Q ∨ ∃ b, RcB X n .NotEq H x y b ∧ ∀ H', Same H H' → Q (.bl b) H'
section
variable {X : Cx} {K : PySem.W.Frag} {n N : Nat} {eqs : EqS}
theorem op_eqO (hr : Room n X.A) : OpR X (compareOp .Eq) (rEqO X n) := opr_or op_eq (op_eqB hr)
theorem op_neO (hr : Room n X.A) : OpR X (compareOp .NotEq) (rNeO X n) := opr_or op_ne (op_neB hr)
theorem sEqO (hK : X.K = K) (E : EqC X.prog X.w X.K X.mg X.base n eqs) : Snd2 K (rEqO X (n + N)) (REqO eqs N false) := fun E' own μ H x y u v Q QD QX m r1 r2 k h => by
  subst hK
  obtain ⟨b, h1, h2⟩ := h
  cases h1 with
  | int i j =>
    cases r1; cases r2
    exact .inl ⟨rfl, by rw [dV (p := _ = _) ⟨V.int.inj, congrArg V.int⟩]; exact k.here m (rep_v _) h2⟩
  | str i j =>
    cases r1; cases r2
    exact .inl ⟨rfl, by rw [dV (p := _ = _) ⟨V.str.inj, congrArg V.str⟩]; exact k.here m (rep_v _) h2⟩
  | bl i j =>
    cases r1; cases r2
    exact .inl ⟨rfl, by rw [dV (p := _ = _) ⟨V.bl.inj, congrArg V.bl⟩]; exact k.here m (rep_v _) h2⟩
  | ob h1 => exact .inr ⟨b, (h1.rcb E m r1 r2).1, fun H' s => k.ok _ μ own _ H' (Ext.same s) (m.same s) (rep_v _) h2⟩
theorem sNeO (hK : X.K = K) (E : EqC X.prog X.w X.K X.mg X.base n eqs) : Snd2 K (rNeO X (n + N + 1)) (REqO eqs N true) := fun E' own μ H x y u v Q QD QX m r1 r2 k h => by
  subst hK
  obtain ⟨b, h1, h2⟩ := h
  cases h1 with
  | int i j =>
    cases r1; cases r2
    exact .inl ⟨rfl, by rw [dV (p := _ = _) ⟨V.int.inj, congrArg V.int⟩]; exact k.here m (rep_v _) h2⟩
  | str i j =>
    cases r1; cases r2
    exact .inl ⟨rfl, by rw [dV (p := _ = _) ⟨V.str.inj, congrArg V.str⟩]; exact k.here m (rep_v _) h2⟩
  | bl i j =>
    cases r1; cases r2
    exact .inl ⟨rfl, by rw [dV (p := _ = _) ⟨V.bl.inj, congrArg V.bl⟩]; exact k.here m (rep_v _) h2⟩
  | ob h1 => exact .inr ⟨!b, h1.rne E m r1 r2, fun H' s => k.ok _ μ own _ H' (Ext.same s) (m.same s) (rep_v _) h2⟩
/-- x in a list of things -/
def RInO (eqs : EqS) (N : Nat) (neg : Bool) : R2D := fun x y μ Q _ => ∃ (zs : List D) (bs : List Bool), lstOf μ y = some zs ∧ zs.length = bs.length ∧ (∀ (i : Nat) (z : D) (b : Bool), zs[i]? = some z → bs[i]? = some b → QDe eqs N z x b ∧ idOk z x = true) ∧ Q (.v (.bl (if neg then !bs.any id else bs.any id))) μ
def rInO (X : Cx) (n : Nat) (neg : Bool) : R2 := fun x y H Q => ∃ (p : Addr) (zs : List V) (bs : List Bool), y = .ref p ∧ H p = some (.lst zs) ∧ InB X n H zs x bs ∧ ∀ H', Same H H' → Q (.bl (if neg then !bs.any id else bs.any id)) H'
theorem op_inO (hr : Room (n + 1) X.A) : OpR X (compareOp .In) (rInO X n false) := op_inB hr
theorem op_notInO (hr : Room (n + 1) X.A) : OpR X (compareOp .NotIn) (rInO X n true) := op_notInB hr
theorem sInO {neg : Bool} (hK : X.K = K) (E : EqC X.prog X.w X.K X.mg X.base n eqs) : Snd2 K (rInO X (n + N) neg) (RInO eqs N neg) := fun E' own μ H x y u v Q QD QX m r1 r2 k h => by
  subst hK
  obtain ⟨zs, bs, h1, h2, h3, h4⟩ := h
  obtain ⟨a, xs, rfl, g1, g2⟩ := lst_view m h1 r2
  refine ⟨a, xs, bs, rfl, g1, ⟨by rw [← Reps.len g2, h2], fun i z b e1 e2 => ?_⟩, fun H' s => k.ok _ μ own _ H' (Ext.same s) (m.same s) (rep_v _) h4⟩
  obtain ⟨d, q1, q2⟩ := at_reps g2 e1
  obtain ⟨q3, q4⟩ := h3 i d b q1 e2
  exact (q3.rcb E m q2 r1).2 q4
end
end Du

set_option Elab.async false
set_option linter.all false
set_option maxRecDepth 100000
namespace Du
open PySem L2 DL
/-! is, is not of bools -/
def RIsB (neg : Bool) : R2D := fun x y μ Q _ => match x, y with
  | .v (.bl i), .v (.bl j) => Q (.v (.bl (if neg then !decide (i = j) else decide (i = j)))) μ
  | _, _ => False
theorem sIsB {K : PySem.W.Frag} : Snd2 K L2.rIsB (RIsB false) := fun E own μ H x y u v Q QD QX m r1 r2 k h => by
  unfold RIsB at h
  split at h
  · cases r1; cases r2
    exact ⟨_, _, rfl, rfl, k.here m (rep_v _) h⟩
  · exact h.elim
theorem sNotB {K : PySem.W.Frag} : Snd2 K L2.rNotB (RIsB true) := fun E own μ H x y u v Q QD QX m r1 r2 k h => by
  unfold RIsB at h
  split at h
  · cases r1; cases r2
    exact ⟨_, _, rfl, rfl, k.here m (rep_v _) h⟩
  · exact h.elim
/-! f-strings -/
def TFmt (te : TED) : TED := fun σ μ Q X => te σ μ (fun x μ1 => match x with
  | .v (.str y) => y.length ≤ sizeLine ∧ Q (.v (.str y)) μ1
  | .v (.int i) => i.natAbs.log2 < 1920 ∧ Q (.v (.str (toString i))) μ1
  | _ => False) X
def TJs : List TED → Str → Ev → Store → (Str → Store → Prop) → XD → Prop
  | [], acc, _, μ, Q, _ => Q acc μ
  | t :: ts, acc, σ, μ, Q, X => t σ μ (fun x μ1 => ∃ y : Str, x = .v (.str y) ∧ (acc ++ y).length ≤ sizeLine ∧ TJs ts (acc ++ y) σ μ1 Q X) X
def TJoined (ts : List TED) : TED := fun σ μ Q X => TJs ts Str.empty σ μ (fun out μ1 => Q (.v (.str out)) μ1) X
inductive PJD (X : Cx) (K : PySem.W.Frag) (E : WX) : List Expr → List TED → Prop where
  | nil : PJD X K E [] []
  | cons {e : Expr} {t : TED} {es : List Expr} {ts : List TED} (h : PE X e (Lf K E t)) (r : PJD X K E es ts) : PJD X K E (e :: es) (t :: ts)
section
variable {X : Cx} {K : PySem.W.Frag} {E : WX} {e : Expr} {te : TED} {pos : Pos}
theorem de_fmt (he : PE X e (Lf K E te)) : PE X (.FormattedValue e (-1) none pos) (Lf K E (TFmt te)) := (pe_fmt he).imp fun s H Q h => by
  obtain ⟨own, σ, μ, QD, QX, m, er, t, k⟩ := h
  refine LfG.bind m er k t fun x μ1 own1 u H1 x1 m1 e1 r1 k1 q1 => ?_
  split at q1
  · cases r1
    exact .inl ⟨_, rfl, q1.1, k1.here m1 (rep_v _) q1.2⟩
  · cases r1
    exact .inr ⟨_, rfl, q1.1, k1.here m1 (rep_v _) q1.2⟩
  · exact q1.elim
theorem PJD.pj {es : List Expr} {ts : List TED} (h : PJD X K E es ts) : PJ X es (ts.map fun t => Lf K E t) := by
  induction h with
  | nil => exact .nil
  | cons h _ ih => exact .cons h ih
theorem lf_js {s : L2.St} : ∀ (ts : List TED) (acc : Str) {own : Ow} {σ : Ev} {μ : Store} {H : Hp} {Q : VK} {QD : D → Store → Prop} {QX : XD}, RelM K own μ H → RelE K own μ H σ s → Kont (fun own μ H d v => Rep K own μ H d v) K (fun c d H => E c d s H) own μ H QD QX Q → TJs ts acc σ μ (fun out μ1 => QD (.v (.str out)) μ1) QX → tJs (ts.map fun t => Lf K E t) acc s H fun out H1 => Q (.str out) H1
  | [], acc, own, σ, μ, H, Q, QD, QX, m, er, k, t => k.here m (rep_v _) t
  | t0 :: ts, acc, own, σ, μ, H, Q, QD, QX, m, er, k, t => by
    refine LfG.bind m er k t fun x μ1 own1 u H1 x1 m1 e1 r1 k1 q1 => ?_
    obtain ⟨y, rfl, h2, q2⟩ := q1
    cases r1
    exact ⟨y, rfl, h2, lf_js ts (acc ++ y) m1 e1 k1 q2⟩
theorem de_joined {v1 v2 : Expr} {rest : List Expr} {ts : List TED} (h : PJD X K E (v1 :: v2 :: rest) ts) : PE X (.JoinedStr (v1 :: v2 :: rest) pos) (Lf K E (TJoined ts)) := (pe_joined h.pj).imp fun s H Q h => by
  obtain ⟨own, σ, μ, QD, QX, m, er, t, k⟩ := h
  exact lf_js ts _ m er k t
theorem de_joined1 (he : PE X e (Lf K E te)) : PE X (.JoinedStr [e] pos) (Lf K E te) := pe_joined1 he
end
/-! len of own things -/
abbrev LenS := Addr → List (Str × D) → Nat → Prop
/-- a class with an own len -/
structure OwnN (P : Program) (w : World) (K : PySem.W.Frag) (mg : Str → Option Value) (base : Heap) (k : Nat) (C : Addr) (sp : Sp) : Prop where
  ex : ∃ (f : Addr) (fd : FuncData) (ps : List Str), FnOk P w K mg base CX0 k f fd ps sp ∧ Binds K fd ps [] ∧ PySem.W.findIn K (.ref C) "__len__" = some (some (.ref f)) ∧ PySem.W.isFn K (.ref f) = true
  nb : PySem.W.findIn K (.ref C) "__bool__" = some none
structure LenC (P : Program) (w : World) (K : PySem.W.Frag) (mg : Str → Option Value) (base : Heap) (n : Nat) (lens : LenS) : Prop where
  own : ∀ C fs b, lens C fs b → ClF 0 fs ∧ (b : Int) < 2 ^ 63 ∧ ∃ k sp, k ≤ n ∧ OwnN P w K mg base k C (sp0 K sp) ∧ ∀ μ QD QX, QD (.v (.int (b : Nat))) μ → sp [.obj C fs] μ QD QX
theorem lenSp_of {K : PySem.W.Frag} {own : Ow} {μ : Store} {H : Hp} {a C : Addr} {fs : List (Str × D)} {b : Nat} {sp : SpD} (m : RelM K own μ H) (r : Rep K own μ H (.obj C fs) (.ref a)) (hc : ClF 0 fs) (h : ∀ μ QD QX, QD (.v (.int (b : Nat))) μ → sp [.obj C fs] μ QD QX) (Q : VK) (q : ∀ H', Same H H' → Q (.int (b : Nat)) H') : sp0 K sp [.ref a] H Q E0 := by
  have lv : ∀ b, Live own μ b → ∃ o, H b = some o := fun b hb => by
    rcases hb with ⟨i, o, g1, g2⟩ | hb
    · exact m.tr b (List.mem_of_getElem? g1)
    · exact (m.pv b hb).2
  have t1 : Tr K own μ H ⟨own.l, fun b => Live own μ b⟩ μ H := ⟨fun b o e n => ⟨e, by
    rintro (l | l)
    · exact n (.inl l)
    · exact n l⟩, fun _ _ e => e⟩
  have c : Cut 0 ⟨own.l, fun b => Live own μ b⟩ μ ⟨[], fun b => Live own μ b⟩ [] := ⟨rfl, by simp, by simp⟩
  have r0 := Rep.cut c (d := .obj C fs) hc (Rep.tr t1 _ _ r)
  refine ⟨⟨[], fun b => Live own μ b⟩, [.obj C fs], [], fun d μ' => d = .v (.int (b : Nat)) ∧ μ' = [], fun _ _ => False, ⟨List.nodup_nil, rfl, fun i o b e => by simp at e, fun b hb => by simp at hb, fun b hb => ⟨by simp, lv b hb⟩⟩, ⟨.ref a, [], rfl, r0, rfl⟩, h _ _ _ ⟨rfl, rfl⟩, ⟨fun d μ' own' v H' ex m' rd ⟨e1, e2⟩ => ?_, fun _ _ _ _ _ _ _ _ _ z => z.elim⟩⟩
  subst e1
  cases rd
  exact q H' fun b o e => ex.keep b o e fun ⟨i, o, g1, _⟩ => by simp at g1
/-- len of the object at a is b -/
def LnB (X : Cx) (n : Nat) (H : Hp) (a : Addr) (b : Nat) : Prop := ∃ (C dx : Addr) (fs : List (Str × V)) (k : Nat) (sp : Sp), H a = some (.ins C dx fs) ∧ k ≤ n ∧ OwnN X.prog X.w X.K X.mg X.base k C sp ∧ (b : Int) < 2 ^ 63 ∧ ∀ Q : VK, (∀ H', Same H H' → Q (.int (b : Nat)) H') → sp [.ref a] H Q E0
section
variable {X : Cx} {K : PySem.W.Frag} {n : Nat} {lens : LenS}
theorem lnB_of (E : LenC X.prog X.w X.K X.mg X.base n lens) {own : Ow} {μ : Store} {H : Hp} {C : Addr} {fs : List (Str × D)} {b : Nat} {v : V} (m : RelM X.K own μ H) (h : lens C fs b) (r : Rep X.K own μ H (.obj C fs) v) : ∃ a, v = .ref a ∧ LnB X n H a b := by
  obtain ⟨hc, hb, k, sp, hk, O, hs⟩ := E.own _ _ _ h
  obtain ⟨a, dx, vs, rfl, h1, h2, h3⟩ := id r
  exact ⟨a, rfl, C, dx, vs, k, _, h1, hk, O, hb, lenSp_of m r hc hs⟩
theorem cr_lenB (hr : Room (n + 1) X.A) : CallR X (.builtin "len") (fun xs H Q => ∃ a b, xs = [.ref a] ∧ LnB X n H a b ∧ ∀ H', Same H H' → Q (.int (b : Nat)) H') := by
  intro pins s σ H xs us Q I r h
  obtain ⟨a, b, rfl, ⟨C, dx, fs, k, sp, ha, hk, O, hb, hs⟩, q⟩ := h
  obtain ⟨f, fd, ps, F, hB, hf, hF⟩ := O.ex
  exact call_lenO F hB (hr.mono (by omega)) hf hF pins s σ H [.ref a] us Q I r ⟨a, dx, fs, rfl, ha, hs _ fun H' sm => ⟨_, rfl, by omega, hb, q H' sm⟩⟩
def RLenO (lens : LenS) : RAD := fun ds μ Q _ => match ds with
  | [.obj C fs] => ∃ b, lens C fs b ∧ Q (.v (.int (b : Nat))) μ
  | _ => False
theorem sLenO (hK : X.K = K) (E : LenC X.prog X.w X.K X.mg X.base n lens) : SndA K (fun xs H Q => ∃ a b, xs = [.ref a] ∧ LnB X n H a b ∧ ∀ H', Same H H' → Q (.int (b : Nat)) H') (RLenO lens) := fun E' own μ H x u Q QD QX m r k h => by
  subst hK
  unfold RLenO at h
  split at h
  · obtain ⟨b, h1, h2⟩ := h
    obtain ⟨y, rfl, ry⟩ := reps1 r
    obtain ⟨a, rfl, hl⟩ := lnB_of E m h1 ry
    exact ⟨a, b, rfl, hl, fun H' s => k.ok _ μ own _ H' (Ext.same s) (m.same s) (rep_v _) h2⟩
  · exact h.elim
end
end Du

set_option Elab.async false
set_option linter.all false
set_option maxRecDepth 100000
namespace Du
open PySem L2 DL
section
variable {prog : Program} {w : World} {A : Around} {E : Value → Shared → Prop} {s : Shared}
/-- T(x), where making says what it does in this very program -/
theorem typeCall_here {T newId : String} {Bn : Builtin} {args : List Value} {Q : Value → Shared → Prop} (ft : TypeCalled T newId "object.__init__") (hne : (some newId != some "object.__new__") = true) (hct : checkTypeCall T ⟨args, []⟩ = pure ()) (hcn : checkBuiltinCall newId ⟨.type T :: args, []⟩ = pure ()) (hok : ∀ o, argsOk "object.__init__" ⟨o :: args, []⟩) (eN : entryFor table newId = some Bn)
    (g : wpAny (model prog w) A.in1.in1 (Bn ⟨.type T :: args, []⟩) (fun fin s' => ∃ v, fin = .done (.ret v) ∧ s'.TypeIs v T ∧ Q v s') E s) : wpAny (model prog w) A (call (.type T) args) Q E s := by
  have hmro := ft.mro; have hmade := ft.made; have hsub := ft.sub; have h1 := ft.notType; have h2 := ft.canCreate
  obtain ⟨c, tl, hmro⟩ := hmro
  have step : codeAny (model prog w) A.in1 (.call (.builtin newId) ⟨.type T :: args, []⟩) (fun r s' => match r with | .ok (.ret v) => s'.TypeIs v T ∧ Q v s' | .ok _ => False | .error e => E e s') s := by
    refine codeAny_call_builtin ft.plain eN (wpAny_of_eq hcn (wpAny_mono g (fun fin s' h => ?_) fun _ _ e => e))
    obtain ⟨v, rfl, ht, hq⟩ := h
    exact ⟨ht, hq⟩
  apply wpAny_call; apply codeAny_of_tree
  show wpAny _ _ (callAny (.type T) _) _ _ _
  apply wpAny_pure; refine ⟨Code.quiet_builtin _ (by decide +kernel), ?_⟩; apply codeAny_builtin F.entry_type_call
  rw [Around.under_plain (weight_type_call_type T args []) (units_type_call_type T args [])]
  repeat (any_goals (first | assumption | wp_step))
  apply codeAny_mono step; intro r s₁ hr
  match r, hr with
  | .error e, hr => exact hr
  | .ok .next, hr => exact hr.elim
  | .ok .brk, hr => exact hr.elim
  | .ok .cont, hr => exact hr.elim
  | .ok (.ret v), hr =>
    obtain ⟨hT, hq⟩ := hr
    have hli := ft.init.lookup; have hbi := ft.init.bind v
    repeat (any_goals (first | assumption | wp_step))
    have oi : codeAny (model prog w) A.in1 (.call (.builtin "object.__init__") ⟨v :: args, []⟩) (wants (fun z s₂ => z = .none ∧ Q v s₂) E) s₁ := by
      refine codeAny_call_builtin (R := wants (fun z s₂ => z = .none ∧ Q v s₂) E) ft.init.plain F.entry_object_init (ft.init.check _ _ _ _ _ _ _ _ hT (hok v) ?_)
      exact object_init_meets (self := v) (rest := args) ft.init.lookup ft.made hne prog w A.in1 (wants (fun z s₂ => z = .none ∧ Q v s₂) E) s₁ ⟨hT, rfl, hq⟩
    apply codeAny_mono oi; intro r₂ s₂ hr₂
    match r₂, hr₂ with
    | .error e, hr₂ => exact hr₂
    | .ok .next, hr₂ => exact hr₂.elim
    | .ok .brk, hr₂ => exact hr₂.elim
    | .ok .cont, hr₂ => exact hr₂.elim
    | .ok (.ret z), hr₂ =>
      obtain ⟨rfl, hq2⟩ := hr₂
      repeat (any_goals (first | assumption | wp_step))
theorem bool_new_here {x : Value} {Q : Bool → Shared → Prop} (h : wpAny (model prog w) A (truthy x) Q E s) : wpAny (model prog w) A (Builtin.«bool.__new__» ⟨[.type "bool", x], []⟩) (fun fin s' => ∃ b, fin = .done (.ret (.bool b)) ∧ Q b s') E s := by
  have f1 := F.conv_sub_bool
  repeat (any_goals (first | assumption | (with_reducible refine wpAny_mono h ?_ ?_) | wp_step))
  all_goals first | (intro _ _ e; exact e) | (intro b s' hq; refine wpAny_pure ⟨_, rfl, hq⟩) | skip
end
section
variable {X : Cx} {K : PySem.W.Frag} {n : Nat} {lens : LenS}
/-- bool(an object with an own len) -/
theorem cr_boolB (hr : Room (n + 3) X.A) : CallR X (.type "bool") (fun xs H Q => ∃ a b, xs = [.ref a] ∧ LnB X n H a b ∧ ∀ H', Same H H' → Q (.bl (b != 0)) H') := by
  intro pins s σ H xs us Q I r h
  obtain ⟨a, b, rfl, ⟨C, dx, fs, k, sp, ha, hk, O, hb, hs⟩, q⟩ := h
  obtain ⟨u, rfl, ru⟩ := vals1 r
  cases (show u = Value.ref _ from ru)
  obtain ⟨f, fd, ps, F', hB, hf, hF⟩ := O.ex
  obtain ⟨mA, J, _⟩ := ins_get I.hok ha
  obtain ⟨od, J, _⟩ := J.look
  refine typeCall_here F.called_bool F.newNe_bool (F.typeCall_bool_1 _) (F.newCall_bool_1 _) (fun obj => F.args_object_init_2 obj _) F.entry_bool_new ?_
  refine wpAny_mono (bool_new_here (Q := fun c s' => c = (b != 0) ∧ ∃ H', Inv X pins σ H' s' ∧ Same H H') ?_) (fun fin s' h => ?_) fun _ _ e => e
  · refine truthyO I.kIn J O.nb hf hF (wpAny_mono (own_call F' hB (Sub.mono ⟨hr.in1.in1.in1, rfl⟩ hk) I (vs := [.ref a]) (Q := fun v H' => v = .int (b : Nat) ∧ Same H H') (.cons rfl .nil) (hs _ fun H' sm => ⟨rfl, sm⟩)) (fun v s' q => ?_) fun _ _ z => z)
    obtain ⟨z, H', I', rz, rfl, sm⟩ := q
    obtain ⟨t, rfl⟩ := rz
    exact ⟨⟨by omega, hb⟩, (b : Int), _, rfl, by cases b <;> rfl, H', I'.tok _, sm⟩
  · obtain ⟨c, rfl, rfl, H', I', sm⟩ := h
    exact ⟨_, rfl, rfl, .bl _, H', I', rfl, q H' sm⟩
def RBoolO (lens : LenS) : RAD := fun ds μ Q _ => match ds with
  | [.obj C fs] => ∃ b, lens C fs b ∧ Q (.v (.bl (b != 0))) μ
  | _ => False
theorem sBoolO (hK : X.K = K) (E : LenC X.prog X.w X.K X.mg X.base n lens) : SndA K (fun xs H Q => ∃ a b, xs = [.ref a] ∧ LnB X n H a b ∧ ∀ H', Same H H' → Q (.bl (b != 0)) H') (RBoolO lens) := fun E' own μ H x u Q QD QX m r k h => by
  subst hK
  unfold RBoolO at h
  split at h
  · obtain ⟨b, h1, h2⟩ := h
    obtain ⟨y, rfl, ry⟩ := reps1 r
    obtain ⟨a, rfl, hl⟩ := lnB_of E m h1 ry
    exact ⟨a, b, rfl, hl, fun H' s => k.ok _ μ own _ H' (Ext.same s) (m.same s) (rep_v _) h2⟩
  · exact h.elim
end
/-! repr of an own object, whatever else is being shown -/
def RpB (X : Cx) (n : Nat) (H : Hp) (a : Addr) (t : Str) : Prop := ∃ (C dx : Addr) (fs : List (Str × V)) (k : Nat) (sp : Sp), H a = some (.ins C dx fs) ∧ k ≤ n ∧ OwnR X.prog X.w X.K X.mg X.base k C sp ∧ ReprSp sp H a t
def RReprO (rp : Addr → List (Str × D) → Option Str) : RAD := fun ds μ Q _ => match ds with
  | [.obj C fs] => ∃ t, rp C fs = some t ∧ Q (.v (.str t)) μ
  | _ => False
section
variable {X : Cx} {K : PySem.W.Frag} {n : Nat} {rp : Addr → List (Str × D) → Option Str}
theorem cr_reprB (hr : Room (n + 1) X.A) : CallR X (.builtin "repr") (fun xs H Q => ∃ a t, xs = [.ref a] ∧ RpB X n H a t ∧ ∀ H', Same H H' → Q (.str t) H') := by
  intro pins s σ H xs us Q I r h
  obtain ⟨a, t, rfl, ⟨C, dx, fs, k, sp, ha, hk, O, hs⟩, q⟩ := h
  exact call_reprO O (hr.mono (by omega)) pins s σ H [.ref a] us Q I r ⟨a, dx, fs, t, rfl, ha, hs, q⟩
theorem sReprO (hK : X.K = K) (S : ShC X.prog X.w X.K X.mg X.base n rp) : SndA K (fun xs H Q => ∃ a t, xs = [.ref a] ∧ RpB X n H a t ∧ ∀ H', Same H H' → Q (.str t) H') (RReprO rp) := fun E' own μ H x u Q QD QX m r k h => by
  subst hK
  unfold RReprO at h
  split at h
  · obtain ⟨t, h1, h2⟩ := h
    obtain ⟨hc, kk, sp, hk, O, hs⟩ := S.own _ _ _ h1
    obtain ⟨y, rfl, ry⟩ := reps1 r
    obtain ⟨a, dx, vs, rfl, g1, g2, g3⟩ := id ry
    exact ⟨a, t, rfl, ⟨_, dx, vs, kk, _, g1, hk, O, reprSp_of m ry hc hs⟩, fun H' s => k.ok _ μ own _ H' (Ext.same s) (m.same s) (rep_v _) h2⟩
  · exact h.elim
end
end Du

set_option Elab.async false
set_option linter.all false
set_option maxRecDepth 100000
namespace Du
open PySem L2 DL L2H
open L2N (Zn)
/-! defs that never raise, called where it is known what is being shown -/
abbrev FnGD (P : Program) (w : World) (K : PySem.W.Frag) (mg : Str → Option Value) (base : Heap) (k : Nat) (f : Addr) (fd : FuncData) (ps : List Str) (sp : SpD) : Prop := FnG P w K mg base k f fd ps (sp0 K sp)
abbrev CxG (P : Program) (w : World) (K : PySem.W.Frag) (mg : Str → Option Value) (base : Heap) (N : List Str) (qual : Str) (st : Stmt) (f : Addr) (cdv : Value) (A : Around) (outer : List Env) (s : Shared) (H : Hp) : Cx := (cxOf CX0 P w K mg base N qual (defScope st) f cdv A outer s H E0).nox
section
variable {P : Program} {w : World} {K : PySem.W.Frag} {mg : Str → Option Value} {base : Heap}
theorem lfS_body {N : List Str} {sp : SpD} {T : TSD} {vs : List V} {H : Hp} {Q : VK} (hw : ∀ ds μ QD QX, Cls' μ.length ds → ClS μ.length μ → sp ds μ QD QX → T (endsC μ.length QD QX) (startD N ds) μ ∨ T (endsD QD QX) (startD N ds) μ) (h : LfSp K sp vs H Q E0) : LfS K EF T { nx := fun _ H' => Q .non H', rt := Q } (L2.start N vs) H := by
  obtain ⟨own, ds, μ, QD, QX, m, r, h, k⟩ := h
  have hw := hw ds μ QD QX (m.ln ▸ Reps.cl r) m.cl h
  rcases hw with hw | hw
  · have c : ∀ (own' : Ow) (μ' : Store), Cut μ.length own' μ' ⟨own'.l.take μ.length, own'.p⟩ (μ'.take μ.length) := fun own' μ' => ⟨rfl, rfl, rfl⟩
    refine ⟨own, startD N ds, μ, endsC μ.length QD QX, m, relE_start r, hw, ⟨fun σ' μ' own' s' H' x m' e q => ?_, fun d μ' own' v H' x m' e q => ?_, fun _ _ _ _ _ _ _ _ q => q, fun _ _ _ _ _ _ _ _ q => q, fun x σ' μ' own' s' c' dd H' e m' e' rx q => ?_⟩⟩
    · exact k.ok (.v .non) _ _ _ H' (x.cut (m.ln ▸ c own' μ')) (m'.cut (c own' μ') q.1) (rep_v _) q.2
    · exact k.ok d _ _ v H' (x.cut (m.ln ▸ c own' μ')) (m'.cut (c own' μ') q.2.1) (Rep.cut (c own' μ') q.1 e) q.2.2
    · exact k.xn x _ _ c' dd H' (e.cut (m.ln ▸ c own' μ')) (m'.cut (c own' μ') q.2.1) (rx.cut (c own' μ') q.1) q.2.2
  · refine ⟨own, startD N ds, μ, endsD QD QX, m, relE_start r, hw, ⟨fun σ' μ' own' s' H' x m' e q => k.ok (.v .non) μ' own' _ H' x m' (rep_v _) q, fun d μ' own' v H' x m' e q => k.ok d μ' own' v H' x m' e q, fun _ _ _ _ _ _ _ _ q => q, fun _ _ _ _ _ _ _ _ q => q, fun x σ' μ' own' s' c dd H' e m' e' rx q => k.xn x μ' own' c dd H' e m' rx q⟩⟩
/-- such a def by its body -/
theorem gnD {x qual : Str} {st : Stmt} {f : Addr} {fd : FuncData} {N ps : List Str} {k : Nat} {sp : SpD} (F : Fun K x qual st f fd) (S : FnScope N ps (defScope st)) (len : ∀ ds μ QD QX, sp ds μ QD QX → ds.length = ps.length)
    (hbody : ∀ (cdv : Value) (A : Around) (outer : List Env) (s : Shared) (H : Hp), (A.deeper (PyProof.Rows.envOfC qual (defScope st) s.heap.objs.size f cdv)).guards = some [] → Room k (A.deeper (PyProof.Rows.envOfC qual (defScope st) s.heap.objs.size f cdv)) →
      ∃ T : TSD, PSs (CxG P w K mg base N qual st f cdv A outer s H) (defBody st) (LfS K EF T) ∧ ∀ ds μ QD QX, Cls' μ.length ds → ClS μ.length μ → sp ds μ QD QX → T (endsC μ.length QD QX) (startD N ds) μ ∨ T (endsD QD QX) (startD N ds) μ) :
    FnGD P w K mg base (k + 1) f fd ps sp := by
  refine fnG_of F S (fun vs H Q h => ?_) fun cdv A outer s H vs Q hg hr h => ?_
  · obtain ⟨own, ds, μ, QD, QX, m, r, h, _⟩ := h
    rw [← Reps.len r]
    exact len _ _ _ _ h
  · obtain ⟨T, hT, hw⟩ := hbody cdv A outer s H hg hr
    exact ⟨_, hT, lfS_body hw h⟩
structure DnGD (P : Program) (w : World) (K : PySem.W.Frag) (mg : Str → Option Value) (base : Heap) (k : Nat) (x : Str) (ps : List Str) (sp : SpD) : Prop where
  ex : ∃ (f : Addr) (fd : FuncData), FnGD P w K mg base k f fd ps sp ∧ mg x = some (.ref f) ∧ PySem.W.keepIn K (.ref f) = true ∧ Binds K fd ps []
end
def TCallG (sp : SpD) (ta : TAD) : TED := fun σ μ Q X => ta σ μ (fun ds μ1 => sp ds μ1 Q fun _ _ => False) X
section
variable {X : Cx} {K : PySem.W.Frag} {E : WX} {k : Nat} {x : Str} {ps : List Str} {sp : SpD} {p pos : Pos} {e : Expr} {es : List Expr} {ta : TAD}
theorem lf_callG {s : L2.St} {H : Hp} {Q : VK} (h : Lf K E (TCallG sp ta) s H Q) : LfA K E ta s H fun vs H1 => LfSp K sp vs H1 Q E0 := by
  obtain ⟨own, σ, μ, QD, QX, m, e, t, k⟩ := h
  refine LfG.bind m e k t fun ds μ1 own1 vs H1 x1 m1 e1 r1 k1 q1 => ?_
  exact ⟨own1, ds, μ1, QD, fun _ _ => False, m1, r1, q1, ⟨k1.ok, fun _ _ _ _ _ _ _ _ _ z => z.elim⟩⟩
theorem de_callG (D : DnGD X.prog X.w X.K X.mg X.base k x ps sp) (hK : X.K = K) (hG : X.A.guards = some []) (hr : Room k X.A) (hg : Gl X x) (ha : PA X (e :: es) (LfA K E ta))
    (hdb : (x == ("__debug__" : Str)) = false := by decide) (he : starEach (e :: es) X.env = (false, eval e X.env) :: starEach es X.env := by rfl) (hpl : (backTo pos (starEach es X.env)).any (·.1) = false := by rfl) :
    PE X (.Call (.Name x p) (e :: es) [] pos) (Lf K E (TCallG sp ta)) := by
  subst hK
  obtain ⟨f, fd, F, hm, hk, hb⟩ := D.ex
  refine (pcallG (D := ⟨f, fd, F, hm, hk, hb⟩) hG hr hg ha hdb he hpl).imp fun s H Q h => ?_
  have z := lf_callG h
  obtain ⟨own, σ, μ, QD, QX, m, e, t, k⟩ := z
  refine ⟨own, σ, μ, QD, QX, m, e, t, ⟨fun d μ' own' v H' a b c q => ?_, k.xn⟩⟩
  have := k.ok d μ' own' v H' a b c q
  show sp0 X.K sp (v ++ []) H' Q E0
  rw [List.append_nil]
  exact this
end
/-! defs that are handed the error that is being handled -/
abbrev FnED (P : Program) (w : World) (K : PySem.W.Frag) (mg : Str → Option Value) (base : Heap) (k : Nat) (f : Addr) (fd : FuncData) (ps : List Str) (sp : Addr → Addr → Addr → SpD) : Prop :=
  FnE P w K mg base k f fd ps fun p vs H Q _ => ∃ dd C, Zn (.ref C) (some dd) p.2 ∧ (∃ vs, p.2.data = .fields vs) ∧ LfSp K (sp p.1 dd C) vs H Q E0
abbrev CxE (P : Program) (w : World) (K : PySem.W.Frag) (mg : Str → Option Value) (base : Heap) (N : List Str) (qual : Str) (st : Stmt) (f : Addr) (cdv : Value) (A : Around) (outer : List Env) (s : Shared) (H : Hp) (p : Addr × Obj) : Cx := (cxH CX0 P w K mg base N qual (defScope st) f cdv A outer s H E0 p).nox
theorem enD {P : Program} {w : World} {K : PySem.W.Frag} {mg : Str → Option Value} {base : Heap} {x qual : Str} {st : Stmt} {f : Addr} {fd : FuncData} {N ps : List Str} {k : Nat} {sp : Addr → Addr → Addr → SpD} (F : Fun K x qual st f fd) (S : FnScope N ps (defScope st)) (len : ∀ a dd C ds μ QD QX, sp a dd C ds μ QD QX → ds.length = ps.length)
    (hbody : ∀ (cdv : Value) (A : Around) (outer : List Env) (s : Shared) (H : Hp) (a dd C : Addr) (oe : Obj), Zn (.ref C) (some dd) oe → (∃ vs, oe.data = .fields vs) → RoomH k (A.deeper (PyProof.Rows.envOfC qual (defScope st) s.heap.objs.size f cdv)) → (∃ ds μ QD QX, sp a dd C ds μ QD QX) →
      ∃ T : TSD, PSs (CxE P w K mg base N qual st f cdv A outer s H (a, oe)) (defBody st) (LfS K EF T) ∧ ∀ ds μ QD QX, Cls' μ.length ds → ClS μ.length μ → sp a dd C ds μ QD QX → T (endsC μ.length QD QX) (startD N ds) μ ∨ T (endsD QD QX) (startD N ds) μ) :
    FnED P w K mg base (k + 1) f fd ps sp := by
  refine fnE_of F S (fun p vs H Q h => ?_) fun cdv A outer s H vs Q p hot hr h => ?_
  · obtain ⟨dd, C, _, _, own, ds, μ, QD, QX, m, r, h, _⟩ := h
    rw [← Reps.len r]
    exact len _ _ _ _ _ _ _ h
  · obtain ⟨a, oe⟩ := p
    obtain ⟨dd, C, hz, hv, h⟩ := h
    obtain ⟨T, hT, hw⟩ := hbody cdv A outer s H a dd C oe hz hv hr (by
      obtain ⟨own, ds, μ, QD, QX, m, r, h, _⟩ := h
      exact ⟨_, _, _, _, h⟩)
    exact ⟨_, hT, lfS_body hw h⟩
structure DnED (P : Program) (w : World) (K : PySem.W.Frag) (mg : Str → Option Value) (base : Heap) (k : Nat) (x : Str) (ps : List Str) (sp : Addr → Addr → Addr → SpD) : Prop where
  ex : ∃ (f : Addr) (fd : FuncData), FnED P w K mg base k f fd ps sp ∧ mg x = some (.ref f) ∧ PySem.W.keepIn K (.ref f) = true ∧ Binds K fd ps []
theorem de_callE {X : Cx} {K : PySem.W.Frag} {E : WX} {k : Nat} {x : Str} {ps : List Str} {sp : Addr → Addr → Addr → SpD} {p pos : Pos} {e : Expr} {es : List Expr} {ta : TAD} {a dd C : Addr} {oe : Obj} (D : DnED X.prog X.w X.K X.mg X.base k x ps sp) (hK : X.K = K) (hp : (a, oe) ∈ X.pn) (hz : Zn (.ref C) (some dd) oe) (hv : ∃ vs, oe.data = .fields vs) (hh : X.A.handled = some (.ref a)) (hr : RoomH k X.A) (hg : Gl X x) (ha : PA X (e :: es) (LfA K E ta))
    (hdb : (x == ("__debug__" : Str)) = false := by decide) (he : starEach (e :: es) X.env = (false, eval e X.env) :: starEach es X.env := by rfl) (hpl : (backTo pos (starEach es X.env)).any (·.1) = false := by rfl) :
    PE X (.Call (.Name x p) (e :: es) [] pos) (Lf K E (TCallG (sp a dd C) ta)) := by
  subst hK
  obtain ⟨f, fd, F, hm, hk, hb⟩ := D.ex
  have hot : Hot1 X.A (a, oe) := by
    obtain ⟨vs, e⟩ := hv
    exact ⟨hh, vs, e, (hz.2.2 vs e)⟩
  refine (pe_callE F hr hot hp hg hm hk hb ha hdb he hpl).imp fun s H Q h => ?_
  have z := lf_callG h
  obtain ⟨own, σ, μ, QD, QX, m, e, t, k⟩ := z
  exact ⟨own, σ, μ, QD, QX, m, e, t, ⟨fun d μ' own' v H' a b c q => ⟨dd, C, hz, hv, k.ok d μ' own' v H' a b c q⟩, k.xn⟩⟩
/-- a field of the error, where the class has no such name itself -/
def TFldX (K : PySem.W.Frag) (a dd C : Addr) (fld : Str) (te : TED) : TED := fun σ μ Q X => te σ μ (fun d μ1 => ∃ fs d', d = .exn a dd C fs ∧ fs.lookup fld = some d' ∧ Q d' μ1) X
end Du

set_option Elab.async false
set_option linter.all false
set_option maxRecDepth 100000
namespace DL
open PySem L2
section
variable {X : Cx} {k n : Nat} {f C : Addr} {fd : FuncData} {ps ks : List Str} {sp : SpD} {E : WX} {K : PySem.W.Frag} {gD : List D → List D → List D} {x : Str} {p pos : Pos} {e : Expr} {es : List Expr} {kws : List Keyword} {ta tk : TAD}
/-- C(k = v, ..), C() -/
theorem de_makeK {b : Bool} (D : MkD X.prog X.w X.K X.mg X.base k x C ps 0 ks gD sp) (hK : X.K = K) (hr : Room (k + 1) X.A) (hx : Tk X E) (hg : Gl X x) (hkw : PK X kws (LfA K E tk))
    (hall : (backToKw pos (keywordEach kws X.env)).all (·.1.isSome) = true := by rfl) (hks : (backToKw pos (keywordEach kws X.env)).filterMap (·.1) = ks := by rfl) (hdb : (x == ("__debug__" : Str)) = false := by decide)
    (hpl : ((backTo pos (starEach [] X.env)).any (·.1) || (backToKw pos (keywordEach kws X.env)).any (·.1.isNone)) = false := by rfl) :
    PE X (.Call (.Name x p) [] kws pos) (Lf K E (TMake b C 0 ks.length gD sp TNil tk)) := by
  subst hK
  obtain ⟨f, fd, F, M, hb⟩ := D.ex
  have hm := D.gC
  have hk := M.kp
  refine ⟨fun pins s σ H Q I h => ?_⟩
  obtain ⟨own, σd, μ, QD, QX, m, er, t, kt⟩ := h
  refine wpAny_Call_Name_kw (ld_glob I hg hm ?_ hdb)
  refine PySem.W.callWith_KW0 (h₀ := X.base) I.ok.mod.kin hk hall ?_ hpl
  refine thn (hkw.run pos pins s σ H _ I (LfG.bind (Q := fun zs H2 => ∃ own2 μ2 ds2, RelM X.K own2 μ2 H2 ∧ Reps X.K own2 μ2 H2 ds2 zs ∧ Kont (fun own μ H d v => Rep X.K own μ H d v) X.K (fun c d H => E c d σ H) own2 μ2 H2 QD QX Q ∧ MB b C 0 ks.length gD sp [] ds2 μ2 QD QX) m er kt t fun ds2 μ2 own2 zs H2 x2 m2 e2 r2 k2 q2 => ⟨own2, μ2, ds2, m2, r2, k2, q2⟩)) fun ws s2 ⟨zs, H2, I2, rz, own2, μ2, ds2, m2, r2, k2, q2⟩ => ⟨I2.kIn, ?_⟩
  obtain ⟨l1, l2, q2⟩ := q2
  rw [hks]
  exact run_makeD (b := b) (us := []) (vs := []) (ds := []) M F hr hb hx I2 m2 .nil rz rfl r2 rfl l2 k2 fun c1 c2 c3 => by
    have q3 := q2 c1 c2 c3
    cases b <;> exact q3
end
/-- [..] * k -/
def RRep (b : Bool) : R2D := fun x y μ Q _ => ∃ ds k, lstOf μ x = some ds ∧ y = .v (.int k) ∧ -(2 ^ 63) ≤ k ∧ k < 2 ^ 63 ∧ ds.length * k.toNat ≤ sizeLine ∧ mkL b (List.replicate k.toNat ds).flatten μ Q
theorem Reps.rep {K : PySem.W.Frag} {own : Ow} {μ : Store} {H : Hp} {ds : List D} {xs : List V} (r : Reps K own μ H ds xs) : ∀ n : Nat, Reps K own μ H (List.replicate n ds).flatten (List.replicate n xs).flatten
  | 0 => rfl
  | n + 1 => by
    rw [List.replicate_succ, List.replicate_succ, List.flatten_cons, List.flatten_cons]
    exact Reps.app r (Reps.rep r n)
theorem sRep {K : PySem.W.Frag} {b : Bool} : Snd2 K rRep (RRep b) := fun E own μ H x y u v Q QD QX m r1 r2 k ⟨ds, n, h1, h2, h3, h4, h5, h6⟩ => by
  subst h2
  cases r2
  obtain ⟨a, xs, rfl, g1, g2⟩ := lst_view m h1 r1
  exact ⟨a, n, xs, rfl, rfl, g1, h3, h4, by rw [← Reps.len g2]; exact h5, lf_mkL m k (Reps.rep g2 _) h6⟩
end DL

set_option Elab.async false
set_option linter.all false
set_option maxRecDepth 100000
namespace Du
open PySem PySem.Spec PyProof.Rows L2
/-! ### a set of texts, made of a list, and its sorted list -/
def uqS (acc : List Str) (z : Str) : List Str := if z ∈ acc then acc else z :: acc
def uq (xs : List Str) : List Str := xs.foldl uqS []
theorem uq_snoc (xs : List Str) (z : Str) : uq (xs ++ [z]) = uqS (uq xs) z := by
  unfold uq
  rw [List.foldl_append]
  rfl
theorem uqS_mem {acc : List Str} {z y : Str} : y ∈ uqS acc z ↔ y ∈ acc ∨ y = z := by
  unfold uqS
  split
  · rename_i h
    exact ⟨.inl, fun q => q.elim id fun e => e ▸ h⟩
  · rw [List.mem_cons]
    exact Or.comm
theorem uqS_nd {acc : List Str} {z : Str} (h : acc.Nodup) : (uqS acc z).Nodup := by
  unfold uqS
  split
  · exact h
  · rename_i q
    exact List.nodup_cons.mpr ⟨q, h⟩
theorem uqS_len {acc : List Str} {z : Str} : (uqS acc z).length ≤ acc.length + 1 := by
  unfold uqS
  split
  · exact Nat.le_succ _
  · exact Nat.le_refl _
theorem fold_uq : ∀ (xs acc : List Str), acc.Nodup → (xs.foldl uqS acc).Nodup ∧ (∀ y, y ∈ xs.foldl uqS acc ↔ y ∈ acc ∨ y ∈ xs) ∧ (xs.foldl uqS acc).length ≤ acc.length + xs.length
  | [], acc, h => ⟨h, fun y => by simp, Nat.le_refl _⟩
  | x :: xs, acc, h => by
    obtain ⟨a, b, c⟩ := fold_uq xs (uqS acc x) (uqS_nd h)
    refine ⟨a, fun y => ?_, ?_⟩
    · show y ∈ xs.foldl uqS (uqS acc x) ↔ _
      rw [b y, uqS_mem, List.mem_cons, or_assoc]
    · show (xs.foldl uqS (uqS acc x)).length ≤ _
      have := uqS_len (acc := acc) (z := x)
      rw [List.length_cons]
      omega
theorem uq_nd (xs : List Str) : (uq xs).Nodup := (fold_uq xs [] .nil).1
theorem uq_mem {xs : List Str} {y : Str} : y ∈ uq xs ↔ y ∈ xs := by
  have := (fold_uq xs [] .nil).2.1 y
  rw [show uq xs = xs.foldl uqS [] from rfl, this]
  simp
theorem uq_len (xs : List Str) : (uq xs).length ≤ xs.length := by
  have := (fold_uq xs [] .nil).2.2
  rw [List.length_nil, Nat.zero_add] at this
  exact this
def sKey (e : Int × Value) : Str := match e.2 with
  | .str z _ => z
  | _ => Str.empty
def SEnt (P : Program) (w : World) (e : Int × Value) : Prop := ∃ (z : Str) (t : Tok), e = ((PySem.strKind P w).hash z, Value.str z t)
def SetS (P : Program) (w : World) (h : Heap) (a : Addr) (zs : List Str) : Prop :=
  ∃ (o : Obj) (es : Array (Int × Value)) (ep : Nat) (t : SetTable), h.get? a = some o ∧ o.ExactSet ∧ o.data = .set es ep t ∧ (∀ e ∈ es.toList, SEnt P w e) ∧ (es.toList.map sKey).Perm zs ∧
    es.size < scanBound ∧ t.fits es.size = true ∧ Ris t.place.toList ∧ (w.params.followText "set-order" = true ∨ t.led = true)
section
variable {P : Program} {w : World} {A : Around} {E : Value → Shared → Prop} {s : Shared} {a : Addr} {zs : List Str}
theorem SetS.mono {h h' : Heap} (R : SetS P w h a zs) (k : ∀ o, h.get? a = some o → h'.get? a = some o) : SetS P w h' a zs := by
  obtain ⟨o, es, ep, t, ho, r⟩ := R
  exact ⟨o, es, ep, t, k o ho, r⟩
theorem sent_elems {l : List (Int × Value)} (g : ∀ e ∈ l, SEnt P w e) : ElemsOf (PySem.strKind P w) l := fun e he => by
  obtain ⟨z, t, rfl⟩ := g e he
  exact ⟨⟨z, strKind_is P w z t, rfl⟩, rfl⟩
theorem sent_is {e : Int × Value} (g : SEnt P w e) (k : Str) : (PySem.strKind P w).is k e.2 = true ↔ sKey e = k := by
  obtain ⟨z, t, rfl⟩ := g
  show (z == k) = true ↔ z = k
  exact beq_iff_eq
/-- stored, relaid where it is too full -/
theorem sset_tail {g : Bool → Sem Unit} {o : Obj} {es es1 : Array (Int × Value)} {ep : Nat} {t t2 : SetTable} {ys : List Str} {dm : Bool} {R : Option Bool → Shared → Prop} (quiet : ∀ (b : Bool) (s1 : Shared) (Q1 : Unit → Shared → Prop), Q1 () s1 → wpAny (model P w) A (g b) Q1 E s1)
    (ho : s.heap.get? a = some o) (hx : o.ExactSet) (hd : o.data = .set es ep t) (h1 : ∀ e ∈ es1.toList, SEnt P w e) (h2 : (es1.toList.map sKey).Perm ys) (h3 : es1.size < scanBound) (h4 : t2.fits es1.size = true) (h5 : Ris t2.place.toList) (h6 : w.params.followText "set-order" = true ∨ t2.led = true)
    (k : ∀ h', Heap.SameBut a s.heap h' → SetS P w h' a ys → R (some true) { s with heap := h' }) :
    wpAny (model P w) A (do
      storeSet a es1 t2
      if (!dm && t2.tooFull) = true then do
        g (relayAll t2 es1 (SetTable.grown es1.size)).2.2
        storeSet a (relayAll t2 es1 (SetTable.grown es1.size)).1 (relayAll t2 es1 (SetTable.grown es1.size)).2.1
        pure (some true)
      else pure (some true)) R E s := by
  have e1 := store_at (es' := es1) (t' := t2) ho hd
  have b1 := Heap.SameBut.update s.heap a (Obj.putSet es1 t2)
  refine wpAny_bind (wpAny_storeSet_of ho hd ?_ (fits_of_scanBound h3))
  by_cases c : (!dm && t2.tooFull) = true
  · rw [if_pos c]
    have p := relayAll_perm t2 es1 (SetTable.grown es1.size)
    have f := relayAll_fits t2 es1 (SetTable.grown es1.size)
    have r := relayAll_ris t2 es1 (SetTable.grown es1.size)
    have l := relayAll_led t2 es1 (SetTable.grown es1.size)
    revert p f r l
    generalize relayAll t2 es1 (SetTable.grown es1.size) = W
    obtain ⟨es2, t3, gv⟩ := W
    intro p f r l
    have z : es2.size = es1.size := by
      have := p.length_eq
      simpa using this
    refine wpAny_bind (quiet _ _ _ (wpAny_bind (wpAny_storeSet_of e1 rfl ?_ (fits_of_scanBound (z ▸ h3)))))
    refine wpAny_pure (k _ (b1.trans (Heap.SameBut.update _ a _)) ⟨_, es2, _, t3, store_at (es' := es2) (t' := t3) e1 rfl, hx, rfl, fun e he => h1 e (p.mem_iff.mp he), (p.map sKey).trans h2, z ▸ h3, f, r, h6.imp id fun q => l ▸ q⟩)
  · rw [if_neg c]
    exact wpAny_pure (k _ b1 ⟨_, es1, _, t2, e1, hx, rfl, h1, h2, h3, h4, h5, h6⟩)
end
end Du

set_option Elab.async false
set_option linter.all false
set_option maxRecDepth 100000
namespace Du
open PySem PySem.Spec PyProof.Rows L2
section
variable {P : Program} {w : World} {A : Around} {E : Value → Shared → Prop} {s : Shared} {a : Addr} {zs : List Str}
theorem gave_ok (b : Bool) {s1 : Shared} {Q1 : Unit → Shared → Prop} (q : Q1 () s1) : wpAny (model P w) A (match b with | true => rule "set.scan.the-table-gave-way" | false => pure ()) Q1 E s1 := by
  cases b
  · exact wpAny_pure q
  · exact wpAny_rule q
theorem sset_add {z : Str} {tk : Tok} {Q : Bool → Shared → Prop} (R : SetS P w s.heap a zs) (room : zs.length + 1 < scanBound)
    (k : ∀ (b : Bool) (h' : Heap), Heap.SameBut a s.heap h' → SetS P w h' a (uqS zs z) → Q b { s with heap := h' }) :
    wpAny (model P w) A (setAddHashed a (.str z tk) ((PySem.strKind P w).hash z)) Q E s := by
  obtain ⟨o, es, ep, t, ho, hx, hd, g, pm, sz, ft, rs, ld⟩ := R
  have lz : es.size = zs.length := by
    have := pm.length_eq
    simpa using this
  have kz : (PySem.strKind P w).is z (.str z tk) = true := strKind_is P w z tk
  have el := sent_elems (P := P) (w := w) g
  unfold setAddHashed setAddHashedIn
  refine wpAny_holding (wpAny_bind (wpAny_setState_of ho hd ft ?_))
  dsimp only
  rw [byScan_of (show (Value.str z tk).scannable = true from rfl) sz el]
  simp only [↓reduceIte]
  unfold setAddByScan
  refine wpAny_bind (wpAny_bind (wpAny_rule (wpAny_bind (wpAny_setScan_of kz ho hd ft el ?_))))
  cases fi : List.findIdx? (fun e => (PySem.strKind P w).is z e.2) es.toList with
  | some j =>
    obtain ⟨hj, pj, _⟩ := List.findIdx?_eq_some_iff_getElem.mp fi
    have hin : z ∈ zs := pm.mem_iff.mp (List.mem_map.mpr ⟨_, List.getElem_mem hj, (sent_is (g _ (List.getElem_mem hj)) z).mp pj⟩)
    dsimp only
    refine wpAny_pure (wpAny_pure (k _ s.heap (Heap.SameBut.refl a s.heap) ?_))
    rw [uqS, if_pos hin]
    exact ⟨o, es, ep, t, ho, hx, hd, g, pm, sz, ft, rs, ld⟩
  | none =>
    have hout : z ∉ zs := fun q => by
      obtain ⟨e, he, q2⟩ := List.mem_map.mp (pm.mem_iff.mpr q)
      have c := List.findIdx?_eq_none_iff.mp fi e he
      rw [(sent_is (g e he) z).mpr q2] at c
      cases c
    have uz : uqS zs z = z :: zs := if_neg hout
    rw [uz] at k
    dsimp only
    have p1 := layNew_perm t es ((PySem.strKind P w).hash z) (.str z tk)
    have f1 := layNew_fits t es ((PySem.strKind P w).hash z) (.str z tk)
    have r1 := layNew_ris t es ((PySem.strKind P w).hash z) (.str z tk) rs
    have l1 := layNew_led t es ((PySem.strKind P w).hash z) (.str z tk)
    revert p1 f1 r1 l1
    generalize layNew t es ((PySem.strKind P w).hash z) (.str z tk) = W
    obtain ⟨es1, t1, dm, gv⟩ := W
    intro p1 f1 r1 l1
    dsimp only at p1 f1 r1 l1 ⊢
    have p2 : es1.toList.Perm (((PySem.strKind P w).hash z, Value.str z tk) :: es.toList) := by
      rw [Array.toList_push] at p1
      exact p1.trans (List.perm_append_singleton _ _)
    have g1 : ∀ e ∈ es1.toList, SEnt P w e := fun e he => by
      rcases List.mem_cons.mp (p2.mem_iff.mp he) with rfl | q
      · exact ⟨z, tk, rfl⟩
      · exact g e q
    have m1 : (es1.toList.map sKey).Perm (z :: zs) := (p2.map sKey).trans (pm.cons z)
    have sz1 : es1.size < scanBound := by
      have := m1.length_eq
      simp at this
      omega
    have ld1 : w.params.followText "set-order" = true ∨ t1.led = true := ld.imp id fun q => l1 ▸ q
    refine wpAny_bind (gave_ok _ ?_)
    split
    · refine wpAny_bind ?_
      rw [hashByValue_scannable 8 (show (Value.str z tk).scannable = true from rfl)]
      refine wpAny_pure (sset_tail (fun b _ _ q => gave_ok b q) ho hx hd g1 m1 sz1 ?_ ?_ ?_ fun h' sb r => ?_)
      · split
        · exact f1
        · exact SetTable.fits_plain_off f1
      · split <;> exact r1
      · split <;> exact ld1
      · exact wpAny_pure (k true h' sb r)
    · refine wpAny_bind (wpAny_pure ?_)
      simp only [↓reduceIte]
      exact sset_tail (fun b _ _ q => gave_ok b q) ho hx hd g1 m1 sz1 f1 r1 ld1 fun h' sb r => wpAny_pure (k true h' sb r)
end
section
variable {P : Program} {w : World} {A : Around} {R : Result → Shared → Prop} {I : Addr} {fp wr : List Addr} {G : Array GenState → Array GenState → Prop} {n : Nat} {Pv : Nat → Value → Prop} {St : Nat → Shared → Prop}
/-- the loop behind set(texts) -/
theorem sset_loop (W : WalksS P w A.in1 I fp wr G n Pv St) (a : Addr) (na : a ∉ fp) (xs : List Str) (hl : xs.length = n) (hn : n + 1 < scanBound) (hv : ∀ i v, Pv i v → ∃ z t, xs[i]? = some z ∧ v = .str z t) :
    ∀ (m i : Nat) (s : Shared), m + i = n → St i s → SetS P w s.heap a (uq (xs.take i)) → (∀ s', Moved (a :: wr) G s s' → SetS P w s'.heap a (uq xs) → R (.ok (.ret .none)) s') → codeAny (model P w) A (.builtin "set.update.loop" ⟨[.ref a, .ref I], []⟩) R s
  | 0, i, s, hi, hst, hS, hR => by
    refine codeAny_builtin PyProof.Rows.F.entry_set_update_loop ?_
    rw [Around.under_plainId PyProof.Rows.F.plain_set_update_loop _, ]
    have hin : i = n := by omega
    subst hin
    refine wpAny_bind (m := pyNext (.ref I)) (W.done s _ _ hst fun s1 mv => ?_)
    refine (show wpAny _ A.in1 (ret Value.none) _ _ s1 from wpAny_pure (hR s1 (mv.mono fun b hb => List.mem_cons_of_mem _ hb) ?_))
    rw [List.take_of_length_le (Nat.le_of_eq hl)] at hS
    exact hS.mono fun o ho => mv.heap a o (fun h => na (W.sub _ h)) ho
  | m + 1, i, s, hi, hst, hS, hR => by
    refine codeAny_builtin PyProof.Rows.F.entry_set_update_loop ?_
    rw [Around.under_plainId PyProof.Rows.F.plain_set_update_loop _, ]
    have hlt : i < n := by omega
    refine wpAny_bind (m := pyNext (.ref I)) (W.item i s _ _ hlt hst fun v s1 hP hst1 mv => ?_)
    obtain ⟨z, t, hz, rfl⟩ := hv i v hP
    have hS1 : SetS P w s1.heap a (uq (xs.take i)) := hS.mono fun o ho => mv.heap a o (fun h => na (W.sub _ h)) ho
    have hlen : (uq (xs.take i)).length + 1 < scanBound := by
      have := uq_len (xs.take i)
      rw [List.length_take] at this
      omega
    refine wpAny_bind (m := holding [Value.str z t] (setAdd a (.str z t))) (wpAny_holding ?_)
    unfold setAdd
    refine wpAny_holding (wpAny_bind ((PySem.strKind P w).pyHash (strKind_is P w z t) ?_))
    refine sset_add (s := { s1 with toks := s1.toks + 1 }) hS1 hlen fun b h' sb hS2 => ?_
    have e : uqS (uq (xs.take i)) z = uq (xs.take (i + 1)) := by
      rw [List.take_add_one, hz]
      exact (uq_snoc _ _).symm
    rw [e] at hS2
    refine wpAny_pure ⟨plainId_quiet PyProof.Rows.F.plain_set_update_loop _, sset_loop W a na xs hl hn hv m (i + 1) _ (by omega) (W.frame _ s1 _ _ hst1 (Nat.le_succ _) fun c hc o eo => (sb.2 c fun h => na (h ▸ hc)).trans eo) hS2 fun s2 mv2 hS3 => ?_⟩
    refine hR s2 (Moved.trans W.gtrans ((mv.mono fun c hc => List.mem_cons_of_mem _ hc).then_heap (Nat.le_succ _) fun c o hc eo => ?_) mv2) hS3
    exact (sb.2 c fun h => hc (h ▸ List.mem_cons_self)).trans eo
end
end Du

set_option Elab.async false
set_option linter.all false
set_option maxRecDepth 100000
namespace Du
open PySem PySem.Spec PyProof.Rows L2
abbrev fset (w : World) : Obj := { cls := .type "set", dict := none, data := .set #[] 0 (.fresh 0 0 (!w.params.followText "set-order")) }
section
variable {P : Program} {w : World} {A : Around} {E : Value → Shared → Prop} {s : Shared}
theorem sset_fresh {h : Heap} {a : Addr} (ho : h.get? a = some (fset w)) : SetS P w h a [] := by
  refine ⟨_, #[], 0, _, ho, ⟨rfl, rfl, rfl⟩, rfl, (fun e he => by simp at he), (by simp), (by decide), (by rfl), List.Pairwise.nil, ?_⟩
  show _ ∨ (!w.params.followText "set-order") = true
  cases w.params.followText "set-order"
  · exact .inr rfl
  · exact .inl rfl
set_option maxHeartbeats 3200000 in
/-- set(texts) -/
theorem call_sset {l : Addr} {vs : Array Value} {xs : List Str} {Q : Value → Shared → Prop} (hn : A.handled = none) (hl : s.heap.IsList l vs) (hv : StrsAre vs.toList xs) (few : xs.length < 64)
    (k : ∀ (h1 : Heap) (tk : Nat), SetS P w h1 s.heap.objs.size (uq xs) → (∀ b o, s.heap.get? b = some o → h1.get? b = some o) → Q (.ref s.heap.objs.size) { s with heap := h1, toks := tk }) :
    wpAny (model P w) A (call (.type "set") [.ref l]) Q E s := by
  have hz : vs.size = xs.length := by rw [← StrsAre.len_eq hv, Array.length_toList]
  obtain ⟨mc, mt, mro⟩ := PySem.F.called_set.mro
  have made := PySem.F.called_set.made
  have subs := PySem.F.called_set.sub
  have ntype := PySem.F.called_set.notType
  have cancr := PySem.F.called_set.canCreate
  have tcall := PySem.F.typeCall_set_1 (.ref l)
  refine wpAny_call (codeAny_of_tree ?_)
  change wpAny _ _ (callAny (.type "set") ⟨[.ref l], []⟩) _ _ s
  refine wpAny_pure ⟨Code.quiet_builtin _ (by decide +kernel), codeAny_builtin PySem.F.entry_type_call ?_⟩
  rw [Around.under_plain (weight_type_call_type "set" [.ref l] []) (by rfl)]
  repeat (any_goals (first | assumption | wp_step))
  have made0 : codeAny (model P w) A.in1 (Code.call (Value.builtin "set.__new__") ⟨[.type "set", .ref l], []⟩) (wants (fun v s1 => v = .ref s.heap.objs.size ∧ s1 = { s with heap := s.heap.push (fset w) }) E) s := code_set_led1 (.ref l) ⟨rfl, rfl⟩
  refine codeAny_mono made0 fun r s1 hr => ?_
  match r, hr with
  | .error _, hr => exact hr
  | .ok (.ret v), ⟨ev, es⟩ =>
    subst ev
    subst es
    have gS : (s.heap.push (fset w)).get? s.heap.objs.size = some (fset w) := Heap.get?_push_size _ rfl
    have tS : Shared.TypeIs { s with heap := s.heap.push (fset w) } (.ref s.heap.objs.size) "set" := ⟨_, gS, rfl⟩
    have look := PySem.F.called_set.init.lookup
    have bnd := PySem.F.called_set.init.bind (.ref s.heap.objs.size)
    repeat (any_goals (first | assumption | wp_step))
    have inner : codeAny (model P w) A.in1 (Code.call (Value.builtin "set.__init__") ⟨[.ref s.heap.objs.size, .ref l], []⟩) (wants (fun v s2 => v = .none ∧ ∃ (h1 : Heap) (tk : Nat), s2 = { s with heap := h1, toks := tk } ∧ SetS P w h1 s.heap.objs.size (uq xs) ∧ (∀ b o, s.heap.get? b = some o → h1.get? b = some o)) E) { s with heap := s.heap.push (fset w) } := by
      refine codeAny_call_builtin PySem.F.called_set.init.plain PySem.F.entry_set_init (check_set_init_1 tS ?_)
      obtain ⟨lo, hlo, hcls, ln, hdat⟩ := hl
      obtain ⟨lc, ld, ldata, lsl⟩ := lo
      dsimp only at hcls hdat
      subst hcls
      subst hdat
      have glo := Heap.get?_push_of_some (fset w) hlo
      have nls := PySem.F.sub_list_set
      have nlf := PySem.F.sub_list_frozenset
      have nld : (Value.type "list" == Value.type "dict") = false := by decide
      have isl : (s.heap.push (fset w)).IsList l vs := ⟨_, glo, rfl, ln, rfl⟩
      have ltl : l < s.heap.objs.size := Heap.lt_size hlo
      unfold Builtin.«set.__init__» noKeywords Builtin.Frozenset.updateFrom
      generalize ePI : pyIter = PI
      wp_walk
      subst ePI
      refine wpAny_pyIter_list isl (wpAny_bind (wpAny_runValue ?_))
      have zI : (s.heap.push (fset w)).objs.size = s.heap.objs.size + 1 := Heap.size_push ..
      have walk := (Walks.list (prog := P) (w := w) (A := A.in1.in1.in1) (by simp [hn]) (s.heap.push (fset w)).objs.size l (by rw [zI]; exact Nat.ne_of_lt (Nat.lt_succ_of_lt ltl)) vs).toS
      refine sset_loop walk s.heap.objs.size (fun h => ?_) xs hz.symm (Nat.lt_of_lt_of_le (show vs.size + 1 < 65 by omega) (by decide)) (fun i v e => ?_) vs.size 0 _ rfl ⟨⟨_, Heap.get?_push_size _ rfl, rfl, rfl⟩, isl.push _⟩ (sset_fresh (Heap.get?_push_of_some _ gS)) fun s2 mv hS2 => ?_
      · rcases List.mem_cons.mp h with h | h
        · rw [zI] at h
          exact absurd h (Nat.ne_of_lt (Nat.lt_succ_self _))
        · exact absurd (List.mem_singleton.mp h) (Nat.ne_of_gt ltl)
      · have e2 : vs.toList[i]? = some v := by rw [Array.getElem?_toList]; exact e
        obtain ⟨t, rfl⟩ := SS.strs_at hv i v e2
        have li : i < xs.length := by
          have := (List.getElem?_eq_some_iff.mp e2).1
          rw [Array.length_toList] at this
          omega
        refine ⟨_, t, ?_, rfl⟩
        rw [List.getD_eq_getElem?_getD, List.getElem?_eq_getElem li]
        rfl
      · obtain ⟨h2, g2, d2, tk2, os2⟩ := s2
        have e1 : g2 = s.gens := mv.gens
        have e2 : d2 = s.drawn := mv.drawn
        have e3 : os2 = s.os := mv.os
        subst e1 e2 e3
        refine wpAny_pure ?_
        change wpAny (model P w) _ (ret Value.none) _ _ _
        refine wpAny_pure ⟨rfl, h2, tk2, rfl, hS2, fun b o e => ?_⟩
        have lb : b < s.heap.objs.size := Heap.lt_size e
        refine mv.heap b o (fun h => ?_) (Heap.get?_push_of_some _ (Heap.get?_push_of_some _ e))
        rcases List.mem_cons.mp h with h | h
        · exact absurd h (Nat.ne_of_lt lb)
        · have h3 := List.mem_singleton.mp h
          rw [zI] at h3
          exact absurd h3 (Nat.ne_of_lt (Nat.lt_succ_of_lt lb))
    refine codeAny_mono inner fun r2 s2 hr2 => ?_
    match r2, hr2 with
    | .error _, hr2 => exact hr2
    | .ok (.ret v2), ⟨ev2, h1, tk, es2, hS2, kp⟩ =>
      subst ev2
      subst es2
      repeat (any_goals (first | assumption | wp_step))
      exact k h1 tk hS2 kp
    | .ok .next, hr2 => exact hr2.elim
    | .ok .brk, hr2 => exact hr2.elim
    | .ok .cont, hr2 => exact hr2.elim
  | .ok .next, hr => exact hr.elim
  | .ok .brk, hr => exact hr.elim
  | .ok .cont, hr => exact hr.elim
end
end Du

set_option Elab.async false
set_option linter.all false
set_option maxRecDepth 100000
namespace Du
open PySem PySem.Spec PyProof.Rows L2
section
variable {P : Program} {w : World} {A : Around} {E : Value → Shared → Prop} {s : Shared} {a : Addr} {zs : List Str}
theorem sent_strs : ∀ l : List (Int × Value), (∀ e ∈ l, SEnt P w e) → StrsAre (l.map (·.2)) (l.map sKey)
  | [], _ => .nil
  | e :: l, h => by
    obtain ⟨z, t, rfl⟩ := h e (by simp)
    exact .cons z t (sent_strs l fun u hu => h u (by simp [hu]))
def txtOf : Value → Str
  | .str z _ => z
  | _ => Str.empty
theorem strs_txt : ∀ l : List Value, (∀ v ∈ l, ∃ z t, v = .str z t) → StrsAre l (l.map txtOf)
  | [], _ => .nil
  | v :: l, h => by
    obtain ⟨z, t, rfl⟩ := h v (by simp)
    exact .cons z t (strs_txt l fun u hu => h u (by simp [hu]))
set_option maxHeartbeats 4000000 in
/-- sorted(set of texts) -/
theorem sorted_sset {Q : Value → Shared → Prop} (R : SetS P w s.heap a zs) (hn : A.handled = none) (few : zs.length < 64)
    (k : ∀ (s1 : Shared) (p : Addr) (out : Array Value) (c : Nat) (ys : List Str), (∀ b o, s.heap.get? b = some o → s1.heap.get? b = some o) → s1.gens = s.gens → s1.os = s.os → s.heap.objs.size ≤ p →
      s1.heap.get? p = some (seqObj "list" out c) → StrsAre out.toList ys → ys.Perm zs → sortedS ys = true → Q (.ref p) s1) :
    wpAny (model P w) A (call (.builtin "sorted") [.ref a]) Q E s := by
  obtain ⟨o, es, ep, t, ho, hx, hd, g, pm, sz, ft, rs, ld⟩ := R
  refine Calls.call_function_entry kind_sorted plain_sorted entry_sorted (args_sorted1 _) ?_
  unfold Builtin.«sorted»
  refine wpAny_bind (m := checkCount "sorted" 1 1 _) (wpAny_pure ?_)
  refine wpAny_bind (collect_set (A := A.in1) hn ⟨o, ho, hx.1, hd⟩ ft sz rs ld fun s1 vs kp z1 g1 o1 pv => ?_)
  have sv : ∀ v ∈ vs, ∃ z t, v = Value.str z t := fun v hv => by
    obtain ⟨e, he, q⟩ := List.mem_map.mp (pv.mem_iff.mp hv)
    obtain ⟨z, t, rfl⟩ := g e he
    exact ⟨z, t, q.symm⟩
  have sS := strs_txt vs sv
  have e1 : es.toList.map sKey = (es.toList.map (·.2)).map txtOf := by
    rw [List.map_map]
    rfl
  have pz : (vs.map txtOf).Perm zs := ((pv.map txtOf).trans (e1 ▸ .refl _)).trans pm
  have lv : vs.length < 64 := by
    have := pz.length_eq
    rw [List.length_map] at this
    omega
  refine wpAny_bind (wpAny_newList ?_ (by rw [sizeLine_eq]; omega))
  have gL : (s1.heap.push (seqObj "list" vs.toArray 0)).get? s1.heap.objs.size = some (seqObj "list" vs.toArray 0) := Heap.get?_push_size _ rfl
  refine wpAny_bind (wpAny_holding (wpAny_call_entry slot_list_sort ⟨_, gL, rfl⟩ entry_list_sort (list_sort_treeK strKind_oneLt gL sS.keysOf (fun v1 v2 rest e => keyKind_strs (by rw [← e]; exact sS)) lv fun st p1 p2 => ⟨_, rfl, ?_⟩) (args_list_sort _)))
  obtain ⟨ys, y1, y2, y3⟩ := sorted_out_str sS p1 p2
  obtain ⟨c, hc⟩ := sortedHeap_at (vs := vs) (out := (arrOf st).map (·.2)) gL
  refine wpAny_pure ⟨_, rfl, k _ s1.heap.objs.size _ c ys (fun b u e => ?_) g1 o1 z1 hc y1 (y2.trans pz) y3⟩
  have q := kp b u e
  have lt := Heap.lt_size q
  exact (sortedHeap_old (Nat.ne_of_lt lt) (by rw [size_push']; exact Nat.lt_succ_of_lt lt)).trans (Heap.get?_push_of_some _ q)
end
def SetSO (P : Program) (w : World) (a : Addr) (zs : List Str) : HO := .ext fun h => SetS P w h a zs
theorem setSO_new {P : Program} {w : World} {H : Hp} {h : Heap} {a : Addr} {zs : List Str} (R : SetS P w h a zs) : ObjOk P w H h a (SetSO P w a zs) := by
  have ⟨o, _, _, _, ho, _⟩ := R
  exact ⟨R, ⟨o, ho⟩, fun h1 h2 p k => SetS.mono p k⟩
section
variable {X : Cx}
def rSetS (K : PySem.W.Frag) (P : Program) (w : World) : List V → Hp → VK → Prop := fun xs H Q => ∃ (l : Addr) (ys : List Str), xs = [.ref l] ∧ SqL K H l (ys.map V.str) ∧ ys.length < 64 ∧ ∀ a, H a = none → Q (.ref a) (upd H a (SetSO P w a (uq ys)))
theorem cr_setS (hc : X.calm = true) : CallR X (.type "set") (rSetS X.K X.prog X.w) := by
  intro pins s σ H xs us Q I r h
  obtain ⟨l, ys, rfl, hl, few, q⟩ := h
  rw [Vals.ref1 r]
  obtain ⟨its, rv, pl, hz⟩ := I.list hl
  refine call_sset (P := X.prog) (w := X.w) (I.ok.hd hc) pl.isList (by simpa using rv.strs) few fun h1 tk R kp => ?_
  exact ⟨.ref s.heap.objs.size, upd H s.heap.objs.size (SetSO X.prog X.w s.heap.objs.size (uq ys)), I.laid (t' := tk) kp (Nat.le_refl _) (setSO_new R), rfl, q _ (I.hok.fresh (Nat.le_refl _))⟩
def rSortedSS (P : Program) (w : World) : List V → Hp → VK → Prop := fun xs H Q => ∃ (a : Addr) (zs : List Str), xs = [.ref a] ∧ H a = some (SetSO P w a zs) ∧ zs.length < 64 ∧ ∀ (ys : List Str) (p : Addr), ys.Perm zs → sortedS ys = true → H p = none → Q (.ref p) (upd H p (.lst (ys.map V.str)))
theorem cr_sortedSS (hc : X.calm = true) : CallR X (.builtin "sorted") (rSortedSS X.prog X.w) := by
  intro pins s σ H xs us Q I r h
  obtain ⟨a, zs, rfl, ha, few, q⟩ := h
  have R : SetS X.prog X.w s.heap a zs := (I.hok a _ ha).1
  rw [Vals.ref1 r]
  refine sorted_sset R (I.ok.hd hc) few fun s1 p out c ys kp g1 o1 hp gp st pm sd => ?_
  have fresh : H p = none := I.hok.fresh hp
  have hlen : (ys.map V.str).length ≤ sizeLine := by
    rw [List.length_map, pm.length_eq, sizeLine_eq]
    omega
  have J : Inv X pins σ (upd H p (.lst (ys.map V.str))) { s with heap := s1.heap, gens := s1.gens, drawn := s1.drawn, toks := s1.toks } :=
    I.call (ch := []) (Un.laid kp hp fresh) (I.hok.laid kp hp ⟨hlen, out.toList, c, vals_of_strs st, gp⟩) (by rw [g1]; exact I.bare) fun _ z => nomatch z
  have e : s1 = { s with heap := s1.heap, gens := s1.gens, drawn := s1.drawn, toks := s1.toks } := by
    obtain ⟨_, _, _, _, _⟩ := s1
    obtain ⟨_, _, _, _, _⟩ := s
    subst o1
    rfl
  rw [e]
  exact ⟨.ref p, _, J, rfl, q ys p pm sd fresh⟩
end
end Du

set_option Elab.async false
set_option linter.all false
set_option maxRecDepth 100000
namespace Du
open PySem L2 DL
/-! *e within a tuple or list -/
def TStarA (te : TED) (u : TAD) : TAD := fun σ μ Q X => te σ μ (fun d μ1 => ∃ s, seqOf μ1 d = some s ∧ u σ μ1 (fun ds μ2 => Q (s ++ ds) μ2) X) X
section
variable {X : Cx} {K : PySem.W.Frag} {E : WX}
theorem da_star {e : Expr} {es : List Expr} {t : TED} {u : TAD} {p : Pos} (hK : X.K = K) (he : PE X e (Lf K E t)) (hr : PA X es (LfA K E u)) (hs : starEach (.Starred e p :: es) X.env = (true, eval e X.env) :: starEach es X.env := by rfl) : PA X (.Starred e p :: es) (LfA K E (TStarA t u)) := (StX.pa_star he hr hs).imp fun s H Q h => by
  subst hK
  obtain ⟨own, σ, μ, QD, QX, m, e, t, k⟩ := h
  refine LfG.bind m e k t fun x μ1 own1 v H1 x1 m1 e1 r1 k1 ⟨xs, h1, q1⟩ => ?_
  obtain ⟨a, ys, rfl, g1, g2⟩ := seq_view m1 h1 r1
  refine ⟨a, ys, rfl, g1.symm, LfG.bind m1 e1 k1 q1 fun ds μ2 own2 vs H2 x2 m2 e2 r2 k2 q2 => ?_⟩
  exact k2.here m2 (show Reps X.K own2 μ2 H2 (xs ++ ds) (ys ++ vs) from Reps.app (Reps.ext x2 _ _ g2) r2) q2
/-! sorted(set(texts)) -/
def RSortedSet (b : Bool) : RAD := fun ds μ Q _ => ∃ x s ns, ds = [x] ∧ lsqOf μ x = some s ∧ strsD s = some ns ∧ ns.length < 64 ∧ ∀ ms : List Str, ms.Perm (uq ns) → PyProof.Rows.sortedS ms = true → mkL b (ms.map fun i => .v (.str i)) μ Q
theorem de_sortedSet {e : Expr} {te : TED} {b : Bool} {p1 p2 q1 q2 : Pos} (hc : X.calm = true) (hK : X.K = K) (hgs : Gl X "sorted") (hms : X.mg "sorted" = none) (hgt : Gl X "set") (hmt : X.mg "set" = none) (he : PE X e (Lf K E te))
    (h1 : starEach [.Call (.Name "set" p1) [e] [] q1] X.env = (false, eval (.Call (.Name "set" p1) [e] [] q1) X.env) :: starEach [] X.env := by rfl) (h2 : starEach [e] X.env = (false, eval e X.env) :: starEach [] X.env := by rfl) :
    PE X (.Call (.Name "sorted" p2) [.Call (.Name "set" p1) [e] [] q1] [] q2) (Lf K E (TCB (RSortedSet b) (TCons te TNil))) := (pe_callB (cr_sortedSS hc) hgs hms (by decide +kernel) (pa_cons (pe_callTy (cr_setS hc) hgt hmt (by decide +kernel) (pa_cons he pa_nil h2) (he := h2) (hpl := by rfl)) pa_nil h1) (he := h1) (hpl := by rfl)).imp fun s H Q h => by
  subst hK
  obtain ⟨own, σ, μ, QD, QX, m, e, t, k⟩ := h
  refine LfG.bind m e k t fun x μ1 own1 v H1 x1 m1 e1 r1 k1 q1 => ?_
  obtain ⟨y, s, ns, ey, h1, h2, h3, h4⟩ := q1
  cases ey
  obtain ⟨a, xs, rfl, g1, g2⟩ := lsq_view m1 h1 r1
  rw [strs_view h2 g2] at g1
  refine ⟨a, ns, rfl, g1, h3, fun a2 n2 => ?_⟩
  have ex := ext_upd (own := own1) (μ := μ1) (o := SetSO X.prog X.w a2 (uq ns)) n2
  refine ⟨a2, uq ns, rfl, upd_same, Nat.lt_of_le_of_lt (uq_len ns) h3, fun ys p hp hsrt np => ?_⟩
  exact lf_mkL (rel_upd m1 n2) (k1.ext ex) (reps_map V.str ys) (h4 ys hp hsrt) p np
end
/-! xs.index(y), of numbers and texts -/
def TIndex (to te : TED) : TED := fun σ μ Q X => to σ μ (fun d μ1 => ∃ s0, lsqOf μ1 d = some s0 ∧ te σ μ1 (fun y μ2 => ∃ s xs v z, ∃ j : Nat, lsqOf μ2 d = some s ∧ s.mapM flatD = some xs ∧ flatD y = some v ∧ xs[j]? = some z ∧ eqV z v = true ∧ (∀ m z', m < j → xs[m]? = some z' → eqV z' v = false) ∧ Q (.v (.int j)) μ2) X) X
theorem de_index {X : Cx} {K : PySem.W.Frag} {E : WX} {o e : Expr} {to te : TED} {apos cpos : Pos} (hK : X.K = K) (ho : PE X o (Lf K E to)) (he : PE X e (Lf K E te))
    (hbase : attributeBase o "index" X.env (eval o X.env) = eval o X.env := by rfl)
    (hfew : ((backTo cpos (starEach [e] X.env)).all (fun x => !x.1) && (backToKw cpos (keywordEach [] X.env)).all (fun x => x.1.isSome) && decide ([e].length + ([] : List Keyword).length + (if ([] : List Keyword).isEmpty then 0 else 1) < 30)) = true := by rfl)
    (hline : (apos.endLine == cpos.line) = true := by rfl) (hs : starEach [e] X.env = (false, eval e X.env) :: starEach [] X.env := by rfl) (hplain : (backTo cpos (starEach [] X.env)).any (·.1) = false := by rfl) : PE X (.Call (.Attribute o "index" apos) [e] [] cpos) (Lf K E (TIndex to te)) := by
  subst hK
  refine ⟨fun pins s σ H Q I h => (pe_bm PySem.F.plainAttrs_list PySem.F.slot_list_index PySem.F.type_list_index mt_index ho (pa_cons he pa_nil hs) hbase hfew hline hs hplain).run pins s σ H Q I ?_⟩
  obtain ⟨own, σd, μ, QD, QX, m, er, t, k⟩ := h
  refine LfG.bind m er k t fun d μ1 own1 u H1 x1 m1 e1 r1 k1 ⟨s0, h0, q1⟩ => ?_
  obtain ⟨a, xs0, rfl, g0, _⟩ := lsq_view m1 h0 r1
  refine ⟨.inl ⟨rfl, _, g0⟩, ?_⟩
  refine LfG.bind m1 e1 k1 q1 fun y μ2 own2 v H2 x2 m2 e2 r2 k2 ⟨s, xs, w, z, j, h1, h2, h3, h4, h5, h6, h7⟩ => ?_
  obtain ⟨a', ys, ea, g1, g2⟩ := lsq_view m2 h1 (Rep.ext x2 _ _ r1)
  cases ea
  obtain ⟨rfl, hfl⟩ := flats_v h2 g2
  obtain ⟨rfl, hfw⟩ := flat_v h3 r2
  exact ⟨a, ys, v, j, z, rfl, rfl, g1, hfw, hfl, h4, h5, h6, k2.here m2 (rep_v _) h7⟩
/-- what a guarded law comes to -/
theorem lawGD {P : Program} {w : World} {K : PySem.W.Frag} {mg : Str → Option Value} {base : Heap} {k : Nat} {f : Addr} {fd : FuncData} {sp : SpD} (hsp : ∀ ns : List Int, ∀ μ (Q : D → Store → Prop) X, (∀ μ', Q (.v (.bl true)) μ') → sp [.frz (ns.map V.int)] μ Q X) (F : FnGD P w K mg base k f fd ["_law_script"] sp) (hr : Room k callerA) : LawOk P w K mg base f fd "_law_script" (fun vs H Q _ => ∃ (a : Addr) (ns : List Int), vs = [.ref a] ∧ SqL K H a (ns.map V.int) ∧ ∀ H', Q (.bl true) H') := by
  intro s H u v Q e0 hb rv ⟨a, ns, hv, hS, q⟩
  cases hv
  refine codeAny_mono (F.run callerA [] s H ⟨[u], []⟩ [u] [.ref a] Q rfl hr e0 hb (.cons rv .nil) ⟨⟨[], fun _ => False⟩, [.frz (ns.map V.int)], [], fun d _ => d = .v (.bl true), fun _ _ => False, ?_, ?_, hsp ns _ _ _ fun _ => rfl, ?_⟩) fun r s' hq => hq
  · exact ⟨List.nodup_nil, rfl, fun i o a e => by simp at e, fun a h => absurd h (by simp), fun a h => h.elim⟩
  · refine ⟨.ref a, [], rfl, ⟨a, rfl, hS, .inr fun h => ?_⟩, rfl⟩
    unfold Live SLive at h
    simp at h
  · refine ⟨fun d μ' own' v H' x m r e => ?_, fun x μ' own' c dd H' _ _ _ z => z.elim⟩
    subst e
    cases r
    exact q H'
end Du

set_option Elab.async false
set_option linter.all false
set_option maxRecDepth 100000
namespace DL
open PySem L2 PyProof.Rows
/-! what is walked may be a list that can still be changed: it stays as it was at each step -/
abbrev TJD := TG' Nat
def TLive (te : TED) : TJD := fun σ μ Q X => te σ μ (fun d μ1 => ∃ n, d = .loc n ∧ Q n μ1) X
def CompV (n : Nat) (all : List D) (g : TGD) (tt : TTD) (te : TED) (σ : Ev) (Q : List D → Store → Prop) : List D → List D → Store → Prop
  | [], acc => fun μ => Q acc μ
  | d :: ds, acc => fun μ => g d σ μ fun σ' μ' => tt σ' μ' (fun b μ2 => if b = true then te σ' μ2 (fun y μ3 => acc.length < sizeLine ∧ μ3[n]? = some (some (.lst all)) ∧ CompV n all g tt te σ Q ds (acc ++ [y]) μ3) (fun _ _ => False) else (μ2[n]? = some (some (.lst all)) ∧ CompV n all g tt te σ Q ds acc μ2)) fun _ _ => False
def TLcV (ti : TJD) (g : TGD) (tt : TTD) (te : TED) (vs : List Nat) : TED := fun σ μ Q X => ti σ μ (fun n μ1 => ∃ ds, μ1[n]? = some (some (.lst ds)) ∧ CompV n ds g tt te (wipeD σ vs) (fun acc μ2 => Q (.lst acc) μ2) ds [] μ1) X
def RepJ (own : Ow) (n : Nat) (K : PySem.W.Frag) (J : It) : Prop := ∃ a, own.l[n]? = some a ∧ J = Itl K a
abbrev LfJ (K : PySem.W.Frag) (E : WX) (T : TJD) : TI := LfG (fun own μ H n J => RepJ own n K J ∧ ∃ ds, μ[n]? = some (some (.lst ds))) K E T
theorem di_live {X : Cx} {K : PySem.W.Frag} {E : WX} {tg l : Expr} {te : TED} (hK : X.K = K) (hl : PE X l (Lf K E te)) : PI X tg l (LfJ K E fun σ μ Q X => TLive te σ μ (fun n μ1 => ∃ ds, μ1[n]? = some (some (.lst ds)) ∧ Q n μ1) X) := by
  subst hK
  refine ⟨fun pins s σ H R I h => ?_⟩
  obtain ⟨own, σd, μ, QD, QX, m, e, t, k⟩ := h
  refine thn (hl.run pins s σ H (fun v H1 => ∃ a xs, v = .ref a ∧ H1 a = some (.lst xs) ∧ R (Itl X.K a) H1) I ?_) fun v s1 ⟨x, H1, I1, r1, q1⟩ => ?_
  · refine LfG.bind m e k t fun d μ1 own1 u H1 x1 m1 e1 r1 k1 q1 => ?_
    obtain ⟨n, rfl, ds, hn, q1⟩ := q1
    obtain ⟨a, h1, rfl⟩ := r1
    obtain ⟨xs, h2, h3⟩ := m1.ob n _ a hn h1
    exact ⟨a, xs, rfl, h2, k1.here m1 ⟨⟨a, h1, rfl⟩, ds, hn⟩ q1⟩
  · obtain ⟨a, xs, rfl, h2, q⟩ := q1
    cases r1
    have hq : SqL X.K H1 a xs := .inl (.inl h2)
    obtain ⟨its, rv, p, hz⟩ := I1.list hq
    exact wpAny_pyIter_list p.isList (pi_one (tk := s1.toks) I1 _ (turn_list a _) ⟨_, Heap.get?_push_size _ rfl, rfl, rfl⟩ q)
theorem walk_live {K : PySem.W.Frag} {a : Addr} {N : Nat} : Walk (Itl K a) N (fun H => ∃ xs, SqL K H a xs ∧ xs.length = N) (fun i H v H' => H' = H ∧ ∀ xs, SqL K H a xs → xs[i]? = some v) := by
  refine ⟨fun i H hi ⟨xs, q, e⟩ => ⟨xs, xs[i], q, List.getElem?_eq_getElem (by omega)⟩, fun H ⟨xs, q, e⟩ => ⟨xs, q, by omega⟩, fun i H x H' hi _ y => y⟩
theorem lf_lcV {K : PySem.W.Frag} {E : WX} {te0 : TED} {g : TGD} {tt : TTD} {te : TED} {ws vs : List Nat} (hw : ∀ i ∈ ws, i ∈ vs) {s : L2.St} {H : Hp} {Q : VK} (h : Lf K E (TLcV (TLive te0) g tt te vs) s H Q) : tLc (LfJ K E fun σ μ Q X => TLive te0 σ μ (fun n μ1 => ∃ ds, μ1[n]? = some (some (.lst ds)) ∧ Q n μ1) X) (Lg K ws g) (LfT K EF tt) (Lf K EF te) vs s H Q := by
  obtain ⟨own, σ, μ, QD, QX, m, e, t, k⟩ := h
  have t' : (fun σ μ (Q : Nat → Store → Prop) X => TLive te0 σ μ (fun n μ1 => ∃ ds, μ1[n]? = some (some (.lst ds)) ∧ Q n μ1) X) σ μ (fun n μ1 => ∃ ds, μ1[n]? = some (some (.lst ds)) ∧ CompV n ds g tt te (wipeD σ vs) (fun acc μ2 => QD (.lst acc) μ2) ds [] μ1) QX := by
    have e : (fun (n : Nat) (μ1 : Store) => ∃ ds, μ1[n]? = some (some (.lst ds)) ∧ ∃ ds, μ1[n]? = some (some (.lst ds)) ∧ CompV n ds g tt te (wipeD σ vs) (fun acc μ2 => QD (.lst acc) μ2) ds [] μ1) = fun n μ1 => ∃ ds, μ1[n]? = some (some (.lst ds)) ∧ CompV n ds g tt te (wipeD σ vs) (fun acc μ2 => QD (.lst acc) μ2) ds [] μ1 := by
      funext n μ1
      exact propext ⟨fun ⟨_, _, q⟩ => q, fun ⟨ds, h1, q⟩ => ⟨ds, h1, ds, h1, q⟩⟩
    show TLive te0 σ μ _ QX
    rw [e]
    exact t
  refine LfG.bind m e k t' fun n μ1 own1 J H1 x1 m1 e1 r1 k1 q1 => fun L nL => ?_
  obtain ⟨⟨a, hna, rfl⟩, _⟩ := r1
  obtain ⟨all, hall, q1⟩ := q1
  have npL : ¬ own1.p L := fun z => by
    obtain ⟨_, o, z⟩ := m1.pv L z
    rw [nL] at z; cases z
  have trL : ∀ {own' : Ow} {μ' : Store} {H' : Hp}, Ext own1 μ1 H1 (own'.un1 own1.p) μ' H' → own'.p = (own1.mk1 L).p → Tr K own1 μ1 H1 own' μ' H' := fun {own' μ' H'} x ep => by
    refine ⟨fun a o h n => ⟨x.keep a o h fun z => n (.inl z), ?_⟩, fun i a h => x.at h⟩
    rintro (l | l)
    · rcases x.live a l with z | z
      · exact n (.inl z)
      · rw [h] at z; cases z
    · rw [ep] at l
      rcases l with l | l
      · exact n (.inr l)
      · rw [l, nL] at h; cases h
  refine lc_it (walk_live (N := all.length)) (fun i H' => ∃ own' μ' acc xs, Ext own1 μ1 H1 (own'.un1 own1.p) μ' H' ∧ own'.p = (own1.mk1 L).p ∧ RelM K own' μ' H' ∧ H' L = some (.lst xs) ∧ Reps K own' μ' H' acc xs ∧ μ'[n]? = some (some (.lst all)) ∧ CompV n all g tt te (wipeD σ vs) (fun acc μ2 => QD (.lst acc) μ2) (all.drop i) acc μ') ?_ ?_ ?_ ?_
  · exact ⟨own1.mk1 L, μ1, [], [], ⟨rfl, ⟨[], by simp [Ow.un1, Ow.mk1]⟩, fun a o h _ => by rw [upd_ne (ne_of_none h nL)]; exact h, fun a l => .inl l⟩, rfl, m1.mk1 nL, upd_same, rfl, hall, by rw [List.drop_zero]; exact q1⟩
  · rintro i H' _ ⟨own', μ', acc, xs, x', ep, m', _, _, hn', _⟩
    obtain ⟨ys, h2, h3⟩ := m'.ob n _ a hn' (x'.at hna)
    exact ⟨ys, .inl (.inl h2), (Reps.len h3).symm⟩
  · rintro i v H' H'' hi ⟨own', μ', acc, xs, x', ep, m', hL, rA, hn', q'⟩ y
    obtain ⟨ys, h2, h3⟩ := m'.ob n _ a hn' (x'.at hna)
    obtain ⟨rfl, y⟩ := y
    obtain ⟨d, hd, r⟩ := Reps.get h3 (y ys (.inl (.inl h2)))
    have ed : all.drop i = d :: all.drop (i + 1) := by
      rw [List.drop_eq_getElem_cons hi]
      congr 1
      rw [List.getElem?_eq_getElem hi] at hd
      exact Option.some.inj hd
    rw [ed] at q'
    have e2 := e1.tr (trL x' ep)
    refine ⟨own', wipeD σ vs, μ', d, _, m', e2.wipe vs, r, q', fun σ3 μ3 own3 s3 H3 hw3 x3 m3 e3 q3 => ⟨(hw3 vs hw).trans (wipe_idem fun _ h => h), ?_⟩⟩
    refine ⟨own3, σ3, μ3, _, _, m3, e3, q3, ⟨fun c μ4 own4 c' H4 x4 m4 rc q4 => ?_, fun _ _ _ _ _ _ _ _ _ z => z⟩⟩
    subst rc
    have x34 := x3.trans x4
    cases c' with
    | false =>
      have pL : own'.p L := by rw [ep]; exact .inr rfl
      exact ⟨own4, μ4, acc, xs, x'.trans (x34.un1 _), x34.pp.trans ep, m4, x34.keep _ _ hL fun ⟨i, o, z1, _⟩ => (m'.pv L pL).1 (List.mem_of_getElem? z1), Reps.ext x34 _ _ rA, q4.1, q4.2⟩
    | true =>
      refine ⟨own4, σ3, μ4, _, _, m4, e3.ext x4, q4, ⟨fun y5 μ5 own5 v5 H5 x5 m5 r5 q5 => ?_, fun _ _ _ _ _ _ _ _ _ z => z⟩⟩
      have x35 := x34.trans x5
      have pL : own'.p L := by rw [ep]; exact .inr rfl
      have hL5 : H5 L = some (.lst xs) := x35.keep _ _ hL fun ⟨i, o, z1, _⟩ => (m'.pv L pL).1 (List.mem_of_getElem? z1)
      have p5 : own5.p L := by rw [x35.pp]; exact pL
      have rA5 := Reps.ext x35 _ _ rA
      refine ⟨xs, hL5, by rw [← Reps.len rA5]; exact q5.1, own5, μ5, acc ++ [y5], xs ++ [v5], ?_, x35.pp.trans ep, ?_, upd_same, ?_, q5.2.1, q5.2.2⟩
      · have x := x'.trans (x35.un1 own1.p)
        exact ⟨x.pp, x.pre, fun a o h n => by rw [upd_ne (ne_of_none h nL)]; exact x.keep a o h n, x.live⟩
      · refine m5.priv (fun a o n h => ?_) fun a ha => ?_
        · rw [upd_ne fun (z : a = L) => n (by rw [z]; exact p5)]
          exact h
        · by_cases z : a = L
          · exact ⟨_, by rw [z]; exact upd_same⟩
          · obtain ⟨_, o, h⟩ := m5.pv a ha
            exact ⟨o, by rw [upd_ne z]; exact h⟩
      · have tp : Tr K own5 μ5 H5 own5 μ5 (upd H5 L (.lst (xs ++ [v5]))) := tr_priv fun a o n h => by
          rw [upd_ne fun (z : a = L) => n (by rw [z]; exact p5)]
          exact h
        exact Reps.app (Reps.tr tp _ _ rA5) ⟨v5, [], rfl, Rep.tr tp _ _ r5, rfl⟩
  · rintro H' ⟨own', μ', acc, xs, x', ep, m', hL, rA, hn', q'⟩
    rw [List.drop_length] at q'
    have sp : ∀ a, own1.p a → own'.p a := fun a h => by rw [ep]; exact .inl h
    refine k1.ok (.lst acc) μ' (own'.un1 own1.p) _ H' x' (m'.un1 sp) ⟨L, xs, rfl, hL, ?_, Reps.tr (tr_un1 sp) _ _ rA⟩ q'
    rintro (⟨i, o, z1, _⟩ | z)
    · exact (m'.pv L (by rw [ep]; exact .inr rfl)).1 (List.mem_of_getElem? z1)
    · exact npL z
section
variable {X : Cx} {K : PySem.W.Frag} {E : WX} {elt tg iter : Expr} {ifs : List Expr} {scope : Scope} {own : List (Str × Nat)} {pos : Pos} {te0 : TED} {g : TGD} {tt : TTD} {te : TED} {ws : List Nat}
theorem de_lcV (hc : X.calm = true) (hN : X.N.Nodup) (ok : BlkOk X.N X.env.scope scope own) (hK : X.K = K) (hi : PE X iter (Lf K E te0)) (hw : ∀ i ∈ ws, i ∈ own.map (·.2)) (hg : BlkP X scope fun Y => PG Y tg (Lg K ws g)) (ht : BlkP X scope fun Y => PTs Y ifs (LfT K EF tt)) (he : BlkP X scope fun Y => PE Y elt (Lf K EF te))
    (hs : ∀ x, foldedSetIterable iter X.env x = pure x := by intro _; rfl) : PE X (.ListComp elt [⟨tg, iter, ifs, 0⟩] scope pos) (Lf K E (TLcV (TLive te0) g tt te (own.map (·.2)))) := (pe_lc hc hN (di_live hK hi) ok hg ht he hs).imp fun _ _ _ h => lf_lcV hw h
end
end DL

set_option Elab.async false
set_option linter.all false
set_option maxRecDepth 100000
namespace Du
open PySem L2 DL
structure Blt (mg : Str → Option Value) : Prop where
  len : mg "len" = none
  range : mg "range" = none
  min : mg "min" = none
  max : mg "max" = none
  abs : mg "abs" = none
  int : mg "int" = none
  bool : mg "bool" = none
  str : mg "str" = none
  tuple : mg "tuple" = none
  list : mg "list" = none
  isinstance : mg "isinstance" = none
  all : mg "all" = none
  any : mg "any" = none
  sum : mg "sum" = none
  zip : mg "zip" = none
  repr : mg "repr" = none
  sorted : mg "sorted" = none
  enumerate : mg "enumerate" = none
  ValueError : mg "ValueError" = none
/-- an own class that is no built-in kind -/
structure PlnC (K : PySem.W.Frag) (C : Addr) : Prop where
  t : TyC K C
  i : PySem.W.kitOne K (.ref C) (.type "int") = some false
  b : PySem.W.kitOne K (.ref C) (.type "bool") = some false
  s : PySem.W.kitOne K (.ref C) (.type "str") = some false
  u : PySem.W.kitOne K (.ref C) (.type "tuple") = some false
/-! things of any kind -/
mutual
def Thing (K : PySem.W.Frag) : D → Prop
  | .v .non => True
  | .v (.bl _) => True
  | .v (.int _) => True
  | .v (.str z) => z.length ≤ sizeLine
  | .v _ => False
  | .tup ds => Things K ds
  | .lst _ => True
  | .dK _ => True
  | .obj C _ => PlnC K C
  | _ => False
def Things (K : PySem.W.Frag) : List D → Prop
  | [] => True
  | d :: ds => Thing K d ∧ Things K ds
end
def isInt : D → Bool
  | .v (.int _) => true
  | _ => false
def isWh (x : D) (lo hi : Int) : Bool := match x with
  | .v (.int i) => decide (lo ≤ i) && decide (i ≤ hi)
  | _ => false
def isNmD : D → Bool
  | .v (.str z) => isNm z
  | _ => false
section
variable {P : Program} {w : World} {K : PySem.W.Frag} {mg : Str → Option Value} {base : Heap}
theorem tyB {a b : String} {r : Bool} (h : kitB a b = some r) : PySem.W.kitOne K (.type a) (.type b) = some r := kit_ty h
abbrev s_is_number : Stmt := topS 16
abbrev n_is_number : List Str := ["thing"]
abbrev p_is_number : List Str := ["thing"]
theorem sc_is_number : FnScope n_is_number p_is_number (defScope s_is_number) := ⟨rfl, rfl, rfl, by decide +kernel, rfl, by decide +kernel, by decide +kernel⟩
def spNumberD (K : PySem.W.Frag) : SpD := fun ds μ Q _ => ∃ x, ds = [x] ∧ Thing K x ∧ Q (.v (.bl (isInt x))) μ
theorem okd_number {f : Addr} {fd : FuncData} (F : Fun K "is_number" "is_number" s_is_number f fd) (B : Blt mg) : FnD P w K mg base 1 f fd p_is_number (spNumberD K) := by
  refine okD F sc_is_number (fun ds μ QD QX h => by obtain ⟨x, rfl, _⟩ := h; rfl) fun cdv A outer s H E hr => ?_
  skip
  refine ⟨_, (dss_one (ds_ret (de_and (de_cb cr_isiA DL.sIsi (by rfl) B.isinstance (by decide +kernel) (da_cons (dv 0) (da_cons (de_bltn (v := .ty "int") (by rfl) B.int (by decide +kernel) rfl) da_nil))) (de_one (de_not (de_cb cr_isiA DL.sIsi (by rfl) B.isinstance (by decide +kernel) (da_cons (dv 0) (da_cons (de_bltn (v := .ty "bool") (by rfl) B.bool (by decide +kernel) rfl) da_nil)))))))), ?_⟩
  intro ds μ QD QX _ _ h
  refine .inr ?_
  obtain ⟨x, rfl, hx, q⟩ := h
  have two : ∀ t, tyD K μ x t → PySem.W.kitOne K t (.type "int") = some false → isInt x = false → RIsi K [x, .v (.ty "int")] μ (blK fun c μ1 => if c = true then RIsi K [x, .v (.ty "bool")] μ1 (blK fun c μ1 => QD (.v (.bl (!c))) μ1) QX else QD (.v (.bl false)) μ1) QX := fun t h1 h2 h3 => by
    rw [h3] at q
    unfold RIsi
    split
    · rename_i e; cases e
    · rename_i e; cases e
      exact ⟨t, _, false, h1, rfl, h2, q⟩
    · rename_i h1 h2
      exact (h2 _ _ rfl).elim
  unfold Thing at hx
  split at hx
  · exact two _ rfl (tyB (by decide +kernel)) rfl
  · exact ⟨_, _, true, rfl, rfl, tyB (by decide +kernel), _, _, true, rfl, rfl, tyB (by decide +kernel), q⟩
  · exact ⟨_, _, true, rfl, rfl, tyB (by decide +kernel), _, _, false, rfl, rfl, tyB (by decide +kernel), q⟩
  · exact two _ rfl (tyB (by decide +kernel)) rfl
  · exact hx.elim
  · exact two _ rfl (tyB (by decide +kernel)) rfl
  · exact two _ rfl (tyB (by decide +kernel)) rfl
  · exact two _ rfl (tyB (by decide +kernel)) rfl
  · exact two _ ⟨rfl, hx.t⟩ hx.i rfl
  · exact hx.elim
abbrev s_is_whole : Stmt := topS 17
abbrev n_is_whole : List Str := ["thing", "least", "most"]
abbrev p_is_whole : List Str := ["thing", "least", "most"]
theorem sc_is_whole : FnScope n_is_whole p_is_whole (defScope s_is_whole) := ⟨rfl, rfl, rfl, by decide +kernel, rfl, by decide +kernel, by decide +kernel⟩
def spWholeD (K : PySem.W.Frag) : SpD := fun ds μ Q _ => ∃ x lo hi, ds = [x, .v (.int lo), .v (.int hi)] ∧ Thing K x ∧ Q (.v (.bl (isWh x lo hi))) μ
theorem okd_whole {f : Addr} {fd : FuncData} (F : Fun K "is_whole" "is_whole" s_is_whole f fd) (B : Blt mg) (D_is_number : DnP P w K mg base 1 "is_number" p_is_number 1 (spNumberD K)) : FnD P w K mg base 2 f fd p_is_whole (spWholeD K) := by
  refine okD F sc_is_whole (fun ds μ QD QX h => by obtain ⟨x, lo, hi, rfl, _⟩ := h; rfl) fun cdv A outer s H E hr => ?_
  have hr1 : Room 1 _ := hr.mono (by decide)
  refine ⟨_, (dss_one (ds_ret (de_and (de_call D_is_number rfl hr1 tkD (by rfl) (da_cons (dv 0) da_nil) dk_nil) (de_one (de_chain op_le op_le DL.sI0 DL.sI0 (dv 1) (dv 0) (dv 2)))))), ?_⟩
  intro ds μ QD QX _ _ h
  refine .inr ?_
  obtain ⟨x, lo, hi, rfl, hx, q⟩ := h
  refine ⟨x, rfl, hx, ?_⟩
  have no : isInt x = false → isWh x lo hi = false := fun h => by
    cases x with
    | v y => cases y <;> first | rfl | cases h
    | _ => rfl
  cases e : isInt x with
  | false =>
    rw [no e] at q
    exact q
  | true =>
    cases x with
    | v y =>
      cases y with
      | int i =>
        refine ⟨decide (lo ≤ i), rfl, ?_⟩
        by_cases h1 : lo ≤ i
        · refine iteY (decide_eq_true h1) ?_
          have e2 : isWh (.v (.int i)) lo hi = decide (i ≤ hi) := by simp [isWh, h1]
          rw [e2] at q
          exact q
        · refine iteN (decide_eq_false h1) ?_
          have e2 : isWh (.v (.int i)) lo hi = false := by simp [isWh, h1]
          rw [e2] at q
          exact q
      | _ => cases e
    | _ => cases e
end
end Du

set_option Elab.async false
set_option linter.all false
set_option maxRecDepth 100000
namespace Du
open PySem L2 DL
structure Cst (mg : Str → Option Value) : Prop where
  LETTERS : ∃ t, mg "LETTERS" = some (.str "abcdefghijklmnopqrstuvwxyz" t)
  MOST_LETTERS : ∃ t, mg "MOST_LETTERS" = some (.int 8 t)
  MOST_COST : ∃ t, mg "MOST_COST" = some (.int 99 t)
  MOST_GAP : ∃ t, mg "MOST_GAP" = some (.int 600 t)
  MOST_HOLDS : ∃ t, mg "MOST_HOLDS" = some (.int 4 t)
section
variable {P : Program} {w : World} {K : PySem.W.Frag} {mg : Str → Option Value} {base : Heap}
def isStrD : D → Bool
  | .v (.str _) => true
  | _ => false
def isTupD : D → Bool
  | .tup _ => true
  | _ => false
theorem isStrD_eq {x : D} (h : isStrD x = true) : ∃ z, x = .v (.str z) := by
  unfold isStrD at h
  split at h
  · exact ⟨_, rfl⟩
  · cases h
theorem isTupD_eq {x : D} (h : isTupD x = true) : ∃ ds, x = .tup ds := by
  unfold isTupD at h
  split at h
  · exact ⟨_, rfl⟩
  · cases h
theorem isNmD_no {x : D} (h : isStrD x = false) : isNmD x = false := by
  unfold isNmD
  split
  · cases h
  · rfl
theorem isi_str {μ : Store} {x : D} {Q : D → Store → Prop} (h : Thing K x) (q : Q (.v (.bl (isStrD x))) μ) : RIsi K [x, .v (.ty "str")] μ Q (fun _ _ => False) := by
  unfold RIsi
  split
  · rename_i e; cases e
  · rename_i e; cases e
    unfold Thing at h
    split at h
    · exact ⟨_, _, false, rfl, rfl, tyB (by decide +kernel), q⟩
    · exact ⟨_, _, false, rfl, rfl, tyB (by decide +kernel), q⟩
    · exact ⟨_, _, false, rfl, rfl, tyB (by decide +kernel), q⟩
    · exact ⟨_, _, true, rfl, rfl, tyB (by decide +kernel), q⟩
    · exact h.elim
    · exact ⟨_, _, false, rfl, rfl, tyB (by decide +kernel), q⟩
    · exact ⟨_, _, false, rfl, rfl, tyB (by decide +kernel), q⟩
    · exact ⟨_, _, false, rfl, rfl, tyB (by decide +kernel), q⟩
    · exact ⟨_, _, false, ⟨rfl, h.t⟩, rfl, h.s, q⟩
    · exact h.elim
  · rename_i h1 h2
    exact (h2 _ _ rfl).elim
theorem isi_tup {μ : Store} {x : D} {Q : D → Store → Prop} (h : Thing K x) (q : Q (.v (.bl (isTupD x))) μ) : RIsi K [x, .v (.ty "tuple")] μ Q (fun _ _ => False) := by
  unfold RIsi
  split
  · rename_i e; cases e
  · rename_i e; cases e
    unfold Thing at h
    split at h
    · exact ⟨_, _, false, rfl, rfl, tyB (by decide +kernel), q⟩
    · exact ⟨_, _, false, rfl, rfl, tyB (by decide +kernel), q⟩
    · exact ⟨_, _, false, rfl, rfl, tyB (by decide +kernel), q⟩
    · exact ⟨_, _, false, rfl, rfl, tyB (by decide +kernel), q⟩
    · exact h.elim
    · exact ⟨_, _, true, rfl, rfl, tyB (by decide +kernel), q⟩
    · exact ⟨_, _, false, rfl, rfl, tyB (by decide +kernel), q⟩
    · exact ⟨_, _, false, rfl, rfl, tyB (by decide +kernel), q⟩
    · exact ⟨_, _, false, ⟨rfl, h.t⟩, rfl, h.u, q⟩
    · exact h.elim
  · rename_i h1 h2
    exact (h2 _ _ rfl).elim
abbrev s_is_name : Stmt := topS 18
abbrev n_is_name : List Str := ["thing", "sign"]
abbrev p_is_name : List Str := ["thing"]
theorem sc_is_name : FnScope n_is_name p_is_name (defScope s_is_name) := ⟨rfl, rfl, rfl, by decide +kernel, rfl, by decide +kernel, by decide +kernel⟩
def spNameD (K : PySem.W.Frag) : SpD := fun ds μ Q _ => ∃ x, ds = [x] ∧ Thing K x ∧ Q (.v (.bl (isNmD x))) μ
theorem all_sgn (z : Str) : (z.cps.toList.map fun c => decide (c ∈ letters.cps.toList)).all id = z.cps.toList.all isLetter := by
  rw [List.all_map]
  rfl
theorem okd_name {f : Addr} {fd : FuncData} (F : Fun K "is_name" "is_name" s_is_name f fd) (B : Blt mg) (C : Cst mg) : FnD P w K mg base 2 f fd p_is_name (spNameD K) := by
  refine okD F sc_is_name (fun ds μ QD QX h => by obtain ⟨x, rfl, _⟩ := h; rfl) fun cdv A outer s H E hr => ?_
  obtain ⟨tL, c_LETTERS⟩ := C.LETTERS
  obtain ⟨tM, c_MOST_LETTERS⟩ := C.MOST_LETTERS
  skip
  refine ⟨_, (dss_cons (ds_if (dt_w (dw_or (dt_not (dt_val (de_cb cr_isiA DL.sIsi (by rfl) B.isinstance (by decide +kernel) (da_cons (dv 0) (da_cons (de_bltn (v := .ty "str") (by rfl) B.str (by decide +kernel) rfl) da_nil))))) (dw_or1 (dt_not (dt_chain op_le op_le DL.sI0 DL.sI0 de_int (de_cb call_len DL.sLen (by rfl) B.len (by decide +kernel) (da_cons (dv 0) da_nil)) (de_glob (v := .int 8) rfl c_MOST_LETTERS ⟨_, rfl⟩)))))) (dss_one (ds_ret de_bl)) dss_nil)
      (dss_one (ds_ret (de_cb (cr_all rfl) DL.sAll (by rfl) B.all (by decide +kernel) (da_cons (de_lc (own := [("sign", 1)]) (ws := [1]) rfl sc_is_name.nd (blkOk_by (N := n_is_name) (sc := defScope s_is_name) (by decide +kernel)) (di_seq rfl (dv 0)) (by decide) (fun _ _ _ _ _ => (dg_name (i := 1) sc_is_name.nd rfl (Or.inl rfl))) (fun _ _ _ _ _ => dpts_nil) (fun _ _ _ _ _ => (de_cmp op_inA DL.sIn (dv 1) (de_glob (v := .str "abcdefghijklmnopqrstuvwxyz") rfl c_LETTERS ⟨_, rfl⟩)))) da_nil))))), ?_⟩
  intro ds μ QD QX _ _ h
  refine .inr ?_
  obtain ⟨x, rfl, hx, q⟩ := h
  refine isi_str hx ?_
  cases e : isStrD x with
  | false =>
    rw [isNmD_no e] at q
    exact q
  | true =>
    obtain ⟨z, rfl⟩ := isStrD_eq e
    have hz : z.length ≤ sizeLine := hx
    refine ⟨hz, decide ((1 : Int) ≤ z.length), rfl, ?_⟩
    by_cases h1 : (1 : Int) ≤ z.length
    · refine iteY (decide_eq_true h1) ?_
      by_cases h8 : (z.length : Int) ≤ 8
      · refine iteN (c := !decide ((z.length : Int) ≤ 8)) (by rw [decide_eq_true h8]; rfl) ?_
        refine comp_map (fun d => match d with | .v (.str c) => .v (.bl (!(Builtin.Str.occurrences letters c 0 letters.length 1).isEmpty)) | d => d) _ [] (fun d hd R hR => ?_) (by rw [List.length_map]; show 0 + z.cps.toList.length ≤ sizeLine; rw [Nat.zero_add]; exact hz) ?_
        · obtain ⟨c, _, rfl⟩ := List.mem_map.mp hd
          exact hR
        · have e1 : ([] ++ (List.map (fun d : D => match d with | .v (.str c) => D.v (.bl (!(Builtin.Str.occurrences letters c 0 letters.length 1).isEmpty)) | d => d) (z.cps.toList.map fun c => D.v (.str ⟨#[c]⟩)) : List D)) = (z.cps.toList.map fun c => decide (c ∈ letters.cps.toList)).map fun b => D.v (.bl b) := by
            rw [List.nil_append, List.map_map, List.map_map]
            refine List.map_congr_left fun c _ => ?_
            show D.v (.bl _) = D.v (.bl _)
            rw [PySem.StrLaws.found_one letters c]
          rw [e1]
          refine ⟨_, _, _, rfl, rfl, blsD_map _, ?_⟩
          rw [all_sgn]
          have e3 : isNmD (.v (.str z)) = z.cps.toList.all isLetter := by
            show isNm z = _
            unfold isNm
            rw [decide_eq_true (show 1 ≤ z.length by omega), decide_eq_true (show z.length ≤ 8 by omega)]
            rfl
          rw [e3] at q
          exact q
      · refine iteY (c := !decide ((z.length : Int) ≤ 8)) (by rw [decide_eq_false h8]; rfl) ?_
        have e3 : isNmD (.v (.str z)) = false := by
          show isNm z = _
          unfold isNm
          rw [decide_eq_false (show ¬ z.length ≤ 8 by omega)]
          simp
        rw [e3] at q
        exact q
    · refine iteN (decide_eq_false h1) ?_
      have e3 : isNmD (.v (.str z)) = false := by
        show isNm z = _
        unfold isNm
        rw [decide_eq_false (show ¬ 1 ≤ z.length by omega)]
        rfl
      rw [e3] at q
      exact q
end
end Du

set_option Elab.async false
set_option linter.all false
set_option maxRecDepth 100000
namespace Du
open PySem L2 DL
def intD : D → Int
  | .v (.int i) => i
  | _ => 0
def strD : D → Str
  | .v (.str z) => z
  | _ => Str.empty
/-- a thing is a hold of a task of this cost -/
def isHoD (x : D) (c : Int) : Bool := match x with
  | .tup [t, s, l] => isNmD t && (isWh s 0 c && isWh l 1 (c - intD s))
  | _ => false
def aheadD : D → D → Bool
  | .tup [a, s, l], .tup (b :: r :: _) => if strD a = strD b then decide (intD s + intD l ≤ intD r) else decide ((strD a).cps.toList < (strD b).cps.toList)
  | _, _ => false
def chainD (ds : List D) : Bool := (List.zipWith aheadD ds (ds.drop 1)).all id
def isHsD (x : D) (c : Int) : Bool := match x with
  | .tup ds => decide (ds.length ≤ 4) && ((ds.all fun d => isHoD d c) && chainD ds)
  | _ => false
theorem isHoD_no {x : D} {c : Int} (h : isTupD x = false) : isHoD x c = false := by
  unfold isHoD
  split
  · cases h
  · rfl
theorem isHsD_no {x : D} {c : Int} (h : isTupD x = false) : isHsD x c = false := by
  unfold isHsD
  split
  · cases h
  · rfl
theorem isWh_int {x : D} {lo hi : Int} (h : isWh x lo hi = true) : ∃ i, x = .v (.int i) ∧ lo ≤ i ∧ i ≤ hi := by
  unfold isWh at h
  split at h
  · rw [Bool.and_eq_true] at h
    exact ⟨_, rfl, of_decide_eq_true h.1, of_decide_eq_true h.2⟩
  · cases h
theorem isHoD_of {x : D} {c : Int} (h : isHoD x c = true) : ∃ a s l, x = .tup [.v (.str a), .v (.int s), .v (.int l)] ∧ isNm a = true ∧ 0 ≤ s ∧ 1 ≤ l ∧ s + l ≤ c := by
  unfold isHoD at h
  split at h
  · rw [Bool.and_eq_true, Bool.and_eq_true] at h
    obtain ⟨h1, h2, h3⟩ := h
    obtain ⟨s, rfl, h4, h5⟩ := isWh_int h2
    obtain ⟨l, rfl, h6, h7⟩ := isWh_int h3
    unfold isNmD at h1
    split at h1
    · exact ⟨_, s, l, rfl, h1, h4, h6, by show s + l ≤ c; have : intD (.v (.int s)) = s := rfl; omega⟩
    · cases h1
  · cases h
section
variable {P : Program} {w : World} {K : PySem.W.Frag} {mg : Str → Option Value} {base : Heap}
abbrev s_is_hold : Stmt := topS 19
abbrev n_is_hold : List Str := ["thing", "cost", "tool", "start", "long"]
abbrev p_is_hold : List Str := ["thing", "cost"]
theorem sc_is_hold : FnScope n_is_hold p_is_hold (defScope s_is_hold) := ⟨rfl, rfl, rfl, by decide +kernel, rfl, by decide +kernel, by decide +kernel⟩
def spHoldD (K : PySem.W.Frag) : SpD := fun ds μ Q _ => ∃ x c, ds = [x, .v (.int c)] ∧ Thing K x ∧ Q (.v (.bl (isHoD x c))) μ
theorem okd_hold {f : Addr} {fd : FuncData} (F : Fun K "is_hold" "is_hold" s_is_hold f fd) (B : Blt mg) (D_is_name : DnP P w K mg base 2 "is_name" p_is_name 1 (spNameD K)) (D_is_whole : DnP P w K mg base 2 "is_whole" p_is_whole 3 (spWholeD K)) : FnD P w K mg base 3 f fd p_is_hold (spHoldD K) := by
  refine okD F sc_is_hold (fun ds μ QD QX h => by obtain ⟨x, c, rfl, _⟩ := h; rfl) fun cdv A outer s H E hr => ?_
  have hr0 : Room 0 _ := hr.mono (by decide); have hr2 : Room 2 _ := hr.mono (by decide)
  refine ⟨_, (dss_cons (ds_if (dt_w (dw_or (dt_not (dt_val (de_cb cr_isiA DL.sIsi (by rfl) B.isinstance (by decide +kernel) (da_cons (dv 0) (da_cons (de_bltn (v := .ty "tuple") (by rfl) B.tuple (by decide +kernel) rfl) da_nil))))) (dw_or1 (dt_cmp (op_neA hr0.units) DL.sNe (de_cb call_len DL.sLen (by rfl) B.len (by decide +kernel) (da_cons (dv 0) da_nil)) de_int)))) (dss_one (ds_ret de_bl)) dss_nil)
      (dss_cons (ds_asg (dv 0) (dg_tup (n := 3) rfl rfl (dgs_cons (dg_name (i := 2) sc_is_hold.nd rfl (Or.inl rfl)) (dgs_cons (dg_name (i := 3) sc_is_hold.nd rfl (Or.inl rfl)) (dgs_cons (dg_name (i := 4) sc_is_hold.nd rfl (Or.inl rfl)) dgs_nil)))))
      (dss_one (ds_ret (de_and (de_call D_is_name rfl hr2 tkD (by rfl) (da_cons (dv 2) da_nil) dk_nil) (de_and (de_call D_is_whole rfl hr2 tkD (by rfl) (da_cons (dv 3) (da_cons de_int (da_cons (dv 1) da_nil))) dk_nil) (de_one (de_call D_is_whole rfl hr2 tkD (by rfl) (da_cons (dv 4) (da_cons de_int (da_cons (de_op op_sub DL.sI0 (dv 1) (dv 3)) da_nil))) dk_nil)))))))), ?_⟩
  intro ds μ QD QX _ _ h
  refine .inr ?_
  obtain ⟨x, c, rfl, hx, q⟩ := h
  refine isi_tup hx ?_
  cases e : isTupD x with
  | false =>
    rw [isHoD_no e] at q
    exact q
  | true =>
    obtain ⟨ts, rfl⟩ := isTupD_eq e
    have ht : Things K ts := hx
    by_cases h3 : ts.length = 3
    · match ts, h3, ht with
      | [t, b, l], _, ⟨h1, h2, h4, _⟩ =>
        refine ⟨t, rfl, h1, ?_⟩
        have q : QD (.v (.bl (isNmD t && (isWh b 0 c && isWh l 1 (c - intD b))))) μ := q
        cases e1 : isNmD t with
        | false =>
          rw [e1] at q
          exact q
        | true =>
          rw [e1] at q
          refine ⟨b, 0, c, rfl, h2, ?_⟩
          cases e2 : isWh b 0 c with
          | false =>
            rw [e2] at q
            exact q
          | true =>
            rw [e2] at q
            obtain ⟨i, rfl, _, _⟩ := isWh_int e2
            exact ⟨l, 1, c - i, rfl, h4, q⟩
    · have e3 : isHoD (.tup ts) c = false := by
        unfold isHoD
        split
        · rename_i h; cases h; exact absurd rfl h3
        · rfl
      rw [e3] at q
      refine iteY (c := !decide ((ts.length : Int) = 3)) ?_ q
      rw [decide_eq_false (show ¬ (ts.length : Int) = 3 by omega)]
      rfl
end
end Du

set_option Elab.async false
set_option linter.all false
set_option maxRecDepth 100000
namespace Du
open PySem L2 DL
theorem Things.mem {K : PySem.W.Frag} : ∀ {ds : List D} {d : D}, Things K ds → d ∈ ds → Thing K d
  | e :: r, d, h, hd => by
    rcases List.mem_cons.mp hd with rfl | hd
    · exact h.1
    · exact h.2.mem hd
theorem cutD1 (ds : List D) : cutD ds (some 1) none = ds.drop 1 := by
  unfold cutD HT.sIx
  simp only []
  rw [if_neg (by decide)]
  cases ds with
  | nil => simp
  | cons d r =>
    have e : min (Int.toNat 1) (d :: r).length = 1 := by
      rw [List.length_cons, show Int.toNat 1 = 1 from rfl]
      omega
    rw [e, List.drop_succ_cons, List.drop_zero, List.length_cons, Nat.add_sub_cancel, List.take_length]
/-- cells of two rows side by side -/
theorem zip_mem {f : D → D → D} : ∀ {a b : List D} {d : D}, d ∈ List.zipWith f a b → ∃ x y, x ∈ a ∧ y ∈ b ∧ d = f x y
  | [], _, d, h => by cases h
  | _ :: _, [], d, h => by cases h
  | x :: a, y :: b, d, h => by
    rw [List.zipWith_cons_cons] at h
    rcases List.mem_cons.mp h with rfl | h
    · exact ⟨x, y, List.mem_cons_self, List.mem_cons_self, rfl⟩
    · obtain ⟨p, q, h1, h2, h3⟩ := zip_mem h
      exact ⟨p, q, List.mem_cons_of_mem _ h1, List.mem_cons_of_mem _ h2, h3⟩
theorem zip_le {α β γ : Type} (f : α → β → γ) (a : List α) (b : List β) : (List.zipWith f a b).length ≤ a.length := by
  rw [List.length_zipWith]
  exact Nat.min_le_left _ _
section
variable {P : Program} {w : World} {K : PySem.W.Frag} {mg : Str → Option Value} {base : Heap}
abbrev s_goes_ahead : Stmt := topS 20
abbrev n_goes_ahead : List Str := ["hold", "other", "tool", "start", "long"]
abbrev p_goes_ahead : List Str := ["hold", "other"]
theorem sc_goes_ahead : FnScope n_goes_ahead p_goes_ahead (defScope s_goes_ahead) := ⟨rfl, rfl, rfl, by decide +kernel, rfl, by decide +kernel, by decide +kernel⟩
def spAheadD : SpD := fun ds μ Q _ => ∃ x y c d, ds = [x, y] ∧ isHoD x c = true ∧ isHoD y d = true ∧ Q (.v (.bl (aheadD x y))) μ
theorem okd_ahead {f : Addr} {fd : FuncData} (F : Fun K "goes_ahead" "goes_ahead" s_goes_ahead f fd) : FnD P w K mg base 2 f fd p_goes_ahead spAheadD := by
  refine okD F sc_goes_ahead (fun ds μ QD QX h => by obtain ⟨x, y, c, d, rfl, _⟩ := h; rfl) fun cdv A outer s H E hr => ?_
  have hr0 : Room 0 _ := hr.mono (by decide)
  refine ⟨_, (dss_cons (ds_asg (dv 0) (dg_tup (n := 3) rfl rfl (dgs_cons (dg_name (i := 2) sc_goes_ahead.nd rfl (Or.inl rfl)) (dgs_cons (dg_name (i := 3) sc_goes_ahead.nd rfl (Or.inl rfl)) (dgs_cons (dg_name (i := 4) sc_goes_ahead.nd rfl (Or.inl rfl)) dgs_nil)))))
      (dss_cons (ds_if (dt_cmp (op_eqA hr0.units) DL.sEq (dv 2) (de_ix rfl (dv 1) de_int)) (dss_one (ds_ret (de_cmp op_le DL.sI0 (de_op op_addA (DL.sAdd (b := false)) (dv 3) (dv 4)) (de_ix rfl (dv 1) de_int)))) dss_nil)
      (dss_one (ds_ret (de_cmp op_ltA DL.sLt (dv 2) (de_ix rfl (dv 1) de_int)))))), ?_⟩
  intro ds μ QD QX _ _ h
  refine .inr ?_
  obtain ⟨x, y, c, d, rfl, h1, h2, q⟩ := h
  obtain ⟨a, b, l, rfl, ha, _⟩ := isHoD_of h1
  obtain ⟨a', b', l', rfl, hb, _⟩ := isHoD_of h2
  have q : QD (.v (.bl (if a = a' then decide (b + l ≤ b') else decide (a.cps.toList < a'.cps.toList)))) μ := q
  refine ⟨_, rfl, ?_⟩
  by_cases e : a = a'
  · rw [if_pos e] at q
    exact iteY (decide_eq_true e) ⟨_, rfl, q⟩
  · rw [if_neg e] at q
    exact iteN (decide_eq_false e) ⟨_, rfl, q⟩
abbrev s_are_holds : Stmt := topS 21
abbrev n_are_holds : List Str := ["thing", "cost", "hold", "other"]
abbrev p_are_holds : List Str := ["thing", "cost"]
theorem sc_are_holds : FnScope n_are_holds p_are_holds (defScope s_are_holds) := ⟨rfl, rfl, rfl, by decide +kernel, rfl, by decide +kernel, by decide +kernel⟩
def spHoldsD (K : PySem.W.Frag) : SpD := fun ds μ Q _ => ∃ x c, ds = [x, .v (.int c)] ∧ Thing K x ∧ Q (.v (.bl (isHsD x c))) μ
theorem okd_holds {f : Addr} {fd : FuncData} (F : Fun K "are_holds" "are_holds" s_are_holds f fd) (B : Blt mg) (C : Cst mg) (D_is_hold : DnP P w K mg base 3 "is_hold" p_is_hold 2 (spHoldD K)) (D_goes_ahead : DnP P w K mg base 2 "goes_ahead" p_goes_ahead 2 spAheadD) : FnD P w K mg base 4 f fd p_are_holds (spHoldsD K) := by
  refine okD F sc_are_holds (fun ds μ QD QX h => by obtain ⟨x, c, rfl, _⟩ := h; rfl) fun cdv A outer s H E hr => ?_
  obtain ⟨tM, c_MOST_HOLDS⟩ := C.MOST_HOLDS
  have hr2 : Room 2 _ := hr.mono (by decide); have hr3 : Room 3 _ := hr.mono (by decide)
  refine ⟨_, (dss_cons (ds_if (dt_w (dw_or (dt_not (dt_val (de_cb cr_isiA DL.sIsi (by rfl) B.isinstance (by decide +kernel) (da_cons (dv 0) (da_cons (de_bltn (v := .ty "tuple") (by rfl) B.tuple (by decide +kernel) rfl) da_nil))))) (dw_or1 (dt_cmp op_gt DL.sI0 (de_cb call_len DL.sLen (by rfl) B.len (by decide +kernel) (da_cons (dv 0) da_nil)) (de_glob (v := .int 4) rfl c_MOST_HOLDS ⟨_, rfl⟩))))) (dss_one (ds_ret de_bl)) dss_nil)
      (dss_cons (ds_if (dt_not (dt_val (de_cb (cr_all rfl) DL.sAll (by rfl) B.all (by decide +kernel) (da_cons (de_lc (own := [("hold", 2)]) (ws := [2]) rfl sc_are_holds.nd (blkOk_by (N := n_are_holds) (sc := defScope s_are_holds) (by decide +kernel)) (di_seq rfl (dv 0)) (by decide) (fun _ _ _ _ _ => (dg_name (i := 2) sc_are_holds.nd rfl (Or.inl rfl))) (fun _ _ _ _ _ => dpts_nil) (fun _ _ _ _ _ => (de_call D_is_hold rfl hr3 tkF (by rfl) (da_cons (dv 2) (da_cons (dv 1) da_nil)) dk_nil))) da_nil)))) (dss_one (ds_ret de_bl)) dss_nil)
      (dss_one (ds_ret (de_cb (cr_all rfl) DL.sAll (by rfl) B.all (by decide +kernel) (da_cons (de_lc (own := [("hold", 2), ("other", 3)]) (ws := [2, 3]) rfl sc_are_holds.nd (blkOk_by (N := n_are_holds) (sc := defScope s_are_holds) (by decide +kernel)) (di_zip rfl (by rfl) B.zip (da_cons (dv 0) (da_cons (de_slice false rfl (dv 0) (do_some de_int) do_none) da_nil))) (by decide) (fun _ _ _ _ _ => (dg_tup (n := 2) rfl rfl (dgs_cons (dg_name (i := 2) sc_are_holds.nd rfl (Or.inl rfl)) (dgs_cons (dg_name (i := 3) sc_are_holds.nd rfl (Or.inl rfl)) dgs_nil)))) (fun _ _ _ _ _ => dpts_nil) (fun _ _ _ _ _ => (de_call D_goes_ahead rfl hr2 tkF (by rfl) (da_cons (dv 2) (da_cons (dv 3) da_nil)) dk_nil))) da_nil)))))), ?_⟩
  intro ds μ QD QX _ _ h
  refine .inr ?_
  obtain ⟨x, c, rfl, hx, q⟩ := h
  refine isi_tup hx ?_
  cases e : isTupD x with
  | false =>
    rw [isHsD_no e] at q
    exact q
  | true =>
    obtain ⟨ts, rfl⟩ := isTupD_eq e
    have ht : Things K ts := hx
    have q : QD (.v (.bl (decide (ts.length ≤ 4) && ((ts.all fun d => isHoD d c) && chainD ts)))) μ := q
    by_cases h4 : ts.length ≤ 4
    · rw [decide_eq_true h4] at q
      refine iteN (decide_eq_false (show ¬ (ts.length : Int) > 4 by omega)) ?_
      have hl : ts.length ≤ sizeLine := Nat.le_trans h4 (by decide)
      refine comp_map (fun d => .v (.bl (isHoD d c))) _ [] (fun d hd R hR => ⟨d, c, rfl, ht.mem hd, hR⟩) (by show 0 + ts.length ≤ sizeLine; omega) ?_
      refine ⟨_, _, ts.map fun d => isHoD d c, rfl, rfl, by rw [← blsD_map (ts.map fun d => isHoD d c), List.map_map]; rfl, ?_⟩
      have e1 : ((ts.map fun d => isHoD d c).all id) = ts.all fun d => isHoD d c := by rw [List.all_map]; rfl
      rw [e1]
      cases e2 : ts.all fun d => isHoD d c with
      | false =>
        rw [e2] at q
        exact q
      | true =>
        rw [e2] at q
        have hall := List.all_eq_true.mp e2
        refine comp_map (fun d => match d with | .tup [a, b] => .v (.bl (aheadD a b)) | d => d) _ [] (fun d hd R hR => ?_) ?_ ?_
        · rw [cutD1] at hd
          obtain ⟨x, y, h1, h2, rfl⟩ := zip_mem hd
          exact ⟨x, y, c, c, rfl, hall x h1, hall y (List.mem_of_mem_drop h2), hR⟩
        · have := zip_le (fun a b => D.tup [a, b]) ts (cutD ts (some 1) none)
          show 0 + _ ≤ sizeLine
          omega
        refine ⟨_, _, List.zipWith aheadD ts (ts.drop 1), rfl, rfl, ?_, q⟩
        rw [← blsD_map (List.zipWith aheadD ts (ts.drop 1)), List.nil_append, cutD1, List.map_zipWith, List.map_zipWith]
    · rw [decide_eq_false h4] at q
      exact iteY (decide_eq_true (show (ts.length : Int) > 4 by omega)) q
end
end Du

set_option Elab.async false
set_option linter.all false
set_option maxRecDepth 100000
namespace Du
open PySem L2 DL
def partD : Option Str → D
  | some z => .v (.str z)
  | none => .v .non
def wrTD (n c g d h : D) : Option Str :=
  if isNmD n = true then if isWh c 1 99 = true then if isWh g 1 600 = true then if (isNon d || isWh d 1 (intD g)) = true then if isHsD h (intD c) = true then none else some "holds" else some "due" else some "gap" else some "cost" else some "name"
def wrDD (n r g : D) : Option Str :=
  if isNmD n = true then if isWh r 1 99 = true then if isWh g 1 600 = true then none else some "gap" else some "room" else some "name"
section
variable {P : Program} {w : World} {K : PySem.W.Frag} {mg : Str → Option Value} {base : Heap}
abbrev s_wrong_in_task : Stmt := topS 22
abbrev n_wrong_in_task : List Str := ["name", "cost", "gap", "due", "holds"]
abbrev p_wrong_in_task : List Str := ["name", "cost", "gap", "due", "holds"]
theorem sc_wrong_in_task : FnScope n_wrong_in_task p_wrong_in_task (defScope s_wrong_in_task) := ⟨rfl, rfl, rfl, by decide +kernel, rfl, by decide +kernel, by decide +kernel⟩
def spWrongTD (K : PySem.W.Frag) : SpD := fun ds μ Q _ => ∃ n c g d h, ds = [n, c, g, d, h] ∧ Thing K n ∧ Thing K c ∧ Thing K g ∧ Thing K d ∧ Thing K h ∧ Q (partD (wrTD n c g d h)) μ
theorem okd_wrongT {f : Addr} {fd : FuncData} (F : Fun K "wrong_in_task" "wrong_in_task" s_wrong_in_task f fd) (B : Blt mg) (C : Cst mg) (D_is_name : DnP P w K mg base 2 "is_name" p_is_name 1 (spNameD K)) (D_is_whole : DnP P w K mg base 2 "is_whole" p_is_whole 3 (spWholeD K)) (D_are_holds : DnP P w K mg base 4 "are_holds" p_are_holds 2 (spHoldsD K)) : FnD P w K mg base 5 f fd p_wrong_in_task (spWrongTD K) := by
  refine okD F sc_wrong_in_task (fun ds μ QD QX h => by obtain ⟨n, c, g, d, h, rfl, _⟩ := h; rfl) fun cdv A outer s H E hr => ?_
  obtain ⟨tC, c_MOST_COST⟩ := C.MOST_COST
  obtain ⟨tG, c_MOST_GAP⟩ := C.MOST_GAP
  have hr2 : Room 2 _ := hr.mono (by decide); have hr4 : Room 4 _ := hr.mono (by decide)
  refine ⟨_, (dss_cons (ds_if (dt_not (dt_val (de_call D_is_name rfl hr2 tkD (by rfl) (da_cons (dv 0) da_nil) dk_nil))) (dss_one (ds_ret de_str)) dss_nil)
      (dss_cons (ds_if (dt_not (dt_val (de_call D_is_whole rfl hr2 tkD (by rfl) (da_cons (dv 1) (da_cons de_int (da_cons (de_glob (v := .int 99) rfl c_MOST_COST ⟨_, rfl⟩) da_nil))) dk_nil))) (dss_one (ds_ret de_str)) dss_nil)
      (dss_cons (ds_if (dt_not (dt_val (de_call D_is_whole rfl hr2 tkD (by rfl) (da_cons (dv 2) (da_cons de_int (da_cons (de_glob (v := .int 600) rfl c_MOST_GAP ⟨_, rfl⟩) da_nil))) dk_nil))) (dss_one (ds_ret de_str)) dss_nil)
      (dss_cons (ds_if (dt_w (dw_and (dt_cmp op_notN DL.sIsNot (dv 3) de_non) (dw_and1 (dt_not (dt_val (de_call D_is_whole rfl hr2 tkD (by rfl) (da_cons (dv 3) (da_cons de_int (da_cons (dv 2) da_nil))) dk_nil)))))) (dss_one (ds_ret de_str)) dss_nil)
      (dss_cons (ds_if (dt_not (dt_val (de_call D_are_holds rfl hr4 tkD (by rfl) (da_cons (dv 4) (da_cons (dv 1) da_nil)) dk_nil))) (dss_one (ds_ret de_str)) dss_nil)
      (dss_one (ds_ret de_non))))))), ?_⟩
  intro ds μ QD QX _ _ h
  refine .inr ?_
  obtain ⟨n, c, g, d, h, rfl, hn, hc, hg, hd, hh, q⟩ := h
  unfold wrTD at q
  refine ⟨n, rfl, hn, ?_⟩
  cases e1 : isNmD n with
  | false => rw [e1] at q; exact q
  | true =>
  rw [e1] at q
  refine ⟨c, 1, 99, rfl, hc, ?_⟩
  cases e2 : isWh c 1 99 with
  | false => rw [e2] at q; exact q
  | true =>
  rw [e2] at q
  obtain ⟨ci, rfl, _⟩ := isWh_int e2
  refine ⟨g, 1, 600, rfl, hg, ?_⟩
  cases e3 : isWh g 1 600 with
  | false => rw [e3] at q; exact q
  | true =>
  rw [e3] at q
  obtain ⟨gi, rfl, _⟩ := isWh_int e3
  have last : QD (partD (if isHsD h ci = true then none else some "holds")) μ → spHoldsD K [h, .v (.int ci)] μ (fun d μ1 => blK (fun c μ1 => if (!c) = true then QD (.v (.str "holds")) μ1 else QD (.v .non) μ1) d μ1) QX := fun q => ⟨h, ci, rfl, hh, by
    cases e6 : isHsD h ci with
    | false => rw [e6] at q; exact q
    | true => rw [e6] at q; exact q⟩
  have q : QD (partD (if (isNon d || isWh d 1 gi) = true then if isHsD h ci = true then none else some "holds" else some "due")) μ := q
  cases e4 : isNon d with
  | true =>
    rw [e4] at q
    exact iteN (c := !isNon d) (by rw [e4]; rfl) (last q)
  | false =>
    rw [e4] at q
    refine iteY (c := !isNon d) (by rw [e4]; rfl) ⟨d, 1, gi, rfl, hd, ?_⟩
    cases e5 : isWh d 1 gi with
    | false =>
      rw [e5] at q
      exact q
    | true =>
      rw [e5] at q
      exact last q
abbrev s_wrong_in_door : Stmt := topS 23
abbrev n_wrong_in_door : List Str := ["name", "room", "gap"]
abbrev p_wrong_in_door : List Str := ["name", "room", "gap"]
theorem sc_wrong_in_door : FnScope n_wrong_in_door p_wrong_in_door (defScope s_wrong_in_door) := ⟨rfl, rfl, rfl, by decide +kernel, rfl, by decide +kernel, by decide +kernel⟩
def spWrongDD (K : PySem.W.Frag) : SpD := fun ds μ Q _ => ∃ n r g, ds = [n, r, g] ∧ Thing K n ∧ Thing K r ∧ Thing K g ∧ Q (partD (wrDD n r g)) μ
theorem okd_wrongD {f : Addr} {fd : FuncData} (F : Fun K "wrong_in_door" "wrong_in_door" s_wrong_in_door f fd) (B : Blt mg) (C : Cst mg) (D_is_name : DnP P w K mg base 2 "is_name" p_is_name 1 (spNameD K)) (D_is_whole : DnP P w K mg base 2 "is_whole" p_is_whole 3 (spWholeD K)) : FnD P w K mg base 3 f fd p_wrong_in_door (spWrongDD K) := by
  refine okD F sc_wrong_in_door (fun ds μ QD QX h => by obtain ⟨n, r, g, rfl, _⟩ := h; rfl) fun cdv A outer s H E hr => ?_
  obtain ⟨tC, c_MOST_COST⟩ := C.MOST_COST
  obtain ⟨tG, c_MOST_GAP⟩ := C.MOST_GAP
  have hr2 : Room 2 _ := hr.mono (by decide)
  refine ⟨_, (dss_cons (ds_if (dt_not (dt_val (de_call D_is_name rfl hr2 tkD (by rfl) (da_cons (dv 0) da_nil) dk_nil))) (dss_one (ds_ret de_str)) dss_nil)
      (dss_cons (ds_if (dt_not (dt_val (de_call D_is_whole rfl hr2 tkD (by rfl) (da_cons (dv 1) (da_cons de_int (da_cons (de_glob (v := .int 99) rfl c_MOST_COST ⟨_, rfl⟩) da_nil))) dk_nil))) (dss_one (ds_ret de_str)) dss_nil)
      (dss_cons (ds_if (dt_not (dt_val (de_call D_is_whole rfl hr2 tkD (by rfl) (da_cons (dv 2) (da_cons de_int (da_cons (de_glob (v := .int 600) rfl c_MOST_GAP ⟨_, rfl⟩) da_nil))) dk_nil))) (dss_one (ds_ret de_str)) dss_nil)
      (dss_one (ds_ret de_non))))), ?_⟩
  intro ds μ QD QX _ _ h
  refine .inr ?_
  obtain ⟨n, r, g, rfl, hn, hr', hg, q⟩ := h
  unfold wrDD at q
  refine ⟨n, rfl, hn, ?_⟩
  cases e1 : isNmD n with
  | false => rw [e1] at q; exact q
  | true =>
  rw [e1] at q
  refine ⟨r, 1, 99, rfl, hr', ?_⟩
  cases e2 : isWh r 1 99 with
  | false => rw [e2] at q; exact q
  | true =>
  rw [e2] at q
  refine ⟨g, 1, 600, rfl, hg, ?_⟩
  cases e3 : isWh g 1 600 with
  | false => rw [e3] at q; exact q
  | true => rw [e3] at q; exact q
end
end Du

set_option Elab.async false
set_option linter.all false
set_option maxRecDepth 100000
namespace Du
open PySem L2 DL
structure TaskK (K : PySem.W.Frag) (C : Addr) : Prop where
  fname : Fl K C "name"
  fcost : Fl K C "cost"
  fgap : Fl K C "gap"
  fdue : Fl K C "due"
  fholds : Fl K C "holds"
  pln : PlnC K C
structure DoorK (K : PySem.W.Frag) (C : Addr) : Prop where
  fname : Fl K C "name"
  froom : Fl K C "room"
  fgap : Fl K C "gap"
  pln : PlnC K C
def taskF (n c g d h : D) : List (Str × D) := [("name", n), ("cost", c), ("gap", g), ("due", if isNon d then g else d), ("holds", h)]
def doorF (n r g : D) : List (Str × D) := [("name", n), ("room", r), ("gap", g)]
section
variable {P : Program} {w : World} {K : PySem.W.Frag} {mg : Str → Option Value} {base : Heap}
abbrev s_Door___init__ : Stmt := inClass (topS 25) 0
abbrev n_Door___init__ : List Str := ["self", "name", "room", "gap", "part"]
abbrev p_Door___init__ : List Str := ["self", "name", "room", "gap"]
theorem sc_Door___init__ : FnScope n_Door___init__ p_Door___init__ (defScope s_Door___init__) := ⟨rfl, rfl, rfl, by decide +kernel, rfl, by decide +kernel, by decide +kernel⟩
def spDoorD (K : PySem.W.Frag) (C CE : Addr) : SpD := fun ds μ Q X => ∃ i n r g, ds = [.loc i, n, r, g] ∧ μ[i]? = some (some (.ins C [])) ∧ Thing K n ∧ Thing K r ∧ Thing K g ∧
  match wrDD n r g with
  | none => Q (.v .non) (μ.set i (some (.ins C (doorF n r g))))
  | some p => X ⟨.ref CE, some [("part", .v (.str p))]⟩ μ
theorem okd_doorInit {CDoor CNoDoor : Addr} {f : Addr} {fd : FuncData} (F : Fun K "__init__" "Door.__init__" s_Door___init__ f fd) (T : DoorK K CDoor) (E_NoDoor : Err P w K mg "NoDoor" "part" CNoDoor) (D_wrong_in_door : DnP P w K mg base 3 "wrong_in_door" p_wrong_in_door 3 (spWrongDD K)) : FnD P w K mg base 4 f fd p_Door___init__ (spDoorD K CDoor CNoDoor) := by
  refine okD F sc_Door___init__ (fun ds μ QD QX h => by obtain ⟨i, n, r, g, rfl, _⟩ := h; rfl) fun cdv A outer s H E hr => ?_
  have hr0 : Room 0 _ := hr.mono (by decide); have hr3 : Room 3 _ := hr.mono (by decide)
  refine ⟨_, (dss_cons (ds_set (i := 4) sc_Door___init__.nd rfl (.inl rfl) (de_call D_wrong_in_door rfl hr3 tkD (by rfl) (da_cons (dv 1) (da_cons (dv 2) (da_cons (dv 3) da_nil))) dk_nil))
      (dss_cons (ds_if (dt_cmp op_notN DL.sIsNot (dv 4) de_non) (dss_one (ds_raise rfl E_NoDoor hr0 takesD (by rfl) (dv 4))) dss_nil)
      (dss_cons (ds_fld rfl (dv 0) (dv 1))
      (dss_cons (ds_fld rfl (dv 0) (dv 2))
      (dss_one (ds_fld rfl (dv 0) (dv 3))))))), ?_⟩
  intro ds μ QD QX _ _ h
  refine .inr ?_
  obtain ⟨i, n, r, g, rfl, hi, hn, hr', hg, q⟩ := h
  have hi1 : i < μ.length := (List.getElem?_eq_some_iff.mp hi).1
  refine ⟨n, r, g, rfl, hn, hr', hg, ?_⟩
  cases e : wrDD n r g with
  | some p =>
    rw [e] at q
    exact q
  | none =>
    rw [e] at q
    refine ⟨i, CDoor, [], rfl, hi, T.fname, by decide, ?_⟩
    refine ⟨i, CDoor, _, rfl, List.getElem?_set_self hi1, T.froom, (by show 1 < 1000; decide), ?_⟩
    rw [List.set_set]
    refine ⟨i, CDoor, _, rfl, List.getElem?_set_self hi1, T.fgap, (by show 2 < 1000; decide), ?_⟩
    rw [List.set_set]
    exact q
abbrev s_Task___init__ : Stmt := inClass (topS 24) 0
abbrev n_Task___init__ : List Str := ["self", "name", "cost", "gap", "due", "holds", "part"]
abbrev p_Task___init__ : List Str := ["self", "name", "cost", "gap", "due", "holds"]
theorem sc_Task___init__ : FnScope n_Task___init__ p_Task___init__ (defScope s_Task___init__) := ⟨rfl, rfl, rfl, by decide +kernel, rfl, by decide +kernel, by decide +kernel⟩
def spTaskD (K : PySem.W.Frag) (C CE : Addr) : SpD := fun ds μ Q X => ∃ i n c g d h, ds = [.loc i, n, c, g, d, h] ∧ μ[i]? = some (some (.ins C [])) ∧ Thing K n ∧ Thing K c ∧ Thing K g ∧ Thing K d ∧ Thing K h ∧
  match wrTD n c g d h with
  | none => Q (.v .non) (μ.set i (some (.ins C (taskF n c g d h))))
  | some p => X ⟨.ref CE, some [("part", .v (.str p))]⟩ μ
theorem okd_taskInit {CTask CNoTask : Addr} {kws : List (Str × V)} {f : Addr} {fd : FuncData} (F : FunD K "__init__" "Task.__init__" (defArgs s_Task___init__) (defBody s_Task___init__) (defScope s_Task___init__) [] kws f fd) (T : TaskK K CTask) (E_NoTask : Err P w K mg "NoTask" "part" CNoTask) (D_wrong_in_task : DnP P w K mg base 5 "wrong_in_task" p_wrong_in_task 5 (spWrongTD K)) : FnD P w K mg base 6 f fd p_Task___init__ (spTaskD K CTask CNoTask) := by
  obtain ⟨oc, od, dV, kV, doc, pm, an, cdv, ct, osl, rfl, lk, hcd, _⟩ := F.ex
  refine fnD lk hcd sc_Task___init__ (fun ds μ QD QX h => by obtain ⟨i, n, c, g, d, h, rfl, _⟩ := h; rfl) fun A outer s H E hr => ?_
  have hr0 : Room 0 _ := hr.mono (by decide); have hr5 : Room 5 _ := hr.mono (by decide)
  refine ⟨_, (dss_cons (ds_set (i := 6) sc_Task___init__.nd rfl (.inl rfl) (de_call D_wrong_in_task rfl hr5 tkD (by rfl) (da_cons (dv 1) (da_cons (dv 2) (da_cons (dv 3) (da_cons (dv 4) (da_cons (dv 5) da_nil))))) dk_nil))
      (dss_cons (ds_if (dt_cmp op_notN DL.sIsNot (dv 6) de_non) (dss_one (ds_raise rfl E_NoTask hr0 takesD (by rfl) (dv 6))) dss_nil)
      (dss_cons (ds_fld rfl (dv 0) (dv 1))
      (dss_cons (ds_fld rfl (dv 0) (dv 2))
      (dss_cons (ds_fld rfl (dv 0) (dv 3))
      (dss_cons (ds_fld rfl (dv 0) (de_if (dt_cmp op_isN DL.sIs (dv 4) de_non) (dv 3) (dv 4)))
      (dss_one (ds_fld rfl (dv 0) (dv 5))))))))), ?_⟩
  intro ds μ QD QX _ _ h
  refine .inr ?_
  obtain ⟨i, n, c, g, d, h, rfl, hi, hn, hc, hg, hd, hh, q⟩ := h
  have hi1 : i < μ.length := (List.getElem?_eq_some_iff.mp hi).1
  refine ⟨n, c, g, d, h, rfl, hn, hc, hg, hd, hh, ?_⟩
  cases e : wrTD n c g d h with
  | some p =>
    rw [e] at q
    exact q
  | none =>
    rw [e] at q
    refine ⟨i, CTask, [], rfl, hi, T.fname, by decide, ?_⟩
    refine ⟨i, CTask, _, rfl, List.getElem?_set_self hi1, T.fcost, (by show 1 < 1000; decide), ?_⟩
    rw [List.set_set]
    refine ⟨i, CTask, _, rfl, List.getElem?_set_self hi1, T.fgap, (by show 2 < 1000; decide), ?_⟩
    rw [List.set_set]
    have fin : ∀ y, y = (if isNon d then g else d) → ∃ i' C' fs, D.loc i = .loc i' ∧ (μ.set i (some (.ins CTask [("name", n), ("cost", c), ("gap", g)])))[i']? = some (some (.ins C' fs)) ∧ Fl K C' "due" ∧ fs.length < 1000 ∧ ∃ i2 C2 fs2, D.loc i = .loc i2 ∧ ((μ.set i (some (.ins CTask [("name", n), ("cost", c), ("gap", g)]))).set i' (some (.ins C' (putFD "due" y fs))))[i2]? = some (some (.ins C2 fs2)) ∧ Fl K C2 "holds" ∧ fs2.length < 1000 ∧ QD (.v .non) (((μ.set i (some (.ins CTask [("name", n), ("cost", c), ("gap", g)]))).set i' (some (.ins C' (putFD "due" y fs)))).set i2 (some (.ins C2 (putFD "holds" h fs2)))) := fun y hy => by
      refine ⟨i, CTask, _, rfl, List.getElem?_set_self hi1, T.fdue, (by show 3 < 1000; decide), ?_⟩
      rw [List.set_set]
      refine ⟨i, CTask, _, rfl, List.getElem?_set_self hi1, T.fholds, (by show 4 < 1000; decide), ?_⟩
      rw [List.set_set, hy]
      exact q
    cases e4 : isNon d with
    | true => exact iteY (c := isNon d) e4 (fin g (by rw [e4]; rfl))
    | false => exact iteN (c := isNon d) e4 (fin d (by rw [e4]; rfl))
end
end Du

set_option Elab.async false
set_option linter.all false
set_option maxRecDepth 100000
namespace Du
open PySem L2 DL
theorem any2 {K : PySem.W.Frag} {t c1 c2 : Value} {b1 b2 : Bool} (h1 : PySem.W.kitOne K t c1 = some b1) (h2 : PySem.W.kitOne K t c2 = some b2) : PySem.W.kitAny K t [c1, c2] = some (b1 || b2) := by
  unfold PySem.W.kitAny PySem.W.kitAny PySem.W.kitAny
  rw [h1, h2]
  cases b1 <;> cases b2 <;> rfl
/-- own classes, told apart -/
structure Own (K : PySem.W.Frag) (cs : List Addr) : Prop where
  pln : ∀ c, c ∈ cs → PlnC K c
  ow : ∀ c c', c ∈ cs → c' ∈ cs → PySem.W.kitOne K (.ref c) (.ref c') = some (decide (c = c'))
  bi : ∀ c, c ∈ cs → ∀ n : String, n ∈ ["NoneType", "bool", "int", "str", "tuple", "list", "dict"] → PySem.W.kitOne K (.type n) (.ref c) = some false
abbrev GoodT := Addr → List (Str × D) → Prop
mutual
def Tho (G : GoodT) : D → Prop
  | .v .non => True
  | .v (.bl _) => True
  | .v (.int _) => True
  | .v (.str z) => z.length ≤ sizeLine
  | .v _ => False
  | .tup ds => Thos G ds
  | .lst _ => True
  | .dK _ => True
  | .obj C fs => G C fs
  | _ => False
def Thos (G : GoodT) : List D → Prop
  | [] => True
  | d :: ds => Tho G d ∧ Thos G ds
end
theorem Thos.mem {G : GoodT} : ∀ {ds : List D} {d : D}, Thos G ds → d ∈ ds → Tho G d
  | e :: r, d, h, hd => by
    rcases List.mem_cons.mp hd with rfl | hd
    · exact h.1
    · exact Thos.mem h.2 hd
section
variable {P : Program} {w : World} {K : PySem.W.Frag} {mg : Str → Option Value} {base : Heap} {cs : List Addr} {G : GoodT}
mutual
theorem Tho.thing (O : Own K cs) (hG : ∀ C fs, G C fs → C ∈ cs) : ∀ (d : D), Tho G d → Thing K d
  | .v .non, _ => trivial
  | .v (.bl _), _ => trivial
  | .v (.int _), _ => trivial
  | .v (.str _), h => h
  | .tup ds, h => Thos.things O hG ds h
  | .lst _, _ => trivial
  | .dK _, _ => trivial
  | .obj C fs, h => O.pln C (hG C fs h)
theorem Thos.things (O : Own K cs) (hG : ∀ C fs, G C fs → C ∈ cs) : ∀ (ds : List D), Thos G ds → Things K ds
  | [], _ => trivial
  | d :: ds, h => ⟨Tho.thing O hG d h.1, Thos.things O hG ds h.2⟩
end
def inC (c : Addr) : D → Bool
  | .obj C _ => decide (C = c)
  | _ => false
theorem ty_own (O : Own K cs) (hG : ∀ C fs, G C fs → C ∈ cs) {μ : Store} {x : D} (hx : Tho G x) : ∃ t, tyD K μ x t ∧ ∀ c, c ∈ cs → PySem.W.kitOne K t (.ref c) = some (inC c x) := by
  unfold Tho at hx
  split at hx
  · exact ⟨_, rfl, fun c hc => O.bi c hc _ (by simp)⟩
  · exact ⟨_, rfl, fun c hc => O.bi c hc _ (by simp)⟩
  · exact ⟨_, rfl, fun c hc => O.bi c hc _ (by simp)⟩
  · exact ⟨_, rfl, fun c hc => O.bi c hc _ (by simp)⟩
  · exact hx.elim
  · exact ⟨_, rfl, fun c hc => O.bi c hc _ (by simp)⟩
  · exact ⟨_, rfl, fun c hc => O.bi c hc _ (by simp)⟩
  · exact ⟨_, rfl, fun c hc => O.bi c hc _ (by simp)⟩
  · exact ⟨_, ⟨rfl, (O.pln _ (hG _ _ hx)).t⟩, fun c hc => O.ow _ c (hG _ _ hx) hc⟩
  · exact hx.elim
theorem isi_own1 (O : Own K cs) (hG : ∀ C fs, G C fs → C ∈ cs) {μ : Store} {x : D} {c : Addr} {Q : D → Store → Prop} (hx : Tho G x) (hc : c ∈ cs) (q : Q (.v (.bl (inC c x))) μ) : RIsi K [x, .v (.ref c)] μ Q (fun _ _ => False) := by
  obtain ⟨t, h1, h2⟩ := ty_own (μ := μ) O hG hx
  exact ⟨t, _, _, h1, rfl, h2 c hc, q⟩
theorem isi_own2 (O : Own K cs) (hG : ∀ C fs, G C fs → C ∈ cs) {μ : Store} {x : D} {c c' : Addr} {Q : D → Store → Prop} (hx : Tho G x) (hc : c ∈ cs) (hc' : c' ∈ cs) (q : Q (.v (.bl (inC c x || inC c' x))) μ) : RIsi K [x, .tup [.v (.ref c), .v (.ref c')]] μ Q (fun _ _ => False) := by
  obtain ⟨t, h1, h2⟩ := ty_own (μ := μ) O hG hx
  exact ⟨t, _, _, h1, rfl, any2 (h2 c hc) (h2 c' hc'), q⟩
abbrev s_is_member : Stmt := topS 29
abbrev n_is_member : List Str := ["thing"]
abbrev p_is_member : List Str := ["thing"]
theorem sc_is_member : FnScope n_is_member p_is_member (defScope s_is_member) := ⟨rfl, rfl, rfl, by decide +kernel, rfl, by decide +kernel, by decide +kernel⟩
def isMemD (CT CD : Addr) (x : D) : Bool := inC CT x || inC CD x
def spMemD (G : GoodT) (CT CD : Addr) : SpD := fun ds μ Q _ => ∃ x, ds = [x] ∧ Tho G x ∧ Q (.v (.bl (isMemD CT CD x))) μ
theorem okd_member {CTask CDoor : Addr} {f : Addr} {fd : FuncData} (F : Fun K "is_member" "is_member" s_is_member f fd) (B : Blt mg) (O : Own K cs) (hG : ∀ C fs, G C fs → C ∈ cs) (hT : CTask ∈ cs) (hD : CDoor ∈ cs) (g_Task : mg "Task" = some (.ref CTask)) (g_Door : mg "Door" = some (.ref CDoor)) : FnD P w K mg base 1 f fd p_is_member (spMemD G CTask CDoor) := by
  refine okD F sc_is_member (fun ds μ QD QX h => by obtain ⟨x, rfl, _⟩ := h; rfl) fun cdv A outer s H E hr => ?_
  skip
  refine ⟨_, (dss_one (ds_ret (de_cb cr_isiA DL.sIsi (by rfl) B.isinstance (by decide +kernel) (da_cons (dv 0) (da_cons (de_tup (da_cons (de_glob (v := .ref CTask) rfl g_Task rfl) (da_cons (de_glob (v := .ref CDoor) rfl g_Door rfl) da_nil))) da_nil))))), ?_⟩
  intro ds μ QD QX _ _ h
  refine .inr ?_
  obtain ⟨x, rfl, hx, q⟩ := h
  exact isi_own2 O hG hx hT hD q
abbrev s_are_members : Stmt := topS 30
abbrev n_are_members : List Str := ["thing", "member"]
abbrev p_are_members : List Str := ["thing"]
theorem sc_are_members : FnScope n_are_members p_are_members (defScope s_are_members) := ⟨rfl, rfl, rfl, by decide +kernel, rfl, by decide +kernel, by decide +kernel⟩
def areMemD (CT CD : Addr) : D → Bool
  | .tup ms => decide (ms.length ≤ 8) && ms.all (isMemD CT CD)
  | _ => false
theorem areMemD_no {CT CD : Addr} {x : D} (h : isTupD x = false) : areMemD CT CD x = false := by
  unfold areMemD
  split
  · cases h
  · rfl
def spAreMemD (G : GoodT) (CT CD : Addr) : SpD := fun ds μ Q _ => ∃ x, ds = [x] ∧ Tho G x ∧ Q (.v (.bl (areMemD CT CD x))) μ
theorem okd_members {CTask CDoor : Addr} {f : Addr} {fd : FuncData} (F : Fun K "are_members" "are_members" s_are_members f fd) (B : Blt mg) (O : Own K cs) (hG : ∀ C fs, G C fs → C ∈ cs) (c_MOST_MEMBERS : ∃ t, mg "MOST_MEMBERS" = some (.int 8 t)) (D_is_member : DnP P w K mg base 1 "is_member" p_is_member 1 (spMemD G CTask CDoor)) : FnD P w K mg base 2 f fd p_are_members (spAreMemD G CTask CDoor) := by
  refine okD F sc_are_members (fun ds μ QD QX h => by obtain ⟨x, rfl, _⟩ := h; rfl) fun cdv A outer s H E hr => ?_
  obtain ⟨tM, c_MOST_MEMBERS⟩ := c_MOST_MEMBERS
  have hr1 : Room 1 _ := hr.mono (by decide)
  refine ⟨_, (dss_cons (ds_if (dt_w (dw_or (dt_not (dt_val (de_cb cr_isiA DL.sIsi (by rfl) B.isinstance (by decide +kernel) (da_cons (dv 0) (da_cons (de_bltn (v := .ty "tuple") (by rfl) B.tuple (by decide +kernel) rfl) da_nil))))) (dw_or1 (dt_cmp op_gt DL.sI0 (de_cb call_len DL.sLen (by rfl) B.len (by decide +kernel) (da_cons (dv 0) da_nil)) (de_glob (v := .int 8) rfl c_MOST_MEMBERS ⟨_, rfl⟩))))) (dss_one (ds_ret de_bl)) dss_nil)
      (dss_one (ds_ret (de_cb (cr_all rfl) DL.sAll (by rfl) B.all (by decide +kernel) (da_cons (de_lc (own := [("member", 1)]) (ws := [1]) rfl sc_are_members.nd (blkOk_by (N := n_are_members) (sc := defScope s_are_members) (by decide +kernel)) (di_seq rfl (dv 0)) (by decide) (fun _ _ _ _ _ => (dg_name (i := 1) sc_are_members.nd rfl (Or.inl rfl))) (fun _ _ _ _ _ => dpts_nil) (fun _ _ _ _ _ => (de_call D_is_member rfl hr1 tkF (by rfl) (da_cons (dv 1) da_nil) dk_nil))) da_nil))))), ?_⟩
  intro ds μ QD QX _ _ h
  refine .inr ?_
  obtain ⟨x, rfl, hx, q⟩ := h
  refine isi_tup (Tho.thing O hG x hx) ?_
  cases e : isTupD x with
  | false =>
    rw [areMemD_no e] at q
    exact q
  | true =>
    obtain ⟨ts, rfl⟩ := isTupD_eq e
    have ht : Thos G ts := hx
    have q : QD (.v (.bl (decide (ts.length ≤ 8) && ts.all (isMemD CTask CDoor)))) μ := q
    by_cases h8 : ts.length ≤ 8
    · rw [decide_eq_true h8] at q
      refine iteN (decide_eq_false (show ¬ (ts.length : Int) > 8 by omega)) ?_
      have hl : ts.length ≤ sizeLine := Nat.le_trans h8 (by decide)
      refine comp_map (fun d => .v (.bl (isMemD CTask CDoor d))) _ [] (fun d hd R hR => ⟨d, rfl, ht.mem hd, hR⟩) (by show 0 + ts.length ≤ sizeLine; omega) ?_
      refine ⟨_, _, ts.map (isMemD CTask CDoor), rfl, rfl, by rw [← blsD_map (ts.map (isMemD CTask CDoor)), List.map_map]; rfl, ?_⟩
      have e1 : ((ts.map (isMemD CTask CDoor)).all id) = ts.all (isMemD CTask CDoor) := by rw [List.all_map]; rfl
      rw [e1]
      exact q
    · rw [decide_eq_false h8] at q
      exact iteY (decide_eq_true (show (ts.length : Int) > 8 by omega)) q
end
end Du

set_option Elab.async false
set_option linter.all false
set_option maxRecDepth 100000
namespace Du
open PySem L2 DL
def nmOf : D → Str
  | .obj _ fs => match fs.lookup ("name" : Str) with
    | some (.v (.str z)) => z
    | _ => Str.empty
  | _ => Str.empty
/-- an object with a name -/
def Named (K : PySem.W.Frag) (d : D) : Prop := ∃ C fs z, d = .obj C fs ∧ Fl K C "name" ∧ fs.lookup ("name" : Str) = some (.v (.str z)) ∧ z.length ≤ sizeLine
def twG : List Str → List Str → Option Str
  | _, [] => none
  | a, z :: r => if z ∈ a then some z else twG (a ++ [z]) r
theorem in_strsD {z : Str} {xs : List Str} : inV (.str z) (xs.map V.str) = decide (z ∈ xs) := by
  unfold inV
  rw [List.any_map]
  by_cases h : z ∈ xs
  · rw [decide_eq_true h, List.any_eq_true]
    exact ⟨z, h, by simp [eqV]⟩
  · rw [decide_eq_false h, List.any_eq_false]
    intro y hy
    simp only [Function.comp, eqV, decide_eq_true_eq]
    exact fun e => h (eq_of_beq e ▸ hy)
theorem flat_strs : ∀ xs : List Str, (xs.map fun z => D.v (.str z)).mapM flatD = some (xs.map V.str)
  | [] => rfl
  | x :: xs => by
    rw [List.map_cons, List.mapM_cons, flat_strs xs]
    rfl
theorem take_app {μ : Store} {o : List (Option Ob)} : (μ ++ o).take μ.length = μ := List.take_left' rfl
theorem at_app {μ : Store} {o : Option Ob} : (μ ++ [o])[μ.length]? = some o := by simp
theorem set_app {μ : Store} {o p : Option Ob} : (μ ++ [o]).set μ.length p = μ ++ [p] := by simp
section
variable {P : Program} {w : World} {K : PySem.W.Frag} {mg : Str → Option Value} {base : Heap} {cs : List Addr} {G : GoodT}
abbrev s_name_twice : Stmt := topS 31
abbrev n_name_twice : List Str := ["members", "ahead", "member"]
abbrev p_name_twice : List Str := ["members"]
theorem sc_name_twice : FnScope n_name_twice p_name_twice (defScope s_name_twice) := ⟨rfl, rfl, rfl, by decide +kernel, rfl, by decide +kernel, by decide +kernel⟩
def spTwiceD (K : PySem.W.Frag) : SpD := fun ds μ Q _ => ∃ ms, ds = [.tup ms] ∧ ms.length ≤ 1000 ∧ (∀ m, m ∈ ms → Named K m) ∧ Q (partD (twG [] (ms.map nmOf))) μ
theorem okd_twice {f : Addr} {fd : FuncData} (F : Fun K "name_twice" "name_twice" s_name_twice f fd) : FnD P w K mg base 1 f fd p_name_twice (spTwiceD K) := by
  refine okD F sc_name_twice (fun ds μ QD QX h => by obtain ⟨x, rfl, _⟩ := h; rfl) fun cdv A outer s H E hr => ?_
  skip
  refine ⟨_, (dss_cons (ds_set (i := 1) sc_name_twice.nd rfl (.inl rfl) (de_lst true da_nil))
      (dss_cons (ds_for PassesOwn.leaving rfl (di_seq rfl (dv 0)) (dg_name (i := 2) sc_name_twice.nd rfl (Or.inl rfl)) (dss_cons (ds_if (dt_cmp op_inA DL.sIn (de_fld rfl (dv 2)) (dv 1)) (dss_one (ds_ret (de_fld rfl (dv 2)))) dss_nil)
      (dss_one (ds_expr (de_append rfl (dv 1) (de_fld rfl (dv 2)))))))
      (dss_one (ds_ret de_non)))), ?_⟩
  intro ds μ QD QX cl cm h
  refine .inl ?_
  obtain ⟨ms, rfl, hl, hm, q⟩ := h
  have loop : ∀ (r : List D) (a : List Str) (v : Option D), (∀ m, m ∈ r → Named K m) → a.length + r.length ≤ 1000 → QD (partD (twG a (r.map nmOf))) μ → LoopD (GName 2) (TSeq (TIfS (TTest (TBin (RIn false) (TFld K "name" (TVar 2)) (TVar 1))) (TRet (TFld K "name" (TVar 2))) TNext) (TDrop (TAppend (TVar 1) (TFld K "name" (TVar 2))))) { nx := TRet (TC V.non) (endsC μ.length QD QX), rt := (endsC μ.length QD QX).rt, bk := (endsC μ.length QD QX).bk, ct := (endsC μ.length QD QX).ct, xn := (endsC μ.length QD QX).xn } r [some (.tup ms), some (.loc μ.length), v] (μ ++ [some (.lst (a.map fun z => .v (.str z)))]) := by
    intro r
    induction r with
    | nil =>
      intro a v _ _ q
      show True ∧ ClS μ.length ((μ ++ [_]).take μ.length) ∧ QD (.v .non) ((μ ++ [_]).take μ.length)
      rw [take_app]
      exact ⟨trivial, cm, q⟩
    | cons m r ih =>
      intro a v hm hl q
      obtain ⟨C, fs, z, rfl, hf, hlk, hz⟩ := hm m List.mem_cons_self
      have en : nmOf (.obj C fs) = z := by
        simp [nmOf, hlk]
      rw [List.map_cons, en] at q
      rw [List.length_cons] at hl
      refine ⟨C, fs, _, rfl, hf, hlk, .str z, _, _, rfl, ?_, flat_strs a, ?_⟩
      · simp [seqOf, lstOf]
      by_cases hz : z ∈ a
      · refine iteY (c := inV (.str z) (a.map V.str)) (by rw [in_strsD]; exact decide_eq_true hz) ?_
        refine ⟨C, fs, _, rfl, hf, hlk, ?_⟩
        show True ∧ ClS μ.length ((μ ++ [_]).take μ.length) ∧ QD (.v (.str z)) ((μ ++ [_]).take μ.length)
        rw [take_app]
        unfold twG at q
        rw [if_pos hz] at q
        exact ⟨trivial, cm, q⟩
      · refine iteN (c := inV (.str z) (a.map V.str)) (by rw [in_strsD]; exact decide_eq_false hz) ?_
        unfold twG at q
        rw [if_neg hz] at q
        refine ⟨μ.length, _, rfl, at_app, C, fs, _, rfl, hf, hlk, _, at_app, ?_, ?_⟩
        · rw [List.length_map]
          exact Nat.lt_of_lt_of_le (show a.length < 1001 by omega) (by decide)
        · rw [set_app]
          have := ih (a ++ [z]) (some (.obj C fs)) (fun m h => hm m (List.mem_cons_of_mem _ h)) (by rw [List.length_append, List.length_singleton]; omega) q
          rw [List.map_append] at this
          exact this
  exact loop ms [] none hm (by simpa using hl) q
end
end Du

set_option Elab.async false
set_option linter.all false
set_option maxRecDepth 100000
namespace Du
open PySem L2 DL
structure CrewK (K : PySem.W.Frag) (C : Addr) : Prop where
  fmem : Fl K C "members"
def crewF (x : D) : List (Str × D) := [("members", x)]
def memsD : D → List D
  | .tup ms => ms
  | _ => []
section
variable {P : Program} {w : World} {K : PySem.W.Frag} {mg : Str → Option Value} {base : Heap} {cs : List Addr} {G : GoodT}
abbrev s_Crew___init__ : Stmt := inClass (topS 32) 0
abbrev n_Crew___init__ : List Str := ["self", "members", "twice"]
abbrev p_Crew___init__ : List Str := ["self", "members"]
theorem sc_Crew___init__ : FnScope n_Crew___init__ p_Crew___init__ (defScope s_Crew___init__) := ⟨rfl, rfl, rfl, by decide +kernel, rfl, by decide +kernel, by decide +kernel⟩
/-- what Crew(x) comes to: none: made; some d: refused, by this name -/
def crwD (CT CD : Addr) (x : D) : Option D := if areMemD CT CD x = true then (match twG [] ((memsD x).map nmOf) with
  | some z => some (.v (.str z))
  | none => none) else some (.v .non)
def spCrewD (G : GoodT) (CT CD CC CE : Addr) : SpD := fun ds μ Q X => ∃ i x, ds = [.loc i, x] ∧ μ[i]? = some (some (.ins CC [])) ∧ Tho G x ∧
  match crwD CT CD x with
  | none => Q (.v .non) (μ.set i (some (.ins CC (crewF x))))
  | some d => X ⟨.ref CE, some [("name", d)]⟩ μ
theorem okd_crewInit {CTask CDoor CCrew CNoCrew : Addr} {dvs : List V} {f : Addr} {fd : FuncData} (F : FunD K "__init__" "Crew.__init__" (defArgs s_Crew___init__) (defBody s_Crew___init__) (defScope s_Crew___init__) dvs [] f fd) (T : CrewK K CCrew) (hN : ∀ C fs, G C fs → (C = CTask ∨ C = CDoor) → Named K (.obj C fs)) (E_NoCrew : Err P w K mg "NoCrew" "name" CNoCrew) (D_are_members : DnP P w K mg base 2 "are_members" p_are_members 1 (spAreMemD G CTask CDoor)) (D_name_twice : DnP P w K mg base 1 "name_twice" p_name_twice 1 (spTwiceD K)) : FnD P w K mg base 3 f fd p_Crew___init__ (spCrewD G CTask CDoor CCrew CNoCrew) := by
  obtain ⟨oc, od, dV, kV, doc, pm, an, cdv, ct, osl, rfl, lk, hcd, _⟩ := F.ex
  refine fnD lk hcd sc_Crew___init__ (fun ds μ QD QX h => by obtain ⟨i, x, rfl, _⟩ := h; rfl) fun A outer s H E hr => ?_
  have hr0 : Room 0 _ := hr.mono (by decide); have hr1 : Room 1 _ := hr.mono (by decide); have hr2 : Room 2 _ := hr.mono (by decide)
  refine ⟨_, (dss_cons (ds_if (dt_not (dt_val (de_call D_are_members rfl hr2 tkD (by rfl) (da_cons (dv 1) da_nil) dk_nil))) (dss_one (ds_raise rfl E_NoCrew hr0 takesD (by rfl) de_non)) dss_nil)
      (dss_cons (ds_set (i := 2) sc_Crew___init__.nd rfl (.inl rfl) (de_call D_name_twice rfl hr1 tkD (by rfl) (da_cons (dv 1) da_nil) dk_nil))
      (dss_cons (ds_if (dt_cmp op_notN DL.sIsNot (dv 2) de_non) (dss_one (ds_raise rfl E_NoCrew hr0 takesD (by rfl) (dv 2))) dss_nil)
      (dss_one (ds_fld rfl (dv 0) (dv 1)))))), ?_⟩
  intro ds μ QD QX _ _ h
  refine .inr ?_
  obtain ⟨i, x, rfl, hi, hx, q⟩ := h
  have hi1 : i < μ.length := (List.getElem?_eq_some_iff.mp hi).1
  refine ⟨x, rfl, hx, ?_⟩
  unfold crwD at q
  cases e : areMemD CTask CDoor x with
  | false =>
    rw [e] at q
    exact q
  | true =>
    rw [e] at q
    obtain ⟨ms, rfl⟩ : ∃ ms, x = .tup ms := by
      cases x with
      | tup ms => exact ⟨ms, rfl⟩
      | _ => cases e
    have e : (decide (ms.length ≤ 8) && ms.all (isMemD CTask CDoor)) = true := e
    rw [Bool.and_eq_true] at e
    have hl : ms.length ≤ 8 := of_decide_eq_true e.1
    have hms : ∀ m, m ∈ ms → Named K m := fun m hm => by
      have h1 : Tho G m := Thos.mem (show Thos G ms from hx) hm
      have h2 := List.all_eq_true.mp e.2 m hm
      cases m with
      | obj C fs =>
        refine hN C fs h1 ?_
        have h2 : (decide (C = CTask) || decide (C = CDoor)) = true := h2
        simpa using h2
      | _ => cases h2
    refine ⟨ms, rfl, by omega, hms, ?_⟩
    have q : match (match twG [] (ms.map nmOf) with | some z => some (D.v (.str z)) | none => none : Option D) with | none => QD (.v .non) (μ.set i (some (.ins CCrew (crewF (.tup ms))))) | some d => QX ⟨.ref CNoCrew, some [("name", d)]⟩ μ := q
    cases e2 : twG [] (ms.map nmOf) with
    | some z =>
      rw [e2] at q
      exact q
    | none =>
      rw [e2] at q
      exact ⟨i, CCrew, [], rfl, hi, T.fmem, by decide, q⟩
end
end Du

set_option Elab.async false
set_option linter.all false
set_option maxRecDepth 100000
namespace Du
open PySem L2 DL
def purseO (a d c : Int) : Ob := .lst [.v (.int a), .v (.int d), .v (.int c)]
def PurseD (μ : Store) (i : Nat) : Prop := ∃ a d c : Int, μ[i]? = some (some (purseO a d c)) ∧ 0 ≤ a ∧ a < 1000000021 ∧ 0 ≤ d ∧ 0 ≤ c
/-- the purse went on -/
structure Pu (i : Nat) (μ μ' : Store) : Prop where
  purse : PurseD μ' i
  ex : ∃ o, μ' = μ.set i (some o)
theorem Pu.trans {i : Nat} {μ μ1 μ2 : Store} (a : Pu i μ μ1) (b : Pu i μ1 μ2) : Pu i μ μ2 := by
  obtain ⟨o, e⟩ := a.ex
  obtain ⟨p, e2⟩ := b.ex
  exact ⟨b.purse, p, by rw [e2, e, List.set_set]⟩
section
variable {P : Program} {w : World} {K : PySem.W.Frag} {mg : Str → Option Value} {base : Heap}
abbrev s__law_cell : Stmt := topS 34
abbrev n__law_cell : List Str := ["_law_script", "_law_k", "_law_state", "_law_cell_here"]
abbrev p__law_cell : List Str := ["_law_script", "_law_k"]
theorem sc__law_cell : FnScope n__law_cell p__law_cell (defScope s__law_cell) := ⟨rfl, rfl, rfl, by decide +kernel, rfl, by decide +kernel, by decide +kernel⟩
def spCellD : SpD := fun ds μ Q _ => ∃ (ns : List Int) (k : Nat), ds = [.frz (ns.map V.int), .v (.int k)] ∧ k < 64 ∧ ∀ n : Int, Q (.v (.int n)) μ
theorem okd_cell {f : Addr} {fd : FuncData} (F : Fun K "_law_cell" "_law_cell" s__law_cell f fd) (B : Blt mg) : FnD P w K mg base 1 f fd p__law_cell spCellD := by
  refine okD F sc__law_cell (fun ds μ QD QX h => by obtain ⟨ns, k, rfl, _⟩ := h; rfl) fun cdv A outer s H E hr => ?_
  skip
  refine ⟨_, (dss_cons (ds_if (dt_cmp op_ltA DL.sLt (dv 1) (de_cb call_len DL.sLen (by rfl) B.len (by decide +kernel) (da_cons (dv 0) da_nil))) (dss_one (ds_ret (de_ix rfl (dv 0) (dv 1)))) dss_nil)
      (dss_cons (ds_set (i := 2) sc__law_cell.nd rfl (.inl rfl) (de_op op_mod DL.sI (de_op op_mul DL.sI de_int (de_op op_addA (DL.sAdd (b := false)) (de_op op_addA (DL.sAdd (b := false)) (de_op op_mul DL.sI (dv 1) (dv 1)) (de_op op_mul DL.sI de_int (dv 1))) de_int)) de_int))
      (dss_cons (ds_for PassesOwn.leaving rfl (di_seq rfl (de_slice false rfl (dv 0) do_none (do_some de_int))) (dg_name (i := 3) sc__law_cell.nd rfl (Or.inl rfl)) (dss_one (ds_set (i := 2) sc__law_cell.nd rfl (.inl rfl) (de_op op_mod DL.sI (de_op op_addA (DL.sAdd (b := false)) (de_op op_mul DL.sI (dv 2) de_int) (dv 3)) de_int))))
      (dss_one (ds_ret (dv 2)))))), ?_⟩
  intro ds μ QD QX _ _ h
  refine .inr ?_
  obtain ⟨ns, k, rfl, hk, q⟩ := h
  have hL : (List.map D.v (List.map V.int ns)).length = ns.length := by simp
  by_cases hlt : k < ns.length
  · refine iteY (c := decide ((k : Int) < ((List.map D.v (List.map V.int ns)).length : Nat))) (decide_eq_true (by omega)) ?_
    have g0 : (List.map D.v (List.map V.int ns))[k]? = some (.v (.int ns[k])) := by simp [hlt]
    have g : atI (List.map D.v (List.map V.int ns)) (k : Int) = some (.v (.int ns[k])) := at_ofD g0
    exact ⟨_, g, q _⟩
  · refine iteN (c := decide ((k : Int) < ((List.map D.v (List.map V.int ns)).length : Nat))) (decide_eq_false (by omega)) ?_
    refine ⟨.inl ⟨by omega, by omega⟩, .inl ⟨by decide, by decide⟩, .inl ⟨by decide, by decide⟩, (by show (0 : Int) < 1000000021; decide), ?_⟩
    refine loop_inv (fun _ σ μ' => ∃ (st : Int) (v : Option D), σ = [some (.frz (ns.map V.int)), some (.v (.int k)), some (.v (.int st)), v] ∧ μ' = μ) ⟨_, _, rfl, rfl⟩ ?_ ?_
    · rintro i d σ μ' nx hd ⟨st, v, rfl, rfl⟩ hn
      obtain ⟨z, rfl⟩ : ∃ z : Int, d = .v (.int z) := by
        have h := List.mem_of_getElem? hd
        unfold cutD at h
        have h := List.mem_of_mem_drop (List.mem_of_mem_take h)
        obtain ⟨y, hy, rfl⟩ := List.mem_map.mp h
        obtain ⟨z, _, rfl⟩ := List.mem_map.mp hy
        exact ⟨z, rfl⟩
      exact ⟨.inr ⟨by decide, by decide⟩, (by show (0 : Int) < 1000000021; decide), hn _ _ ⟨_, _, rfl, rfl⟩⟩
    · rintro σ μ' ⟨st, v, rfl, rfl⟩
      exact q st
abbrev s__law_purse : Stmt := topS 35
abbrev n__law_purse : List Str := ["_law_cell_here", "_law_digits"]
abbrev p__law_purse : List Str := ["_law_cell_here"]
theorem sc__law_purse : FnScope n__law_purse p__law_purse (defScope s__law_purse) := ⟨rfl, rfl, rfl, by decide +kernel, rfl, by decide +kernel, by decide +kernel⟩
def spPurseD : SpD := fun ds μ Q _ => ∃ n : Int, ds = [.v (.int n)] ∧ ∀ a d c : Int, 0 ≤ a → a < 1000000021 → 0 ≤ d → 0 ≤ c → Q (.loc μ.length) (μ ++ [some (purseO a d c)])
theorem okd_purse {f : Addr} {fd : FuncData} (F : Fun K "_law_purse" "_law_purse" s__law_purse f fd) (B : Blt mg) : FnD P w K mg base 1 f fd p__law_purse spPurseD := by
  refine okD F sc__law_purse (fun ds μ QD QX h => by obtain ⟨n, rfl, _⟩ := h; rfl) fun cdv A outer s H E hr => ?_
  skip
  refine ⟨_, (dss_cons (ds_set (i := 1) sc__law_purse.nd rfl (.inl rfl) de_int)
      (dss_cons (ds_j (ds_if (dt_w (dw_or (dt_cmp op_ltA DL.sLt (dv 0) de_int) (dw_or1 (dt_cmp op_ge DL.sI0 (dv 0) (de_op op_pow DL.sI de_int de_int))))) (dss_one (ds_set (i := 1) sc__law_purse.nd rfl (.inl rfl) (de_cb call_abs DL.sAbs (by rfl) B.abs (by decide +kernel) (da_cons (dv 0) da_nil)))) dss_nil))
      (dss_one (ds_ret (de_lst true (da_cons (de_op op_mod DL.sI (dv 0) de_int) (da_cons (dv 1) (da_cons de_int da_nil)))))))), ?_⟩
  intro ds μ QD QX _ _ h
  refine .inr ?_
  obtain ⟨n, rfl, q⟩ := h
  have fin : ∀ d : Int, 0 ≤ d → (0 : Int) < 1000000021 ∧ QD (.loc μ.length) (μ ++ [some (.lst [.v (.int (n % 1000000021)), .v (.int d), .v (.int 0)])]) := fun d hd => ⟨by decide, q _ d 0 (Int.emod_nonneg _ (by decide)) (Int.emod_lt_of_pos _ (by decide)) hd (Int.le_refl _)⟩
  have ab : 0 ≤ if n < 0 then -n else n := by split <;> omega
  refine ⟨fun σ' μ' => ∃ d : Int, σ' = [some (.v (.int n)), some (.v (.int d))] ∧ 0 ≤ d ∧ μ' = μ, ?_, ?_⟩
  · refine ite2 (fun _ => ?_) (fun _ => ?_)
    · exact ⟨n, rfl, if n < 0 then -n else n, rfl, ab, rfl⟩
    · refine ⟨⟨by decide, by decide, by decide⟩, ite2 (fun _ => ?_) (fun _ => ?_)⟩
      · exact ⟨n, rfl, if n < 0 then -n else n, rfl, ab, rfl⟩
      · exact ⟨0, rfl, Int.le_refl _, rfl⟩
  · rintro σ' μ' ⟨d, rfl, hd, rfl⟩
    exact fin d hd
abbrev s__law_take : Stmt := topS 36
abbrev n__law_take : List Str := ["_law_purse_here", "_law_many", "_law_state", "_law_taken"]
abbrev p__law_take : List Str := ["_law_purse_here", "_law_many"]
theorem sc__law_take : FnScope n__law_take p__law_take (defScope s__law_take) := ⟨rfl, rfl, rfl, by decide +kernel, rfl, by decide +kernel, by decide +kernel⟩
def spTakeD : SpD := fun ds μ Q _ => ∃ (i : Nat) (m : Int), ds = [.loc i, .v (.int m)] ∧ 0 < m ∧ m < 1073741824 ∧ PurseD μ i ∧ ∀ (r : Int) (μ' : Store), 0 ≤ r → r < m → Pu i μ μ' → Q (.v (.int r)) μ'
theorem okd_take {f : Addr} {fd : FuncData} (F : Fun K "_law_take" "_law_take" s__law_take f fd) : FnD P w K mg base 1 f fd p__law_take spTakeD := by
  refine okD F sc__law_take (fun ds μ QD QX h => by obtain ⟨i, m, rfl, _⟩ := h; rfl) fun cdv A outer s H E hr => ?_
  skip
  refine ⟨_, (dss_cons (ds_asg (de_op op_addA (DL.sAdd (b := false)) (de_ix rfl (dv 0) de_int) de_int) (dg_sub (E := EF) (vs := []) (dv 0) de_int))
      (dss_cons (ds_set (i := 2) sc__law_take.nd rfl (.inl rfl) (de_ix rfl (dv 0) de_int))
      (dss_cons (ds_asg (de_op op_mod DL.sI (de_op op_addA (DL.sAdd (b := false)) (de_op op_addA (DL.sAdd (b := false)) (de_op op_mul DL.sI (dv 2) (de_op op_addA (DL.sAdd (b := false)) (de_op op_mod DL.sI (dv 2) de_int) de_int)) (de_op op_mul DL.sI de_int (de_ix rfl (dv 0) de_int))) de_int) de_int) (dg_sub (E := EF) (vs := []) (dv 0) de_int))
      (dss_cons (ds_if (dt_cmp op_gt DL.sI0 (de_ix rfl (dv 0) de_int) de_int) (dss_cons (ds_set (i := 3) sc__law_take.nd rfl (.inl rfl) (de_op op_mod DL.sI (de_ix rfl (dv 0) de_int) (dv 1)))
      (dss_cons (ds_asg (de_op op_fdiv DL.sI (de_ix rfl (dv 0) de_int) (dv 1)) (dg_sub (E := EF) (vs := []) (dv 0) de_int))
      (dss_one (ds_ret (dv 3))))) dss_nil)
      (dss_one (ds_ret (de_op op_mod DL.sI (de_op op_fdiv DL.sI (de_ix rfl (dv 0) de_int) de_int) (dv 1)))))))), ?_⟩
  intro ds μ QD QX _ _ h
  refine .inr ?_
  obtain ⟨i, m, rfl, hm0, hm1, ⟨a, d, c, hp, h1, h2, h3, h4⟩, q⟩ := h
  have hi : i < μ.length := (List.getElem?_eq_some_iff.mp hp).1
  have st : ∀ o : Ob, (μ.set i (some o))[i]? = some (some o) := fun o => List.getElem?_set_self hi
  have n0 : ∀ z : Int, 0 ≤ z % 1000000021 := fun z => Int.emod_nonneg _ (by decide)
  have n1 : ∀ z : Int, z % 1000000021 < 1000000021 := fun z => Int.emod_lt_of_pos _ (by decide)
  refine ⟨_, _, hp, rfl, ?_⟩
  refine ⟨i, _, 2, 2, rfl, rfl, hp, rfl, ?_⟩
  refine ⟨_, _, (st _), rfl, ?_⟩
  refine ⟨(by show (0 : Int) < 50021; decide), .inl ⟨by omega, by omega⟩, ?_⟩
  refine ⟨_, _, (st _), rfl, ?_⟩
  refine ⟨.inl ⟨by decide, by decide⟩, (by show (0 : Int) < 1000000021; decide), ?_⟩
  refine ⟨i, _, 0, 0, rfl, rfl, st _, rfl, ?_⟩
  rw [List.set_set]
  refine ⟨_, _, (st _), rfl, ?_⟩
  by_cases hd : 0 < d
  · refine iteY (c := decide (0 < d)) (decide_eq_true hd) ?_
    refine ⟨_, _, st _, rfl, hm0, ?_⟩
    refine ⟨_, _, st _, rfl, ⟨hm0, hm1⟩, i, _, 1, 1, rfl, rfl, st _, rfl, ?_⟩
    rw [List.set_set]
    exact q _ _ (Int.emod_nonneg _ (by omega)) (Int.emod_lt_of_pos _ hm0) ⟨⟨_, _, _, st _, n0 _, n1 _, Int.ediv_nonneg h3 (by omega), by omega⟩, _, rfl⟩
  · refine iteN (c := decide (0 < d)) (decide_eq_false hd) ?_
    refine ⟨_, _, st _, rfl, ⟨by decide, by decide⟩, hm0, ?_⟩
    exact q _ _ (Int.emod_nonneg _ (by omega)) (Int.emod_lt_of_pos _ hm0) ⟨⟨_, _, _, st _, n0 _, n1 _, h3, by omega⟩, _, rfl⟩
end
end Du

set_option Elab.async false
set_option linter.all false
set_option maxRecDepth 100000
namespace Du
open PySem L2 DL
/-- the law, told over data: given any script it answers True -/
def spLawD : SpD := fun ds μ Q _ => ∃ ns : List Int, ds = [.frz (ns.map V.int)] ∧ ∀ μ', Q (.v (.bl true)) μ'
def spLaw (K : PySem.W.Frag) : Sp := fun vs H Q _ => ∃ (a : Addr) (ns : List Int), vs = [.ref a] ∧ SqL K H a (ns.map V.int) ∧ ∀ H', Q (.bl true) H'
theorem lawD {P : Program} {w : World} {K : PySem.W.Frag} {mg : Str → Option Value} {base : Heap} {k : Nat} {f : Addr} {fd : FuncData} (F : FnD P w K mg base k f fd ["_law_script"] spLawD) (hr : Room k callerA) : LawOk P w K mg base f fd "_law_script" (spLaw K) := by
  intro s H u v Q e0 hb rv ⟨a, ns, hv, hS, q⟩
  cases hv
  refine codeAny_mono (F.run callerA [] s H ⟨[u], []⟩ [u] [.ref a] Q E0 hr e0 hb (.cons rv .nil) ⟨⟨[], fun _ => False⟩, [.frz (ns.map V.int)], [], fun d _ => d = .v (.bl true), fun _ _ => False, ?_, ?_, ⟨ns, rfl, fun _ => rfl⟩, ?_⟩) fun r s' hq => ?_
  · exact ⟨List.nodup_nil, rfl, fun i o a e => by simp at e, fun a h => absurd h (by simp), fun a h => h.elim⟩
  · refine ⟨.ref a, [], rfl, ⟨a, rfl, hS, .inr fun h => ?_⟩, rfl⟩
    unfold Live SLive at h
    simp at h
  · refine ⟨fun d μ' own' v H' x m r e => ?_, fun x μ' own' c dd H' _ _ _ z => z.elim⟩
    subst e
    cases r
    exact q H'
  · match r, hq with
    | .error e, hq =>
      obtain ⟨_, _, _, _, _, _, _, _, _, _, _, _, z⟩ := hq
      exact z.elim
    | .ok (.ret u), hq => exact hq
    | .ok .next, hq => exact hq.elim
    | .ok .brk, hq => exact hq.elim
    | .ok .cont, hq => exact hq.elim
end Du

set_option Elab.async false
set_option linter.all false
set_option maxRecDepth 100000
namespace Du
open PySem L2 DL
theorem Pu.refl {i : Nat} {μ : Store} (h : PurseD μ i) : Pu i μ μ := by
  obtain ⟨a, d, c, e, _⟩ := id h
  refine ⟨h, purseO a d c, ?_⟩
  apply List.ext_getElem?
  intro j
  by_cases hj : i = j
  · subst hj
    rw [List.getElem?_set_self (List.getElem?_eq_some_iff.mp e).1, e]
  · rw [List.getElem?_set_ne hj]
theorem step_ofD {r : Int} (h0 : 0 ≤ r) (h1 : r < 4) : ∃ s : Int, Stp s ∧ atI [D.v (.int 1), D.v (.int 5), D.v (.int 7), D.v (.int 11)] r = some (D.v (.int s)) := by
  have h : r = 0 ∨ r = 1 ∨ r = 2 ∨ r = 3 := by omega
  rcases h with rfl | rfl | rfl | rfl
  · exact ⟨1, .inl rfl, rfl⟩
  · exact ⟨5, .inr (.inl rfl), rfl⟩
  · exact ⟨7, .inr (.inr (.inl rfl)), rfl⟩
  · exact ⟨11, .inr (.inr (.inr rfl)), rfl⟩
theorem stp_small {s : Int} (h : Stp s) : -18446744073709551616 < s ∧ s < 18446744073709551616 := by
  rcases h with rfl | rfl | rfl | rfl <;> decide
theorem rgD_mem {a c : Int} {n : Nat} {d : D} (h : d ∈ rgD a n c) : ∃ i : Nat, i < n ∧ d = .v (.int (a + (i : Int) * c)) := by
  obtain ⟨i, hi⟩ := List.getElem?_of_mem h
  exact ⟨i, rgD_at hi⟩
theorem rg0_mem {n : Nat} {d : D} (h : d ∈ rgD 0 n 1) : ∃ i : Nat, i < n ∧ d = .v (.int (i : Int)) := by
  obtain ⟨i, hi, e⟩ := rgD_mem h
  exact ⟨i, hi, by rw [e]; congr 2; omega⟩
theorem rg0_map (f : Nat → D) (g : D → D) (h : ∀ k : Nat, g (.v (.int (k : Int))) = f k) (n : Nat) : ([] : List D) ++ (rgD 0 n 1).map g = (List.range n).map f := by
  unfold rgD
  rw [List.nil_append, List.map_map]
  refine List.map_congr_left fun k _ => ?_
  show g (.v (.int (0 + (k : Int) * 1))) = f k
  rw [show (0 + (k : Int) * 1) = (k : Int) by omega]
  exact h k
theorem nat_intD (k : Nat) : (intD (.v (.int (k : Int)))).toNat = k := by
  show ((k : Int)).toNat = k
  omega
def one1 (c : Nat) : Str := ⟨#[c]⟩
theorem ones_sum : ∀ l : List Nat, ((l.map one1).map (·.length)).sum = l.length
  | [] => rfl
  | c :: r => by
    rw [List.map_cons, List.map_cons, List.sum_cons, ones_sum r, List.length_cons]
    show 1 + r.length = r.length + 1
    omega
theorem rgD_len {a c : Int} {n : Nat} : (rgD a n c).length = n := by
  unfold rgD
  rw [List.length_map, List.length_range]
section
variable {P : Program} {w : World} {K : PySem.W.Frag} {mg : Str → Option Value} {base : Heap}
abbrev s__law_words : Stmt := topS 37
abbrev n__law_words : List Str := ["_law_purse_here", "_law_many", "_law_own", "_law_spot", "_law_step", "_law_letters", "_law_stem", "_law_cut", "_law_begin", "_law_k"]
abbrev p__law_words : List Str := ["_law_purse_here", "_law_many"]
theorem sc__law_words : FnScope n__law_words p__law_words (defScope s__law_words) := ⟨rfl, rfl, rfl, by decide +kernel, rfl, by decide +kernel, by decide +kernel⟩
def spWordsD : SpD := fun ds μ Q _ => ∃ (i m : Nat), ds = [.loc i, .v (.int m)] ∧ m ≤ 12 ∧ PurseD μ i ∧ ∀ (ws : List Str) (μ' : Store), ws.length = m → ws.Nodup → (∀ z ∈ ws, isNm z = true) → Pu i μ μ' → Q (.lst (ws.map fun z => .v (.str z))) μ'
set_option maxHeartbeats 2000000 in
theorem okd_words {f : Addr} {fd : FuncData} (F : Fun K "_law_words" "_law_words" s__law_words f fd) (B : Blt mg) (D__law_take : DnP P w K mg base 1 "_law_take" p__law_take 2 spTakeD) : FnD P w K mg base 2 f fd p__law_words spWordsD := by
  refine okD F sc__law_words (fun ds μ QD QX h => by obtain ⟨i, m, rfl, _⟩ := h; rfl) fun cdv A outer s H E hr => ?_
  have hr0 : Room 0 _ := hr.mono (by decide); have hr1 : Room 1 _ := hr.mono (by decide)
  refine ⟨_, (dss_cons (ds_set (i := 2) sc__law_words.nd rfl (.inr rfl) (de_lst false (da_cons de_str (da_cons de_str (da_cons de_str (da_cons de_str (da_cons de_str (da_cons de_str (da_cons de_str (da_cons de_str (da_cons de_str (da_cons de_str (da_cons de_str (da_cons de_str da_nil))))))))))))))
      (dss_cons (ds_asg (de_tup (da_cons (de_call D__law_take rfl hr1 tkD (by rfl) (da_cons (dv 0) (da_cons de_int da_nil)) dk_nil) (da_cons (de_ix rfl (de_lst false (da_cons de_int (da_cons de_int (da_cons de_int (da_cons de_int da_nil))))) (de_call D__law_take rfl hr1 tkD (by rfl) (da_cons (dv 0) (da_cons de_int da_nil)) dk_nil)) da_nil))) (dg_tup (n := 2) rfl rfl (dgs_cons (dg_name (i := 3) sc__law_words.nd rfl (Or.inr rfl)) (dgs_cons (dg_name (i := 4) sc__law_words.nd rfl (Or.inr rfl)) dgs_nil))))
      (dss_cons (ds_if (dt_cmp (op_eqA hr0.units) DL.sEq (de_call D__law_take rfl hr1 tkD (by rfl) (da_cons (dv 0) (da_cons de_int da_nil)) dk_nil) de_int) (dss_one (ds_ret (de_lc (own := [("_law_k", 9)]) (ws := [9]) rfl sc__law_words.nd (blkOk_by (N := n__law_words) (sc := defScope s__law_words) (by decide +kernel)) (di_range1 (by rfl) B.range (da_cons (dv 1) da_nil)) (by decide) (fun _ _ _ _ _ => (dg_name (i := 9) sc__law_words.nd rfl (Or.inl rfl))) (fun _ _ _ _ _ => dpts_nil) (fun _ _ _ _ _ => (de_ix rfl (dv 2) (de_op op_mod DL.sI (de_op op_addA (DL.sAdd (b := false)) (dv 3) (de_op op_mul DL.sI (dv 4) (dv 9))) de_int)))))) dss_nil)
      (dss_cons (ds_set (i := 5) sc__law_words.nd rfl (.inr rfl) de_str)
      (dss_cons (ds_set (i := 6) sc__law_words.nd rfl (.inr rfl) (de_join rfl de_str (de_lc (own := [("_law_k", 9)]) (ws := [9]) rfl sc__law_words.nd (blkOk_by (N := n__law_words) (sc := defScope s__law_words) (by decide +kernel)) (di_range1 (by rfl) B.range (da_cons (de_call D__law_take rfl hr1 tkD (by rfl) (da_cons (dv 0) (da_cons de_int da_nil)) dk_nil) da_nil)) (by decide) (fun _ _ _ _ _ => (dg_name (i := 9) sc__law_words.nd rfl (Or.inl rfl))) (fun _ _ _ _ _ => dpts_nil) (fun _ _ _ _ _ => (de_ix rfl (dv 5) (de_call D__law_take rfl hr1 tkF (by rfl) (da_cons (dv 0) (da_cons de_int da_nil)) dk_nil))))))
      (dss_cons (ds_asg (de_tup (da_cons (de_call D__law_take rfl hr1 tkD (by rfl) (da_cons (dv 0) (da_cons (de_op op_addA (DL.sAdd (b := false)) (de_cb call_len DL.sLen (by rfl) B.len (by decide +kernel) (da_cons (dv 6) da_nil)) de_int) da_nil)) dk_nil) (da_cons (de_call D__law_take rfl hr1 tkD (by rfl) (da_cons (dv 0) (da_cons de_int da_nil)) dk_nil) da_nil))) (dg_tup (n := 2) rfl rfl (dgs_cons (dg_name (i := 7) sc__law_words.nd rfl (Or.inr rfl)) (dgs_cons (dg_name (i := 8) sc__law_words.nd rfl (Or.inr rfl)) dgs_nil))))
      (dss_one (ds_ret (de_lc (own := [("_law_k", 9)]) (ws := [9]) rfl sc__law_words.nd (blkOk_by (N := n__law_words) (sc := defScope s__law_words) (by decide +kernel)) (di_range1 (by rfl) B.range (da_cons (dv 1) da_nil)) (by decide) (fun _ _ _ _ _ => (dg_name (i := 9) sc__law_words.nd rfl (Or.inl rfl))) (fun _ _ _ _ _ => dpts_nil) (fun _ _ _ _ _ => (de_op op_addA (DL.sAdd (b := false)) (de_op op_addA (DL.sAdd (b := false)) (de_slice false rfl (dv 6) do_none (do_some (dv 7))) (de_ix rfl (dv 5) (de_op op_mod DL.sI (de_op op_addA (DL.sAdd (b := false)) (dv 8) (de_op op_mul DL.sI (dv 4) (dv 9))) de_int))) (de_slice false rfl (dv 6) (do_some (dv 7)) do_none)))))))))))), ?_⟩
  intro ds μ QD QX _ _ h
  refine .inr ?_
  obtain ⟨i, m, rfl, hm, hp, q⟩ := h
  refine ⟨i, 12, rfl, by decide, by decide, hp, fun r0 μ0 a0 b0 p0 => ?_⟩
  refine ⟨i, 4, rfl, by decide, by decide, p0.purse, fun r1 μ1 a1 b1 p1 => ?_⟩
  obtain ⟨step, hst, hat⟩ := step_ofD a1 b1
  refine ⟨_, hat, ?_⟩
  refine ⟨i, 4, rfl, by decide, by decide, p1.purse, fun r2 μ2 a2 b2 p2 => ?_⟩
  have p02 := (p0.trans p1).trans p2
  refine ite2 (fun _ => ?_) (fun _ => ?_)
  · refine ⟨⟨by omega, by omega⟩, ?_⟩
    refine comp_map (fun d => .v (.str (w1 r0 step (intD d).toNat))) _ [] (fun d hd R hR => ?_) (by show 0 + (rgD _ _ _).length ≤ sizeLine; rw [rgD_len]; exact Nat.le_trans (show _ ≤ 12 by omega) (by decide)) ?_
    · obtain ⟨k, hk, rfl⟩ := rg0_mem hd
      rw [nat_intD] at hR
      refine ⟨.inl (stp_small hst), (by show (0 : Int) < 12; decide), ?_⟩
      have h0 : (ownW.map fun z => D.v (.str z))[ix 12 r0 step k]? = some (D.v (.str (w1 r0 step k))) := by rw [List.getElem?_map, w1_at]; rfl
      have h1 := at_ofD h0
      rw [(ix_lt (n := 12) (spot := r0) (step := step) (k := k) (by decide)).2] at h1
      exact ⟨_, h1, hR⟩
    · rw [rg0_map (fun k => .v (.str (w1 r0 step k))) _ (fun k => by rw [nat_intD]), show ((m : Nat) : Int).toNat = m by omega]
      have q := q ((List.range m).map (w1 r0 step)) μ2 (by rw [List.length_map, List.length_range]) (w1_nodup hst hm) (fun z hz => by
        obtain ⟨k, _, rfl⟩ := List.mem_map.mp hz
        exact w1_nm r0 step k) p02
      rw [List.map_map] at q
      exact q
  · refine ⟨_, rfl, i, 8, rfl, by decide, by decide, p2.purse, fun r3 μ3 a3 b3 p3 => ⟨⟨by omega, by omega⟩, ?_⟩⟩
    refine comp_inv (fun j acc μ' => Pu i μ3 μ' ∧ ∃ cs : List Nat, cs.length = j ∧ allL cs ∧ acc = (cs.map one1).map fun z => .v (.str z)) ⟨Pu.refl p3.purse, [], rfl, (fun c h => absurd h (by simp)), rfl⟩ (by rw [rgD_len]; exact Nat.le_trans (show _ ≤ 8 by omega) (by decide)) (fun j acc μ' h => by obtain ⟨_, cs, hc, _, rfl⟩ := h; rw [List.length_map, List.length_map, hc]) ?_ ?_ ?_
    · rintro j d acc μ' hd ⟨pu, cs, hc, ha, rfl⟩
      refine ⟨i, 26, rfl, by decide, by decide, pu.purse, fun r4 μ4 a4 b4 p4 => ?_⟩
      have hk : r4.toNat < letters.cps.toList.length := by
        rw [letters_len]
        omega
      have hat2 := List.getElem?_eq_getElem hk
      refine ⟨letters.cps.toList[r4.toNat], by decide +kernel, at_nat (j := r4.toNat) (by omega) hat2, pu.trans p4, cs ++ [letters.cps.toList[r4.toNat]], ?_, ?_, ?_⟩
      · rw [List.length_append, hc]
        rfl
      · intro c hcc
        rcases List.mem_append.mp hcc with z | z
        · exact ha c z
        · rw [List.mem_singleton.mp z]
          exact letter_is hat2
      · rw [List.map_append, List.map_append]
        rfl
    · intro d μ' R R' hR ⟨i', m', e1, e2, e3, e4, h⟩
      refine ⟨i', m', e1, e2, e3, e4, fun r μ4 x y z => ?_⟩
      obtain ⟨c, h1, h2, h3⟩ := h r μ4 x y z
      exact ⟨c, h1, h2, hR _ _ h3⟩
    · rintro acc μ' ⟨pu, cs, hc, ha, rfl⟩
      rw [rgD_len] at hc
      have hcs : cs.length ≤ 7 := by omega
      refine ⟨_, cs.map one1, rfl, strsD_map _, ?_, ?_⟩
      · rw [ones_sum, List.length_map]
        show cs.length + cs.length * 0 ≤ 16777216
        omega
      have ej : Txt.join "" (cs.map one1) = ofL cs := (TL.join_eq _ _).trans (join_ones cs)
      rw [ej]
      have hz : (ofL cs).length ≤ sizeLine := by rw [ofL_len]; exact Nat.le_trans hcs (by decide)
      refine ⟨hz, i, _, rfl, by omega, by rw [ofL_len]; omega, pu.purse, fun r5 μ5 a5 b5 p5 => ?_⟩
      rw [ofL_len] at b5
      refine ⟨i, 26, rfl, by decide, by decide, p5.purse, fun r6 μ6 a6 b6 p6 => ?_⟩
      obtain ⟨cu, rfl⟩ : ∃ cu : Nat, r5 = (cu : Int) := ⟨r5.toNat, by omega⟩
      have hcu : cu ≤ cs.length := by omega
      refine ⟨⟨by omega, by omega⟩, ?_⟩
      refine comp_map (fun d => .v (.str (w2 cs cu r6 step (intD d).toNat))) _ [] (fun d hd R hR => ?_) (by show 0 + (rgD _ _ _).length ≤ sizeLine; rw [rgD_len]; exact Nat.le_trans (show _ ≤ 12 by omega) (by decide)) ?_
      · obtain ⟨k, hk, rfl⟩ := rg0_mem hd
        rw [nat_intD] at hR
        have hix := (ix_lt (n := 26) (spot := r6) (step := step) (k := k) (by decide)).2
        have hw : cutS (ofL cs) none (some (cu : Int)) ++ ofL [letterAt r6 step k] ++ cutS (ofL cs) (some (cu : Int)) none = w2 cs cu r6 step k := by
          rw [cutS_to cs cu hcu, cutS_from cs cu hcu, app_ofL, app_ofL]
          rfl
        refine ⟨hz, .inl (stp_small hst), (by show (0 : Int) < 26; decide), letterAt r6 step k, by decide +kernel, at_nat (j := ix 26 r6 step k) hix.symm (letter_at r6 step k), ?_, hz, ?_, ?_⟩
        · rw [cutS_to cs cu hcu, ofL_len, List.length_take]
          show min cu cs.length + 1 ≤ sizeLine
          exact Nat.le_trans (show _ ≤ 8 by omega) (by decide)
        · rw [cutS_to cs cu hcu, cutS_from cs cu hcu, show (⟨#[letterAt r6 step k]⟩ : Str) = ofL [letterAt r6 step k] from rfl, app_ofL, ofL_len, ofL_len, List.length_append, List.length_take, List.length_drop]
          show min cu cs.length + 1 + (cs.length - cu) ≤ sizeLine
          exact Nat.le_trans (show _ ≤ 8 by omega) (by decide)
        · show R (.v (.str (cutS (ofL cs) none (some (cu : Int)) ++ ofL [letterAt r6 step k] ++ cutS (ofL cs) (some (cu : Int)) none))) μ6
          rw [hw]
          exact hR
      · rw [rg0_map (fun k => .v (.str (w2 cs cu r6 step k))) _ (fun k => by rw [nat_intD]), show ((m : Nat) : Int).toNat = m by omega]
        have q := q ((List.range m).map (w2 cs cu r6 step)) μ6 (by rw [List.length_map, List.length_range]) (w2_nodup hst hm) (fun z hz => by
          obtain ⟨k, _, rfl⟩ := List.mem_map.mp hz
          exact w2_nm ha hcs) (p02.trans (p3.trans (pu.trans (p5.trans p6))))
        rw [List.map_map] at q
        exact q
end
end Du

set_option Elab.async false
set_option linter.all false
set_option maxRecDepth 100000
namespace Du
open PySem L2 DL
def hD (h : Hold) : D := .tup [.v (.str h.1), .v (.int h.2.1), .v (.int h.2.2)]
theorem purse_app {μ t : Store} {i : Nat} (h : PurseD μ i) : PurseD (μ ++ t) i := by
  obtain ⟨a, d, c, e, r⟩ := h
  exact ⟨a, d, c, by rw [List.getElem?_append_left (List.getElem?_eq_some_iff.mp e).1]; exact e, r⟩
theorem pu_app {μ t μ' : Store} {i : Nat} (hp : PurseD μ i) (h : Pu i (μ ++ t) μ') : ∃ μ1, μ' = μ1 ++ t ∧ Pu i μ μ1 ∧ μ1.length = μ.length := by
  obtain ⟨o, e⟩ := h.ex
  obtain ⟨a, d, c, e1, _⟩ := hp
  have hi : i < μ.length := (List.getElem?_eq_some_iff.mp e1).1
  rw [List.set_append_left _ _ hi] at e
  refine ⟨μ.set i (some o), e, ⟨?_, o, rfl⟩, List.length_set⟩
  obtain ⟨a, d, c, e2, r⟩ := h.purse
  rw [e, List.getElem?_append_left (by rw [List.length_set]; exact hi)] at e2
  exact ⟨a, d, c, e2, r⟩
theorem at_appN {μ : Store} {n : Nat} {o : Option Ob} (h : μ.length = n) : (μ ++ [o])[n]? = some o := by subst h; simp
theorem set_appN {μ : Store} {n : Nat} {o p : Option Ob} (h : μ.length = n) : (μ ++ [o]).set n p = μ ++ [p] := by subst h; simp
theorem take_appN {μ : Store} {n : Nat} {o : List (Option Ob)} (h : μ.length = n) : (μ ++ o).take n = μ := by subst h; exact List.take_left' rfl
theorem cl_hs {n : Nat} : ∀ hs : List Hold, Cls' n (hs.map hD)
  | [] => trivial
  | _ :: hs => ⟨⟨trivial, trivial, trivial, trivial⟩, cl_hs hs⟩
theorem pu_cls {n i : Nat} {μ μ' : Store} (c : ClS n μ) (h : Pu i μ μ') : ClS n μ' := by
  intro j o e
  obtain ⟨a, d, x, e2, _⟩ := h.purse
  by_cases hj : i = j
  · subst hj
    rw [e2] at e
    cases e
    exact ⟨trivial, trivial, trivial, trivial⟩
  · obtain ⟨p, ep⟩ := h.ex
    rw [ep, List.getElem?_set_ne hj] at e
    exact c j o e
section
variable {P : Program} {w : World} {K : PySem.W.Frag} {mg : Str → Option Value} {base : Heap}
abbrev s__law_holds : Stmt := topS 38
abbrev n__law_holds : List Str := ["_law_purse_here", "_law_cost", "_law_tools", "_law_found", "_law_tool", "_law_begin", "_law_size", "_law_rest"]
abbrev p__law_holds : List Str := ["_law_purse_here", "_law_cost", "_law_tools"]
theorem sc__law_holds : FnScope n__law_holds p__law_holds (defScope s__law_holds) := ⟨rfl, rfl, rfl, by decide +kernel, rfl, by decide +kernel, by decide +kernel⟩
def spHoldsLD : SpD := fun ds μ Q _ => ∃ (i : Nat) (c : Int) (ts : List Str), ds = [.loc i, .v (.int c), .lst (ts.map fun z => .v (.str z))] ∧ 1 ≤ c ∧ c ≤ 99 ∧ ts.length ≤ 60 ∧ ts.Nodup ∧ (∀ z ∈ ts, isNm z = true) ∧ PurseD μ i ∧ ∀ (hs : List Hold) (μ' : Store), Good hs c → (∀ h ∈ hs, h.1 ∈ ts) → Pu i μ μ' → Q (.tup (hs.map hD)) μ'
set_option maxHeartbeats 2000000 in
theorem okd_holdsL {f : Addr} {fd : FuncData} (F : Fun K "_law_holds" "_law_holds" s__law_holds f fd) (B : Blt mg) (D__law_take : DnP P w K mg base 1 "_law_take" p__law_take 2 spTakeD) : FnD P w K mg base 2 f fd p__law_holds spHoldsLD := by
  refine okD F sc__law_holds (fun ds μ QD QX h => by obtain ⟨i, c, ts, rfl, _⟩ := h; rfl) fun cdv A outer s H E hr => ?_
  have hr0 : Room 0 _ := hr.mono (by decide); have hr1 : Room 1 _ := hr.mono (by decide)
  refine ⟨_, (dss_cons (ds_set (i := 3) sc__law_holds.nd rfl (.inl rfl) (de_lst true da_nil))
      (dss_cons (ds_for PassesOwn.leaving rfl (di_seq rfl (de_cb cr_sortedA (DL.sSorted (b := false)) (by rfl) B.sorted (by decide +kernel) (da_cons (dv 2) da_nil))) (dg_name (i := 4) sc__law_holds.nd rfl (Or.inl rfl)) (dss_one (ds_j (ds_if (dt_w (dw_and (dt_cmp op_ltA DL.sLt (de_cb call_len DL.sLen (by rfl) B.len (by decide +kernel) (da_cons (dv 3) da_nil)) de_int) (dw_and1 (dt_cmp op_gt DL.sI0 (de_call D__law_take rfl hr1 tkD (by rfl) (da_cons (dv 0) (da_cons de_int da_nil)) dk_nil) de_int)))) (dss_cons (ds_set (i := 5) sc__law_holds.nd rfl (.inl rfl) (de_call D__law_take rfl hr1 tkD (by rfl) (da_cons (dv 0) (da_cons (dv 1) da_nil)) dk_nil))
      (dss_cons (ds_set (i := 6) sc__law_holds.nd rfl (.inl rfl) (de_op op_addA (DL.sAdd (b := false)) de_int (de_call D__law_take rfl hr1 tkD (by rfl) (da_cons (dv 0) (da_cons (de_op op_sub DL.sI0 (dv 1) (dv 5)) da_nil)) dk_nil)))
      (dss_cons (ds_expr (de_append rfl (dv 3) (de_tup (da_cons (dv 4) (da_cons (dv 5) (da_cons (dv 6) da_nil))))))
      (dss_cons (ds_set (i := 7) sc__law_holds.nd rfl (.inl rfl) (de_op op_addA (DL.sAdd (b := false)) (dv 5) (dv 6)))
      (dss_one (ds_j (ds_if (dt_w (dw_and (dt_cmp op_ltA DL.sLt (de_cb call_len DL.sLen (by rfl) B.len (by decide +kernel) (da_cons (dv 3) da_nil)) de_int) (dw_and (dt_cmp op_ltA DL.sLt (dv 7) (dv 1)) (dw_and1 (dt_cmp (op_eqA hr0.units) DL.sEq (de_call D__law_take rfl hr1 tkD (by rfl) (da_cons (dv 0) (da_cons de_int da_nil)) dk_nil) de_int))))) (dss_cons (ds_set (i := 5) sc__law_holds.nd rfl (.inl rfl) (de_op op_addA (DL.sAdd (b := false)) (dv 7) (de_ix rfl (de_lst false (da_cons de_int (da_cons (de_call D__law_take rfl hr1 tkD (by rfl) (da_cons (dv 0) (da_cons (de_op op_sub DL.sI0 (dv 1) (dv 7)) da_nil)) dk_nil) da_nil))) (de_call D__law_take rfl hr1 tkD (by rfl) (da_cons (dv 0) (da_cons de_int da_nil)) dk_nil))))
      (dss_one (ds_expr (de_append rfl (dv 3) (de_tup (da_cons (dv 4) (da_cons (dv 5) (da_cons (de_op op_addA (DL.sAdd (b := false)) de_int (de_call D__law_take rfl hr1 tkD (by rfl) (da_cons (dv 0) (da_cons (de_op op_sub DL.sI0 (dv 1) (dv 5)) da_nil)) dk_nil)) da_nil)))))))) dss_nil))))))) dss_nil))))
      (dss_frz 3 (dss_one (ds_ret (de_ct call_tuple_of DL.sTuple (by rfl) B.tuple (by decide +kernel) (da_cons (dv 3) da_nil))))))), ?_⟩
  intro ds μ QD QX cl cm h
  refine .inl ?_
  obtain ⟨i, c, ts, rfl, hc1, hc2, htl, hnd, hnm, hp, q⟩ := h
  refine ⟨_, _, rfl, rfl, by rw [List.length_map]; omega, .inr ⟨ts, strsD_map ts, fun ys hperm hsort => ?_⟩⟩
  have hys : ∀ z ∈ ys, z ∈ ts := fun z hz => hperm.mem_iff.mp hz
  have pw := sorted_pw hsort (hperm.nodup_iff.mpr hnd)
  refine loop_inv (fun j σ μ' => ∃ (hs : List Hold) (μx : Store) (v4 v5 v6 v7 : Option D), σ = [some (.loc i), some (.v (.int c)), some (.lst (ts.map fun z => .v (.str z))), some (.loc μ.length), v4, v5, v6, v7] ∧ μ' = μx ++ [some (.lst (hs.map hD))] ∧ Pu i μ μx ∧ μx.length = μ.length ∧ Good hs c ∧ ∀ g ∈ hs, g.1 ∈ ys.take j)
    ⟨[], μ, none, none, none, none, rfl, rfl, Pu.refl hp, rfl, Good.nil c, by simp⟩ ?_ ?_
  · rintro j y σ μ' nx hi ⟨hs, μx, v4, v5, v6, v7, rfl, rfl, pu, hl, gd, hin⟩ hn
    obtain ⟨tool, hty, rfl⟩ : ∃ z, ys[j]? = some z ∧ y = .v (.str z) := by
      rw [List.getElem?_map] at hi
      cases e : ys[j]? with
      | none => rw [e] at hi; cases hi
      | some z => rw [e] at hi; exact ⟨z, rfl, (Option.some.inj hi).symm⟩
    have htn : isNm tool = true := hnm _ (hys _ (List.mem_of_getElem? hty))
    have hmono : ∀ g ∈ hs, g.1 ∈ ys.take (j + 1) := fun g hg => by
      rw [List.take_add_one]
      exact List.mem_append_left _ (hin g hg)
    have hself : tool ∈ ys.take (j + 1) := by
      rw [List.take_add_one, hty]
      exact List.mem_append_right _ (by simp)
    refine ⟨_, ?_, hn⟩
    refine ⟨_, at_appN hl, ?_⟩
    by_cases h4 : hs.length < 4
    · refine iteY (c := decide (((hs.map hD).length : Int) < 4)) (decide_eq_true (by rw [List.length_map]; omega)) ?_
      refine ⟨i, 3, rfl, by decide, by decide, purse_app pu.purse, fun r1 μ2 _ _ p1 => ?_⟩
      obtain ⟨μ1, rfl, q1, l1⟩ := pu_app pu.purse p1
      refine ite2 (fun _ => ?_) (fun _ => ⟨hs, μ1, _, _, _, _, rfl, rfl, pu.trans q1, l1.trans hl, gd, hmono⟩)
      refine ⟨i, c, rfl, by omega, by omega, purse_app q1.purse, fun b μ2 b0 b1 p2 => ?_⟩
      obtain ⟨μ3, rfl, q2, l2⟩ := pu_app q1.purse p2
      refine ⟨i, c - b, rfl, by omega, by omega, purse_app q2.purse, fun z μ4 z0 z1 p3 => ?_⟩
      obtain ⟨μ5, rfl, q3, l3⟩ := pu_app q2.purse p3
      have L5 : μ5.length = μ.length := l3.trans (l2.trans (l1.trans hl))
      have P5 := ((pu.trans q1).trans q2).trans q3
      refine ⟨μ.length, _, rfl, at_appN L5, _, at_appN L5, ?_, ?_⟩
      · rw [List.length_map]
        exact Nat.lt_of_lt_of_le h4 (by decide)
      rw [set_appN L5]
      have gd4 : Good (hs ++ [(tool, b, 1 + z)]) c := gd.add h4 (hd_of htn b0 (by omega) (by omega)) fun g hg => ahead_lt (pw_take pw (hin g (List.mem_of_getLast? hg)) hty)
      have hin4 : ∀ g ∈ hs ++ [(tool, b, 1 + z)], g.1 ∈ ys.take (j + 1) := fun g hg => by
        rcases List.mem_append.mp hg with y | y
        · exact hmono g y
        · rw [List.mem_singleton.mp y]
          exact hself
      have em : ∀ (hs : List Hold) (h : Hold), hs.map hD ++ [hD h] = (hs ++ [h]).map hD := fun hs h => by rw [List.map_append]; rfl
      have em4 : hs.map hD ++ [.tup [.v (.str tool), .v (.int b), .v (.int (1 + z))]] = (hs ++ [(tool, b, 1 + z)]).map hD := em hs (tool, b, 1 + z)
      refine ⟨_, ?_, fun _ _ h => h⟩
      rw [em4]
      refine ⟨_, at_appN L5, ?_⟩
      by_cases h5 : (hs ++ [(tool, b, 1 + z)]).length < 4
      · refine iteY (c := decide ((((hs ++ [(tool, b, 1 + z)]).map hD).length : Int) < 4)) (decide_eq_true (by rw [List.length_map]; omega)) ?_
        refine ite2 (fun h6 => ?_) (fun _ => ⟨_, μ5, _, _, _, _, rfl, rfl, P5, L5, gd4, hin4⟩)
        have h6 : b + (1 + z) < c := of_decide_eq_true h6
        refine ⟨i, 3, rfl, by decide, by decide, purse_app q3.purse, fun r2 μ6 _ _ p4 => ?_⟩
        obtain ⟨μ7, rfl, q4, l4⟩ := pu_app q3.purse p4
        refine ite2 (fun _ => ?_) (fun _ => ⟨_, μ7, _, _, _, _, rfl, rfl, P5.trans q4, l4.trans L5, gd4, hin4⟩)
        refine ⟨i, _, rfl, by omega, by omega, purse_app q4.purse, fun d μ8 d0 d1 p5 => ?_⟩
        obtain ⟨μ9, rfl, q5, l5⟩ := pu_app q4.purse p5
        refine ⟨i, 2, rfl, by decide, by decide, purse_app q5.purse, fun r3 μ10 t0 t1 p6 => ?_⟩
        obtain ⟨μ11, rfl, q6, l6⟩ := pu_app q5.purse p6
        obtain ⟨e, he, he0, he1⟩ : ∃ e : Int, atI [D.v (.int 0), D.v (.int d)] r3 = some (D.v (.int e)) ∧ 0 ≤ e ∧ b + (1 + z) + e < c := by
          have hr3 : r3 = 0 ∨ r3 = 1 := by omega
          rcases hr3 with rfl | rfl
          · exact ⟨0, rfl, Int.le_refl _, by omega⟩
          · exact ⟨d, rfl, d0, by omega⟩
        refine ⟨_, he, ?_⟩
        have L11 : μ11.length = μ.length := l6.trans (l5.trans (l4.trans L5))
        refine ⟨μ.length, _, rfl, at_appN L11, i, _, rfl, by omega, by omega, purse_app q6.purse, fun y μ12 y0 y1 p7 => ?_⟩
        obtain ⟨μ13, rfl, q7, l7⟩ := pu_app q6.purse p7
        have L13 : μ13.length = μ.length := l7.trans L11
        refine ⟨_, at_appN L13, ?_, ?_⟩
        · rw [List.length_map]
          exact Nat.lt_of_lt_of_le h5 (by decide)
        rw [set_appN L13]
        refine ⟨hs ++ [(tool, b, 1 + z)] ++ [(tool, b + (1 + z) + e, 1 + y)], μ13, _, _, _, _, rfl, ?_, (((P5.trans q4).trans q5).trans q6).trans q7, L13, gd4.add h5 (hd_of htn (by omega) (by omega) (by omega)) fun g hg => ?_, fun g hg => ?_⟩
        · show μ13 ++ [some (.lst ((hs ++ [(tool, b, 1 + z)]).map hD ++ [hD (tool, b + (1 + z) + e, 1 + y)]))] = _
          rw [em]
        · rw [List.getLast?_append] at hg
          have eg : g = (tool, b, 1 + z) := by simpa using hg.symm
          rw [eg]
          exact ahead_same rfl (by show b + (1 + z) ≤ b + (1 + z) + e; omega)
        · rcases List.mem_append.mp hg with y | y
          · exact hin4 g y
          · rw [List.mem_singleton.mp y]
            exact hself
      · exact iteN (c := decide ((((hs ++ [(tool, b, 1 + z)]).map hD).length : Int) < 4)) (decide_eq_false (by rw [List.length_map]; omega)) ⟨_, μ5, _, _, _, _, rfl, rfl, P5, L5, gd4, hin4⟩
    · exact iteN (c := decide (((hs.map hD).length : Int) < 4)) (decide_eq_false (by rw [List.length_map]; omega)) ⟨hs, μx, _, _, _, _, rfl, rfl, pu, hl, gd, hmono⟩
  · rintro σ μ' ⟨hs, μx, v4, v5, v6, v7, rfl, rfl, pu, hl, gd, hin⟩
    refine ⟨_, _, rfl, at_appN hl, _, rfl, ?_⟩
    rw [set_appN hl]
    show Cls' μ.length (hs.map hD) ∧ ClS μ.length ((μx ++ [none]).take μ.length) ∧ QD (.tup (hs.map hD)) ((μx ++ [none]).take μ.length)
    rw [take_appN hl]
    exact ⟨cl_hs hs, pu_cls cm pu, q hs μx gd (fun g hg => hys _ (List.mem_of_mem_take (hin g hg))) pu⟩
end
end Du

set_option Elab.async false
set_option linter.all false
set_option maxRecDepth 100000
namespace Du
open PySem L2 DL
theorem pick {L : List Int} {r : Int} (h0 : 0 ≤ r) (h1 : r < (L.length : Int)) : ∃ g, atI (L.map fun i => D.v (.int i)) r = some (D.v (.int g)) ∧ g ∈ L := by
  obtain ⟨n, rfl⟩ : ∃ n : Nat, r = (n : Int) := ⟨r.toNat, by omega⟩
  have hn : n < L.length := by omega
  exact ⟨L[n], at_ofD (by rw [List.getElem?_map, List.getElem?_eq_getElem hn]; rfl), List.getElem_mem hn⟩
theorem toPys_strs : ∀ l : List Str, toPys (l.map fun z => D.v (.str z)) = some (l.map PyData.str)
  | [] => rfl
  | z :: l => by
    rw [List.map_cons, toPys, toPys_strs l]
    rfl
theorem namesD_can : ∀ l : List Str, (∀ z ∈ l, isNm z = true) → PyData.canLayAll0 (l.map .str) = true
  | [], _ => by simp [PyData.canLayAll0]
  | z :: l, h => by
    show (PyData.strOk z && PyData.canLayAll0 (l.map .str)) = true
    rw [nm_strOk (h z (by simp)), namesD_can l fun y hy => h y (by simp [hy])]
    rfl
theorem namesD_depth : ∀ l : List Str, PyData.depthAll (l.map .str) = 0
  | [] => by simp [PyData.depthAll]
  | z :: l => by
    simp only [List.map_cons, PyData.depthAll, namesD_depth l, PyData.depth]
    rfl
theorem lnamesD_shaped {l : List Str} (h : ∀ z ∈ l, isNm z = true) : SeqAt.shaped (.list (l.map .str)) = true := by
  unfold SeqAt.shaped
  have a : PyData.canLay0 (.list (l.map .str)) = true := by
    show PyData.canLayAll0 (l.map .str) = true
    exact namesD_can l h
  have b : PyData.depth (.list (l.map .str)) ≤ 64 := by
    show PyData.depthAll (l.map .str) + 1 ≤ 64
    rw [namesD_depth]
    decide
  rw [a, decide_eq_true b]
  rfl
/-- a row of a task -/
structure RowT (n : Str) (c g d : Int) (hs : List Hold) : Prop where
  nm : isNm n = true
  c1 : 1 ≤ c
  c2 : c ≤ 9
  cg : c ≤ g
  g1 : 1 ≤ g
  g2 : g ≤ 60
  d1 : 1 ≤ d
  d2 : d ≤ g
  dv : g ∣ 60
  ok : Good hs c
def rowT (n : Str) (c g d : Int) (hs : List Hold) : D := .tup [.v (.str "task"), .v (.str n), .v (.int c), .v (.int g), .v (.int d), .tup (hs.map hD)]
structure RowD (n : Str) (r g : Int) : Prop where
  nm : isNm n = true
  r1 : 1 ≤ r
  r2 : r ≤ 6
  g1 : 3 ≤ g
  g2 : g ≤ 30
  dv : g ∣ 60
def rowD (n : Str) (r g : Int) : D := .tup [.v (.str "door"), .v (.str n), .v (.int r), .v (.int g)]
section
variable {P : Program} {w : World} {K : PySem.W.Frag} {mg : Str → Option Value} {base : Heap}
abbrev s__law_door : Stmt := topS 40
abbrev n__law_door : List Str := ["_law_purse_here", "_law_label", "_law_many", "_law_gap", "_law_top"]
abbrev p__law_door : List Str := ["_law_purse_here", "_law_label", "_law_many"]
theorem sc__law_door : FnScope n__law_door p__law_door (defScope s__law_door) := ⟨rfl, rfl, rfl, by decide +kernel, rfl, by decide +kernel, by decide +kernel⟩
def spDoorLD : SpD := fun ds μ Q _ => ∃ (i : Nat) (n : Str) (m : Int), ds = [.loc i, .v (.str n), .v (.int m)] ∧ isNm n = true ∧ 1 ≤ m ∧ m ≤ 100 ∧ PurseD μ i ∧ ∀ (r g : Int) (μ' : Store), RowD n r g → Pu i μ μ' → Q (rowD n r g) μ'
theorem okd_doorL {f : Addr} {fd : FuncData} (F : Fun K "_law_door" "_law_door" s__law_door f fd) (B : Blt mg) (D__law_take : DnP P w K mg base 1 "_law_take" p__law_take 2 spTakeD) : FnD P w K mg base 2 f fd p__law_door spDoorLD := by
  refine okD F sc__law_door (fun ds μ QD QX h => by obtain ⟨i, n, m, rfl, _⟩ := h; rfl) fun cdv A outer s H E hr => ?_
  have hr0 : Room 0 _ := hr.mono (by decide); have hr1 : Room 1 _ := hr.mono (by decide)
  refine ⟨_, (dss_cons (ds_set (i := 3) sc__law_door.nd rfl (.inl rfl) (de_ix rfl (de_lst false (da_cons de_int (da_cons de_int (da_cons de_int (da_cons de_int (da_cons de_int (da_cons de_int (da_cons de_int (da_cons de_int (da_cons de_int da_nil)))))))))) (de_call D__law_take rfl hr1 tkD (by rfl) (da_cons (dv 0) (da_cons de_int da_nil)) dk_nil)))
      (dss_cons (ds_set (i := 4) sc__law_door.nd rfl (.inl rfl) (de_ix rfl (de_lst false (da_cons (de_cb (cr_maxA rfl) DL.sMax (by rfl) B.max (by decide +kernel) (da_cons de_int (da_cons (de_op op_fdiv DL.sI (dv 3) (dv 2)) da_nil))) (da_cons (dv 3) da_nil))) (de_ct call_int1 DL.sInt (by rfl) B.int (by decide +kernel) (da_cons (de_cmp (op_eqA hr0.units) DL.sEq (de_call D__law_take rfl hr1 tkD (by rfl) (da_cons (dv 0) (da_cons de_int da_nil)) dk_nil) de_int) da_nil))))
      (dss_one (ds_ret (de_tup (da_cons de_str (da_cons (dv 1) (da_cons (de_op op_addA (DL.sAdd (b := false)) de_int (de_call D__law_take rfl hr1 tkD (by rfl) (da_cons (dv 0) (da_cons (de_cb (cr_minA rfl) DL.sMin (by rfl) B.min (by decide +kernel) (da_cons de_int (da_cons (dv 4) da_nil))) da_nil)) dk_nil)) (da_cons (dv 3) da_nil))))))))), ?_⟩
  intro ds μ QD QX cl cm h
  refine .inr ?_
  obtain ⟨i, n, m, rfl, hn, hm1, hm2, hp, q⟩ := h
  refine ⟨i, 9, rfl, by decide, by decide, hp, fun r0 μ0 a0 b0 p0 => ?_⟩
  obtain ⟨g, hg, hgm⟩ := pick (L := [3, 4, 5, 6, 10, 12, 15, 20, 30]) a0 b0
  have dv : g ∣ 60 := by
    simp only [List.mem_cons, List.not_mem_nil, or_false] at hgm
    rcases hgm with rfl | rfl | rfl | rfl | rfl | rfl | rfl | rfl | rfl <;> decide
  have g3 : 3 ≤ g ∧ g ≤ 30 := by
    simp only [List.mem_cons, List.not_mem_nil, or_false] at hgm
    omega
  refine ⟨_, hg, ?_⟩
  refine ⟨⟨by omega, by omega⟩, i, 5, rfl, by decide, by decide, p0.purse, fun r1 μ1 _ _ p1 => ?_⟩
  obtain ⟨top, ht, htm⟩ := pick (L := [if g / m > 1 then g / m else 1, g]) (r := if decide (r1 = 1) = true then 1 else 0) (by split <;> decide) (by show _ < (2 : Int); split <;> decide)
  have t1 : 1 ≤ top := by
    simp only [List.mem_cons, List.not_mem_nil, or_false] at htm
    rcases htm with rfl | rfl
    · split <;> omega
    · omega
  refine ⟨_, ht, ?_⟩
  have e6 : (if top < 6 then top else 6) ≤ 6 ∧ 1 ≤ (if top < 6 then top else 6) := by split <;> omega
  refine ⟨i, _, rfl, Int.lt_of_lt_of_le Int.zero_lt_one e6.2, Int.lt_of_le_of_lt e6.1 (by decide), p1.purse, fun r2 μ2 a2 b2 p2 => ?_⟩
  exact q (1 + r2) g μ2 ⟨hn, by omega, by omega, g3.1, g3.2, dv⟩ ((p0.trans p1).trans p2)
abbrev s__law_task : Stmt := topS 39
abbrev n__law_task : List Str := ["_law_purse_here", "_law_label", "_law_many", "_law_tools", "_law_gap", "_law_top", "_law_cost", "_law_term", "_law_grips"]
abbrev p__law_task : List Str := ["_law_purse_here", "_law_label", "_law_many", "_law_tools"]
theorem sc__law_task : FnScope n__law_task p__law_task (defScope s__law_task) := ⟨rfl, rfl, rfl, by decide +kernel, rfl, by decide +kernel, by decide +kernel⟩
def spTaskLD : SpD := fun ds μ Q _ => ∃ (i : Nat) (n : Str) (m : Int) (ts : List Str), ds = [.loc i, .v (.str n), .v (.int m), .lst (ts.map fun z => .v (.str z))] ∧ isNm n = true ∧ 1 ≤ m ∧ m ≤ 100 ∧ ts.length ≤ 60 ∧ ts.Nodup ∧ (∀ z ∈ ts, isNm z = true) ∧ PurseD μ i ∧ ∀ (c g d : Int) (hs : List Hold) (μ' : Store), RowT n c g d hs → (∀ h ∈ hs, h.1 ∈ ts) → Pu i μ μ' → Q (rowT n c g d hs) μ'
set_option maxHeartbeats 1000000 in
theorem okd_taskL {f : Addr} {fd : FuncData} (F : Fun K "_law_task" "_law_task" s__law_task f fd) (B : Blt mg) (D__law_take : DnP P w K mg base 1 "_law_take" p__law_take 2 spTakeD) (D__law_holds : DnP P w K mg base 2 "_law_holds" p__law_holds 3 spHoldsLD) : FnD P w K mg base 3 f fd p__law_task spTaskLD := by
  refine okD F sc__law_task (fun ds μ QD QX h => by obtain ⟨i, n, m, ts, rfl, _⟩ := h; rfl) fun cdv A outer s H E hr => ?_
  have hr0 : Room 0 _ := hr.mono (by decide); have hr1 : Room 1 _ := hr.mono (by decide); have hr2 : Room 2 _ := hr.mono (by decide)
  refine ⟨_, (dss_cons (ds_set (i := 4) sc__law_task.nd rfl (.inl rfl) (de_ix rfl (de_lst false (da_cons de_int (da_cons de_int (da_cons de_int (da_cons de_int (da_cons de_int (da_cons de_int (da_cons de_int (da_cons de_int (da_cons de_int (da_cons de_int (da_cons de_int (da_cons de_int da_nil))))))))))))) (de_call D__law_take rfl hr1 tkD (by rfl) (da_cons (dv 0) (da_cons de_int da_nil)) dk_nil)))
      (dss_cons (ds_set (i := 5) sc__law_task.nd rfl (.inl rfl) (de_ix rfl (de_lst false (da_cons (de_cb (cr_maxA rfl) DL.sMax (by rfl) B.max (by decide +kernel) (da_cons de_int (da_cons (de_op op_fdiv DL.sI (dv 4) (dv 2)) da_nil))) (da_cons (dv 4) (da_cons (de_cb (cr_maxA rfl) DL.sMax (by rfl) B.max (by decide +kernel) (da_cons de_int (da_cons (de_op op_fdiv DL.sI (dv 4) (de_op op_mul DL.sI de_int (dv 2))) da_nil))) da_nil)))) (de_call D__law_take rfl hr1 tkD (by rfl) (da_cons (dv 0) (da_cons de_int da_nil)) dk_nil)))
      (dss_cons (ds_set (i := 6) sc__law_task.nd rfl (.inl rfl) (de_op op_addA (DL.sAdd (b := false)) de_int (de_call D__law_take rfl hr1 tkD (by rfl) (da_cons (dv 0) (da_cons (de_cb (cr_minA rfl) DL.sMin (by rfl) B.min (by decide +kernel) (da_cons de_int (da_cons (dv 5) da_nil))) da_nil)) dk_nil)))
      (dss_cons (ds_set (i := 7) sc__law_task.nd rfl (.inl rfl) (de_op op_sub DL.sI0 (dv 4) (de_ix rfl (de_lst false (da_cons de_int (da_cons (de_call D__law_take rfl hr1 tkD (by rfl) (da_cons (dv 0) (da_cons (dv 4) da_nil)) dk_nil) (da_cons (de_call D__law_take rfl hr1 tkD (by rfl) (da_cons (dv 0) (da_cons (de_op op_addA (DL.sAdd (b := false)) (de_op op_fdiv DL.sI (dv 4) de_int) de_int) da_nil)) dk_nil) da_nil)))) (de_call D__law_take rfl hr1 tkD (by rfl) (da_cons (dv 0) (da_cons de_int da_nil)) dk_nil))))
      (dss_cons (ds_set (i := 8) sc__law_task.nd rfl (.inl rfl) (de_tup da_nil))
      (dss_cons (ds_j (ds_if (dt_w (dw_and (dt_cmp (op_neA hr0.units) DL.sNe (dv 3) (de_lst false da_nil)) (dw_and1 (dt_cmp op_gt DL.sI0 (de_call D__law_take rfl hr1 tkD (by rfl) (da_cons (dv 0) (da_cons de_int da_nil)) dk_nil) de_int)))) (dss_one (ds_set (i := 8) sc__law_task.nd rfl (.inl rfl) (de_call D__law_holds rfl hr2 tkD (by rfl) (da_cons (dv 0) (da_cons (dv 6) (da_cons (dv 3) da_nil))) dk_nil))) dss_nil))
      (dss_one (ds_ret (de_tup (da_cons de_str (da_cons (dv 1) (da_cons (dv 6) (da_cons (dv 4) (da_cons (dv 7) (da_cons (dv 8) da_nil))))))))))))))), ?_⟩
  intro ds μ QD QX cl cm h
  refine .inr ?_
  obtain ⟨i, n, m, ts, rfl, hn, hm1, hm2, htl, hnd, hnm, hp, q⟩ := h
  refine ⟨i, 12, rfl, by decide, by decide, hp, fun r0 μ0 a0 b0 p0 => ?_⟩
  obtain ⟨g, hg, hgm⟩ := pick (L := [2, 3, 4, 5, 6, 10, 12, 15, 20, 30, 60, 1]) a0 b0
  have dv : g ∣ 60 := by
    simp only [List.mem_cons, List.not_mem_nil, or_false] at hgm
    rcases hgm with rfl | rfl | rfl | rfl | rfl | rfl | rfl | rfl | rfl | rfl | rfl | rfl <;> decide
  have g3 : 1 ≤ g ∧ g ≤ 60 := by
    simp only [List.mem_cons, List.not_mem_nil, or_false] at hgm
    omega
  refine ⟨_, hg, ?_⟩
  have d1 : g / m ≤ g := Int.ediv_le_self _ (by omega)
  have d2 : g / (2 * m) ≤ g := Int.ediv_le_self _ (by omega)
  refine ⟨⟨by omega, by omega⟩, .inl ⟨by decide, by omega⟩, ⟨by omega, by omega⟩, i, 3, rfl, by decide, by decide, p0.purse, fun r1 μ1 a1 b1 p1 => ?_⟩
  obtain ⟨top, ht, htm⟩ := pick (L := [if g / m > 1 then g / m else 1, g, if g / (2 * m) > 1 then g / (2 * m) else 1]) a1 b1
  have t1 : 1 ≤ top ∧ top ≤ g := by
    simp only [List.mem_cons, List.not_mem_nil, or_false] at htm
    rcases htm with rfl | rfl | rfl
    · split <;> omega
    · omega
    · split <;> omega
  refine ⟨_, ht, ?_⟩
  have e9 : (if top < 9 then top else 9) ≤ 9 ∧ 1 ≤ (if top < 9 then top else 9) ∧ (if top < 9 then top else 9) ≤ top := by split <;> omega
  refine ⟨i, _, rfl, Int.lt_of_lt_of_le Int.zero_lt_one e9.2.1, Int.lt_of_le_of_lt e9.1 (by decide), p1.purse, fun r2 μ2 a2 b2 p2 => ?_⟩
  refine ⟨i, g, rfl, by omega, by omega, p2.purse, fun r3 μ3 a3 b3 p3 => ?_⟩
  have g2 : 0 ≤ g / 2 ∧ g / 2 < g := by omega
  refine ⟨⟨by decide, by decide⟩, i, g / 2 + 1, rfl, by omega, by omega, p3.purse, fun r4 μ4 a4 b4 p4 => ?_⟩
  refine ⟨i, 3, rfl, by decide, by decide, p4.purse, fun r5 μ5 a5 b5 p5 => ?_⟩
  obtain ⟨sub, hsub, hsm⟩ := pick (L := [0, r3, r4]) a5 b5
  have s1 : 0 ≤ sub ∧ sub < g := by
    simp only [List.mem_cons, List.not_mem_nil, or_false] at hsm
    rcases hsm with rfl | rfl | rfl <;> omega
  refine ⟨_, hsub, ?_⟩
  have P5 := ((((p0.trans p1).trans p2).trans p3).trans p4).trans p5
  refine ⟨fun σ' μ' => ∃ hs : List Hold, σ' = [some (.loc i), some (.v (.str n)), some (.v (.int m)), some (.lst (ts.map fun z => .v (.str z))), some (.v (.int g)), some (.v (.int top)), some (.v (.int (1 + r2))), some (.v (.int (g - sub))), some (.tup (hs.map hD))] ∧ Good hs (1 + r2) ∧ (∀ h ∈ hs, h.1 ∈ ts) ∧ Pu i μ μ', ?_, ?_⟩
  · refine ⟨.list (ts.map .str), .list [], by unfold toPy; rw [toPys_strs]; rfl, rfl, lnamesD_shaped hnm, by decide +kernel, ite2 (fun _ => ?_) (fun _ => ?_)⟩
    · refine ⟨i, 4, rfl, by decide, by decide, p5.purse, fun r6 μ6 _ _ p6 => ite2 (fun _ => ?_) (fun _ => ?_)⟩
      · exact ⟨i, 1 + r2, ts, rfl, by omega, by omega, htl, hnd, hnm, p6.purse, fun hs μ7 gd hin p7 => ⟨hs, rfl, gd, hin, (P5.trans p6).trans p7⟩⟩
      · exact ⟨[], rfl, Good.nil _, by simp, P5.trans p6⟩
    · exact ⟨[], rfl, Good.nil _, by simp, P5⟩
  · rintro σ' μ' ⟨hs, rfl, gd, hin, pu⟩
    exact q (1 + r2) g (g - sub) hs μ' ⟨hn, by omega, by omega, by omega, g3.1, g3.2, by omega, by omega, dv, gd⟩ hin pu
end
end Du

set_option Elab.async false
set_option linter.all false
set_option maxRecDepth 100000
namespace Du
open PySem L2 DL
theorem cutD_to (ds : List D) (k : Nat) : cutD ds none (some (k : Int)) = ds.take k := by
  unfold cutD
  rw [HT.sIx_none, HT.sIx_nat, List.drop_zero, Nat.sub_zero]
  by_cases h : k ≤ ds.length
  · rw [Nat.min_eq_left h]
  · rw [Nat.min_eq_right (by omega), List.take_length, List.take_of_length_le (by omega)]
/-- a row of a law: of a task or a door -/
inductive Row
  | tk (n : Str) (c g d : Int) (hs : List Hold)
  | dk (n : Str) (r g : Int)
def rowItems : Row → List D
  | .tk n c g d hs => [.v (.str "task"), .v (.str n), .v (.int c), .v (.int g), .v (.int d), .tup (hs.map hD)]
  | .dk n r g => [.v (.str "door"), .v (.str n), .v (.int r), .v (.int g)]
def rowOf (r : Row) : D := .tup (rowItems r)
def rowNm : Row → Str
  | .tk n _ _ _ _ => n
  | .dk n _ _ => n
theorem row1 : ∀ r : Row, atI (rowItems r) 1 = some (.v (.str (rowNm r)))
  | .tk .. => rfl
  | .dk .. => rfl
def rowOk (ts : List Str) : Row → Prop
  | .tk n c g d hs => RowT n c g d hs ∧ ∀ h ∈ hs, h.1 ∈ ts
  | .dk n r g => RowD n r g
def isDk : Row → Bool
  | .tk .. => false
  | .dk .. => true
theorem cl_rows {n : Nat} : ∀ rs : List Row, Cls' n (rs.map rowOf)
  | [] => trivial
  | .tk _ _ _ _ hs :: rs => ⟨⟨trivial, trivial, trivial, trivial, trivial, cl_hs hs, trivial⟩, cl_rows rs⟩
  | .dk _ _ _ :: rs => ⟨⟨trivial, trivial, trivial, trivial, trivial⟩, cl_rows rs⟩
theorem Pu.len {i : Nat} {μ μ' : Store} (h : Pu i μ μ') : μ'.length = μ.length := by
  obtain ⟨o, e⟩ := h.ex
  rw [e, List.length_set]
section
variable {P : Program} {w : World} {K : PySem.W.Frag} {mg : Str → Option Value} {base : Heap}
def spRowsLD : SpD := fun ds μ Q _ => ∃ (i : Nat) (lo hi tl : Nat) (dr : Bool), ds = [.loc i, .v (.int lo), .v (.int hi), .v (.int tl), .v (.bl dr)] ∧ lo ≤ hi ∧ hi ≤ 8 ∧ PurseD μ i ∧ ∀ (rs : List Row) (ts : List Str) (μ' : Store), lo ≤ rs.length → rs.length ≤ hi → (rs.map rowNm).Nodup → ts.length ≤ tl → (∀ z ∈ ts, isNm z = true) → (∀ r ∈ rs, rowOk ts r ∧ (dr = false → isDk r = false)) → Pu i μ μ' → Q (.lst (rs.map rowOf)) μ'
end
end Du

set_option Elab.async false
set_option linter.all false
set_option maxRecDepth 100000
namespace Du
open PySem L2 DL
/-- what makes a member -/
def mOk : Row → Prop
  | .tk n c g d hs => isNm n = true ∧ 1 ≤ c ∧ c ≤ 99 ∧ 1 ≤ g ∧ g ≤ 600 ∧ 1 ≤ d ∧ d ≤ g ∧ Good hs c
  | .dk n r g => isNm n = true ∧ 1 ≤ r ∧ r ≤ 99 ∧ 1 ≤ g ∧ g ≤ 600
theorem mOk_of {ts : List Str} : ∀ {r : Row}, rowOk ts r → mOk r
  | .tk n c g d hs, h => by
    have h : RowT n c g d hs := h.1
    have h2 := h.c2
    have h4 := h.g2
    exact ⟨h.nm, h.c1, by omega, h.g1, by omega, h.d1, h.d2, h.ok⟩
  | .dk n r g, h => by
    have h : RowD n r g := h
    have h2 := h.r2
    have h3 := h.g1
    have h4 := h.g2
    exact ⟨h.nm, h.r1, by omega, by omega, by omega⟩
def memOf (CT CD : Addr) : Row → D
  | .tk n c g d hs => .obj CT (taskF (.v (.str n)) (.v (.int c)) (.v (.int g)) (.v (.int d)) (.tup (hs.map hD)))
  | .dk n r g => .obj CD (doorF (.v (.str n)) (.v (.int r)) (.v (.int g)))
theorem ahead_hD (h g : Hold) : aheadD (hD h) (hD g) = ahead h g := rfl
theorem chain_hD : ∀ a b : List Hold, (List.zipWith aheadD (a.map hD) (b.map hD)).all id = (a.zip b).all fun p => ahead p.1 p.2
  | [], _ => by simp
  | _ :: _, [] => by simp
  | h :: a, g :: b => by
    rw [List.map_cons, List.map_cons, List.zipWith_cons_cons, List.all_cons, chain_hD a b, List.zip_cons_cons, List.all_cons]
    rfl
theorem isWh_of {i lo hi : Int} (h : lo ≤ i) (h' : i ≤ hi) : isWh (.v (.int i)) lo hi = true := by
  show (decide (lo ≤ i) && decide (i ≤ hi)) = true
  rw [decide_eq_true h, decide_eq_true h']
  rfl
theorem hold_hD {h : Hold} {c : Int} (z : isHd h c = true) : isHoD (hD h) c = true := by
  unfold isHd at z
  have z : isNm h.1 = true ∧ (0 ≤ h.2.1 ∧ h.2.1 ≤ c) ∧ 1 ≤ h.2.2 ∧ h.2.2 ≤ c - h.2.1 := by simpa using z
  show (isNm h.1 && (isWh (.v (.int h.2.1)) 0 c && isWh (.v (.int h.2.2)) 1 (c - h.2.1))) = true
  rw [z.1, isWh_of z.2.1.1 z.2.1.2, isWh_of z.2.2.1 z.2.2.2]
  rfl
theorem good_hsD {hs : List Hold} {c : Int} (g : Good hs c) : isHsD (.tup (hs.map hD)) c = true := by
  show (decide ((hs.map hD).length ≤ 4) && (((hs.map hD).all fun d => isHoD d c) && chainD (hs.map hD))) = true
  rw [decide_eq_true (by rw [List.length_map]; exact g.len), List.all_map, show chainD (hs.map hD) = chain hs by unfold chainD chain; rw [← List.map_drop]; exact chain_hD _ _, g.ch, Bool.true_and, Bool.and_true]
  exact List.all_eq_true.mpr fun h hh => hold_hD (g.all h hh)
theorem nm_thing {n : Str} (h : isNm n = true) : n.length ≤ sizeLine := Nat.le_trans (nm_len h).2 (by decide)
theorem things_hs {K : PySem.W.Frag} : ∀ hs : List Hold, (∀ h ∈ hs, isNm h.1 = true) → Things K (hs.map hD)
  | [], _ => trivial
  | h :: hs, q => ⟨⟨nm_thing (q h List.mem_cons_self), trivial, trivial, trivial⟩, things_hs hs fun g hg => q g (List.mem_cons_of_mem _ hg)⟩
section
variable {P : Program} {w : World} {K : PySem.W.Frag} {mg : Str → Option Value} {base : Heap}
abbrev s__law_member : Stmt := topS 41
abbrev n__law_member : List Str := ["_law_row"]
abbrev p__law_member : List Str := ["_law_row"]
theorem sc__law_member : FnScope n__law_member p__law_member (defScope s__law_member) := ⟨rfl, rfl, rfl, by decide +kernel, rfl, by decide +kernel, by decide +kernel⟩
def spMemberD (CT CD : Addr) : SpD := fun ds μ Q _ => ∃ (r : Row), ds = [rowOf r] ∧ mOk r ∧ Q (memOf CT CD r) μ
theorem okd_memberL {CTask CDoor CNoTask CNoDoor : Addr} {f : Addr} {fd : FuncData} (F : Fun K "_law_member" "_law_member" s__law_member f fd) (K_Door : MkD P w K mg base 4 "Door" CDoor p_Door___init__ 3 [] gPos (spDoorD K CDoor CNoDoor)) (K_Task__due_holds : MkD P w K mg base 6 "Task" CTask p_Task___init__ 3 ["due", "holds"] (fun ds es => ds ++ es) (spTaskD K CTask CNoTask)) : FnD P w K mg base 8 f fd p__law_member (spMemberD CTask CDoor) := by
  refine okD F sc__law_member (fun ds μ QD QX h => by obtain ⟨r, rfl, _⟩ := h; rfl) fun cdv A outer s H E hr => ?_
  have hr0 : Room 0 _ := hr.mono (by decide); have hr5 : Room 5 _ := hr.mono (by decide); have hr7 : Room 7 _ := hr.mono (by decide)
  refine ⟨_, (dss_cons (ds_if (dt_cmp (op_eqA hr0.units) DL.sEq (de_ix rfl (dv 0) de_int) de_str) (dss_one (ds_ret (de_make (b := false) K_Door rfl hr5 tkD (by rfl) (da_cons (de_ix rfl (dv 0) de_int) (da_cons (de_ix rfl (dv 0) de_int) (da_cons (de_ix rfl (dv 0) de_int) da_nil))) dk_nil))) dss_nil)
      (dss_one (ds_ret (de_make (b := false) K_Task__due_holds rfl hr7 tkD (by rfl) (da_cons (de_ix rfl (dv 0) de_int) (da_cons (de_ix rfl (dv 0) de_int) (da_cons (de_ix rfl (dv 0) de_int) da_nil))) (dk_cons (de_ix rfl (dv 0) de_int) (dk_cons (de_ix rfl (dv 0) de_int) dk_nil)))))), ?_⟩
  intro ds μ QD QX cl cm h
  refine .inr ?_
  obtain ⟨r, rfl, hok, q⟩ := h
  cases r with
  | dk n r g =>
    obtain ⟨hnm, h1, h2, h3, h4⟩ : isNm n = true ∧ 1 ≤ r ∧ r ≤ 99 ∧ 1 ≤ g ∧ g ≤ 600 := hok
    have hw : wrDD (.v (.str n)) (.v (.int r)) (.v (.int g)) = none := by
      unfold wrDD
      rw [if_pos (show isNmD (.v (.str n)) = true from hnm), if_pos (isWh_of h1 (by omega)), if_pos (isWh_of (by omega) (by omega))]
    refine ⟨_, rfl, ?_⟩
    refine ⟨_, rfl, _, rfl, _, rfl, rfl, rfl, fun _ _ _ => ⟨μ.length, _, _, _, rfl, at_app, nm_thing hnm, trivial, trivial, ?_⟩⟩
    rw [hw]
    exact ⟨rfl, μ, _, set_app, rfl, cm, ⟨trivial, trivial, trivial, trivial⟩, q⟩
  | tk n c g d hs =>
    obtain ⟨hnm, h1, h2, h3, h4, h5, h6, hgd⟩ : isNm n = true ∧ 1 ≤ c ∧ c ≤ 99 ∧ 1 ≤ g ∧ g ≤ 600 ∧ 1 ≤ d ∧ d ≤ g ∧ Good hs c := hok
    have hw : wrTD (.v (.str n)) (.v (.int c)) (.v (.int g)) (.v (.int d)) (.tup (hs.map hD)) = none := by
      unfold wrTD
      rw [if_pos (show isNmD (.v (.str n)) = true from hnm), if_pos (isWh_of h1 (by omega)), if_pos (isWh_of (by omega) (by omega)), if_pos (show (isNon (.v (.int d)) || isWh (.v (.int d)) 1 (intD (.v (.int g)))) = true from isWh_of h5 h6), if_pos (show isHsD (.tup (hs.map hD)) (intD (.v (.int c))) = true from good_hsD hgd)]
    refine ⟨_, rfl, ?_⟩
    refine ⟨_, rfl, _, rfl, _, rfl, _, rfl, _, rfl, rfl, rfl, fun _ _ _ => ⟨μ.length, _, _, _, _, _, rfl, at_app, nm_thing hnm, trivial, trivial, trivial, things_hs hs hgd.nm, ?_⟩⟩
    rw [hw]
    exact ⟨rfl, μ, _, set_app, rfl, cm, ⟨trivial, trivial, trivial, trivial, cl_hs hs, trivial⟩, q⟩
end
end Du

set_option Elab.async false
set_option linter.all false
set_option maxRecDepth 100000
namespace Du
open PySem L2 DL
/-- a comprehension over a list that is itself told by a list -/
theorem comp_mapL {α : Type} {g : TGD} {te : TED} {σ : Ev} {μ : Store} {Q : List D → Store → Prop} (e h : α → D) : ∀ (L : List α) (acc : List D), (∀ r ∈ L, ∀ R : D → Store → Prop, R (h r) μ → g (e r) σ μ fun σ' μ' => te σ' μ' R fun _ _ => False) → acc.length + L.length ≤ sizeLine → Q (acc ++ L.map h) μ → CompD g TYes te σ Q (L.map e) acc μ
  | [], acc, _, _, q => by
    rw [List.map_nil, List.append_nil] at q
    exact q
  | r :: L, acc, hh, hl, q => by
    refine hh r List.mem_cons_self _ ⟨?_, comp_mapL e h L (acc ++ [h r]) (fun x hx => hh x (List.mem_cons_of_mem _ hx)) ?_ ?_⟩
    · rw [List.length_cons] at hl; omega
    · rw [List.length_append, List.length_singleton]; rw [List.length_cons] at hl; omega
    · rw [List.append_assoc]
      exact q
theorem twG_none : ∀ (l a : List Str), (a ++ l).Nodup → twG a l = none
  | [], _, _ => rfl
  | z :: l, a, h => by
    unfold twG
    have hz : z ∉ a := fun hz => by
      have := (List.nodup_append.mp h).2.2 z hz z List.mem_cons_self
      exact this rfl
    rw [if_neg hz]
    exact twG_none l (a ++ [z]) (by rw [List.append_assoc]; exact h)
theorem nm_memOf (CT CD : Addr) : ∀ r : Row, nmOf (memOf CT CD r) = rowNm r
  | .tk .. => rfl
  | .dk .. => rfl
theorem mem_memOf (CT CD : Addr) : ∀ r : Row, isMemD CT CD (memOf CT CD r) = true
  | .tk .. => by simp [isMemD, inC, memOf]
  | .dk .. => by simp [isMemD, inC, memOf]
theorem crw_rows {CT CD : Addr} {rs : List Row} (hl : rs.length ≤ 8) (hn : (rs.map rowNm).Nodup) : crwD CT CD (.tup (rs.map (memOf CT CD))) = none := by
  unfold crwD
  have h1 : areMemD CT CD (.tup (rs.map (memOf CT CD))) = true := by
    show (decide ((rs.map (memOf CT CD)).length ≤ 8) && (rs.map (memOf CT CD)).all (isMemD CT CD)) = true
    rw [decide_eq_true (by rw [List.length_map]; exact hl), List.all_map]
    exact List.all_eq_true.mpr fun r _ => mem_memOf CT CD r
  rw [if_pos h1, show (memsD (.tup (rs.map (memOf CT CD)))).map nmOf = rs.map rowNm by show (rs.map (memOf CT CD)).map nmOf = _; rw [List.map_map]; exact List.map_congr_left fun r _ => nm_memOf CT CD r, twG_none _ [] hn]
section
variable {P : Program} {w : World} {K : PySem.W.Frag} {mg : Str → Option Value} {base : Heap} {G : GoodT}
theorem thos_rows {CT CD : Addr} (hG : ∀ r, mOk r → Tho G (memOf CT CD r)) : ∀ rs : List Row, (∀ r ∈ rs, mOk r) → Thos G (rs.map (memOf CT CD))
  | [], _ => trivial
  | r :: rs, h => ⟨hG r (h r List.mem_cons_self), thos_rows hG rs fun x hx => h x (List.mem_cons_of_mem _ hx)⟩
theorem cl_mems {CT CD : Addr} {n : Nat} : ∀ rs : List Row, Cls' n (rs.map (memOf CT CD))
  | [] => trivial
  | .tk _ _ _ _ hs :: rs => ⟨⟨trivial, trivial, trivial, trivial, cl_hs hs, trivial⟩, cl_mems rs⟩
  | .dk _ _ _ :: rs => ⟨⟨trivial, trivial, trivial, trivial⟩, cl_mems rs⟩
abbrev s__law_crew : Stmt := topS 42
abbrev n__law_crew : List Str := ["_law_rows", "_law_row"]
abbrev p__law_crew : List Str := ["_law_rows"]
theorem sc__law_crew : FnScope n__law_crew p__law_crew (defScope s__law_crew) := ⟨rfl, rfl, rfl, by decide +kernel, rfl, by decide +kernel, by decide +kernel⟩
def spCrewLD (CT CD CC : Addr) : SpD := fun ds μ Q _ => ∃ (rs : List Row), ds = [.lst (rs.map rowOf)] ∧ rs.length ≤ 8 ∧ (rs.map rowNm).Nodup ∧ (∀ r ∈ rs, mOk r) ∧ Q (.obj CC (crewF (.tup (rs.map (memOf CT CD))))) μ
theorem okd_crewL {CTask CDoor CCrew CNoCrew : Addr} {f : Addr} {fd : FuncData} (F : Fun K "_law_crew" "_law_crew" s__law_crew f fd) (B : Blt mg) (hG : ∀ r, mOk r → Tho G (memOf CTask CDoor r)) (K_Crew : MkD P w K mg base 3 "Crew" CCrew p_Crew___init__ 1 [] gPos (spCrewD G CTask CDoor CCrew CNoCrew)) (D__law_member : DnP P w K mg base 8 "_law_member" p__law_member 1 (spMemberD CTask CDoor)) : FnD P w K mg base 9 f fd p__law_crew (spCrewLD CTask CDoor CCrew) := by
  refine okD F sc__law_crew (fun ds μ QD QX h => by obtain ⟨r, rfl, _⟩ := h; rfl) fun cdv A outer s H E hr => ?_
  have hr4 : Room 4 _ := hr.mono (by decide); have hr8 : Room 8 _ := hr.mono (by decide)
  refine ⟨_, (dss_one (ds_ret (de_make (b := false) K_Crew rfl hr4 tkD (by rfl) (da_cons (de_ct call_tuple_of DL.sTuple (by rfl) B.tuple (by decide +kernel) (da_cons (de_lc (own := [("_law_row", 1)]) (ws := [1]) rfl sc__law_crew.nd (blkOk_by (N := n__law_crew) (sc := defScope s__law_crew) (by decide +kernel)) (di_seq rfl (dv 0)) (by decide) (fun _ _ _ _ _ => (dg_name (i := 1) sc__law_crew.nd rfl (Or.inl rfl))) (fun _ _ _ _ _ => dpts_nil) (fun _ _ _ _ _ => (de_call D__law_member rfl hr8 tkF (by rfl) (da_cons (dv 1) da_nil) dk_nil))) da_nil)) da_nil) dk_nil))), ?_⟩
  intro ds μ QD QX cl cm h
  refine .inr ?_
  obtain ⟨rs, rfl, hl, hn, hok, q⟩ := h
  refine comp_mapL rowOf (memOf CTask CDoor) rs [] (fun r hr R hR => ⟨r, rfl, hok r hr, hR⟩) (by show 0 + rs.length ≤ sizeLine; exact Nat.le_trans (show _ ≤ 8 by omega) (by decide)) ?_
  refine ⟨_, rfl, rfl, rfl, fun _ _ _ => ⟨μ.length, _, rfl, at_app, thos_rows hG rs hok, ?_⟩⟩
  rw [List.nil_append, crw_rows hl hn]
  exact ⟨rfl, μ, _, set_app, rfl, cm, ⟨cl_mems rs, trivial⟩, q⟩
end
end Du

set_option Elab.async false
set_option linter.all false
set_option maxRecDepth 100000
namespace Du
open PySem L2 DL
section
variable {P : Program} {w : World} {K : PySem.W.Frag} {mg : Str → Option Value} {base : Heap} {G : GoodT}
abbrev s_Crew_names : Stmt := inClass (topS 32) 1
abbrev n_Crew_names : List Str := ["self", "member"]
abbrev p_Crew_names : List Str := ["self"]
theorem sc_Crew_names : FnScope n_Crew_names p_Crew_names (defScope s_Crew_names) := ⟨rfl, rfl, rfl, by decide +kernel, rfl, by decide +kernel, by decide +kernel⟩
def spNamesD (K : PySem.W.Frag) (CC : Addr) : SpD := fun ds μ Q _ => ∃ ms, ds = [.obj CC (crewF (.tup ms))] ∧ ms.length ≤ 1000 ∧ (∀ m ∈ ms, Named K m) ∧ Q (.tup (ms.map fun m => .v (.str (nmOf m)))) μ
theorem okd_names {CCrew : Addr} {f : Addr} {fd : FuncData} (F : Fun K "names" "Crew.names" s_Crew_names f fd) (B : Blt mg) (T : CrewK K CCrew) : FnD P w K mg base 1 f fd p_Crew_names (spNamesD K CCrew) := by
  refine okD F sc_Crew_names (fun ds μ QD QX h => by obtain ⟨ms, rfl, _⟩ := h; rfl) fun cdv A outer s H E hr => ?_
  skip
  refine ⟨_, (dss_one (ds_ret (de_ct call_tuple_of DL.sTuple (by rfl) B.tuple (by decide +kernel) (da_cons (de_lc (own := [("member", 1)]) (ws := [1]) rfl sc_Crew_names.nd (blkOk_by (N := n_Crew_names) (sc := defScope s_Crew_names) (by decide +kernel)) (di_seq rfl (de_fld rfl (dv 0))) (by decide) (fun _ _ _ _ _ => (dg_name (i := 1) sc_Crew_names.nd rfl (Or.inl rfl))) (fun _ _ _ _ _ => dpts_nil) (fun _ _ _ _ _ => (de_fld rfl (dv 1)))) da_nil)))), ?_⟩
  intro ds μ QD QX cl cm h
  refine .inr ?_
  obtain ⟨ms, rfl, hl, hm, q⟩ := h
  refine ⟨_, _, _, rfl, T.fmem, rfl, ?_⟩
  refine comp_map (fun m => .v (.str (nmOf m))) _ [] (fun d hd R hR => ?_) (by show 0 + ms.length ≤ sizeLine; exact Nat.le_trans (show _ ≤ 1000 by omega) (by decide)) ?_
  · obtain ⟨C, fs, z, rfl, hf, hlk, hz⟩ := hm d hd
    have en : nmOf (.obj C fs) = z := by simp [nmOf, hlk]
    rw [en] at hR
    exact ⟨C, fs, _, rfl, hf, hlk, hR⟩
  · exact ⟨_, rfl, q⟩
abbrev s_Crew___len__ : Stmt := inClass (topS 32) 9
abbrev n_Crew___len__ : List Str := ["self"]
abbrev p_Crew___len__ : List Str := ["self"]
theorem sc_Crew___len__ : FnScope n_Crew___len__ p_Crew___len__ (defScope s_Crew___len__) := ⟨rfl, rfl, rfl, by decide +kernel, rfl, by decide +kernel, by decide +kernel⟩
def spLenCD (CC : Addr) : SpD := fun ds μ Q _ => ∃ ms, ds = [.obj CC (crewF (.tup ms))] ∧ Q (.v (.int (ms.length : Nat))) μ
theorem okd_lenC {CCrew : Addr} {f : Addr} {fd : FuncData} (F : Fun K "__len__" "Crew.__len__" s_Crew___len__ f fd) (B : Blt mg) (T : CrewK K CCrew) : FnD P w K mg base 1 f fd p_Crew___len__ (spLenCD CCrew) := by
  refine okD F sc_Crew___len__ (fun ds μ QD QX h => by obtain ⟨ms, rfl, _⟩ := h; rfl) fun cdv A outer s H E hr => ?_
  skip
  refine ⟨_, (dss_one (ds_ret (de_cb call_len DL.sLen (by rfl) B.len (by decide +kernel) (da_cons (de_fld rfl (dv 0)) da_nil)))), ?_⟩
  intro ds μ QD QX cl cm h
  refine .inr ?_
  obtain ⟨ms, rfl, q⟩ := h
  exact ⟨_, _, _, rfl, T.fmem, rfl, q⟩
abbrev s_Crew_named : Stmt := inClass (topS 32) 2
abbrev n_Crew_named : List Str := ["self", "name", "member"]
abbrev p_Crew_named : List Str := ["self", "name"]
theorem sc_Crew_named : FnScope n_Crew_named p_Crew_named (defScope s_Crew_named) := ⟨rfl, rfl, rfl, by decide +kernel, rfl, by decide +kernel, by decide +kernel⟩
/-- the first of this name -/
def firstNm (z : Str) : List D → Option D
  | [] => none
  | m :: r => if nmOf m = z then some m else firstNm z r
def spNamedD (K : PySem.W.Frag) (G : GoodT) (CC CE : Addr) : SpD := fun ds μ Q X => ∃ ms x, ds = [.obj CC (crewF (.tup ms)), x] ∧ (∀ m ∈ ms, Named K m) ∧ Thing K x ∧
  match (if isNmD x = true then firstNm (strD x) ms else none) with
  | some m => Q m μ
  | none => X ⟨.ref CE, some [("name", x)]⟩ μ
theorem okd_named {CCrew CNoName : Addr} {f : Addr} {fd : FuncData} (F : Fun K "named" "Crew.named" s_Crew_named f fd) (B : Blt mg) (T : CrewK K CCrew) (E_NoName : Err P w K mg "NoName" "name" CNoName) (D_is_name : DnP P w K mg base 2 "is_name" p_is_name 1 (spNameD K)) : FnD P w K mg base 3 f fd p_Crew_named (spNamedD K G CCrew CNoName) := by
  refine okD F sc_Crew_named (fun ds μ QD QX h => by obtain ⟨ms, x, rfl, _⟩ := h; rfl) fun cdv A outer s H E hr => ?_
  have hr0 : Room 0 _ := hr.mono (by decide); have hr2 : Room 2 _ := hr.mono (by decide)
  refine ⟨_, (dss_cons (ds_j (ds_if (dt_val (de_call D_is_name rfl hr2 tkD (by rfl) (da_cons (dv 1) da_nil) dk_nil)) (dss_one (ds_for PassesOwn.leaving rfl (di_seq rfl (de_fld rfl (dv 0))) (dg_name (i := 2) sc_Crew_named.nd rfl (Or.inl rfl)) (dss_one (ds_if (dt_cmp (op_eqA hr0.units) DL.sEq (de_fld rfl (dv 2)) (dv 1)) (dss_one (ds_ret (dv 2))) dss_nil)))) dss_nil))
      (dss_one (ds_raise rfl E_NoName hr0 takesD (by rfl) (dv 1)))), ?_⟩
  intro ds μ QD QX cl cm h
  refine .inr ?_
  obtain ⟨ms, x, rfl, hm, hx, q⟩ := h
  refine ⟨fun σ' μ' => ∃ v, σ' = [some (.obj CCrew (crewF (.tup ms))), some x, v] ∧ μ' = μ ∧ QX ⟨.ref CNoName, some [("name", x)]⟩ μ, ?_, ?_⟩
  · refine ⟨x, rfl, hx, ?_⟩
    cases e : isNmD x with
    | false =>
      rw [e] at q
      exact ⟨none, rfl, rfl, q⟩
    | true =>
      rw [e] at q
      have hz : isStrD x = true := by
        cases e2 : isStrD x with
        | true => rfl
        | false => rw [isNmD_no e2] at e; cases e
      obtain ⟨z, rfl⟩ := isStrD_eq hz
      have q : match firstNm z ms with | some m => QD m μ | none => QX ⟨.ref CNoName, some [("name", .v (.str z))]⟩ μ := q
      refine ⟨_, _, _, rfl, T.fmem, rfl, ?_⟩
      refine loop_inv (fun j σ μ' => (∃ v, σ = [some (.obj CCrew (crewF (.tup ms))), some (.v (.str z)), v]) ∧ μ' = μ ∧ match firstNm z (ms.drop j) with | some m => QD m μ | none => QX ⟨.ref CNoName, some [("name", .v (.str z))]⟩ μ) ⟨⟨none, rfl⟩, rfl, by rw [List.drop_zero]; exact q⟩ ?_ ?_
      · rintro j d σ μ' nx hi ⟨⟨v, rfl⟩, rfl, q⟩ hn
        have hj := (List.getElem?_eq_some_iff.mp hi).1
        have ed : ms[j] = d := (List.getElem?_eq_some_iff.mp hi).2
        rw [List.drop_eq_getElem_cons hj, ed] at q
        obtain ⟨C, fs, z', rfl, hf, hlk, hz'⟩ := hm d (List.mem_of_getElem? hi)
        have en : nmOf (.obj C fs) = z' := by simp [nmOf, hlk]
        unfold firstNm at q
        rw [en] at q
        refine ⟨C, fs, _, rfl, hf, hlk, ?_⟩
        by_cases ez : z' = z
        · rw [if_pos ez] at q
          exact iteY (c := decide (z' = z)) (decide_eq_true ez) q
        · rw [if_neg ez] at q
          exact iteN (c := decide (z' = z)) (decide_eq_false ez) (hn _ _ ⟨⟨_, rfl⟩, rfl, q⟩)
      · rintro σ μ' ⟨⟨v, rfl⟩, rfl, q⟩
        rw [List.drop_length] at q
        exact ⟨v, rfl, rfl, q⟩
  · rintro σ' μ' ⟨v, rfl, rfl, q⟩
    exact q
end
end Du

set_option Elab.async false
set_option linter.all false
set_option maxRecDepth 100000
namespace Du
open PySem L2 DL
/-- what the things of own classes are -/
inductive GK (CT CD CC : Addr) : Addr → List (Str × D) → Prop
  | mem {C : Addr} {fs : List (Str × D)} (r : Row) : mOk r → memOf CT CD r = .obj C fs → GK CT CD CC C fs
  | crew (rs : List Row) : rs.length ≤ 8 → (∀ r ∈ rs, mOk r) → (rs.map rowNm).Nodup → GK CT CD CC CC (crewF (.tup (rs.map (memOf CT CD))))
/-- what may stand beside -/
def Be (G : GoodT) (y : D) : Prop := Tho G y ∧ Cl 0 y ∧ (plT y || isOb y) = true
def spEqG (G : GoodT) (C : Addr) : SpD := fun ds μ Q _ => ∃ fs y, ds = [.obj C fs, y] ∧ G C fs ∧ Be G y ∧ ∀ b : Bool, (b = true ↔ D.obj C fs = y) → Q (.v (.bl b)) μ
def pyH (h : Hold) : PyData := .tuple [.str h.1, .int h.2.1, .int h.2.2]
theorem toPys_hs : ∀ hs : List Hold, toPys (hs.map hD) = some (hs.map pyH)
  | [] => rfl
  | h :: hs => by
    rw [List.map_cons, toPys, toPys_hs hs]
    rfl
theorem toPy_hs (hs : List Hold) : toPy (.tup (hs.map hD)) = some (.tuple (hs.map pyH)) := by
  show (toPys (hs.map hD)).map PyData.tuple = _
  rw [toPys_hs]
  rfl
theorem eqv_pyH (h g : Hold) : PyData.eqv (pyH h) (pyH g) = decide (h = g) := by
  obtain ⟨a, b, c⟩ := h
  obtain ⟨a', b', c'⟩ := g
  simp only [pyH, PyData.eqv, PyData.eqvAll, Bool.and_true]
  rw [Bool.eq_iff_iff]
  simp
theorem eqv_hs : ∀ hs gs : List Hold, PyData.eqvAll (hs.map pyH) (gs.map pyH) = decide (hs = gs)
  | [], [] => by simp [PyData.eqvAll]
  | [], _ :: _ => by simp [PyData.eqvAll]
  | _ :: _, [] => by simp [PyData.eqvAll]
  | h :: hs, g :: gs => by
    rw [List.map_cons, List.map_cons, PyData.eqvAll, eqv_pyH, eqv_hs hs gs, Bool.eq_iff_iff]
    simp
theorem eqv_hsT (hs gs : List Hold) : PyData.eqv (.tuple (hs.map pyH)) (.tuple (gs.map pyH)) = decide (hs = gs) := by
  rw [PyData.eqv]
  exact eqv_hs hs gs
theorem can_hs : ∀ hs : List Hold, (∀ h ∈ hs, isNm h.1 = true) → PyData.canLayAll0 (hs.map pyH) = true
  | [], _ => by simp [PyData.canLayAll0]
  | h :: hs, q => by
    show (PyData.canLayAll0 [.str h.1, .int h.2.1, .int h.2.2] && PyData.canLayAll0 (hs.map pyH)) = true
    rw [can_hs hs fun g hg => q g (List.mem_cons_of_mem _ hg), Bool.and_true]
    show (PyData.strOk h.1 && _) = true
    rw [nm_strOk (q h List.mem_cons_self)]
    rfl
theorem depth_hs : ∀ hs : List Hold, PyData.depthAll (hs.map pyH) ≤ 1
  | [] => by simp [PyData.depthAll]
  | h :: hs => by
    simp only [List.map_cons, PyData.depthAll]
    refine Nat.max_le.mpr ⟨?_, depth_hs hs⟩
    show PyData.depthAll [.str h.1, .int h.2.1, .int h.2.2] + 1 ≤ 1
    simp [PyData.depthAll, PyData.depth]
theorem shaped_hs {hs : List Hold} (q : ∀ h ∈ hs, isNm h.1 = true) : SeqAt.shaped (.tuple (hs.map pyH)) = true := by
  unfold SeqAt.shaped
  have a : PyData.canLay0 (.tuple (hs.map pyH)) = true := can_hs hs q
  have b : PyData.depth (.tuple (hs.map pyH)) ≤ 64 := by
    show PyData.depthAll (hs.map pyH) + 1 ≤ 64
    have := depth_hs hs
    omega
  rw [a, decide_eq_true b]
  rfl
theorem hD_inj : ∀ {hs gs : List Hold}, hs.map hD = gs.map hD → hs = gs
  | [], [], _ => rfl
  | [], _ :: _, h => by cases h
  | _ :: _, [], h => by cases h
  | (a, b, c) :: hs, (a', b', c') :: gs, h => by
    rw [List.map_cons, List.map_cons] at h
    injection h with h1 h2
    have h1 : D.tup [.v (.str a), .v (.int b), .v (.int c)] = D.tup [.v (.str a'), .v (.int b'), .v (.int c')] := h1
    cases h1
    rw [hD_inj h2]
theorem rep_ne {b : Bool} {A : Prop} (h : ¬ A) (e : b = false) : (b = true ↔ A) := ⟨fun z => absurd (e.symm.trans z) (by decide), fun z => (h z).elim⟩
section
variable {P : Program} {w : World} {K : PySem.W.Frag} {mg : Str → Option Value} {base : Heap} {cs : List Addr} {CTask CDoor CCrew : Addr}
theorem gk_task (h1 : CTask ≠ CDoor) (h2 : CTask ≠ CCrew) {fs : List (Str × D)} (g : GK CTask CDoor CCrew CTask fs) : ∃ n c g d hs, mOk (.tk n c g d hs) ∧ fs = taskF (.v (.str n)) (.v (.int c)) (.v (.int g)) (.v (.int d)) (.tup (hs.map hD)) := by
  cases g with
  | mem r hr e =>
    cases r with
    | tk n c g d hs =>
      have e : D.obj CTask _ = D.obj CTask fs := e
      cases e
      exact ⟨n, c, g, d, hs, hr, rfl⟩
    | dk n r g =>
      have e : D.obj CDoor _ = D.obj CTask fs := e
      injection e with e1 e2
      exact (h1 e1.symm).elim
  | crew => exact (h2 rfl).elim
theorem gk_door (h1 : CTask ≠ CDoor) (h2 : CDoor ≠ CCrew) {fs : List (Str × D)} (g : GK CTask CDoor CCrew CDoor fs) : ∃ n r g, mOk (.dk n r g) ∧ fs = doorF (.v (.str n)) (.v (.int r)) (.v (.int g)) := by
  cases g with
  | mem r hr e =>
    cases r with
    | dk n r g =>
      have e : D.obj CDoor _ = D.obj CDoor fs := e
      cases e
      exact ⟨n, r, g, hr, rfl⟩
    | tk n c g d hs =>
      have e : D.obj CTask _ = D.obj CDoor fs := e
      injection e with e1 e2
      exact (h1 e1).elim
  | crew => exact (h2 rfl).elim
theorem gk_crew (h1 : CTask ≠ CCrew) (h2 : CDoor ≠ CCrew) {fs : List (Str × D)} (g : GK CTask CDoor CCrew CCrew fs) : ∃ rs : List Row, rs.length ≤ 8 ∧ (∀ r ∈ rs, mOk r) ∧ (rs.map rowNm).Nodup ∧ fs = crewF (.tup (rs.map (memOf CTask CDoor))) := by
  cases g with
  | mem r hr e =>
    cases r with
    | dk n r g =>
      have e : D.obj CDoor _ = D.obj CCrew fs := e
      injection e with e1 e2
      exact (h2 e1).elim
    | tk n c g d hs =>
      have e : D.obj CTask _ = D.obj CCrew fs := e
      injection e with e1 e2
      exact (h1 e1).elim
  | crew rs a b c => exact ⟨rs, a, b, c, rfl⟩
theorem inC_obj {c : Addr} {y : D} (h : inC c y = true) : ∃ fs, y = .obj c fs := by
  cases y with
  | obj C fs =>
    have e : C = c := of_decide_eq_true h
    subst e
    exact ⟨fs, rfl⟩
  | _ => cases h
theorem inC_no {c : Addr} {y : D} {fs : List (Str × D)} (h : inC c y = false) : ¬ D.obj c fs = y := fun e => by
  subst e
  have h : decide (c = c) = false := h
  simp at h
abbrev s_Task___eq__ : Stmt := inClass (topS 24) 2
abbrev n_Task___eq__ : List Str := ["self", "other"]
abbrev p_Task___eq__ : List Str := ["self", "other"]
theorem sc_Task___eq__ : FnScope n_Task___eq__ p_Task___eq__ (defScope s_Task___eq__) := ⟨rfl, rfl, rfl, by decide +kernel, rfl, by decide +kernel, by decide +kernel⟩
set_option maxHeartbeats 1000000 in
theorem okd_eqT {f : Addr} {fd : FuncData} (F : Fun K "__eq__" "Task.__eq__" s_Task___eq__ f fd) (B : Blt mg) (O : Own K cs) (hG : ∀ C fs, GK CTask CDoor CCrew C fs → C ∈ cs) (hT : CTask ∈ cs) (h1 : CTask ≠ CDoor) (h2 : CTask ≠ CCrew) (T : TaskK K CTask) (g_Task : mg "Task" = some (.ref CTask)) : FnD P w K mg base 1 f fd p_Task___eq__ (spEqG (GK CTask CDoor CCrew) CTask) := by
  refine okD F sc_Task___eq__ (fun ds μ QD QX h => by obtain ⟨x, y, rfl, _⟩ := h; rfl) fun cdv A outer s H E hr => ?_
  have hr0 : Room 0 _ := hr.mono (by decide)
  refine ⟨_, (dss_one (ds_ret (de_and (de_cb cr_isiA DL.sIsi (by rfl) B.isinstance (by decide +kernel) (da_cons (dv 1) (da_cons (de_glob (v := .ref CTask) rfl g_Task rfl) da_nil))) (de_and (de_cmp (op_eqA hr0.units) DL.sEq (de_fld rfl (dv 0)) (de_fld rfl (dv 1))) (de_and (de_cmp (op_eqA hr0.units) DL.sEq (de_fld rfl (dv 0)) (de_fld rfl (dv 1))) (de_and (de_cmp (op_eqA hr0.units) DL.sEq (de_fld rfl (dv 0)) (de_fld rfl (dv 1))) (de_and (de_cmp (op_eqA hr0.units) DL.sEq (de_fld rfl (dv 0)) (de_fld rfl (dv 1))) (de_one (de_cmp (op_eqA hr0.units) DL.sEq (de_fld rfl (dv 0)) (de_fld rfl (dv 1))))))))))), ?_⟩
  intro ds μ QD QX cl cm h
  refine .inr ?_
  obtain ⟨fs, y, rfl, hg, ⟨hy1, hy2, hy3⟩, q⟩ := h
  refine isi_own1 (Q := _) O hG hy1 hT ?_
  cases e : inC CTask y with
  | false => exact q false (rep_ne (inC_no e) rfl)
  | true =>
    obtain ⟨fs', rfl⟩ := inC_obj e
    obtain ⟨n, c, g, d, hs, ok, rfl⟩ := gk_task h1 h2 hg
    obtain ⟨n', c', g', d', hs', ok', rfl⟩ := gk_task h1 h2 (show GK CTask CDoor CCrew CTask fs' from hy1)
    have ne : ∀ {P : Prop}, (n = n' ∧ c = c' ∧ g = g' ∧ d = d' ∧ hs = hs' → False) → ¬ D.obj CTask (taskF (.v (.str n)) (.v (.int c)) (.v (.int g)) (.v (.int d)) (.tup (hs.map hD))) = .obj CTask (taskF (.v (.str n')) (.v (.int c')) (.v (.int g')) (.v (.int d')) (.tup (hs'.map hD))) := fun {_} h z => by
      injection z with _ z
      unfold taskF at z
      simp only [List.cons.injEq, Prod.mk.injEq, true_and, and_true, D.v.injEq, V.str.injEq, V.int.injEq, D.tup.injEq, DL.isNon, if_false, Bool.false_eq_true] at z
      exact h ⟨z.1, z.2.1, z.2.2.1, z.2.2.2.1, hD_inj z.2.2.2.2⟩
    refine ⟨_, _, _, rfl, T.fname, rfl, _, _, _, rfl, T.fname, rfl, ?_⟩
    by_cases e1 : n = n'
    case neg => exact iteN (c := decide (n = n')) (decide_eq_false e1) (q false (rep_ne (ne (P := True) fun z => e1 z.1) rfl))
    refine iteY (c := decide (n = n')) (decide_eq_true e1) ?_
    refine ⟨_, _, _, rfl, T.fcost, rfl, _, _, _, rfl, T.fcost, rfl, ?_⟩
    by_cases e2 : c = c'
    case neg => exact iteN (c := decide (c = c')) (decide_eq_false e2) (q false (rep_ne (ne (P := True) fun z => e2 z.2.1) rfl))
    refine iteY (c := decide (c = c')) (decide_eq_true e2) ?_
    refine ⟨_, _, _, rfl, T.fgap, rfl, _, _, _, rfl, T.fgap, rfl, ?_⟩
    by_cases e3 : g = g'
    case neg => exact iteN (c := decide (g = g')) (decide_eq_false e3) (q false (rep_ne (ne (P := True) fun z => e3 z.2.2.1) rfl))
    refine iteY (c := decide (g = g')) (decide_eq_true e3) ?_
    refine ⟨_, _, _, rfl, T.fdue, rfl, _, _, _, rfl, T.fdue, rfl, ?_⟩
    by_cases e4 : d = d'
    case neg => exact iteN (c := decide (d = d')) (decide_eq_false e4) (q false (rep_ne (ne (P := True) fun z => e4 z.2.2.2.1) rfl))
    refine iteY (c := decide (d = d')) (decide_eq_true e4) ?_
    refine ⟨_, _, _, rfl, T.fholds, rfl, _, _, _, rfl, T.fholds, rfl, ?_⟩
    refine ⟨_, _, toPy_hs hs, toPy_hs hs', shaped_hs ok.2.2.2.2.2.2.2.nm, shaped_hs ok'.2.2.2.2.2.2.2.nm, ?_⟩
    refine q _ ?_
    show (PyData.eqv _ _ = true ↔ _)
    rw [eqv_hsT]
    by_cases e5 : hs = hs'
    · subst e1 e2 e3 e4 e5
      simp
    · exact rep_ne (ne (P := True) fun z => e5 z.2.2.2.2) (decide_eq_false e5)
abbrev s_Door___eq__ : Stmt := inClass (topS 25) 1
abbrev n_Door___eq__ : List Str := ["self", "other"]
abbrev p_Door___eq__ : List Str := ["self", "other"]
theorem sc_Door___eq__ : FnScope n_Door___eq__ p_Door___eq__ (defScope s_Door___eq__) := ⟨rfl, rfl, rfl, by decide +kernel, rfl, by decide +kernel, by decide +kernel⟩
set_option maxHeartbeats 1000000 in
theorem okd_eqDo {f : Addr} {fd : FuncData} (F : Fun K "__eq__" "Door.__eq__" s_Door___eq__ f fd) (B : Blt mg) (O : Own K cs) (hG : ∀ C fs, GK CTask CDoor CCrew C fs → C ∈ cs) (hT : CDoor ∈ cs) (h1 : CTask ≠ CDoor) (h2 : CDoor ≠ CCrew) (T : DoorK K CDoor) (g_Door : mg "Door" = some (.ref CDoor)) : FnD P w K mg base 1 f fd p_Door___eq__ (spEqG (GK CTask CDoor CCrew) CDoor) := by
  refine okD F sc_Door___eq__ (fun ds μ QD QX h => by obtain ⟨x, y, rfl, _⟩ := h; rfl) fun cdv A outer s H E hr => ?_
  have hr0 : Room 0 _ := hr.mono (by decide)
  refine ⟨_, (dss_one (ds_ret (de_and (de_cb cr_isiA DL.sIsi (by rfl) B.isinstance (by decide +kernel) (da_cons (dv 1) (da_cons (de_glob (v := .ref CDoor) rfl g_Door rfl) da_nil))) (de_and (de_cmp (op_eqA hr0.units) DL.sEq (de_fld rfl (dv 0)) (de_fld rfl (dv 1))) (de_and (de_cmp (op_eqA hr0.units) DL.sEq (de_fld rfl (dv 0)) (de_fld rfl (dv 1))) (de_one (de_cmp (op_eqA hr0.units) DL.sEq (de_fld rfl (dv 0)) (de_fld rfl (dv 1))))))))), ?_⟩
  intro ds μ QD QX cl cm h
  refine .inr ?_
  obtain ⟨fs, y, rfl, hg, ⟨hy1, hy2, hy3⟩, q⟩ := h
  refine isi_own1 (Q := _) O hG hy1 hT ?_
  cases e : inC CDoor y with
  | false => exact q false (rep_ne (inC_no e) rfl)
  | true =>
    obtain ⟨fs', rfl⟩ := inC_obj e
    obtain ⟨n, c, g, ok, rfl⟩ := gk_door h1 h2 hg
    obtain ⟨n', c', g', ok', rfl⟩ := gk_door h1 h2 (show GK CTask CDoor CCrew CDoor fs' from hy1)
    have ne : (n = n' ∧ c = c' ∧ g = g' → False) → ¬ D.obj CDoor (doorF (.v (.str n)) (.v (.int c)) (.v (.int g))) = .obj CDoor (doorF (.v (.str n')) (.v (.int c')) (.v (.int g'))) := fun h z => by
      injection z with _ z
      unfold doorF at z
      simp only [List.cons.injEq, Prod.mk.injEq, true_and, and_true, D.v.injEq, V.str.injEq, V.int.injEq] at z
      exact h ⟨z.1, z.2.1, z.2.2⟩
    refine ⟨_, _, _, rfl, T.fname, rfl, _, _, _, rfl, T.fname, rfl, ?_⟩
    by_cases e1 : n = n'
    case neg => exact iteN (c := decide (n = n')) (decide_eq_false e1) (q false (rep_ne (ne fun z => e1 z.1) rfl))
    refine iteY (c := decide (n = n')) (decide_eq_true e1) ?_
    refine ⟨_, _, _, rfl, T.froom, rfl, _, _, _, rfl, T.froom, rfl, ?_⟩
    by_cases e2 : c = c'
    case neg => exact iteN (c := decide (c = c')) (decide_eq_false e2) (q false (rep_ne (ne fun z => e2 z.2.1) rfl))
    refine iteY (c := decide (c = c')) (decide_eq_true e2) ?_
    refine ⟨_, _, _, rfl, T.fgap, rfl, _, _, _, rfl, T.fgap, rfl, ?_⟩
    refine q _ ?_
    by_cases e3 : g = g'
    · subst e1 e2 e3
      simp
    · exact rep_ne (ne fun z => e3 z.2.2) (decide_eq_false e3)
/-! tuples of such -/
theorem qde_tup {eqs : EqS} {n : Nat} {xs ys : List D} (h : ∀ (i : Nat) (x y : D), xs[i]? = some x → ys[i]? = some y → (∃ b : Bool, QDe eqs n x y b ∧ (b = true ↔ x = y)) ∧ idOk x y = true) : ∃ b : Bool, QDe eqs (n + 1) (.tup xs) (.tup ys) b ∧ (b = true ↔ D.tup xs = .tup ys) := by
  classical
  refine ⟨_, .tup (bs := fun i => decide (xs[i]? = ys[i]?)) (fun i x y e1 e2 => ?_) (fun i x y e1 e2 => (h i x y e1 e2).2), ?_⟩
  · obtain ⟨⟨b, hb, he⟩, _⟩ := h i x y e1 e2
    have e : decide (xs[i]? = ys[i]?) = b := by
      rw [e1, e2, Bool.eq_iff_iff, decide_eq_true_eq, Option.some.injEq]
      exact he.symm
    rw [e]
    exact hb
  · rw [Bool.and_eq_true, List.all_eq_true, beq_iff_eq, D.tup.injEq]
    constructor
    · rintro ⟨h1, h2⟩
      refine List.ext_getElem? fun i => ?_
      by_cases hi : i < xs.length
      · exact of_decide_eq_true (h1 i (List.mem_range.mpr (by omega)))
      · rw [List.getElem?_eq_none (by omega), List.getElem?_eq_none (by omega)]
    · rintro rfl
      exact ⟨fun i _ => decide_eq_true rfl, rfl⟩
def eqsG (G : GoodT) (cs : List Addr) : EqS := fun C fs y b => C ∈ cs ∧ G C fs ∧ Be G y ∧ (b = true ↔ D.obj C fs = y)
theorem pn_hs : ∀ hs : List Hold, Pns (hs.map hD) = true
  | [] => rfl
  | h :: hs => by
    show (_ && Pns (hs.map hD)) = true
    rw [pn_hs hs]
    rfl
theorem pn_mem (CT CD : Addr) : ∀ r : Row, Pn (memOf CT CD r) = true
  | .tk n c g d hs => by
    show (Pn (.v (.str n)) && (Pn (.v (.int c)) && (Pn (.v (.int g)) && (Pn (.v (.int d)) && (Pns (hs.map hD) && true))))) = true
    rw [pn_hs]
    rfl
  | .dk n r g => rfl
theorem pn_mems (CT CD : Addr) : ∀ rs : List Row, Pns (rs.map (memOf CT CD)) = true
  | [] => rfl
  | r :: rs => by
    show (Pn (memOf CT CD r) && Pns (rs.map (memOf CT CD))) = true
    rw [pn_mem, pn_mems CT CD rs]
    rfl
theorem clf0_mem {CT CD C : Addr} {fs : List (Str × D)} : ∀ {r : Row}, memOf CT CD r = .obj C fs → ClF 0 fs
  | .tk n c g d hs, e => by cases e; exact ⟨trivial, trivial, trivial, trivial, cl_hs hs, trivial⟩
  | .dk n r g, e => by cases e; exact ⟨trivial, trivial, trivial, trivial⟩
theorem gk_clf {CT CD CC C : Addr} {fs : List (Str × D)} (h : GK CT CD CC C fs) : ClF 0 fs := by
  cases h with
  | mem r _ e => exact clf0_mem e
  | crew rs _ _ => exact ⟨cl_mems rs, trivial⟩
theorem gk_pn {CT CD CC C : Addr} {fs : List (Str × D)} (h : GK CT CD CC C fs) : Pn (.obj C fs) = true := by
  cases h with
  | mem r _ e => rw [← e]; exact pn_mem CT CD r
  | crew rs _ _ =>
    show (Pns (rs.map (memOf CT CD)) && true) = true
    rw [pn_mems]
    rfl
theorem be_obj {CT CD CC C : Addr} {fs : List (Str × D)} (h : GK CT CD CC C fs) : Be (GK CT CD CC) (.obj C fs) := ⟨h, gk_clf h, rfl⟩
theorem gk_memOf {CT CD CC : Addr} {r : Row} (h : mOk r) : ∃ C fs, memOf CT CD r = .obj C fs ∧ GK CT CD CC C fs ∧ (C = CT ∨ C = CD) := by
  cases r with
  | tk n c g d hs => exact ⟨_, _, rfl, .mem (.tk n c g d hs) h rfl, .inl rfl⟩
  | dk n r g => exact ⟨_, _, rfl, .mem (.dk n r g) h rfl, .inr rfl⟩
/-- two objects -/
theorem qde_obj {G : GoodT} {ds : List Addr} {n : Nat} {C : Addr} {fs : List (Str × D)} {y : D} (hc : C ∈ ds) (hg : G C fs) (hy : Be G y) : ∃ b : Bool, QDe (eqsG G ds) n (.obj C fs) y b ∧ (b = true ↔ D.obj C fs = y) := by
  classical
  exact ⟨decide (D.obj C fs = y), .ownL ⟨hc, hg, hy, decide_eq_true_iff⟩ hy.2.2, decide_eq_true_iff⟩
theorem qde_objR {G : GoodT} {ds : List Addr} {n : Nat} {C : Addr} {fs : List (Str × D)} {y : D} (hc : C ∈ ds) (hg : G C fs) (hy : Be G y) (hp : plT y = true) : QDe (eqsG G ds) n y (.obj C fs) false := .ownR ⟨hc, hg, hy, rep_ne (fun e => by subst e; cases hp) rfl⟩ hp
theorem qde_mems {CT CD CC : Addr} {ds : List Addr} {n : Nat} (hT : CT ∈ ds) (hD : CD ∈ ds) {rs rs' : List Row} (h : ∀ r ∈ rs, mOk r) (h' : ∀ r ∈ rs', mOk r) : ∃ b : Bool, QDe (eqsG (GK CT CD CC) ds) (n + 1) (.tup (rs.map (memOf CT CD))) (.tup (rs'.map (memOf CT CD))) b ∧ (b = true ↔ D.tup (rs.map (memOf CT CD)) = .tup (rs'.map (memOf CT CD))) := by
  refine qde_tup fun i x y e1 e2 => ?_
  rw [List.getElem?_map] at e1 e2
  cases q1 : rs[i]? with
  | none => rw [q1] at e1; cases e1
  | some r1 =>
    cases q2 : rs'[i]? with
    | none => rw [q2] at e2; cases e2
    | some r2 =>
      rw [q1] at e1
      rw [q2] at e2
      cases e1; cases e2
      obtain ⟨C, fs, g1, g2, g3⟩ := gk_memOf (CT := CT) (CD := CD) (CC := CC) (h r1 (List.mem_of_getElem? q1))
      obtain ⟨C', fs', g4, g5, _⟩ := gk_memOf (CT := CT) (CD := CD) (CC := CC) (h' r2 (List.mem_of_getElem? q2))
      have p1 := pn_mem CT CD r1
      have p2 := pn_mem CT CD r2
      rw [g1] at p1 ⊢
      rw [g4] at p2 ⊢
      refine ⟨qde_obj (by rcases g3 with rfl | rfl <;> assumption) g2 (be_obj g5), ?_⟩
      show ((Pn _ && Pn _) || _) = true
      rw [p1, p2]
      rfl
end
end Du

set_option Elab.async false
set_option linter.all false
set_option maxRecDepth 100000
namespace Du
open PySem L2 DL
section
variable {P : Program} {w : World} {K : PySem.W.Frag} {mg : Str → Option Value} {base : Heap} {cs : List Addr} {CTask CDoor CCrew : Addr}
theorem eqC_of {G : GoodT} {ds : List Addr} {n : Nat} (hG : ∀ C fs, G C fs → C ∈ cs) (hds : ∀ c ∈ ds, ∃ k, k ≤ n ∧ OwnE P w K mg base k c (sp0 K (spEqG G c))) (hcl : ∀ C fs, G C fs → ClF 0 fs) (hnf : ∀ c ∈ ds, ∀ c' ∈ cs, PySem.W.notFirst K c (.ref c') = true) : EqC P w K mg base n (eqsG G ds) := by
  refine ⟨fun C fs y b ⟨h1, h2, h3, h4⟩ => ?_, fun C fs C' fs' b ⟨h1, h2, h3, h4⟩ => hnf C h1 C' (hG _ _ h3.1), fun C fs b ⟨h1, h2, h3, h4⟩ => h4.mpr rfl⟩
  obtain ⟨k, hk, O⟩ := hds C h1
  refine ⟨hcl _ _ h2, h3.2.1, k, _, hk, O, fun μ QD QX q => ⟨fs, y, rfl, h2, h3, fun b' hb' => ?_⟩⟩
  have e : b' = b := by
    rw [Bool.eq_iff_iff]
    exact hb'.trans h4.symm
  rw [e]
  exact q
abbrev s_Crew___eq__ : Stmt := inClass (topS 32) 8
abbrev n_Crew___eq__ : List Str := ["self", "other"]
abbrev p_Crew___eq__ : List Str := ["self", "other"]
theorem sc_Crew___eq__ : FnScope n_Crew___eq__ p_Crew___eq__ (defScope s_Crew___eq__) := ⟨rfl, rfl, rfl, by decide +kernel, rfl, by decide +kernel, by decide +kernel⟩
theorem okd_eqC {f : Addr} {fd : FuncData} (F : Fun K "__eq__" "Crew.__eq__" s_Crew___eq__ f fd) (B : Blt mg) (O : Own K cs) (hG : ∀ C fs, GK CTask CDoor CCrew C fs → C ∈ cs) (hC : CCrew ∈ cs) (h1 : CTask ≠ CCrew) (h2 : CDoor ≠ CCrew) (T : CrewK K CCrew) (g_Crew : mg "Crew" = some (.ref CCrew)) (EQ : EqC P w K mg base 1 (eqsG (GK CTask CDoor CCrew) [CTask, CDoor])) : FnD P w K mg base 3 f fd p_Crew___eq__ (spEqG (GK CTask CDoor CCrew) CCrew) := by
  refine okD F sc_Crew___eq__ (fun ds μ QD QX h => by obtain ⟨x, y, rfl, _⟩ := h; rfl) fun cdv A outer s H E hr => ?_
  have hr2 : Room 2 _ := hr.mono (by decide)
  refine ⟨_, (dss_one (ds_ret (de_and (de_cb cr_isiA DL.sIsi (by rfl) B.isinstance (by decide +kernel) (da_cons (dv 1) (da_cons (de_glob (v := .ref CCrew) rfl g_Crew rfl) da_nil))) (de_one (de_cmp (op_eqO (n := 1 + 1) hr2) (sEqO (n := 1) (N := 1) rfl EQ) (de_fld rfl (dv 0)) (de_fld rfl (dv 1))))))), ?_⟩
  intro ds μ QD QX cl cm h
  refine .inr ?_
  obtain ⟨fs, y, rfl, hg, ⟨hy1, hy2, hy3⟩, q⟩ := h
  refine isi_own1 (Q := _) O hG hy1 hC ?_
  cases e : inC CCrew y with
  | false => exact q false (rep_ne (inC_no e) rfl)
  | true =>
    obtain ⟨fs', rfl⟩ := inC_obj e
    obtain ⟨rs, hl, hok, _, rfl⟩ := gk_crew h1 h2 hg
    obtain ⟨rs', hl', hok', _, rfl⟩ := gk_crew h1 h2 (show GK CTask CDoor CCrew CCrew fs' from hy1)
    refine ⟨_, _, _, rfl, T.fmem, rfl, _, _, _, rfl, T.fmem, rfl, ?_⟩
    obtain ⟨b, hb, he⟩ := qde_mems (CT := CTask) (CD := CDoor) (CC := CCrew) (ds := [CTask, CDoor]) (n := 0) (by simp) (by simp) hok hok'
    refine ⟨b, .ob hb, q b (he.trans ⟨fun z => ?_, fun z => ?_⟩)⟩
    · rw [z]
    · injection z with _ z
      have z : [(("members" : Str), D.tup (rs.map (memOf CTask CDoor)))] = [(("members" : Str), D.tup (rs'.map (memOf CTask CDoor)))] := z
      simpa using z
def crewTx (ns : List Str) : Str := ("Crew(" : Str) ++ Txt.join ", " ns ++ (")" : Str)
theorem names_of (CT CD : Addr) (rs : List Row) : (rs.map (memOf CT CD)).map (fun m => D.v (.str (nmOf m))) = (rs.map rowNm).map fun z => D.v (.str z) := by
  rw [List.map_map, List.map_map]
  exact List.map_congr_left fun r _ => by
    show D.v (.str (nmOf (memOf CT CD r))) = _
    rw [nm_memOf]
    rfl
theorem named_mem (T : TaskK K CTask) (Do : DoorK K CDoor) : ∀ r : Row, mOk r → Named K (memOf CTask CDoor r)
  | .tk n c g d hs, h => ⟨_, _, n, rfl, T.fname, rfl, nm_thing h.1⟩
  | .dk n r g, h => ⟨_, _, n, rfl, Do.fname, rfl, nm_thing h.1⟩
theorem mOk_nm : ∀ {r : Row}, mOk r → isNm (rowNm r) = true
  | .tk n c g d hs, h => h.1
  | .dk n r g, h => h.1
theorem sum_names : ∀ ns : List Str, (∀ z ∈ ns, isNm z = true) → (ns.map (·.length)).sum ≤ 8 * ns.length
  | [], _ => Nat.le_refl _
  | z :: ns, h => by
    have h1 := (nm_len (h z List.mem_cons_self)).2
    have h2 := sum_names ns fun y hy => h y (List.mem_cons_of_mem _ hy)
    rw [List.map_cons, List.sum_cons, List.length_cons]
    omega
theorem join_le {ns : List Str} (h : ∀ z ∈ ns, isNm z = true) (sep : Str) : (Txt.join sep ns).length ≤ 8 * ns.length + ns.length * sep.length := by
  show (Builtin.Str.glued sep ns).length ≤ _
  rw [StrLaws.glued_eq_join]
  exact Nat.le_trans (StrLaws.join_length_le sep ns) (Nat.add_le_add_right (sum_names ns h) _)
abbrev s_Crew___repr__ : Stmt := inClass (topS 32) 11
abbrev n_Crew___repr__ : List Str := ["self"]
abbrev p_Crew___repr__ : List Str := ["self"]
theorem sc_Crew___repr__ : FnScope n_Crew___repr__ p_Crew___repr__ (defScope s_Crew___repr__) := ⟨rfl, rfl, rfl, by decide +kernel, rfl, by decide +kernel, by decide +kernel⟩
def spReprC (CT CD CC : Addr) : SpD := fun ds μ Q _ => ∃ rs : List Row, ds = [.obj CC (crewF (.tup (rs.map (memOf CT CD))))] ∧ rs.length ≤ 8 ∧ (∀ r ∈ rs, mOk r) ∧ Q (.v (.str (crewTx (rs.map rowNm)))) μ
theorem okd_reprC {f : Addr} {fd : FuncData} (F : Fun K "__repr__" "Crew.__repr__" s_Crew___repr__ f fd) (T : TaskK K CTask) (Do : DoorK K CDoor) (M_Crew_names : MtD P w K mg base 1 CCrew "names" p_Crew_names 0 [] gPos (spNamesD K CCrew)) : FnD P w K mg base 2 f fd p_Crew___repr__ (spReprC CTask CDoor CCrew) := by
  refine okD F sc_Crew___repr__ (fun ds μ QD QX h => by obtain ⟨x, rfl, _⟩ := h; rfl) fun cdv A outer s H E hr => ?_
  have hr1 : Room 1 _ := hr.mono (by decide)
  refine ⟨_, (dss_one (ds_ret (de_joined (.cons de_str (.cons (de_fmt (de_join rfl de_str (de_meth0 M_Crew_names rfl hr1 tkD (dv 0)))) (.cons de_str .nil)))))), ?_⟩
  intro ds μ QD QX cl cm h
  refine .inr ?_
  obtain ⟨rs, rfl, hl, hok, q⟩ := h
  have hnm : ∀ z ∈ rs.map rowNm, isNm z = true := fun z hz => by
    obtain ⟨r, hr, rfl⟩ := List.mem_map.mp hz
    exact mOk_nm (hok r hr)
  have hn8 : (rs.map rowNm).length ≤ 8 := by rw [List.length_map]; exact hl
  have hj := join_le hnm ", "
  have h2 : (", " : Str).length = 2 := by decide
  rw [h2] at hj
  have hj : (Txt.join ", " (rs.map rowNm)).length ≤ 80 := by omega
  have s1 : ("Crew(" : Str).length = 5 := by decide
  have s2 : (")" : Str).length = 1 := by decide
  refine ⟨_, rfl, ?_, ?_⟩
  · rw [Str.empty_append, s1]
    decide
  refine ⟨", ", rfl, ?_⟩
  refine ⟨_, rfl, rfl, _, rfl, by rw [List.length_map]; omega, fun m hm => ?_, ?_⟩
  · obtain ⟨r, hr, rfl⟩ := List.mem_map.mp hm
    exact named_mem T Do r (hok r hr)
  rw [names_of]
  refine ⟨_, _, rfl, strsD_map _, ?_, ?_⟩
  · have := sum_names _ hnm
    rw [h2]
    omega
  refine ⟨Nat.le_trans hj (by decide), _, rfl, ?_, _, rfl, ?_, ?_⟩
  · rw [Str.empty_append, Str.length_append, s1]
    exact Nat.le_trans (Nat.add_le_add_left hj 5) (by decide)
  · rw [Str.empty_append, Str.length_append, Str.length_append, s1, s2]
    exact Nat.le_trans (Nat.add_le_add_right (Nat.add_le_add_left hj 5) 1) (by decide)
  · rw [Str.empty_append]
    exact q
/-- what len says -/
def lensK (CC : Addr) : LenS := fun C fs b => C = CC ∧ ∃ ms, fs = crewF (.tup ms) ∧ Cls' 0 ms ∧ b = ms.length ∧ (b : Int) < 2 ^ 63
theorem lenC_of (O : OwnN P w K mg base 1 CCrew (sp0 K (spLenCD CCrew))) : LenC P w K mg base 1 (lensK CCrew) := ⟨fun C fs b ⟨h1, ms, h2, h3, h4, h5⟩ => by
  subst h1 h2 h4
  exact ⟨⟨h3, trivial⟩, h5, 1, _, Nat.le_refl _, O, fun μ QD QX q => ⟨ms, rfl, q⟩⟩⟩
open Classical in
noncomputable def rpK (CT CD CC : Addr) : Addr → List (Str × D) → Option Str := fun C fs =>
  if h : ∃ rs : List Row, D.obj C fs = .obj CC (crewF (.tup (rs.map (memOf CT CD)))) ∧ rs.length ≤ 8 ∧ ∀ r ∈ rs, mOk r then some (crewTx (h.choose.map rowNm)) else none
theorem rpK_at {CT CD CC : Addr} {rs : List Row} (hl : rs.length ≤ 8) (hok : ∀ r ∈ rs, mOk r) : rpK CT CD CC CC (crewF (.tup (rs.map (memOf CT CD)))) = some (crewTx (rs.map rowNm)) := by
  have h : ∃ rs' : List Row, D.obj CC (crewF (.tup (rs.map (memOf CT CD)))) = .obj CC (crewF (.tup (rs'.map (memOf CT CD)))) ∧ rs'.length ≤ 8 ∧ ∀ r ∈ rs', mOk r := ⟨rs, rfl, hl, hok⟩
  unfold rpK
  rw [dif_pos h]
  have e := h.choose_spec.1
  injection e with _ e
  have e : [(("members" : Str), D.tup (rs.map (memOf CT CD)))] = [(("members" : Str), D.tup (h.choose.map (memOf CT CD)))] := e
  have e : rs.map (memOf CT CD) = h.choose.map (memOf CT CD) := by simpa using e
  have e2 := names_of CT CD rs
  rw [e, names_of] at e2
  have e3 : h.choose.map rowNm = rs.map rowNm := by
    have : ∀ a b : List Str, a.map (fun z => D.v (.str z)) = b.map (fun z => D.v (.str z)) → a = b := by
      intro a
      induction a with
      | nil => intro b h; cases b with
        | nil => rfl
        | cons => cases h
      | cons x a ih => intro b h; cases b with
        | nil => cases h
        | cons y b =>
          rw [List.map_cons, List.map_cons] at h
          injection h with h1 h2
          cases h1
          rw [ih b h2]
    exact this _ _ e2
  rw [e3]
theorem shC_of (O : OwnR P w K mg base 2 CCrew (sp0 K (spReprC CTask CDoor CCrew))) : ShC P w K mg base 2 (rpK CTask CDoor CCrew) := ⟨fun C fs t h => by
  unfold rpK at h
  split at h
  case isFalse => cases h
  rename_i hx
  obtain ⟨e, hl, hok⟩ := hx.choose_spec
  cases h
  generalize hx.choose = rs at e hl hok
  cases e
  exact ⟨⟨cl_mems rs, trivial⟩, 2, _, Nat.le_refl _, O, fun μ QD QX q => ⟨rs, rfl, hl, hok, q⟩⟩⟩
end
end Du

set_option Elab.async false
set_option linter.all false
set_option maxRecDepth 100000
namespace Du
open PySem L2 DL
theorem cutD_fr (ds : List D) (k : Nat) : cutD ds (some (k : Int)) none = ds.drop k := by
  unfold cutD
  rw [HT.sIx_none, HT.sIx_nat]
  by_cases h : k ≤ ds.length
  · rw [Nat.min_eq_left h]
    exact List.take_of_length_le (by rw [List.length_drop]; omega)
  · rw [Nat.min_eq_right (by omega), List.drop_of_length_le (Nat.le_refl _), List.drop_of_length_le (by omega), List.take_nil]
theorem eqv_hs0 (hs : List Hold) : PyData.eqv (.tuple (hs.map pyH)) (.tuple []) = decide (hs = []) := eqv_hsT hs []
theorem Good.more {hs : List Hold} {c c' : Int} (g : Good hs c) (h : c ≤ c') : Good hs c' := by
  refine ⟨g.len, fun x hx => ?_, g.ch⟩
  have := g.all x hx
  unfold isHd at this ⊢
  have z : isNm x.1 = true ∧ (0 ≤ x.2.1 ∧ x.2.1 ≤ c) ∧ 1 ≤ x.2.2 ∧ x.2.2 ≤ c - x.2.1 := by simpa using this
  have z2 : isNm x.1 = true ∧ (0 ≤ x.2.1 ∧ x.2.1 ≤ c') ∧ 1 ≤ x.2.2 ∧ x.2.2 ≤ c' - x.2.1 := ⟨z.1, ⟨z.2.1.1, by omega⟩, z.2.2.1, by omega⟩
  simpa using z2
section
variable {P : Program} {w : World} {K : PySem.W.Frag} {mg : Str → Option Value} {base : Heap} {cs : List Addr} {CTask CDoor CCrew : Addr}
def spChangedD : SpD := fun ds μ Q _ => ∃ (i : Nat) (rs : List Row) (ts : List Str), ds = [.loc i, .lst (rs.map rowOf)] ∧ rs ≠ [] ∧ rs.length ≤ 8 ∧ (∀ r ∈ rs, rowOk ts r) ∧ PurseD μ i ∧ ∀ (rs' : List Row) (μ' : Store), rs'.map rowNm = rs.map rowNm → (∀ r ∈ rs', mOk r) → rs' ≠ rs → Pu i μ μ' → Q (.lst (rs'.map rowOf)) μ'
end
end Du

set_option Elab.async false
set_option linter.all false
set_option maxRecDepth 100000
namespace Du
open PySem L2 DL
theorem in1 {eqs : EqS} {N : Nat} {x z : D} {b : Bool} (h : QDe eqs N z x b) (hi : idOk z x = true) : ∀ (i : Nat) (z' : D) (b' : Bool), [z][i]? = some z' → [b][i]? = some b' → QDe eqs N z' x b' ∧ idOk z' x = true := by
  intro i z' b' e1 e2
  cases i with
  | zero => cases e1; cases e2; exact ⟨h, hi⟩
  | succ i => cases e1
theorem ob_mem (CT CD : Addr) (r : Row) : isOb (memOf CT CD r) = true := by cases r <;> rfl
theorem mem_inj {CT CD : Addr} (h : CT ≠ CD) : ∀ {r r' : Row}, memOf CT CD r = memOf CT CD r' → r = r'
  | .tk n c g d hs, .tk n' c' g' d' hs', e => by
    have e : D.obj CT (taskF (.v (.str n)) (.v (.int c)) (.v (.int g)) (.v (.int d)) (.tup (hs.map hD))) = .obj CT (taskF (.v (.str n')) (.v (.int c')) (.v (.int g')) (.v (.int d')) (.tup (hs'.map hD))) := e
    injection e with _ z
    unfold taskF at z
    simp only [List.cons.injEq, Prod.mk.injEq, true_and, and_true, D.v.injEq, V.str.injEq, V.int.injEq, D.tup.injEq, DL.isNon, if_false, Bool.false_eq_true] at z
    rw [z.1, z.2.1, z.2.2.1, z.2.2.2.1, hD_inj z.2.2.2.2]
  | .dk n r g, .dk n' r' g', e => by
    have e : D.obj CD (doorF (.v (.str n)) (.v (.int r)) (.v (.int g))) = .obj CD (doorF (.v (.str n')) (.v (.int r')) (.v (.int g'))) := e
    injection e with _ z
    unfold doorF at z
    simp only [List.cons.injEq, Prod.mk.injEq, true_and, and_true, D.v.injEq, V.str.injEq, V.int.injEq] at z
    rw [z.1, z.2.1, z.2.2]
  | .tk .., .dk .., e => by
    injection e with e _
    exact (h e).elim
  | .dk .., .tk .., e => by
    injection e with e _
    exact (h e.symm).elim
theorem mems_inj {CT CD : Addr} (h : CT ≠ CD) : ∀ {rs rs' : List Row}, rs.map (memOf CT CD) = rs'.map (memOf CT CD) → rs = rs'
  | [], [], _ => rfl
  | [], _ :: _, e => by cases e
  | _ :: _, [], e => by cases e
  | r :: rs, r' :: rs', e => by
    rw [List.map_cons, List.map_cons] at e
    injection e with e1 e2
    rw [mem_inj h e1, mems_inj h e2]
theorem crew_inj {CT CD CC : Addr} (h : CT ≠ CD) {rs rs' : List Row} (e : D.obj CC (crewF (.tup (rs.map (memOf CT CD)))) = .obj CC (crewF (.tup (rs'.map (memOf CT CD))))) : rs = rs' := by
  injection e with _ e
  have e : [(("members" : Str), D.tup (rs.map (memOf CT CD)))] = [(("members" : Str), D.tup (rs'.map (memOf CT CD)))] := e
  exact mems_inj h (by simpa using e)
theorem first_row {CT CD : Addr} : ∀ {rs : List Row} {r : Row}, (rs.map rowNm).Nodup → r ∈ rs → firstNm (rowNm r) (rs.map (memOf CT CD)) = some (memOf CT CD r)
  | x :: rs, r, hn, hr => by
    rw [List.map_cons, List.nodup_cons] at hn
    rw [List.map_cons]
    unfold firstNm
    rw [nm_memOf]
    rcases List.mem_cons.mp hr with rfl | hr
    · rw [if_pos rfl]
    · rw [if_neg fun (e : rowNm x = rowNm r) => hn.1 (by rw [e]; exact List.mem_map_of_mem hr)]
      exact first_row hn.2 hr
theorem idOk_be {CT CD CC C : Addr} {fs : List (Str × D)} {y : D} (hy : Be (GK CT CD CC) y) (hg : GK CT CD CC C fs) : idOk y (.obj C fs) = true := by
  unfold idOk
  rcases Bool.or_eq_true_iff.mp hy.2.2 with h | h
  · rw [Bool.or_eq_true]
    refine .inr ?_
    cases y with
    | v z => cases z <;> first | rfl | cases h
    | _ => first | rfl | cases h
  · cases y with
    | obj C' fs' =>
      have h1 := gk_pn (show GK CT CD CC C' fs' from hy.1)
      have h2 := gk_pn hg
      rw [h1, h2]
      rfl
    | _ => cases h
theorem idOk_comm (x y : D) : idOk x y = idOk y x := by
  unfold idOk
  rw [Bool.and_comm]
  congr 1
  cases tagD x <;> cases tagD y <;> first | rfl | simp [bne_comm]
theorem qde_strs {eqs : EqS} {n : Nat} {ns : List Str} (h : ∀ z ∈ ns, isNm z = true) : QDe eqs n (.tup (ns.map fun z => .v (.str z))) (.tup (ns.map fun z => .v (.str z))) true := by
  have e : toPy (.tup (ns.map fun z => .v (.str z))) = some (.tuple (ns.map .str)) := by
    show (toPys (ns.map fun z => D.v (.str z))).map PyData.tuple = _
    rw [toPys_strs]
    rfl
  have s : SeqAt.shaped (.tuple (ns.map .str)) = true := by
    unfold SeqAt.shaped
    have a : PyData.canLay0 (.tuple (ns.map .str)) = true := namesD_can ns h
    have b : PyData.depth (.tuple (ns.map .str)) ≤ 64 := by
      show PyData.depthAll (ns.map .str) + 1 ≤ 64
      rw [namesD_depth]
      decide
    rw [a, decide_eq_true b]
    rfl
  have q := QDe.dat (eqs := eqs) (n := n) e e s s
  rw [eqv_self _ _ e] at q
  exact q
section
variable {P : Program} {w : World} {K : PySem.W.Frag} {mg : Str → Option Value} {base : Heap} {cs : List Addr} {CTask CDoor CCrew CNoName : Addr}
/-- either way about -/
theorem qde_two {ds : List Addr} (hall : ∀ C fs, GK CTask CDoor CCrew C fs → C ∈ ds) {n : Nat} {C : Addr} {fs : List (Str × D)} {y : D} (hg : GK CTask CDoor CCrew C fs) (hy : Be (GK CTask CDoor CCrew) y) : ∃ b : Bool, QDe (eqsG (GK CTask CDoor CCrew) ds) n (.obj C fs) y b ∧ QDe (eqsG (GK CTask CDoor CCrew) ds) n y (.obj C fs) b ∧ (b = true ↔ D.obj C fs = y) := by
  obtain ⟨b, hb, he⟩ := qde_obj (n := n) (hall C fs hg) hg hy
  refine ⟨b, hb, ?_, he⟩
  rcases Bool.or_eq_true_iff.mp hy.2.2 with h | h
  · exact .ownR ⟨hall C fs hg, hg, hy, he⟩ h
  · cases y with
    | obj C' fs' => exact .ownL ⟨hall C' fs' hy.1, hy.1, be_obj hg, he.trans ⟨Eq.symm, Eq.symm⟩⟩ rfl
    | _ => cases h
def spUnlikeD (CT CD CC : Addr) : SpD := fun ds μ Q _ => ∃ C fs y, ds = [.obj C fs, y] ∧ GK CT CD CC C fs ∧ Be (GK CT CD CC) y ∧ D.obj C fs ≠ y ∧ Q (.v (.bl true)) μ
theorem len_all {rs : List Row} (hl : rs.length ≤ 8) : (rs.map (memOf CTask CDoor)).length ≤ 1000 := by rw [List.length_map]; omega
theorem named_all (T : TaskK K CTask) (Do : DoorK K CDoor) {rs : List Row} (hok : ∀ r ∈ rs, mOk r) : ∀ m ∈ rs.map (memOf CTask CDoor), Named K m := fun m hm => by
  obtain ⟨r, hr, rfl⟩ := List.mem_map.mp hm
  exact named_mem T Do r (hok r hr)
theorem named_if {rs : List Row} {r : Row} (hn : (rs.map rowNm).Nodup) (hok : ∀ r ∈ rs, mOk r) (hr : r ∈ rs) : (if isNmD (.v (.str (rowNm r))) = true then firstNm (strD (.v (.str (rowNm r)))) (rs.map (memOf CTask CDoor)) else none) = some (memOf CTask CDoor r) := by
  rw [if_pos (show isNmD (.v (.str (rowNm r))) = true from mOk_nm (hok r hr))]
  exact first_row hn hr
theorem fld_name (T : TaskK K CTask) (Do : DoorK K CDoor) : ∀ r : Row, ∃ C fs, memOf CTask CDoor r = .obj C fs ∧ Fl K C "name" ∧ fs.lookup ("name" : Str) = some (.v (.str (rowNm r)))
  | .tk n c g d hs => ⟨_, _, rfl, T.fname, rfl⟩
  | .dk n r g => ⟨_, _, rfl, Do.fname, rfl⟩
def spHasD (CT CD CC : Addr) : SpD := fun ds μ Q _ => ∃ rs : List Row, ds = [.obj CC (crewF (.tup (rs.map (memOf CT CD)))), .lst (rs.map rowOf)] ∧ rs.length ≤ 8 ∧ (rs.map rowNm).Nodup ∧ (∀ r ∈ rs, mOk r) ∧ Q (.v (.bl true)) μ
end
end Du

set_option Elab.async false
set_option linter.all false
set_option maxRecDepth 100000
namespace Du
open PySem L2 DL
/-- a comprehension with a test over a list that is itself told by a list -/
theorem comp_fltL {α : Type} {g : TGD} {tt : TTD} {te : TED} {σ : Ev} {μ : Store} {Q : List D → Store → Prop} (e : α → D) (f : α → Option D) : ∀ (L : List α) (acc : List D), (∀ r ∈ L, ∀ (R : D → Store → Prop) (S : Store → Prop), (match f r with | some y => R y μ | none => S μ) → g (e r) σ μ fun σ' μ' => tt σ' μ' (fun b μ2 => if b = true then te σ' μ2 R (fun _ _ => False) else S μ2) fun _ _ => False) → acc.length + L.length ≤ sizeLine → Q (acc ++ L.filterMap f) μ → CompD g tt te σ Q (L.map e) acc μ
  | [], acc, _, _, q => by
    rw [List.filterMap_nil, List.append_nil] at q
    exact q
  | r :: L, acc, h, hl, q => by
    refine h r List.mem_cons_self _ _ ?_
    rw [List.length_cons] at hl
    cases ef : f r with
    | none =>
      rw [List.filterMap_cons, ef] at q
      exact comp_fltL e f L acc (fun x hx => h x (List.mem_cons_of_mem _ hx)) (by omega) q
    | some y =>
      rw [List.filterMap_cons, ef] at q
      refine ⟨by omega, comp_fltL e f L (acc ++ [y]) (fun x hx => h x (List.mem_cons_of_mem _ hx)) (by rw [List.length_append, List.length_singleton]; omega) ?_⟩
      rw [List.append_assoc]
      exact q
theorem tho_memsK {CT CD CC : Addr} : ∀ rs : List Row, (∀ r ∈ rs, mOk r) → Thos (GK CT CD CC) (rs.map (memOf CT CD))
  | [], _ => trivial
  | r :: rs, h => ⟨by
      obtain ⟨C, fs, e, g, _⟩ := gk_memOf (CT := CT) (CD := CD) (CC := CC) (h r List.mem_cons_self)
      rw [e]
      exact g, tho_memsK rs fun x hx => h x (List.mem_cons_of_mem _ hx)⟩
def putRow (r : Row) (rs : List Row) : Option (List Row) :=
  if rowNm r ∈ rs.map rowNm then some (rs.map fun o => if rowNm o = rowNm r then r else o) else if rs.length = 8 then none else some (rs ++ [r])
def namedRow (x : D) (rs : List Row) : Option Row := if isNmD x = true then rs.find? (fun r => decide (rowNm r = strD x)) else none
def outRow (r : Row) (rs : List Row) : List Row := rs.filter fun o => decide (rowNm o ≠ rowNm r)
theorem putRow_ok {r : Row} {rs rs' : List Row} (h : putRow r rs = some rs') (hl : rs.length ≤ 8) (hn : (rs.map rowNm).Nodup) (hok : ∀ x ∈ rs, mOk x) (hr : mOk r) : rs'.length ≤ 8 ∧ (rs'.map rowNm).Nodup ∧ ∀ x ∈ rs', mOk x := by
  unfold putRow at h
  split at h
  · cases h
    refine ⟨by rw [List.length_map]; exact hl, ?_, fun x hx => ?_⟩
    · rw [List.map_map, show (rowNm ∘ fun o => if rowNm o = rowNm r then r else o) = rowNm from funext fun o => by
        show rowNm (if rowNm o = rowNm r then r else o) = rowNm o
        split
        · rename_i e; exact e.symm
        · rfl]
      exact hn
    · obtain ⟨o, ho, rfl⟩ := List.mem_map.mp hx
      split
      · exact hr
      · exact hok o ho
  · rename_i h1
    split at h
    · cases h
    · rename_i h2
      cases h
      refine ⟨by rw [List.length_append, List.length_singleton]; omega, ?_, fun x hx => ?_⟩
      · rw [List.map_append, List.nodup_append]
        refine ⟨hn, by simp, fun a ha b hb => ?_⟩
        have hb : b = rowNm r := by simpa using hb
        rw [hb]
        intro e
        exact h1 (e ▸ ha)
      · rcases List.mem_append.mp hx with hx | hx
        · exact hok x hx
        · rw [List.mem_singleton.mp hx]; exact hr
theorem outRow_ok {r : Row} {rs : List Row} (hl : rs.length ≤ 8) (hn : (rs.map rowNm).Nodup) (hok : ∀ x ∈ rs, mOk x) : (outRow r rs).length ≤ 8 ∧ ((outRow r rs).map rowNm).Nodup ∧ ∀ x ∈ outRow r rs, mOk x :=
  ⟨Nat.le_trans (List.length_filter_le _ _) hl, hn.sublist (List.filter_sublist.map _), fun x hx => hok x (List.mem_filter.mp hx).1⟩
theorem first_find {CT CD : Addr} (z : Str) : ∀ rs : List Row, firstNm z (rs.map (memOf CT CD)) = (rs.find? fun r => decide (rowNm r = z)).map (memOf CT CD)
  | [] => rfl
  | r :: rs => by
    rw [List.map_cons]
    unfold firstNm
    rw [nm_memOf, List.find?_cons]
    by_cases h : rowNm r = z
    · rw [if_pos h, decide_eq_true h]
      rfl
    · rw [if_neg h, decide_eq_false h]
      exact first_find z rs
theorem named_find {CT CD : Addr} (x : D) (rs : List Row) : (if isNmD x = true then firstNm (strD x) (rs.map (memOf CT CD)) else none) = (namedRow x rs).map (memOf CT CD) := by
  unfold namedRow
  split
  · exact first_find _ rs
  · rfl
theorem flt_out {CT CD : Addr} (r : Row) : ∀ rs : List Row, rs.filterMap (fun o => if rowNm o = rowNm r then none else some (memOf CT CD o)) = (outRow r rs).map (memOf CT CD)
  | [] => rfl
  | o :: rs => by
    unfold outRow
    by_cases h : rowNm o = rowNm r
    · rw [List.filterMap_cons, if_pos h, List.filter_cons, if_neg (by simp [h])]
      exact flt_out r rs
    · rw [List.filterMap_cons, if_neg h, List.filter_cons, if_pos (by simp [h]), List.map_cons]
      exact congrArg _ (flt_out r rs)
section
variable {P : Program} {w : World} {K : PySem.W.Frag} {mg : Str → Option Value} {base : Heap} {cs : List Addr} {CTask CDoor CCrew CNoName CNoCrew : Addr}
theorem fld_mem (T : TaskK K CTask) (Do : DoorK K CDoor) (r : Row) {μ : Store} : ∃ C fs, insOf μ (memOf CTask CDoor r) = some (C, fs) ∧ Fl K C "name" ∧ fs.lookup ("name" : Str) = some (.v (.str (rowNm r))) := by
  obtain ⟨C, fs, e, h1, h2⟩ := fld_name T Do r
  exact ⟨C, fs, by rw [e]; rfl, h1, h2⟩
abbrev s_Crew_with_member : Stmt := inClass (topS 32) 3
abbrev n_Crew_with_member : List Str := ["self", "member", "own"]
abbrev p_Crew_with_member : List Str := ["self", "member"]
theorem sc_Crew_with_member : FnScope n_Crew_with_member p_Crew_with_member (defScope s_Crew_with_member) := ⟨rfl, rfl, rfl, by decide +kernel, rfl, by decide +kernel, by decide +kernel⟩
def spWithD (CT CD CC CE : Addr) : SpD := fun ds μ Q X => ∃ (rs : List Row) (x : D), ds = [.obj CC (crewF (.tup (rs.map (memOf CT CD)))), x] ∧ rs.length ≤ 8 ∧ (rs.map rowNm).Nodup ∧ (∀ r ∈ rs, mOk r) ∧ Tho (GK CT CD CC) x ∧
  (isMemD CT CD x = false → X ⟨.ref CE, some [("name", .v .non)]⟩ μ) ∧ ∀ r, mOk r → x = memOf CT CD r → match putRow r rs with
    | some rs' => Q (.obj CC (crewF (.tup (rs'.map (memOf CT CD))))) μ
    | none => X ⟨.ref CE, some [("name", .v .non)]⟩ μ
theorem okd_with {f : Addr} {fd : FuncData} (F : Fun K "with_member" "Crew.with_member" s_Crew_with_member f fd) (B : Blt mg) (T : TaskK K CTask) (Do : DoorK K CDoor) (Cr : CrewK K CCrew) (hTC : CTask ≠ CCrew) (hDC : CDoor ≠ CCrew) (E_NoCrew : Err P w K mg "NoCrew" "name" CNoCrew) (D_is_member : DnP P w K mg base 1 "is_member" p_is_member 1 (spMemD (GK CTask CDoor CCrew) CTask CDoor))
    (K_Crew : MkD P w K mg base 3 "Crew" CCrew p_Crew___init__ 1 [] gPos (spCrewD (GK CTask CDoor CCrew) CTask CDoor CCrew CNoCrew)) (M_Crew_names : MtD P w K mg base 1 CCrew "names" p_Crew_names 0 [] gPos (spNamesD K CCrew)) : FnD P w K mg base 5 f fd p_Crew_with_member (spWithD CTask CDoor CCrew CNoCrew) := by
  refine okD F sc_Crew_with_member (fun ds μ QD QX h => by obtain ⟨rs, x, rfl, _⟩ := h; rfl) fun cdv A outer s H E hr => ?_
  have hr0 : Room 0 _ := hr.mono (by decide); have hr1 : Room 1 _ := hr.mono (by decide); have hr4 : Room 4 _ := hr.mono (by decide)
  refine ⟨_, (dss_cons (ds_if (dt_not (dt_val (de_call D_is_member rfl hr1 tkD (by rfl) (da_cons (dv 1) da_nil) dk_nil))) (dss_one (ds_raise rfl E_NoCrew hr0 takesD (by rfl) de_non)) dss_nil)
      (dss_cons (ds_if (dt_cmp op_notInA DL.sIn (de_fld rfl (dv 1)) (de_meth0 M_Crew_names rfl hr1 tkD (dv 0))) (dss_one (ds_ret (de_make (b := false) K_Crew rfl hr4 tkD (by rfl) (da_cons (de_tup (da_star rfl (de_fld rfl (dv 0)) (da_cons (dv 1) da_nil))) da_nil) dk_nil))) dss_nil)
      (dss_one (ds_ret (de_make (b := false) K_Crew rfl hr4 tkD (by rfl) (da_cons (de_ct call_tuple_of DL.sTuple (by rfl) B.tuple (by decide +kernel) (da_cons (de_lc (own := [("own", 2)]) (ws := [2]) rfl sc_Crew_with_member.nd (blkOk_by (N := n_Crew_with_member) (sc := defScope s_Crew_with_member) (by decide +kernel)) (di_seq rfl (de_fld rfl (dv 0))) (by decide) (fun _ _ _ _ _ => (dg_name (i := 2) sc_Crew_with_member.nd rfl (Or.inl rfl))) (fun _ _ _ _ _ => dpts_nil) (fun _ _ _ _ _ => (de_if (dt_cmp (op_eqA hr0.units) DL.sEq (de_fld rfl (dv 2)) (de_fld rfl (dv 1))) (dv 1) (dv 2)))) da_nil)) da_nil) dk_nil))))), ?_⟩
  intro ds μ QD QX cl cm h
  refine .inr ?_
  obtain ⟨rs, x, rfl, hl, hn, hok, hx, q1, q2⟩ := h
  refine ⟨x, rfl, hx, ?_⟩
  cases e : isMemD CTask CDoor x with
  | false => exact q1 e
  | true =>
    obtain ⟨r, hr', rfl⟩ : ∃ r, mOk r ∧ x = memOf CTask CDoor r := by
      cases x with
      | obj C fs =>
        have hx : GK CTask CDoor CCrew C fs := hx
        cases hx with
        | mem r h1 h2 => exact ⟨r, h1, h2.symm⟩
        | crew rs _ _ _ =>
          have e : (decide (CCrew = CTask) || decide (CCrew = CDoor)) = true := e
          rw [decide_eq_false (Ne.symm hTC), decide_eq_false (Ne.symm hDC)] at e
          cases e
      | _ => cases e
    have q2 := q2 r hr' rfl
    obtain ⟨C, fs, g1, g2, g3⟩ := fld_mem T Do r (μ := μ)
    refine ⟨C, fs, _, g1, g2, g3, ?_⟩
    refine ⟨_, rfl, rfl, _, rfl, len_all hl, named_all T Do hok, ?_⟩
    rw [names_of]
    refine ⟨.str (rowNm r), _, _, rfl, rfl, flat_strs _, ?_⟩
    unfold putRow at q2
    by_cases hin : rowNm r ∈ rs.map rowNm
    · rw [if_pos hin] at q2
      refine iteN (c := !inV (.str (rowNm r)) ((rs.map rowNm).map V.str)) (by rw [in_strsD, decide_eq_true hin]; rfl) ?_
      refine ⟨_, _, _, rfl, Cr.fmem, rfl, ?_⟩
      refine comp_mapL (memOf CTask CDoor) (fun o => memOf CTask CDoor (if rowNm o = rowNm r then r else o)) rs [] (fun o ho R hR => ?_) (by show 0 + rs.length ≤ sizeLine; exact Nat.le_trans (show _ ≤ 8 by omega) (by decide)) ?_
      · obtain ⟨C', fs', g4, g5, g6⟩ := fld_mem T Do o (μ := μ)
        refine ⟨C', fs', _, g4, g5, g6, C, fs, _, g1, g2, g3, ?_⟩
        by_cases he : rowNm o = rowNm r
        · rw [if_pos he] at hR
          exact iteY (c := decide (rowNm o = rowNm r)) (decide_eq_true he) hR
        · rw [if_neg he] at hR
          exact iteN (c := decide (rowNm o = rowNm r)) (decide_eq_false he) hR
      have hp : putRow r rs = some (rs.map fun o => if rowNm o = rowNm r then r else o) := by unfold putRow; rw [if_pos hin]
      obtain ⟨k1, k2, k3⟩ := putRow_ok hp hl hn hok hr'
      have em : rs.map (fun o => memOf CTask CDoor (if rowNm o = rowNm r then r else o)) = (rs.map fun o => if rowNm o = rowNm r then r else o).map (memOf CTask CDoor) := by rw [List.map_map]; rfl
      rw [List.nil_append, em]
      refine ⟨_, rfl, rfl, rfl, fun _ _ c3 => ⟨μ.length, _, rfl, at_app, tho_memsK _ k3, ?_⟩⟩
      rw [crw_rows k1 k2]
      exact ⟨rfl, μ, _, set_app, rfl, c3, ⟨cl_mems _, trivial⟩, q2⟩
    · rw [if_neg hin] at q2
      refine iteY (c := !inV (.str (rowNm r)) ((rs.map rowNm).map V.str)) (by rw [in_strsD, decide_eq_false hin]; rfl) ?_
      refine ⟨_, _, _, rfl, Cr.fmem, rfl, _, rfl, grdD (by rw [List.length_append, List.length_map]; exact Nat.le_trans (show rs.length + 1 ≤ 9 by omega) (by decide)) ?_⟩
      have em : rs.map (memOf CTask CDoor) ++ [memOf CTask CDoor r] = (rs ++ [r]).map (memOf CTask CDoor) := by rw [List.map_append]; rfl
      have hall : ∀ x ∈ rs ++ [r], mOk x := fun x hx => by
        rcases List.mem_append.mp hx with hx | hx
        · exact hok x hx
        · rw [List.mem_singleton.mp hx]; exact hr'
      refine ⟨rfl, rfl, fun _ _ c3 => ⟨μ.length, _, rfl, at_app, ?_, ?_⟩⟩
      · show Thos _ (rs.map (memOf CTask CDoor) ++ [memOf CTask CDoor r])
        rw [em]
        exact tho_memsK _ hall
      rw [em]
      by_cases h8 : rs.length = 8
      · rw [if_pos h8] at q2
        have e9 : crwD CTask CDoor (.tup ((rs ++ [r]).map (memOf CTask CDoor))) = some (.v .non) := by
          unfold crwD
          rw [if_neg]
          show ¬ (decide (((rs ++ [r]).map (memOf CTask CDoor)).length ≤ 8) && _) = true
          rw [decide_eq_false (by rw [List.length_map, List.length_append, List.length_singleton]; omega)]
          simp
        rw [e9]
        exact ⟨μ, _, rfl, rfl, c3, fun fs e => by cases e; exact ⟨trivial, trivial⟩, q2⟩
      · rw [if_neg h8] at q2
        have hp : putRow r rs = some (rs ++ [r]) := by unfold putRow; rw [if_neg hin, if_neg h8]
        obtain ⟨k1, k2, k3⟩ := putRow_ok hp hl hn hok hr'
        rw [crw_rows k1 k2]
        exact ⟨rfl, μ, _, set_app, rfl, c3, ⟨cl_mems _, trivial⟩, q2⟩
abbrev s_Crew_without : Stmt := inClass (topS 32) 4
abbrev n_Crew_without : List Str := ["self", "name", "left", "own"]
abbrev p_Crew_without : List Str := ["self", "name"]
theorem sc_Crew_without : FnScope n_Crew_without p_Crew_without (defScope s_Crew_without) := ⟨rfl, rfl, rfl, by decide +kernel, rfl, by decide +kernel, by decide +kernel⟩
def spWithoutD (K : PySem.W.Frag) (CT CD CC CE : Addr) : SpD := fun ds μ Q X => ∃ (rs : List Row) (x : D), ds = [.obj CC (crewF (.tup (rs.map (memOf CT CD)))), x] ∧ rs.length ≤ 8 ∧ (rs.map rowNm).Nodup ∧ (∀ r ∈ rs, mOk r) ∧ Thing K x ∧
  match namedRow x rs with
    | some r => Q (.obj CC (crewF (.tup ((outRow r rs).map (memOf CT CD))))) μ
    | none => X ⟨.ref CE, some [("name", x)]⟩ μ
theorem okd_without {f : Addr} {fd : FuncData} (F : Fun K "without" "Crew.without" s_Crew_without f fd) (B : Blt mg) (T : TaskK K CTask) (Do : DoorK K CDoor) (Cr : CrewK K CCrew)
    (K_Crew : MkD P w K mg base 3 "Crew" CCrew p_Crew___init__ 1 [] gPos (spCrewD (GK CTask CDoor CCrew) CTask CDoor CCrew CNoCrew)) (M_Crew_named : MtD P w K mg base 3 CCrew "named" p_Crew_named 1 [] gPos (spNamedD K (GK CTask CDoor CCrew) CCrew CNoName)) : FnD P w K mg base 5 f fd p_Crew_without (spWithoutD K CTask CDoor CCrew CNoName) := by
  refine okD F sc_Crew_without (fun ds μ QD QX h => by obtain ⟨rs, x, rfl, _⟩ := h; rfl) fun cdv A outer s H E hr => ?_
  have hr0 : Room 0 _ := hr.mono (by decide); have hr3 : Room 3 _ := hr.mono (by decide); have hr4 : Room 4 _ := hr.mono (by decide)
  refine ⟨_, (dss_cons (ds_set (i := 2) sc_Crew_without.nd rfl (.inr rfl) (de_meth M_Crew_named rfl hr3 tkD (dv 0) (da_cons (dv 1) da_nil) dk_nil))
      (dss_one (ds_ret (de_make (b := false) K_Crew rfl hr4 tkD (by rfl) (da_cons (de_ct call_tuple_of DL.sTuple (by rfl) B.tuple (by decide +kernel) (da_cons (de_lc (own := [("own", 3)]) (ws := [3]) rfl sc_Crew_without.nd (blkOk_by (N := n_Crew_without) (sc := defScope s_Crew_without) (by decide +kernel)) (di_seq rfl (de_fld rfl (dv 0))) (by decide) (fun _ _ _ _ _ => (dg_name (i := 3) sc_Crew_without.nd rfl (Or.inl rfl))) (fun _ _ _ _ _ => (dpts_one (dt_cmp (op_neA hr0.units) DL.sNe (de_fld rfl (dv 3)) (de_fld rfl (dv 2))))) (fun _ _ _ _ _ => (dv 3))) da_nil)) da_nil) dk_nil)))), ?_⟩
  intro ds μ QD QX cl cm h
  refine .inr ?_
  obtain ⟨rs, x, rfl, hl, hn, hok, hx, q⟩ := h
  refine ⟨_, rfl, rfl, _, x, rfl, named_all T Do hok, hx, ?_⟩
  rw [named_find]
  cases e : namedRow x rs with
  | none =>
    rw [e] at q
    exact q
  | some r =>
    rw [e] at q
    obtain ⟨C, fs, g1, g2, g3⟩ := fld_mem T Do r (μ := μ)
    show _
    refine ⟨_, _, _, rfl, Cr.fmem, rfl, ?_⟩
    refine comp_fltL (memOf CTask CDoor) (fun o => if rowNm o = rowNm r then none else some (memOf CTask CDoor o)) rs [] (fun o ho R R' hR => ?_) (by show 0 + rs.length ≤ sizeLine; exact Nat.le_trans (show _ ≤ 8 by omega) (by decide)) ?_
    · obtain ⟨C', fs', g4, g5, g6⟩ := fld_mem T Do o (μ := μ)
      refine ⟨C', fs', _, g4, g5, g6, C, fs, _, g1, g2, g3, ?_⟩
      by_cases he : rowNm o = rowNm r
      · rw [if_pos he] at hR
        exact iteN (c := !decide (rowNm o = rowNm r)) (by rw [decide_eq_true he]; rfl) hR
      · rw [if_neg he] at hR
        exact iteY (c := !decide (rowNm o = rowNm r)) (by rw [decide_eq_false he]; rfl) hR
    obtain ⟨k1, k2, k3⟩ := outRow_ok (r := r) hl hn hok
    rw [List.nil_append, flt_out]
    refine ⟨_, rfl, rfl, rfl, fun _ _ c3 => ⟨μ.length, _, rfl, at_app, tho_memsK _ k3, ?_⟩⟩
    rw [crw_rows k1 k2]
    exact ⟨rfl, μ, _, set_app, rfl, c3, ⟨cl_mems _, trivial⟩, q⟩
end
end Du

set_option Elab.async false
set_option linter.all false
set_option maxRecDepth 100000
namespace Du
open PySem L2 DL L2H
open L2N (Zn)
theorem cut_two {a b : D} {r : Int} (h0 : 0 ≤ r) (h1 : r < 3) : (r = 0 ∧ cutD [a, b] none (some r) = []) ∨ (r = 1 ∧ cutD [a, b] none (some r) = [a]) ∨ (r = 2 ∧ cutD [a, b] none (some r) = [a, b]) := by
  have hr : r = 0 ∨ r = 1 ∨ r = 2 := by omega
  rcases hr with rfl | rfl | rfl
  · exact .inl ⟨rfl, rfl⟩
  · exact .inr (.inl ⟨rfl, rfl⟩)
  · exact .inr (.inr ⟨rfl, rfl⟩)
section
variable {P : Program} {w : World} {K : PySem.W.Frag} {mg : Str → Option Value} {base : Heap} {cs : List Addr} {CTask CDoor CCrew CNoName CNoCrew CNoTask CNoDoor CNoTool CTimeError CLostError CFullError : Addr}
abbrev s__law_drawn_row : Stmt := topS 43
abbrev n__law_drawn_row : List Str := ["_law_purse_here", "_law_label"]
abbrev p__law_drawn_row : List Str := ["_law_purse_here", "_law_label"]
theorem sc__law_drawn_row : FnScope n__law_drawn_row p__law_drawn_row (defScope s__law_drawn_row) := ⟨rfl, rfl, rfl, by decide +kernel, rfl, by decide +kernel, by decide +kernel⟩
def spDrawnRowD : SpD := fun ds μ Q _ => ∃ (i : Nat) (n : Str), ds = [.loc i, .v (.str n)] ∧ isNm n = true ∧ PurseD μ i ∧ ∀ (r : Row) (μ' : Store), mOk r → rowNm r = n → Pu i μ μ' → Q (rowOf r) μ'
theorem okd_drawnRow {f : Addr} {fd : FuncData} (F : Fun K "_law_drawn_row" "_law_drawn_row" s__law_drawn_row f fd) (B : Blt mg) (m_set : mg "set" = none) (D__law_take : DnP P w K mg base 1 "_law_take" p__law_take 2 spTakeD) (D__law_door : DnP P w K mg base 2 "_law_door" p__law_door 3 spDoorLD) (D__law_task : DnP P w K mg base 3 "_law_task" p__law_task 4 spTaskLD) : FnD P w K mg base 4 f fd p__law_drawn_row spDrawnRowD := by
  refine okD F sc__law_drawn_row (fun ds μ QD QX h => by obtain ⟨i, n, rfl, _⟩ := h; rfl) fun cdv A outer s H E hr => ?_
  have hr0 : Room 0 _ := hr.mono (by decide); have hr1 : Room 1 _ := hr.mono (by decide); have hr2 : Room 2 _ := hr.mono (by decide); have hr3 : Room 3 _ := hr.mono (by decide)
  refine ⟨_, (dss_cons (ds_if (dt_cmp (op_eqA hr0.units) DL.sEq (de_call D__law_take rfl hr1 tkD (by rfl) (da_cons (dv 0) (da_cons de_int da_nil)) dk_nil) de_int) (dss_one (ds_ret (de_call D__law_door rfl hr2 tkD (by rfl) (da_cons (dv 0) (da_cons (dv 1) (da_cons de_int da_nil))) dk_nil))) dss_nil)
      (dss_one (ds_ret (de_call D__law_task rfl hr3 tkD (by rfl) (da_cons (dv 0) (da_cons (dv 1) (da_cons de_int (da_cons (de_sortedSet (b := false) rfl rfl (by rfl) B.sorted (by rfl) m_set (de_slice false rfl (de_lst false (da_cons de_str (da_cons (dv 1) da_nil))) do_none (do_some (de_call D__law_take rfl hr1 tkD (by rfl) (da_cons (dv 0) (da_cons de_int da_nil)) dk_nil)))) da_nil)))) dk_nil)))), ?_⟩
  intro ds μ QD QX cl cm h
  refine .inr ?_
  obtain ⟨i, n, rfl, hn, hp, q⟩ := h
  refine ⟨i, 4, rfl, by decide, by decide, hp, fun r0 μ0 a0 b0 p0 => ?_⟩
  refine ite2 (fun _ => ?_) (fun _ => ?_)
  · exact ⟨i, n, 2, rfl, hn, by decide, by decide, p0.purse, fun r g μ1 hr p1 => q (.dk n r g) μ1 (mOk_of (ts := []) (r := .dk n r g) hr) rfl (p0.trans p1)⟩
  · refine ⟨i, 3, rfl, by decide, by decide, p0.purse, fun r1 μ1 a1 b1 p1 => ?_⟩
    have nt : isNm "tool" = true := by decide +kernel
    have fin : ∀ ns : List Str, (∀ z ∈ ns, isNm z = true) → ns.length < 60 → ∀ ms : List Str, ms.Perm (uq ns) → isNm n = true ∧ (1 : Int) ≤ 2 ∧ (2 : Int) ≤ 100 ∧ ms.length ≤ 60 ∧ ms.Nodup ∧ (∀ z ∈ ms, isNm z = true) ∧ PurseD μ1 i ∧ ∀ (c g d : Int) (hs : List Hold) (μ' : Store), RowT n c g d hs → (∀ h ∈ hs, h.1 ∈ ms) → Pu i μ1 μ' → QD (rowT n c g d hs) μ' := fun ns hall hl ms hp => by
      refine ⟨hn, by decide, by decide, ?_, ?_, ?_, p1.purse, fun c g d hs μ' hr hin pp => q (.tk n c g d hs) μ' (mOk_of (ts := ms) (r := .tk n c g d hs) ⟨hr, hin⟩) rfl ((p0.trans p1).trans pp)⟩
      · rw [hp.length_eq]
        exact Nat.le_trans (uq_len ns) (by omega)
      · exact hp.nodup_iff.mpr (uq_nd ns)
      · intro z hz
        exact hall z (uq_mem.mp (hp.mem_iff.mp hz))
    refine ⟨_, rfl, ?_⟩
    rcases cut_two (a := .v (.str "tool")) (b := .v (.str n)) a1 b1 with ⟨_, e⟩ | ⟨_, e⟩ | ⟨_, e⟩
    · rw [e]
      exact ⟨_, _, [], rfl, rfl, rfl, by decide, fun ms hp _ => ⟨i, n, 2, ms, rfl, fin [] (by simp) (by simp) ms hp⟩⟩
    · rw [e]
      exact ⟨_, _, ["tool"], rfl, rfl, rfl, by decide, fun ms hp _ => ⟨i, n, 2, ms, rfl, fin ["tool"] (fun z hz => by rw [List.mem_singleton.mp hz]; exact nt) (by decide) ms hp⟩⟩
    · rw [e]
      exact ⟨_, _, ["tool", n], rfl, rfl, rfl, (by show 2 < 64; decide), fun ms hp _ => ⟨i, n, 2, ms, rfl, fin ["tool", n] (fun z hz => by
        rcases List.mem_cons.mp hz with rfl | hz
        · exact nt
        · rw [List.mem_singleton.mp hz]; exact hn) (by show 2 < 60; decide) ms hp⟩⟩
/-- the errors of a deed, told apart -/
structure SortK (K : PySem.W.Frag) (CCr CNm c1 c2 c3 c4 : Addr) : Prop where
  eC : ErrI K CCr
  eN : ErrI K CNm
  nC : PySem.W.findIn K (.ref CCr) "name" = some none
  nN : PySem.W.findIn K (.ref CNm) "name" = some none
  oC : PySem.W.kitAny K (.ref CCr) [.ref c1, .ref c2, .ref c3, .ref c4] = some false
  oN : PySem.W.kitAny K (.ref CNm) [.ref c1, .ref c2, .ref c3, .ref c4] = some false
  cc : PySem.W.kitOne K (.ref CCr) (.ref CCr) = some true
  nc : PySem.W.kitOne K (.ref CNm) (.ref CCr) = some false
  nn : PySem.W.kitOne K (.ref CNm) (.ref CNm) = some true
  cV : PySem.W.kitOne K (.ref CCr) (.type "ValueError") = some true
  cL : PySem.W.kitOne K (.ref CCr) (.type "LookupError") = some false
  nV : PySem.W.kitOne K (.ref CNm) (.type "ValueError") = some false
  nL : PySem.W.kitOne K (.ref CNm) (.type "LookupError") = some true
abbrev s__law_sort : Stmt := topS 44
abbrev n__law_sort : List Str := ["_law_e"]
abbrev p__law_sort : List Str := ["_law_e"]
theorem sc__law_sort : FnScope n__law_sort p__law_sort (defScope s__law_sort) := ⟨rfl, rfl, rfl, by decide +kernel, rfl, by decide +kernel, by decide +kernel⟩
def spSortD (CCr CNm : Addr) (a dd C : Addr) : SpD := fun ds μ Q _ => ∃ x, ds = [.exn a dd C [("name", x)]] ∧ ((C = CCr ∧ Q (.tup [.v (.str "crew"), x]) μ) ∨ (C = CNm ∧ Q (.tup [.v (.str "name"), x]) μ))
theorem okd_sort {f : Addr} {fd : FuncData} (F : Fun K "_law_sort" "_law_sort" s__law_sort f fd) (B : Blt mg) (m_LookupError : mg "LookupError" = none) (g_NoTask : mg "NoTask" = some (.ref CNoTask)) (g_NoDoor : mg "NoDoor" = some (.ref CNoDoor)) (g_NoTool : mg "NoTool" = some (.ref CNoTool)) (g_FullError : mg "FullError" = some (.ref CFullError)) (g_NoCrew : mg "NoCrew" = some (.ref CNoCrew)) (g_NoName : mg "NoName" = some (.ref CNoName)) (SK : SortK K CNoCrew CNoName CNoTask CNoDoor CNoTool CFullError) : FnED P w K mg base 1 f fd p__law_sort (spSortD CNoCrew CNoName) := by
  refine enD F sc__law_sort (fun a dd C ds μ QD QX h => by obtain ⟨x, rfl, _⟩ := h; rfl) fun cdv A outer s H a dd C oe hz hv hr hsp => ?_
  have hC : C = CNoCrew ∨ C = CNoName := by
    obtain ⟨_, _, _, _, x, _, h | h⟩ := hsp
    · exact .inl h.1
    · exact .inr h.1
  have hE : ErrI K C := by rcases hC with rfl | rfl <;> first | exact SK.eC | exact SK.eN
  have hN_name : PySem.W.findIn K (.ref C) "name" = some none := by rcases hC with rfl | rfl <;> first | exact SK.nC | exact SK.nN
  refine ⟨_, (dss_cons (ds_if (dt_val (de_cb (call_isXT hE List.mem_cons_self hz hv) sIsiE (by rfl) B.isinstance (by decide +kernel) (da_cons (dv 0) (da_cons (de_tup (da_cons (de_glob (v := .ref CNoTask) rfl g_NoTask rfl) (da_cons (de_glob (v := .ref CNoDoor) rfl g_NoDoor rfl) (da_cons (de_glob (v := .ref CNoTool) rfl g_NoTool rfl) (da_cons (de_glob (v := .ref CFullError) rfl g_FullError rfl) da_nil))))) da_nil)))) (dss_one (ds_ret (de_tup (da_cons de_str (da_cons de_non da_nil))))) dss_nil)
      (dss_cons (ds_if (dt_w (dw_and (dt_val (de_cb (call_isXT hE List.mem_cons_self hz hv) sIsiE (by rfl) B.isinstance (by decide +kernel) (da_cons (dv 0) (da_cons (de_glob (v := .ref CNoCrew) rfl g_NoCrew rfl) da_nil)))) (dw_and (dt_val (de_cb (call_isXT hE List.mem_cons_self hz hv) sIsiE (by rfl) B.isinstance (by decide +kernel) (da_cons (dv 0) (da_cons (de_bltn (v := .ty "ValueError") (by rfl) B.ValueError (by decide +kernel) rfl) da_nil)))) (dw_and1 (dt_not (dt_val (de_cb (call_isXT hE List.mem_cons_self hz hv) sIsiE (by rfl) B.isinstance (by decide +kernel) (da_cons (dv 0) (da_cons (de_bltn (v := .ty "LookupError") (by rfl) m_LookupError (by decide +kernel) rfl) da_nil))))))))) (dss_one (ds_ret (de_tup (da_cons de_str (da_cons (de_fldE rfl hE hN_name List.mem_cons_self hz hv (dv 0)) da_nil))))) dss_nil)
      (dss_cons (ds_if (dt_w (dw_and (dt_val (de_cb (call_isXT hE List.mem_cons_self hz hv) sIsiE (by rfl) B.isinstance (by decide +kernel) (da_cons (dv 0) (da_cons (de_glob (v := .ref CNoName) rfl g_NoName rfl) da_nil)))) (dw_and (dt_val (de_cb (call_isXT hE List.mem_cons_self hz hv) sIsiE (by rfl) B.isinstance (by decide +kernel) (da_cons (dv 0) (da_cons (de_bltn (v := .ty "LookupError") (by rfl) m_LookupError (by decide +kernel) rfl) da_nil)))) (dw_and1 (dt_not (dt_val (de_cb (call_isXT hE List.mem_cons_self hz hv) sIsiE (by rfl) B.isinstance (by decide +kernel) (da_cons (dv 0) (da_cons (de_bltn (v := .ty "ValueError") (by rfl) B.ValueError (by decide +kernel) rfl) da_nil))))))))) (dss_one (ds_ret (de_tup (da_cons de_str (da_cons (de_fldE rfl hE hN_name List.mem_cons_self hz hv (dv 0)) da_nil))))) dss_nil)
      (dss_one (ds_ret (de_tup (da_cons de_str (da_cons de_non da_nil)))))))), ?_⟩
  intro ds μ QD QX cl cm h
  refine .inr ?_
  obtain ⟨x, rfl, ⟨rfl, q⟩ | ⟨rfl, q⟩⟩ := h
  · refine ⟨rfl, rfl, rfl, _, _, rfl, SK.oC, ?_⟩
    refine ⟨rfl, rfl, rfl, _, _, rfl, SK.cc, ?_⟩
    refine ⟨rfl, rfl, rfl, _, _, rfl, SK.cV, ?_⟩
    refine ⟨rfl, rfl, rfl, _, _, rfl, SK.cL, ?_⟩
    exact ⟨_, _, rfl, rfl, q⟩
  · refine ⟨rfl, rfl, rfl, _, _, rfl, SK.oN, ?_⟩
    refine ⟨rfl, rfl, rfl, _, _, rfl, SK.nc, ?_⟩
    refine ⟨rfl, rfl, rfl, _, _, rfl, SK.nn, ?_⟩
    refine ⟨rfl, rfl, rfl, _, _, rfl, SK.nL, ?_⟩
    refine ⟨rfl, rfl, rfl, _, _, rfl, SK.nV, ?_⟩
    exact ⟨_, _, rfl, rfl, q⟩
abbrev s__law_put : Stmt := topS 46
abbrev n__law_put : List Str := ["_law_rows", "_law_row", "_law_names", "_law_at", "_law_one"]
abbrev p__law_put : List Str := ["_law_rows", "_law_row"]
theorem sc__law_put : FnScope n__law_put p__law_put (defScope s__law_put) := ⟨rfl, rfl, rfl, by decide +kernel, rfl, by decide +kernel, by decide +kernel⟩
def lstOpt : Option (List Row) → D
  | some rs => .lst (rs.map rowOf)
  | none => .v .non
def spPutD : SpD := fun ds μ Q _ => ∃ (rs : List Row) (r : Row), ds = [.lst (rs.map rowOf), rowOf r] ∧ rs.length ≤ 8 ∧ (rs.map rowNm).Nodup ∧ Q (lstOpt (putRow r rs)) μ
theorem okd_put {f : Addr} {fd : FuncData} (F : Fun K "_law_put" "_law_put" s__law_put f fd) (B : Blt mg) : FnD P w K mg base 2 f fd p__law_put spPutD := by
  refine okD F sc__law_put (fun ds μ QD QX h => by obtain ⟨rs, r, rfl, _⟩ := h; rfl) fun cdv A outer s H E hr => ?_
  have hr0 : Room 0 _ := hr.mono (by decide)
  refine ⟨_, (dss_cons (ds_setLc (i := 2) (own := [("_law_one", 4)]) (ws := [4]) rfl sc__law_put.nd rfl rfl (sw_true rfl rfl rfl (by decide +kernel)) (blkOk_by (N := n__law_put) (sc := defScope s__law_put) (by decide +kernel)) (di_seq rfl (dv 0)) (by decide) (fun _ _ _ _ _ => (dg_name (i := 4) sc__law_put.nd rfl (Or.inl rfl))) (fun _ _ _ _ _ => dpts_nil) (fun _ _ _ _ _ => (de_ix rfl (dv 4) de_int)))
      (dss_cons (ds_if (dt_cmp op_inA DL.sIn (de_ix rfl (dv 1) de_int) (dv 2)) (dss_cons (ds_set (i := 3) sc__law_put.nd rfl (.inl rfl) (de_index rfl (dv 2) (de_ix rfl (dv 1) de_int)))
      (dss_one (ds_ret (de_op op_addA (DL.sAdd (b := false)) (de_op op_addA (DL.sAdd (b := false)) (de_slice false rfl (dv 0) do_none (do_some (dv 3))) (de_lst false (da_cons (dv 1) da_nil))) (de_slice false rfl (dv 0) (do_some (de_op op_addA (DL.sAdd (b := false)) (dv 3) de_int)) do_none))))) dss_nil)
      (dss_one (ds_ret (de_ix rfl (de_lst false (da_cons (de_op op_addA (DL.sAdd (b := false)) (dv 0) (de_lst false (da_cons (dv 1) da_nil))) (da_cons de_non da_nil))) (de_ct call_int1 DL.sInt (by rfl) B.int (by decide +kernel) (da_cons (de_cmp (op_eqA hr0.units) DL.sEq (de_cb call_len DL.sLen (by rfl) B.len (by decide +kernel) (da_cons (dv 0) da_nil)) de_int) da_nil))))))), ?_⟩
  intro ds μ QD QX cl cm h
  refine .inr ?_
  obtain ⟨rs, r, rfl, hl, hn, q⟩ := h
  have L8 : 100 ≤ sizeLine := by decide
  refine comp_mapL rowOf (fun r => .v (.str (rowNm r))) rs [] (fun r hr R hR => ⟨_, row1 r, hR⟩) (by show 0 + rs.length ≤ sizeLine; omega) ?_
  rw [List.nil_append, show rs.map (fun r => D.v (.str (rowNm r))) = (rs.map rowNm).map fun z => D.v (.str z) by rw [List.map_map]; rfl]
  refine ⟨_, row1 r, .str (rowNm r), _, _, rfl, rfl, flat_strs _, ?_⟩
  unfold putRow at q
  by_cases hin : rowNm r ∈ rs.map rowNm
  · rw [if_pos hin] at q
    refine iteY (c := inV (.str (rowNm r)) ((rs.map rowNm).map V.str)) (by rw [in_strsD]; exact decide_eq_true hin) ?_
    obtain ⟨j, hj, ej⟩ := List.mem_iff_getElem.mp hin
    have hj' : j < rs.length := by rw [List.length_map] at hj; exact hj
    refine ⟨_, rfl, _, row1 r, _, _, .str (rowNm r), .str (rowNm r), j, rfl, flat_strs _, rfl, ?_, ?_, ?_, ?_⟩
    · rw [List.getElem?_map, List.getElem?_eq_getElem hj, ej]
      rfl
    · simp [eqV]
    · intro m z' hm e
      rw [List.getElem?_map, List.getElem?_eq_getElem (by omega)] at e
      cases e
      have ne : (rs.map rowNm)[m]'(by omega) ≠ rowNm r := fun e => by
        have := (List.getElem_inj hn).mp (e.trans ej.symm)
        omega
      simp only [eqV]
      exact beq_false_of_ne ne
    refine ⟨_, rfl, _, _, rfl, rfl, ?_, _, rfl, _, _, rfl, rfl, ?_, ?_⟩
    · rw [cutD_to, List.length_take, List.length_map]
      show _ + 1 ≤ _
      omega
    · rw [cutD_to, show (j : Int) + 1 = ((j + 1 : Nat) : Int) by omega, cutD_fr, List.length_append, List.length_take, List.length_drop, List.length_map]
      show _ + 1 + _ ≤ _
      omega
    rw [cutD_to, show (j : Int) + 1 = ((j + 1 : Nat) : Int) by omega, cutD_fr]
    have es : (rs.map rowOf).take j ++ [rowOf r] ++ (rs.map rowOf).drop (j + 1) = (rs.set j r).map rowOf := by
      rw [List.map_set, List.set_eq_take_append_cons_drop, if_pos (by rw [List.length_map]; exact hj'), List.append_assoc]
      rfl
    have em : rs.set j r = rs.map fun o => if rowNm o = rowNm r then r else o := by
      refine List.ext_getElem? fun k => ?_
      rw [List.getElem?_map]
      by_cases hk : j = k
      · subst hk
        rw [List.getElem?_set_self hj', List.getElem?_eq_getElem hj']
        have e2 : rowNm rs[j] = rowNm r := by rw [← ej, List.getElem_map]
        show _ = some (if rowNm rs[j] = rowNm r then r else rs[j])
        rw [if_pos e2]
      · rw [List.getElem?_set_ne hk]
        by_cases hk2 : k < rs.length
        · rw [List.getElem?_eq_getElem hk2]
          have ne : ¬ rowNm rs[k] = rowNm r := fun e => by
            have e3 : (rs.map rowNm)[j] = (rs.map rowNm)[k]'(by rw [List.length_map]; exact hk2) := by rw [ej, List.getElem_map, e]
            exact hk ((List.getElem_inj hn).mp e3)
          show _ = some (if rowNm rs[k] = rowNm r then r else rs[k])
          rw [if_neg ne]
        · rw [List.getElem?_eq_none (by omega)]
          rfl
    rw [es, em]
    exact q
  · rw [if_neg hin] at q
    refine iteN (c := inV (.str (rowNm r)) ((rs.map rowNm).map V.str)) (by rw [in_strsD]; exact decide_eq_false hin) ?_
    refine ⟨_, _, rfl, rfl, ?_, ?_⟩
    · rw [List.length_map]
      show _ + 1 ≤ _
      omega
    by_cases h8 : rs.length = 8
    · rw [if_pos h8] at q
      refine ⟨_, ?_, q⟩
      rw [List.length_map, h8]
      rfl
    · rw [if_neg h8] at q
      refine ⟨.lst ((rs ++ [r]).map rowOf), ?_, q⟩
      rw [List.length_map, List.map_append]
      have e : decide ((rs.length : Int) = 8) = false := decide_eq_false (by omega)
      rw [e]
      rfl
end
end Du

set_option Elab.async false
set_option linter.all false
set_option maxRecDepth 100000
namespace Du
open PySem L2 DL L2H
open L2N (Zn)
section
variable {P : Program} {w : World} {K : PySem.W.Frag} {mg : Str → Option Value} {base : Heap} {cs : List Addr} {CTask CDoor CCrew CNoName CNoCrew CNoTask CNoDoor CNoTool CTimeError CLostError CFullError : Addr}
abbrev crwO (CT CD CC : Addr) (rs : List Row) : D := .obj CC (crewF (.tup (rs.map (memOf CT CD))))
abbrev s__law_told : Stmt := topS 45
abbrev n__law_told : List Str := ["_law_crew_here", "_law_word", "_law_thing", "_law_by_name", "_law_e"]
abbrev p__law_told : List Str := ["_law_crew_here", "_law_word", "_law_thing", "_law_by_name"]
theorem sc__law_told : FnScope n__law_told p__law_told (defScope s__law_told) := ⟨rfl, rfl, rfl, by decide +kernel, rfl, by decide +kernel, by decide +kernel⟩
def spToldD (CT CD CC : Addr) : SpD := fun ds μ Q _ => ∃ (rs : List Row) (x : D) (b : Bool) (wd : Str), ds = [crwO CT CD CC rs, .v (.str wd), x, .v (.bl b)] ∧ rs.length ≤ 8 ∧ (rs.map rowNm).Nodup ∧ (∀ r ∈ rs, mOk r) ∧ Tho (GK CT CD CC) x ∧
  ((wd = "with" ∧ (isMemD CT CD x = false → Q (.tup [.v (.str "crew"), .v .non]) μ) ∧ ∀ r, mOk r → x = memOf CT CD r → match putRow r rs with
      | some rs' => Q (.tup [.v (.str "told"), crwO CT CD CC rs']) μ
      | none => Q (.tup [.v (.str "crew"), .v .non]) μ) ∨
   (wd = "without" ∧ match namedRow x rs with
      | some r => Q (.tup [.v (.str "told"), crwO CT CD CC (outRow r rs)]) μ
      | none => Q (.tup [.v (.str "name"), x]) μ) ∨
   (wd = "named" ∧ match namedRow x rs with
      | some r => Q (.tup [.v (.str "told"), memOf CT CD r]) μ
      | none => Q (.tup [.v (.str "name"), x]) μ))
set_option maxHeartbeats 1000000 in
theorem okd_told {f : Addr} {fd : FuncData} (F : Fun K "_law_told" "_law_told" s__law_told f fd) (O : Own K cs) (T : TaskK K CTask) (Do : DoorK K CDoor) (hG : ∀ C fs, GK CTask CDoor CCrew C fs → C ∈ cs) (g_TimeError : mg "TimeError" = some (.ref CTimeError)) (g_LostError : mg "LostError" = some (.ref CLostError)) (g_FullError : mg "FullError" = some (.ref CFullError)) (SK : SortK K CNoCrew CNoName CNoTask CNoDoor CNoTool CFullError)
    (xC : PySem.W.exmAny K (.ref CNoCrew) [.ref CTimeError, .ref CLostError, .ref CFullError] = some true) (xN : PySem.W.exmAny K (.ref CNoName) [.ref CTimeError, .ref CLostError, .ref CFullError] = some true)
    (D__law_sort : DnED P w K mg base 1 "_law_sort" p__law_sort (spSortD CNoCrew CNoName)) (M_Crew_with_member : MtD P w K mg base 5 CCrew "with_member" p_Crew_with_member 1 [] gPos (spWithD CTask CDoor CCrew CNoCrew)) (M_Crew_with_member__member : MtD P w K mg base 5 CCrew "with_member" p_Crew_with_member 0 ["member"] gPos (spWithD CTask CDoor CCrew CNoCrew))
    (M_Crew_without : MtD P w K mg base 5 CCrew "without" p_Crew_without 1 [] gPos (spWithoutD K CTask CDoor CCrew CNoName)) (M_Crew_without__name : MtD P w K mg base 5 CCrew "without" p_Crew_without 0 ["name"] gPos (spWithoutD K CTask CDoor CCrew CNoName)) (M_Crew_named : MtD P w K mg base 3 CCrew "named" p_Crew_named 1 [] gPos (spNamedD K (GK CTask CDoor CCrew) CCrew CNoName)) : FnD P w K mg base 6 f fd p__law_told (spToldD CTask CDoor CCrew) := by
  refine okD F sc__law_told (fun ds μ QD QX h => by obtain ⟨rs, x, b, wd, rfl, _⟩ := h; rfl) fun cdv A outer s H E hr => ?_
  have hr0 : Room 0 _ := hr.mono (by decide); have hr1 : Room 1 _ := hr.mono (by decide); have hr3 : Room 3 _ := hr.mono (by decide); have hr5 : Room 5 _ := hr.mono (by decide)
  refine ⟨_, (dss_one (ds_try (i := 4) (cs := [.ref CTimeError, .ref CLostError, .ref CFullError]) rfl rfl rfl sc__law_told.nd rfl rfl (lays3 ⟨by rfl, by decide, .inl g_TimeError⟩ ⟨by rfl, by decide, .inl g_LostError⟩ ⟨by rfl, by decide, .inl g_FullError⟩) mat3 (fun W pn xe tk po => (dss_cons (ds_if (dt_w (dw_and (dt_cmp (op_eqA hr0.units) DL.sEq (dv 1) de_str) (dw_and1 (dt_val (dv 3))))) (dss_one (ds_ret (de_tup (da_cons de_str (da_cons (de_methK M_Crew_with_member__member rfl hr5 (tk_of tk) (dv 0) (dk_cons (dv 2) dk_nil)) da_nil))))) dss_nil)
      (dss_cons (ds_if (dt_cmp (op_eqA hr0.units) DL.sEq (dv 1) de_str) (dss_one (ds_ret (de_tup (da_cons de_str (da_cons (de_meth M_Crew_with_member rfl hr5 (tk_of tk) (dv 0) (da_cons (dv 2) da_nil) dk_nil) da_nil))))) dss_nil)
      (dss_cons (ds_if (dt_w (dw_and (dt_cmp (op_eqA hr0.units) DL.sEq (dv 1) de_str) (dw_and1 (dt_val (dv 3))))) (dss_one (ds_ret (de_tup (da_cons de_str (da_cons (de_methK M_Crew_without__name rfl hr5 (tk_of tk) (dv 0) (dk_cons (dv 2) dk_nil)) da_nil))))) dss_nil)
      (dss_cons (ds_if (dt_cmp (op_eqA hr0.units) DL.sEq (dv 1) de_str) (dss_one (ds_ret (de_tup (da_cons de_str (da_cons (de_meth M_Crew_without rfl hr5 (tk_of tk) (dv 0) (da_cons (dv 2) da_nil) dk_nil) da_nil))))) dss_nil)
      (dss_one (ds_ret (de_tup (da_cons de_str (da_cons (de_meth M_Crew_named rfl hr3 (tk_of tk) (dv 0) (da_cons (dv 2) da_nil) dk_nil) da_nil)))))))))) (fun a dd C oe pn hE hz hv => (dss_one (ds_ret (de_callE D__law_sort rfl List.mem_cons_self hz hv rfl ⟨hr1.dp, hr1.un⟩ (by rfl) (da_cons (dv 4) da_nil))))))), ?_⟩
  intro ds μ QD QX cl cm h
  refine .inr ?_
  obtain ⟨rs, x, b, wd, rfl, hl, hn, hok, hx, h⟩ := h
  have th := Tho.thing O hG x hx
  rcases h with ⟨rfl, q1, q2⟩ | ⟨rfl, q⟩ | ⟨rfl, q⟩
  · cases b with
    | true =>
      refine ⟨_, rfl, rfl, rs, x, rfl, hl, hn, hok, hx, fun e => ⟨_, _, rfl, xC, SK.eC, fun a dd => ⟨_, rfl, .inl ⟨rfl, q1 e⟩⟩⟩, fun r hr' e => ?_⟩
      have q := q2 r hr' e
      cases ep : putRow r rs with
      | some rs' => rw [ep] at q; exact q
      | none => rw [ep] at q; exact ⟨_, _, rfl, xC, SK.eC, fun a dd => ⟨_, rfl, .inl ⟨rfl, q⟩⟩⟩
    | false =>
      refine ⟨_, rfl, rfl, rs, x, rfl, hl, hn, hok, hx, fun e => ⟨_, _, rfl, xC, SK.eC, fun a dd => ⟨_, rfl, .inl ⟨rfl, q1 e⟩⟩⟩, fun r hr' e => ?_⟩
      have q := q2 r hr' e
      cases ep : putRow r rs with
      | some rs' => rw [ep] at q; exact q
      | none => rw [ep] at q; exact ⟨_, _, rfl, xC, SK.eC, fun a dd => ⟨_, rfl, .inl ⟨rfl, q⟩⟩⟩
  · cases b with
    | true =>
      refine ⟨_, rfl, rfl, rs, x, rfl, hl, hn, hok, th, ?_⟩
      cases ep : namedRow x rs with
      | some r => rw [ep] at q; exact q
      | none => rw [ep] at q; exact ⟨_, _, rfl, xN, SK.eN, fun a dd => ⟨_, rfl, .inr ⟨rfl, q⟩⟩⟩
    | false =>
      refine ⟨_, rfl, rfl, rs, x, rfl, hl, hn, hok, th, ?_⟩
      cases ep : namedRow x rs with
      | some r => rw [ep] at q; exact q
      | none => rw [ep] at q; exact ⟨_, _, rfl, xN, SK.eN, fun a dd => ⟨_, rfl, .inr ⟨rfl, q⟩⟩⟩
  · refine ⟨_, rfl, rfl, _, x, rfl, named_all T Do hok, th, ?_⟩
    rw [named_find]
    cases ep : namedRow x rs with
    | some r => rw [ep] at q; exact q
    | none => rw [ep] at q; exact ⟨_, _, rfl, xN, SK.eN, fun a dd => ⟨_, rfl, .inr ⟨rfl, q⟩⟩⟩
end
end Du

set_option Elab.async false
set_option linter.all false
set_option maxRecDepth 100000
namespace Du
open PySem L2 DL L2H
open L2N (Zn)
def memTx : Row → Str
  | .tk n _ _ _ _ => ("Task(" : Str) ++ n ++ (")" : Str)
  | .dk n _ _ => ("Door(" : Str) ++ n ++ (")" : Str)
theorem atI_pick {L : List D} {r : Int} (h0 : 0 ≤ r) (h1 : r < (L.length : Int)) : ∃ d, atI L r = some d ∧ d ∈ L := by
  obtain ⟨n, rfl⟩ : ∃ n : Nat, r = (n : Int) := ⟨r.toNat, by omega⟩
  have hn : n < L.length := by omega
  exact ⟨L[n], at_ofD (List.getElem?_eq_getElem hn), List.getElem_mem hn⟩
section
variable {P : Program} {w : World} {K : PySem.W.Frag} {mg : Str → Option Value} {base : Heap} {cs : List Addr} {CTask CDoor CCrew CNoName CNoCrew CNoTask CNoDoor CNoTool CTimeError CLostError CFullError : Addr}
abbrev s_Task___repr__ : Stmt := inClass (topS 24) 5
abbrev n_Task___repr__ : List Str := ["self"]
abbrev p_Task___repr__ : List Str := ["self"]
theorem sc_Task___repr__ : FnScope n_Task___repr__ p_Task___repr__ (defScope s_Task___repr__) := ⟨rfl, rfl, rfl, by decide +kernel, rfl, by decide +kernel, by decide +kernel⟩
def spReprT (CT CD : Addr) : SpD := fun ds μ Q _ => ∃ n c g d hs, ds = [memOf CT CD (.tk n c g d hs)] ∧ isNm n = true ∧ Q (.v (.str (("Task(" : Str) ++ n ++ (")" : Str)))) μ
theorem okd_reprT {f : Addr} {fd : FuncData} (F : Fun K "__repr__" "Task.__repr__" s_Task___repr__ f fd) (T : TaskK K CTask) : FnD P w K mg base 2 f fd p_Task___repr__ (spReprT CTask CDoor) := by
  refine okD F sc_Task___repr__ (fun ds μ QD QX h => by obtain ⟨_, _, _, _, _, rfl, _⟩ := h; rfl) fun cdv A outer s H E hr => ?_
  skip
  refine ⟨_, (dss_one (ds_ret (de_joined (.cons de_str (.cons (de_fmt (de_fld rfl (dv 0))) (.cons de_str .nil)))))), ?_⟩
  intro ds μ QD QX cl cm h
  refine .inr ?_
  obtain ⟨n, c, g, d, hs, rfl, hn, q⟩ := h
  have hl := (nm_len hn).2
  have s1 : ("Task(" : Str).length = 5 := by decide
  have s2 : (")" : Str).length = 1 := by decide
  refine ⟨_, rfl, ?_, _, _, _, rfl, T.fname, rfl, nm_thing hn, _, rfl, ?_, _, rfl, ?_, ?_⟩
  · rw [Str.empty_append, s1]; decide
  · rw [Str.empty_append, Str.length_append, s1]; exact Nat.le_trans (Nat.add_le_add_left hl 5) (by decide)
  · rw [Str.empty_append, Str.length_append, Str.length_append, s1, s2]; exact Nat.le_trans (Nat.add_le_add_right (Nat.add_le_add_left hl 5) 1) (by decide)
  · rw [Str.empty_append]; exact q
abbrev s_Door___repr__ : Stmt := inClass (topS 25) 4
abbrev n_Door___repr__ : List Str := ["self"]
abbrev p_Door___repr__ : List Str := ["self"]
theorem sc_Door___repr__ : FnScope n_Door___repr__ p_Door___repr__ (defScope s_Door___repr__) := ⟨rfl, rfl, rfl, by decide +kernel, rfl, by decide +kernel, by decide +kernel⟩
def spReprDo (CT CD : Addr) : SpD := fun ds μ Q _ => ∃ n r g, ds = [memOf CT CD (.dk n r g)] ∧ isNm n = true ∧ Q (.v (.str (("Door(" : Str) ++ n ++ (")" : Str)))) μ
theorem okd_reprDo {f : Addr} {fd : FuncData} (F : Fun K "__repr__" "Door.__repr__" s_Door___repr__ f fd) (Do : DoorK K CDoor) : FnD P w K mg base 2 f fd p_Door___repr__ (spReprDo CTask CDoor) := by
  refine okD F sc_Door___repr__ (fun ds μ QD QX h => by obtain ⟨_, _, _, rfl, _⟩ := h; rfl) fun cdv A outer s H E hr => ?_
  skip
  refine ⟨_, (dss_one (ds_ret (de_joined (.cons de_str (.cons (de_fmt (de_fld rfl (dv 0))) (.cons de_str .nil)))))), ?_⟩
  intro ds μ QD QX cl cm h
  refine .inr ?_
  obtain ⟨n, r, g, rfl, hn, q⟩ := h
  have hl := (nm_len hn).2
  have s1 : ("Door(" : Str).length = 5 := by decide
  have s2 : (")" : Str).length = 1 := by decide
  refine ⟨_, rfl, ?_, _, _, _, rfl, Do.fname, rfl, nm_thing hn, _, rfl, ?_, _, rfl, ?_, ?_⟩
  · rw [Str.empty_append, s1]; decide
  · rw [Str.empty_append, Str.length_append, s1]; exact Nat.le_trans (Nat.add_le_add_left hl 5) (by decide)
  · rw [Str.empty_append, Str.length_append, Str.length_append, s1, s2]; exact Nat.le_trans (Nat.add_le_add_right (Nat.add_le_add_left hl 5) 1) (by decide)
  · rw [Str.empty_append]; exact q
open Classical in
/-- how things of own classes are shown -/
noncomputable def rpA (CT CD CC : Addr) : Addr → List (Str × D) → Option Str := fun C fs =>
  if h : ∃ rs : List Row, D.obj C fs = crwO CT CD CC rs ∧ rs.length ≤ 8 ∧ ∀ r ∈ rs, mOk r then some (crewTx (h.choose.map rowNm)) else
  if h : ∃ r : Row, D.obj C fs = memOf CT CD r ∧ mOk r then some (memTx h.choose) else none
theorem rows_names {CT CD : Addr} {rs rs' : List Row} (e : rs.map (memOf CT CD) = rs'.map (memOf CT CD)) : rs'.map rowNm = rs.map rowNm := by
  have e2 := congrArg (List.map nmOf) e
  rw [List.map_map, List.map_map, show nmOf ∘ memOf CT CD = rowNm from funext fun r => nm_memOf CT CD r] at e2
  exact e2.symm
theorem rpA_crew {CT CD CC : Addr} {rs : List Row} (hl : rs.length ≤ 8) (hok : ∀ r ∈ rs, mOk r) : rpA CT CD CC CC (crewF (.tup (rs.map (memOf CT CD)))) = some (crewTx (rs.map rowNm)) := by
  have h : ∃ rs' : List Row, D.obj CC (crewF (.tup (rs.map (memOf CT CD)))) = crwO CT CD CC rs' ∧ rs'.length ≤ 8 ∧ ∀ r ∈ rs', mOk r := ⟨rs, rfl, hl, hok⟩
  unfold rpA
  rw [dif_pos h]
  have e := h.choose_spec.1
  injection e with _ e
  have e : [(("members" : Str), D.tup (rs.map (memOf CT CD)))] = [(("members" : Str), D.tup (h.choose.map (memOf CT CD)))] := e
  have e : rs.map (memOf CT CD) = h.choose.map (memOf CT CD) := by simpa using e
  rw [rows_names e]
theorem rpA_mem {CT CD CC C : Addr} {fs : List (Str × D)} {r : Row} (hTD : CT ≠ CD) (hTC : CT ≠ CC) (hDC : CD ≠ CC) (hok : mOk r) (e : memOf CT CD r = .obj C fs) : rpA CT CD CC C fs = some (memTx r) := by
  have hn : ¬ ∃ rs : List Row, D.obj C fs = crwO CT CD CC rs ∧ rs.length ≤ 8 ∧ ∀ r ∈ rs, mOk r := by
    rintro ⟨rs, e2, _⟩
    injection e2 with e2 _
    subst e2
    cases r with
    | tk n c g d hs =>
      have e : D.obj CT _ = D.obj C fs := e
      injection e with e _
      exact hTC e
    | dk n r g =>
      have e : D.obj CD _ = D.obj C fs := e
      injection e with e _
      exact hDC e
  have h : ∃ r' : Row, D.obj C fs = memOf CT CD r' ∧ mOk r' := ⟨r, e.symm, hok⟩
  unfold rpA
  rw [dif_neg hn, dif_pos h, mem_inj hTD (e.trans h.choose_spec.1)]
theorem shA_of (OC : OwnR P w K mg base 2 CCrew (sp0 K (spReprC CTask CDoor CCrew))) (OT : OwnR P w K mg base 2 CTask (sp0 K (spReprT CTask CDoor))) (OD : OwnR P w K mg base 2 CDoor (sp0 K (spReprDo CTask CDoor))) : ShC P w K mg base 2 (rpA CTask CDoor CCrew) := ⟨fun C fs t h => by
  unfold rpA at h
  split at h
  · rename_i hx
    obtain ⟨e, hl, hok⟩ := hx.choose_spec
    cases h
    generalize hx.choose = rs at e hl hok
    cases e
    exact ⟨⟨cl_mems rs, trivial⟩, 2, _, Nat.le_refl _, OC, fun μ QD QX q => ⟨rs, rfl, hl, hok, q⟩⟩
  · split at h
    case isFalse => cases h
    rename_i hx
    obtain ⟨e, hok⟩ := hx.choose_spec
    cases h
    generalize hx.choose = r at e hok
    refine ⟨clf0_mem e.symm, ?_⟩
    cases r with
    | tk n c g d hs =>
      cases e
      exact ⟨2, _, Nat.le_refl _, OT, fun μ QD QX q => ⟨n, c, g, d, hs, rfl, hok.1, q⟩⟩
    | dk n r g =>
      cases e
      exact ⟨2, _, Nat.le_refl _, OD, fun μ QD QX q => ⟨n, r, g, rfl, hok.1, q⟩⟩⟩
end
end Du

set_option Elab.async false
set_option linter.all false
set_option maxRecDepth 100000
namespace Du
open PySem L2 DL L2H
open L2N (Zn)
section
variable {P : Program} {w : World} {K : PySem.W.Frag} {mg : Str → Option Value} {base : Heap} {cs : List Addr} {CTask CDoor CCrew CNoName CNoCrew CNoTask CNoDoor CNoTool CTimeError CLostError CFullError : Addr}
abbrev s__law_refused_right : Stmt := topS 47
abbrev n__law_refused_right : List Str := ["_law_purse_here", "_law_crew_here", "_law_rows", "_law_odd", "_law_thing", "_law_told_here", "_law_strange", "_law_word"]
abbrev p__law_refused_right : List Str := ["_law_purse_here", "_law_crew_here", "_law_rows"]
theorem sc__law_refused_right : FnScope n__law_refused_right p__law_refused_right (defScope s__law_refused_right) := ⟨rfl, rfl, rfl, by decide +kernel, rfl, by decide +kernel, by decide +kernel⟩
def spRefD (CT CD CC : Addr) : SpD := fun ds μ Q _ => ∃ (i : Nat) (rs : List Row) (d : D), ds = [.loc i, crwO CT CD CC rs, d] ∧ rs.length ≤ 8 ∧ (rs.map rowNm).Nodup ∧ (∀ r ∈ rs, mOk r) ∧ PurseD μ i ∧ ∀ μ', Pu i μ μ' → Q (.v (.bl true)) μ'
set_option maxHeartbeats 1000000 in
theorem okd_refused {f : Addr} {fd : FuncData} (F : Fun K "_law_refused_right" "_law_refused_right" s__law_refused_right f fd) (B : Blt mg) (hTD : CTask ≠ CDoor) (hTC : CTask ≠ CCrew) (hDC : CDoor ≠ CCrew) (S : ShC P w K mg base 2 (rpA CTask CDoor CCrew)) (D__law_take : DnP P w K mg base 1 "_law_take" p__law_take 2 spTakeD) (D__law_told : DnP P w K mg base 6 "_law_told" p__law_told 4 (spToldD CTask CDoor CCrew))
    (K_Door : MkD P w K mg base 4 "Door" CDoor p_Door___init__ 3 [] gPos (spDoorD K CDoor CNoDoor)) (K_Task : MkD P w K mg base 6 "Task" CTask p_Task___init__ 3 [] (fun ds es => ds ++ [.v .non, .tup []]) (spTaskD K CTask CNoTask)) : FnGD P w K mg base 9 f fd p__law_refused_right (spRefD CTask CDoor CCrew) := by
  refine gnD F sc__law_refused_right (fun ds μ QD QX h => by obtain ⟨i, rs, d, rfl, _⟩ := h; rfl) fun cdv A outer s H hg hr => ?_
  have hr0 : Room 0 _ := hr.mono (by decide); have hr1 : Room 1 _ := hr.mono (by decide); have hr4 : Room 4 _ := hr.mono (by decide); have hr5 : Room 5 _ := hr.mono (by decide); have hr6 : Room 6 _ := hr.mono (by decide); have hr7 : Room 7 _ := hr.mono (by decide)
  refine ⟨_, (dss_cons (ds_set (i := 3) sc__law_refused_right.nd rfl (.inl rfl) (de_lst false (da_cons de_non (da_cons de_int (da_cons de_bl (da_cons de_str (da_cons (de_tup da_nil) (da_cons (de_lst false da_nil) (da_cons (de_dct false) (da_cons (dv 1) (da_cons (de_tup (da_cons de_str (da_cons de_str (da_cons de_int (da_cons de_int da_nil))))) (da_cons (de_lst false (da_cons (de_make (b := false) K_Task rfl hr7 tkF (by rfl) (da_cons de_str (da_cons de_int (da_cons de_int da_nil))) dk_nil) da_nil)) (da_cons (de_tup (da_cons (de_make (b := false) K_Door rfl hr5 tkF (by rfl) (da_cons de_str (da_cons de_int (da_cons de_int da_nil))) dk_nil) da_nil)) (da_cons (de_tup (da_cons (de_lst false da_nil) da_nil)) da_nil))))))))))))))
      (dss_cons (ds_set (i := 4) sc__law_refused_right.nd rfl (.inl rfl) (de_ix rfl (dv 3) (de_call D__law_take rfl hr1 tkF (by rfl) (da_cons (dv 0) (da_cons de_int da_nil)) dk_nil)))
      (dss_cons (ds_set (i := 5) sc__law_refused_right.nd rfl (.inl rfl) (de_call D__law_told rfl hr6 tkF (by rfl) (da_cons (dv 1) (da_cons de_str (da_cons (dv 4) (da_cons (de_cmp (op_eqA hr0.units) DL.sEq (de_call D__law_take rfl hr1 tkF (by rfl) (da_cons (dv 0) (da_cons de_int da_nil)) dk_nil) de_int) da_nil)))) dk_nil))
      (dss_cons (ds_if (dt_cmp (op_neA hr0.units) DL.sNe (dv 5) (de_tup (da_cons de_str (da_cons de_non da_nil)))) (dss_one (ds_ret de_bl)) dss_nil)
      (dss_cons (ds_set (i := 6) sc__law_refused_right.nd rfl (.inl rfl) (de_lst false (da_cons de_non (da_cons de_int (da_cons de_bl (da_cons de_str (da_cons de_str (da_cons de_str (da_cons (de_tup da_nil) (da_cons (de_lst false da_nil) (da_cons (de_dct false) (da_cons (de_tup (da_cons de_str da_nil)) (da_cons (dv 1) (da_cons (de_tup (da_cons (de_lst false da_nil) da_nil)) (da_cons (de_make (b := false) K_Task rfl hr7 tkF (by rfl) (da_cons de_str (da_cons de_int (da_cons de_int da_nil))) dk_nil) da_nil)))))))))))))))
      (dss_cons (ds_set (i := 4) sc__law_refused_right.nd rfl (.inl rfl) (de_ix rfl (dv 6) (de_call D__law_take rfl hr1 tkF (by rfl) (da_cons (dv 0) (da_cons de_int da_nil)) dk_nil)))
      (dss_cons (ds_for PassesOwn.never rfl (di_seq rfl (de_lst false (da_cons de_str (da_cons de_str da_nil)))) (dg_name (i := 7) sc__law_refused_right.nd rfl (Or.inl rfl)) (dss_cons (ds_set (i := 5) sc__law_refused_right.nd rfl (.inl rfl) (de_call D__law_told rfl hr6 tkF (by rfl) (da_cons (dv 1) (da_cons (dv 7) (da_cons (dv 4) (da_cons (de_cmp (op_eqA hr0.units) DL.sEq (de_call D__law_take rfl hr1 tkF (by rfl) (da_cons (dv 0) (da_cons de_int da_nil)) dk_nil) de_int) da_nil)))) dk_nil))
      (dss_one (ds_if (dt_w (dw_or (dt_cmp (op_neA hr0.units) DL.sNe (de_ix rfl (dv 5) de_int) de_str) (dw_or1 (dt_cmp (op_neA hr0.units) DL.sNe (de_cb (cr_reprA (n := 2) hg hr4) (sRepr rfl S) (by rfl) B.repr (by decide +kernel) (da_cons (de_ix rfl (dv 5) de_int) da_nil)) (de_cb (cr_reprA (n := 2) hg hr4) (sRepr rfl S) (by rfl) B.repr (by decide +kernel) (da_cons (dv 4) da_nil)))))) (dss_one (ds_ret de_bl)) dss_nil))))
      (dss_one (ds_ret de_bl))))))))), ?_⟩
  intro ds μ QD QX cl cm h
  refine .inr ?_
  obtain ⟨i, rs, dd, rfl, hl, hn, hok, hp, q⟩ := h
  have w1 : wrTD (.v (.str "a")) (.v (.int 1)) (.v (.int 1)) (.v .non) (.tup []) = none := by decide +kernel
  have w2 : wrDD (.v (.str "a")) (.v (.int 1)) (.v (.int 1)) = none := by decide +kernel
  have tha : (("a" : Str)).length ≤ sizeLine := by decide +kernel
  have okT : mOk (.tk "a" 1 1 1 []) := ⟨by decide +kernel, by decide, by decide, by decide, by decide, by decide, by decide, Good.nil _⟩
  have gT : GK CTask CDoor CCrew CTask (taskF (.v (.str "a")) (.v (.int 1)) (.v (.int 1)) (.v .non) (.tup [])) := .mem (.tk "a" 1 1 1 []) okT rfl
  have gD : GK CTask CDoor CCrew CDoor (doorF (.v (.str "a")) (.v (.int 1)) (.v (.int 1))) := .mem (.dk "a" 1 1) ⟨by decide +kernel, by decide, by decide, by decide, by decide⟩ rfl
  have gC : GK CTask CDoor CCrew CCrew (crewF (.tup (rs.map (memOf CTask CDoor)))) := .crew rs hl hok hn
  have nC : isMemD CTask CDoor (crwO CTask CDoor CCrew rs) = false := by
    show (decide (CCrew = CTask) || decide (CCrew = CDoor)) = false
    rw [decide_eq_false (Ne.symm hTC), decide_eq_false (Ne.symm hDC)]
    rfl
  refine ⟨rfl, rfl, fun _ _ c3 => ⟨μ.length, _, _, _, _, _, rfl, at_app, tha, trivial, trivial, trivial, trivial, ?_⟩⟩
  rw [w1]
  refine ⟨rfl, μ, _, set_app, rfl, c3, ⟨trivial, trivial, trivial, trivial, trivial, trivial⟩, ?_⟩
  refine ⟨rfl, rfl, fun _ _ c3 => ⟨μ.length, _, _, _, rfl, at_app, tha, trivial, trivial, ?_⟩⟩
  rw [w2]
  refine ⟨rfl, μ, _, set_app, rfl, c3, ⟨trivial, trivial, trivial, trivial⟩, ?_⟩
  refine ⟨i, 12, rfl, by decide, by decide, hp, fun r0 μ0 a0 b0 p0 => ?_⟩
  obtain ⟨d, hd, hdm⟩ := atI_pick (L := [.v .non, .v (.int 0), .v (.bl true), .v (.str "a"), .tup [], .lst [], .dK [], crwO CTask CDoor CCrew rs, .tup [.v (.str "task"), .v (.str "a"), .v (.int 1), .v (.int 1)], .lst [.obj CTask (taskF (.v (.str "a")) (.v (.int 1)) (.v (.int 1)) (.v .non) (.tup []))], .tup [.obj CDoor (doorF (.v (.str "a")) (.v (.int 1)) (.v (.int 1)))], .tup [.lst []]]) a0 b0
  refine ⟨d, hd, ?_⟩
  have hd1 : Tho (GK CTask CDoor CCrew) d ∧ isMemD CTask CDoor d = false := by
    simp only [List.mem_cons, List.not_mem_nil, or_false] at hdm
    rcases hdm with rfl | rfl | rfl | rfl | rfl | rfl | rfl | rfl | rfl | rfl | rfl | rfl
    · exact ⟨trivial, rfl⟩
    · exact ⟨trivial, rfl⟩
    · exact ⟨trivial, rfl⟩
    · exact ⟨tha, rfl⟩
    · exact ⟨trivial, rfl⟩
    · exact ⟨trivial, rfl⟩
    · exact ⟨trivial, rfl⟩
    · exact ⟨gC, nC⟩
    · exact ⟨⟨show (("task" : Str)).length ≤ sizeLine by decide +kernel, tha, trivial, trivial, trivial⟩, rfl⟩
    · exact ⟨trivial, rfl⟩
    · exact ⟨⟨gD, trivial⟩, rfl⟩
    · exact ⟨⟨trivial, trivial⟩, rfl⟩
  refine ⟨i, 2, rfl, by decide, by decide, p0.purse, fun r1 μ1 a1 b1 p1 => ?_⟩
  refine ⟨rs, d, _, _, rfl, hl, hn, hok, hd1.1, .inl ⟨rfl, fun _ => ?_, fun r hr e => ?_⟩⟩
  case refine_2 =>
    have e2 := hd1.2
    rw [e, mem_memOf] at e2
    cases e2
  refine ⟨_, _, rfl, rfl, by decide +kernel, by decide +kernel, ?_⟩
  have P1 := p0.trans p1
  refine ⟨rfl, rfl, fun _ _ c3 => ⟨μ1.length, _, _, _, _, _, rfl, at_app, tha, trivial, trivial, trivial, trivial, ?_⟩⟩
  rw [w1]
  refine ⟨rfl, μ1, _, set_app, rfl, c3, ⟨trivial, trivial, trivial, trivial, trivial, trivial⟩, ?_⟩
  refine ⟨i, 13, rfl, by decide, by decide, p1.purse, fun r2 μ2 a2 b2 p2 => ?_⟩
  obtain ⟨x, hx, hxm⟩ := atI_pick (L := [.v .non, .v (.int 0), .v (.bl true), .v (.str ""), .v (.str "A"), .v (.str "abcdefghi"), .tup [], .lst [], .dK [], .tup [.v (.str "a")], crwO CTask CDoor CCrew rs, .tup [.lst []], .obj CTask (taskF (.v (.str "a")) (.v (.int 1)) (.v (.int 1)) (.v .non) (.tup []))]) a2 b2
  refine ⟨x, hx, ?_⟩
  have hx1 : Tho (GK CTask CDoor CCrew) x ∧ isNmD x = false ∧ ∃ t, ShD (rpA CTask CDoor CCrew) x t := by
    simp only [List.mem_cons, List.not_mem_nil, or_false] at hxm
    rcases hxm with rfl | rfl | rfl | rfl | rfl | rfl | rfl | rfl | rfl | rfl | rfl | rfl | rfl
    · exact ⟨trivial, rfl, _, .it (rfl)⟩
    · exact ⟨trivial, rfl, _, .it (by unfold shIt shSc; exact if_pos (by decide))⟩
    · exact ⟨trivial, rfl, _, .it (rfl)⟩
    · exact ⟨show (("" : Str)).length ≤ sizeLine by decide +kernel, by decide +kernel, _, .it (show (if (reprText ("" : Str)).length ≤ sizeLine then some (reprText ("" : Str)) else none) = _ from if_pos (by decide +kernel))⟩
    · exact ⟨show (("A" : Str)).length ≤ sizeLine by decide +kernel, by decide +kernel, _, .it (show (if (reprText ("A" : Str)).length ≤ sizeLine then some (reprText ("A" : Str)) else none) = _ from if_pos (by decide +kernel))⟩
    · exact ⟨show (("abcdefghi" : Str)).length ≤ sizeLine by decide +kernel, by decide +kernel, _, .it (show (if (reprText ("abcdefghi" : Str)).length ≤ sizeLine then some (reprText ("abcdefghi" : Str)) else none) = _ from if_pos (by decide +kernel))⟩
    · exact ⟨trivial, rfl, _, .dat ⟨_, .inl rfl⟩ rfl (by decide +kernel) (by decide +kernel) (by decide +kernel) (by decide +kernel)⟩
    · exact ⟨trivial, rfl, _, .dat ⟨_, .inr rfl⟩ rfl (by decide +kernel) (by decide +kernel) (by decide +kernel) (by decide +kernel)⟩
    · exact ⟨trivial, rfl, _, .it rfl⟩
    · exact ⟨⟨tha, trivial⟩, rfl, _, .dat ⟨_, .inl rfl⟩ rfl (by decide +kernel) (by decide +kernel) (by decide +kernel) (by decide +kernel)⟩
    · exact ⟨gC, rfl, _, .it (rpA_crew hl hok)⟩
    · exact ⟨⟨trivial, trivial⟩, rfl, _, .dat ⟨_, .inl rfl⟩ rfl (by decide +kernel) (by decide +kernel) (by decide +kernel) (by decide +kernel)⟩
    · exact ⟨gT, rfl, _, .it (rpA_mem hTD hTC hDC okT rfl)⟩
  obtain ⟨hx1, hx2, t, hx3⟩ := hx1
  have nr : namedRow x rs = none := by unfold namedRow; rw [hx2]; rfl
  refine ⟨i, 2, rfl, by decide, by decide, p2.purse, fun r3 μ3 a3 b3 p3 => ?_⟩
  refine ⟨rs, x, _, _, rfl, hl, hn, hok, hx1, .inr (.inl ⟨rfl, ?_⟩)⟩
  rw [nr]
  refine ⟨_, rfl, _, rfl, t, hx3, t, hx3, ?_⟩
  refine iteN (c := !decide (t = t)) (by rw [decide_eq_true rfl]; rfl) ?_
  refine ⟨i, 2, rfl, by decide, by decide, p3.purse, fun r4 μ4 a4 b4 p4 => ?_⟩
  refine ⟨rs, x, _, _, rfl, hl, hn, hok, hx1, .inr (.inr ⟨rfl, ?_⟩)⟩
  rw [nr]
  refine ⟨_, rfl, _, rfl, t, hx3, t, hx3, ?_⟩
  refine iteN (c := !decide (t = t)) (by rw [decide_eq_true rfl]; rfl) ?_
  exact q μ4 (((P1.trans p2).trans p3).trans p4)
end
end Du

set_option Elab.async false
set_option linter.all false
set_option maxRecDepth 100000
namespace Du
open PySem L2 DL L2H
open L2N (Zn)
theorem shaped_two {n : Str} (h : isNm n = true) : SeqAt.shaped (.tuple [.str "name", .str n]) = true := by
  unfold SeqAt.shaped
  have a : PyData.canLay0 (.tuple [.str "name", .str n]) = true := by
    show (PyData.strOk "name" && (PyData.strOk n && true)) = true
    rw [nm_strOk h]
    decide +kernel
  have b : PyData.depth (.tuple [.str "name", .str n]) ≤ 64 := by simp [PyData.depth, PyData.depthAll]
  rw [a, decide_eq_true b]
  rfl
theorem flt_rows (n : Str) : ∀ rs : List Row, rs.filterMap (fun o => if rowNm o = n then none else some (rowOf o)) = (rs.filter fun o => decide (rowNm o ≠ n)).map rowOf
  | [] => rfl
  | o :: rs => by
    by_cases h : rowNm o = n
    · rw [List.filterMap_cons, if_pos h, List.filter_cons, if_neg (by simp [h])]
      exact flt_rows n rs
    · rw [List.filterMap_cons, if_neg h, List.filter_cons, if_pos (by simp [h]), List.map_cons]
      exact congrArg _ (flt_rows n rs)
theorem named_str {n : Str} (h : isNm n = true) (rs : List Row) : namedRow (.v (.str n)) rs = rs.find? (fun r => decide (rowNm r = n)) := by
  unfold namedRow
  rw [if_pos (show isNmD (.v (.str n)) = true from h)]
  rfl
theorem find_none {n : Str} {rs : List Row} (h : rs.find? (fun r => decide (rowNm r = n)) = none) : rs.filter (fun o => decide (rowNm o ≠ n)) = rs := by
  rw [List.filter_eq_self]
  intro a ha
  have := List.find?_eq_none.mp h a ha
  simpa using this
theorem find_some {n : Str} {rs : List Row} {r : Row} (h : rs.find? (fun r => decide (rowNm r = n)) = some r) : rowNm r = n ∧ r ∈ rs := by
  refine ⟨?_, List.mem_of_find?_eq_some h⟩
  simpa using List.find?_some h
theorem filter_lt {n : Str} {rs : List Row} {r : Row} (h : r ∈ rs) (hn : rowNm r = n) : (rs.filter (fun o => decide (rowNm o ≠ n))).length < rs.length := by
  rw [List.length_filter_lt_length_iff_exists]
  exact ⟨r, h, by simp [hn]⟩
section
variable {P : Program} {w : World} {K : PySem.W.Frag} {mg : Str → Option Value} {base : Heap} {cs : List Addr} {CTask CDoor CCrew CNoName CNoCrew CNoTask CNoDoor CNoTool CTimeError CLostError CFullError : Addr}
abbrev s__law_next : Stmt := topS 48
abbrev n__law_next : List Str := ["_law_purse_here", "_law_crew_here", "_law_rows", "_law_names", "_law_label", "_law_word", "_law_by_name", "_law_row", "_law_after", "_law_told_here"]
abbrev p__law_next : List Str := ["_law_purse_here", "_law_crew_here", "_law_rows", "_law_names"]
theorem sc__law_next : FnScope n__law_next p__law_next (defScope s__law_next) := ⟨rfl, rfl, rfl, by decide +kernel, rfl, by decide +kernel, by decide +kernel⟩
def RsOk (rs : List Row) : Prop := rs.length ≤ 8 ∧ (rs.map rowNm).Nodup ∧ ∀ r ∈ rs, mOk r
def spNextD (CT CD CC : Addr) : SpD := fun ds μ Q _ => ∃ (i : Nat) (rs : List Row) (ws : List Str), ds = [.loc i, crwO CT CD CC rs, .lst (rs.map rowOf), .lst (ws.map fun z => .v (.str z))] ∧ RsOk rs ∧ ws.length = 10 ∧ (∀ z ∈ ws, isNm z = true) ∧ PurseD μ i ∧ ∀ (rs' : List Row) (μ' : Store), RsOk rs' → Pu i μ μ' → Q (.tup [crwO CT CD CC rs', .lst (rs'.map rowOf)]) μ'
set_option maxHeartbeats 1000000 in
theorem okd_next {f : Addr} {fd : FuncData} (F : Fun K "_law_next" "_law_next" s__law_next f fd) (B : Blt mg) (T : TaskK K CTask) (Do : DoorK K CDoor) (hTD : CTask ≠ CDoor) (hTC : CTask ≠ CCrew) (hDC : CDoor ≠ CCrew) (hall : ∀ C fs, GK CTask CDoor CCrew C fs → C ∈ [CTask, CDoor, CCrew]) (EQ : EqC P w K mg base 3 (eqsG (GK CTask CDoor CCrew) [CTask, CDoor, CCrew])) (D__law_take : DnP P w K mg base 1 "_law_take" p__law_take 2 spTakeD) (D__law_drawn_row : DnP P w K mg base 4 "_law_drawn_row" p__law_drawn_row 2 spDrawnRowD) (D__law_put : DnP P w K mg base 2 "_law_put" p__law_put 2 spPutD) (D__law_member : DnP P w K mg base 8 "_law_member" p__law_member 1 (spMemberD CTask CDoor)) (D__law_crew : DnP P w K mg base 9 "_law_crew" p__law_crew 1 (spCrewLD CTask CDoor CCrew)) (D__law_told : DnP P w K mg base 6 "_law_told" p__law_told 4 (spToldD CTask CDoor CCrew)) (M_Crew_names : MtD P w K mg base 1 CCrew "names" p_Crew_names 0 [] gPos (spNamesD K CCrew)) : FnD P w K mg base 11 f fd p__law_next (spNextD CTask CDoor CCrew) := by
  refine okD F sc__law_next (fun ds μ QD QX h => by obtain ⟨i, rs, ws, rfl, _⟩ := h; rfl) fun cdv A outer s H E hr => ?_
  have hr1 : Room 1 _ := hr.mono (by decide); have hr2 : Room 2 _ := hr.mono (by decide); have hr4 : Room 4 _ := hr.mono (by decide); have hr5 : Room 5 _ := hr.mono (by decide); have hr6 : Room 6 _ := hr.mono (by decide); have hr8 : Room 8 _ := hr.mono (by decide); have hr9 : Room 9 _ := hr.mono (by decide)
  refine ⟨_, (dss_cons (ds_asg (de_tup (da_cons (de_ix rfl (dv 3) (de_call D__law_take rfl hr1 tkD (by rfl) (da_cons (dv 0) (da_cons de_int da_nil)) dk_nil)) (da_cons (de_ix rfl (de_lst false (da_cons de_str (da_cons de_str (da_cons de_str da_nil)))) (de_call D__law_take rfl hr1 tkD (by rfl) (da_cons (dv 0) (da_cons de_int da_nil)) dk_nil)) da_nil))) (dg_tup (n := 2) rfl rfl (dgs_cons (dg_name (i := 4) sc__law_next.nd rfl (Or.inr rfl)) (dgs_cons (dg_name (i := 5) sc__law_next.nd rfl (Or.inl rfl)) dgs_nil))))
      (dss_cons (ds_set (i := 6) sc__law_next.nd rfl (.inl rfl) (de_cmp (op_eqO (n := 3 + 2) hr5) (sEqO (n := 3) (N := 2) rfl EQ) (de_call D__law_take rfl hr1 tkD (by rfl) (da_cons (dv 0) (da_cons de_int da_nil)) dk_nil) de_int))
      (dss_cons (ds_j (ds_if (dt_cmp (op_eqO (n := 3 + 2) hr5) (sEqO (n := 3) (N := 2) rfl EQ) (dv 5) de_str) (dss_cons (ds_set (i := 7) sc__law_next.nd rfl (.inl rfl) (de_call D__law_drawn_row rfl hr4 tkD (by rfl) (da_cons (dv 0) (da_cons (dv 4) da_nil)) dk_nil))
      (dss_cons (ds_set (i := 8) sc__law_next.nd rfl (.inl rfl) (de_call D__law_put rfl hr2 tkD (by rfl) (da_cons (dv 2) (da_cons (dv 7) da_nil)) dk_nil))
      (dss_cons (ds_set (i := 9) sc__law_next.nd rfl (.inl rfl) (de_call D__law_told rfl hr6 tkD (by rfl) (da_cons (dv 1) (da_cons de_str (da_cons (de_call D__law_member rfl hr8 tkD (by rfl) (da_cons (dv 7) da_nil) dk_nil) (da_cons (dv 6) da_nil)))) dk_nil))
      (dss_one (ds_if (dt_cmp op_isN DL.sIs (dv 8) de_non) (dss_one (ds_ret (de_ix rfl (de_lst false (da_cons de_non (da_cons (de_tup (da_cons (dv 1) (da_cons (dv 2) da_nil))) da_nil))) (de_ct call_int1 DL.sInt (by rfl) B.int (by decide +kernel) (da_cons (de_cmp (op_eqO (n := 3 + 2) hr5) (sEqO (n := 3) (N := 2) rfl EQ) (dv 9) (de_tup (da_cons de_str (da_cons de_non da_nil)))) da_nil))))) dss_nil))))) (dss_cons (ds_setLc (i := 8) (own := [("_law_row", 7)]) (ws := [7]) rfl sc__law_next.nd rfl rfl (sw_true rfl rfl rfl (by decide +kernel)) (blkOk_by (N := n__law_next) (sc := defScope s__law_next) (by decide +kernel)) (di_seq rfl (dv 2)) (by decide) (fun _ _ _ _ _ => (dg_name (i := 7) sc__law_next.nd rfl (Or.inl rfl))) (fun _ _ _ _ _ => (dpts_one (dt_cmp (op_neO (n := 3 + 2 + 1) hr6) (sNeO (n := 3) (N := 2) rfl EQ) (de_ix rfl (dv 7) de_int) (dv 4)))) (fun _ _ _ _ _ => (dv 7)))
      (dss_cons (ds_set (i := 9) sc__law_next.nd rfl (.inl rfl) (de_call D__law_told rfl hr6 tkD (by rfl) (da_cons (dv 1) (da_cons de_str (da_cons (dv 4) (da_cons (dv 6) da_nil)))) dk_nil))
      (dss_one (ds_if (dt_cmp (op_eqO (n := 3 + 2) hr5) (sEqO (n := 3) (N := 2) rfl EQ) (de_cb call_len DL.sLen (by rfl) B.len (by decide +kernel) (da_cons (dv 8) da_nil)) (de_cb call_len DL.sLen (by rfl) B.len (by decide +kernel) (da_cons (dv 2) da_nil))) (dss_one (ds_ret (de_ix rfl (de_lst false (da_cons de_non (da_cons (de_tup (da_cons (dv 1) (da_cons (dv 2) da_nil))) da_nil))) (de_ct call_int1 DL.sInt (by rfl) B.int (by decide +kernel) (da_cons (de_cmp (op_eqO (n := 3 + 2) hr5) (sEqO (n := 3) (N := 2) rfl EQ) (dv 9) (de_tup (da_cons de_str (da_cons (dv 4) da_nil)))) da_nil))))) dss_nil))))))
      (dss_cons (ds_if (dt_w (dw_or (dt_cmp (op_neO (n := 3 + 2 + 1) hr6) (sNeO (n := 3) (N := 2) rfl EQ) (de_ix rfl (dv 9) de_int) de_str) (dw_or (dt_cmp (op_neO (n := 3 + 2 + 1) hr6) (sNeO (n := 3) (N := 2) rfl EQ) (de_ix rfl (dv 9) de_int) (de_call D__law_crew rfl hr9 tkD (by rfl) (da_cons (dv 8) da_nil) dk_nil)) (dw_or1 (dt_cmp (op_neO (n := 3 + 2 + 1) hr6) (sNeO (n := 3) (N := 2) rfl EQ) (de_meth0 M_Crew_names rfl hr1 tkD (de_ix rfl (dv 9) de_int)) (de_ct call_tuple_of DL.sTuple (by rfl) B.tuple (by decide +kernel) (da_cons (de_lc (own := [("_law_row", 7)]) (ws := [7]) rfl sc__law_next.nd (blkOk_by (N := n__law_next) (sc := defScope s__law_next) (by decide +kernel)) (di_seq rfl (dv 8)) (by decide) (fun _ _ _ _ _ => (dg_name (i := 7) sc__law_next.nd rfl (Or.inl rfl))) (fun _ _ _ _ _ => dpts_nil) (fun _ _ _ _ _ => (de_ix rfl (dv 7) de_int))) da_nil))))))) (dss_one (ds_ret de_non)) dss_nil)
      (dss_one (ds_ret (de_tup (da_cons (de_ix rfl (dv 9) de_int) (da_cons (dv 8) da_nil))))))))), ?_⟩
  intro ds μ QD QX cl cm h
  refine .inr ?_
  obtain ⟨i, rs, ws, rfl, ⟨hl, hn, hok⟩, hwl, hwn, hp, q⟩ := h
  have L8 : 100 ≤ sizeLine := by decide
  refine ⟨i, 10, rfl, by decide, by decide, hp, fun r0 μ0 a0 b0 p0 => ?_⟩
  obtain ⟨j, rfl⟩ : ∃ j : Nat, r0 = (j : Int) := ⟨r0.toNat, by omega⟩
  have hj : j < ws.length := by omega
  have hat : (ws.map fun z => D.v (.str z))[j]? = some (.v (.str ws[j])) := by rw [List.getElem?_map, List.getElem?_eq_getElem hj]; rfl
  have hnj := hwn _ (List.getElem_mem hj)
  generalize ws[j] = lb at hat hnj
  refine ⟨_, at_ofD hat, ?_⟩
  refine ⟨i, 3, rfl, by decide, by decide, p0.purse, fun r1 μ1 a1 b1 p1 => ?_⟩
  obtain ⟨wd, hwd, hwm⟩ := atI_pick (L := [.v (.str "with"), .v (.str "with"), .v (.str "without")]) a1 b1
  refine ⟨wd, hwd, ?_⟩
  refine ⟨i, 2, rfl, by decide, by decide, p1.purse, fun r2 μ2 a2 b2 p2 => ?_⟩
  have P2 := (p0.trans p1).trans p2
  have gk : ∀ rs : List Row, RsOk rs → GK CTask CDoor CCrew CCrew (crewF (.tup (rs.map (memOf CTask CDoor)))) := fun rs h => .crew rs h.1 h.2.2 h.2.1
  refine ⟨_, .int _ _, ?_⟩
  refine ⟨fun σ' μ' => ∃ (af : List Row) (v7 : Option D), σ' = [some (.loc i), some (crwO CTask CDoor CCrew rs), some (.lst (rs.map rowOf)), some (.lst (ws.map fun z => .v (.str z))), some (.v (.str lb)), some wd, some (.v (.bl (decide (r2 = 1)))), v7, some (.lst (af.map rowOf)), some (.tup [.v (.str "told"), crwO CTask CDoor CCrew af])] ∧ RsOk af ∧ Pu i μ μ', ?_, ?_⟩
  · have hw : wd = .v (.str "with") ∨ wd = .v (.str "without") := by
      simp only [List.mem_cons, List.not_mem_nil, or_false] at hwm
      rcases hwm with h | h | h <;> simp [h]
    rcases hw with rfl | rfl
    · refine ⟨_, .str _ _, ?_⟩
      refine ⟨i, lb, rfl, hnj, p2.purse, fun r μ3 hr' hnm p3 => ?_⟩
      refine ⟨rs, r, rfl, hl, hn, ?_⟩
      refine ⟨r, rfl, hr', ?_⟩
      have th : Tho (GK CTask CDoor CCrew) (memOf CTask CDoor r) := by
        obtain ⟨C, fs, e, g, _⟩ := gk_memOf (CT := CTask) (CD := CDoor) (CC := CCrew) hr'
        rw [e]
        exact g
      refine ⟨rs, _, _, _, rfl, hl, hn, hok, th, .inl ⟨rfl, fun e => ?_, fun r' hr2 e => ?_⟩⟩
      · rw [mem_memOf] at e
        cases e
      have er : r = r' := mem_inj hTD e
      subst er
      cases ep : putRow r rs with
      | some af =>
        have haf := putRow_ok ep hl hn hok hr'
        exact ⟨af, _, rfl, haf, P2.trans p3⟩
      | none =>
        refine ⟨_, .ob (.dat rfl rfl (by decide +kernel) (by decide +kernel)), ?_⟩
        exact ⟨_, rfl, q rs μ3 ⟨hl, hn, hok⟩ (P2.trans p3)⟩
    · refine ⟨_, .str _ _, ?_⟩
      refine comp_fltL rowOf (fun o => if rowNm o = lb then none else some (rowOf o)) rs [] (fun o ho R R' hR => ?_) (by show 0 + rs.length ≤ sizeLine; omega) ?_
      · refine ⟨_, row1 o, _, .str _ _, ?_⟩
        by_cases he : rowNm o = lb
        · rw [if_pos he] at hR
          exact iteN (c := !decide (rowNm o = lb)) (by rw [decide_eq_true he]; rfl) hR
        · rw [if_neg he] at hR
          exact iteY (c := !decide (rowNm o = lb)) (by rw [decide_eq_false he]; rfl) hR
      rw [List.nil_append, flt_rows]
      have thl : Tho (GK CTask CDoor CCrew) (.v (.str lb)) := nm_thing hnj
      refine ⟨rs, _, _, _, rfl, hl, hn, hok, thl, .inr (.inl ⟨rfl, ?_⟩)⟩
      rw [named_str hnj]
      cases ef : rs.find? (fun r => decide (rowNm r = lb)) with
      | none =>
        refine ⟨_, .int _ _, ?_⟩
        rw [find_none ef]
        refine iteY (c := decide (((rs.map rowOf).length : Int) = ((rs.map rowOf).length : Nat))) (decide_eq_true rfl) ?_
        refine ⟨_, .ob (.dat (p := .tuple [.str "name", .str lb]) (q := .tuple [.str "name", .str lb]) rfl rfl (shaped_two hnj) (shaped_two hnj)), ?_⟩
        rw [eqv_self (.tup [.v (.str "name"), .v (.str lb)]) _ rfl]
        exact ⟨_, rfl, q rs μ2 ⟨hl, hn, hok⟩ P2⟩
      | some r =>
        obtain ⟨e1, e2⟩ := find_some ef
        have hlt := filter_lt e2 e1
        refine ⟨_, .int _ _, ?_⟩
        refine iteN (c := decide ((((rs.filter fun o => decide (rowNm o ≠ lb)).map rowOf).length : Int) = ((rs.map rowOf).length : Nat))) (decide_eq_false (by rw [List.length_map, List.length_map]; omega)) ?_
        have ho := outRow_ok (r := r) hl hn hok
        have eo : outRow r rs = rs.filter fun o => decide (rowNm o ≠ lb) := by unfold outRow; rw [e1]
        rw [eo] at ho ⊢
        exact ⟨_, _, rfl, ho, P2⟩
  · rintro σ' μ' ⟨af, v7, rfl, haf, pu⟩
    have gf := gk af haf
    refine ⟨_, rfl, _, .str _ _, ?_⟩
    obtain ⟨b, h1, _, h3⟩ := qde_two (n := 2) hall gf (be_obj gf)
    obtain rfl : b = true := h3.mpr rfl
    refine ⟨_, rfl, af, rfl, haf.1, haf.2.1, haf.2.2, true, .ob h1, ?_⟩
    refine ⟨_, rfl, _, rfl, rfl, _, rfl, len_all haf.1, named_all T Do haf.2.2, ?_⟩
    rw [names_of]
    refine comp_mapL rowOf (fun r => .v (.str (rowNm r))) af [] (fun r hr R hR => ⟨_, row1 r, hR⟩) (by have := haf.1; show 0 + af.length ≤ sizeLine; omega) ?_
    rw [List.nil_append, show af.map (fun r => D.v (.str (rowNm r))) = (af.map rowNm).map fun z => D.v (.str z) by rw [List.map_map]; rfl]
    have hnm : ∀ z ∈ af.map rowNm, isNm z = true := fun z hz => by
      obtain ⟨r, hr, rfl⟩ := List.mem_map.mp hz
      exact mOk_nm (haf.2.2 r hr)
    refine ⟨_, rfl, true, .ob (qde_strs hnm), ?_⟩
    exact ⟨_, rfl, q af μ' haf pu⟩
end
end Du

set_option Elab.async false
set_option linter.all false
set_option maxRecDepth 100000
namespace Du
open PySem L2 DL L2H
open L2N (Zn)
section
variable {P : Program} {w : World} {K : PySem.W.Frag} {mg : Str → Option Value} {base : Heap} {cs : List Addr} {CTask CDoor CCrew CNoName CNoCrew CNoTask CNoDoor CNoTool CTimeError CLostError CFullError : Addr}
def prD (CT CD CC : Addr) (rs : List Row) : D := .tup [crwO CT CD CC rs, .lst (rs.map rowOf)]
theorem pu_at {i j : Nat} {μ μ' : Store} (h : Pu i μ μ') (hj : i ≠ j) : μ'[j]? = μ[j]? := by
  obtain ⟨o, e⟩ := h.ex
  rw [e, List.getElem?_set_ne hj]
theorem last_at {α : Type} {L : List α} (f : α → D) (h : L ≠ []) : ∃ a ∈ L, atI (L.map f) (-1) = some (f a) := by
  have hp : 0 < L.length := List.length_pos_iff.mpr h
  refine ⟨L[L.length - 1], List.getElem_mem _, ?_⟩
  unfold atI
  rw [show ixN (L.map f).length (-1) = some (L.length - 1) by
    unfold ixN
    rw [if_neg (by decide), List.length_map]
    split
    · congr 1
      omega
    · omega]
  show (L.map f)[L.length - 1]? = _
  rw [List.getElem?_map, List.getElem?_eq_getElem (by omega)]
  rfl
/-- a comprehension over a list that can be changed, itself told by a list -/
theorem compV_mapL {α : Type} {n : Nat} {all : List D} {g : TGD} {te : TED} {σ : Ev} {μ : Store} {Q : List D → Store → Prop} (e h : α → D) (ha : μ[n]? = some (some (.lst all))) : ∀ (L : List α) (acc : List D), (∀ r ∈ L, ∀ R : D → Store → Prop, R (h r) μ → g (e r) σ μ fun σ' μ' => te σ' μ' R fun _ _ => False) → acc.length + L.length ≤ sizeLine → Q (acc ++ L.map h) μ → CompV n all g TYes te σ Q (L.map e) acc μ
  | [], acc, _, _, q => by
    rw [List.map_nil, List.append_nil] at q
    exact q
  | r :: L, acc, hh, hl, q => by
    refine hh r List.mem_cons_self _ ⟨?_, ha, compV_mapL e h ha L (acc ++ [h r]) (fun x hx => hh x (List.mem_cons_of_mem _ hx)) ?_ ?_⟩
    · rw [List.length_cons] at hl; omega
    · rw [List.length_append, List.length_singleton]; rw [List.length_cons] at hl; omega
    · rw [List.append_assoc]
      exact q
abbrev s_law : Stmt := topS 49
abbrev n_law : List Str := ["_law_script", "_law_names", "_law_past", "_law_k", "_law_purse_here", "_law_crew_here", "_law_rows", "_law_found", "_law_one", "_law_others"]
abbrev p_law : List Str := ["_law_script"]
theorem sc_law : FnScope n_law p_law (defScope s_law) := ⟨rfl, rfl, rfl, by decide +kernel, rfl, by decide +kernel, by decide +kernel⟩
set_option maxHeartbeats 1000000 in
theorem okd_law {f : Addr} {fd : FuncData} (F : Fun K "law" "law" s_law f fd) (B : Blt mg) (Cr : CrewK K CCrew) (hall : ∀ C fs, GK CTask CDoor CCrew C fs → C ∈ [CTask, CDoor, CCrew]) (EQ : EqC P w K mg base 3 (eqsG (GK CTask CDoor CCrew) [CTask, CDoor, CCrew])) (K_Crew0 : MkD P w K mg base 3 "Crew" CCrew p_Crew___init__ 0 [] (fun ds es => ds ++ [.tup []]) (spCrewD (GK CTask CDoor CCrew) CTask CDoor CCrew CNoCrew))
    (D__law_cell : DnP P w K mg base 1 "_law_cell" p__law_cell 2 spCellD) (D__law_purse : DnP P w K mg base 1 "_law_purse" p__law_purse 1 spPurseD) (D__law_take : DnP P w K mg base 1 "_law_take" p__law_take 2 spTakeD) (D__law_words : DnP P w K mg base 2 "_law_words" p__law_words 2 spWordsD) (D__law_crew : DnP P w K mg base 9 "_law_crew" p__law_crew 1 (spCrewLD CTask CDoor CCrew))
    (D__law_refused_right : DnGD P w K mg base 9 "_law_refused_right" p__law_refused_right (spRefD CTask CDoor CCrew)) (D__law_next : DnP P w K mg base 11 "_law_next" p__law_next 4 (spNextD CTask CDoor CCrew)) : FnGD P w K mg base 12 f fd p_law spLawD := by
  refine gnD F sc_law (fun ds μ QD QX h => by obtain ⟨ns, rfl, _⟩ := h; rfl) fun cdv A outer s H hg hr => ?_
  have hr1 : Room 1 _ := hr.mono (by decide); have hr2 : Room 2 _ := hr.mono (by decide); have hr4 : Room 4 _ := hr.mono (by decide); have hr9 : Room 9 _ := hr.mono (by decide); have hr11 : Room 11 _ := hr.mono (by decide)
  refine ⟨_, (dss_cons (ds_set (i := 1) sc_law.nd rfl (.inl rfl) (de_call D__law_words rfl hr2 tkF (by rfl) (da_cons (de_call D__law_purse rfl hr1 tkF (by rfl) (da_cons (de_call D__law_cell rfl hr1 tkF (by rfl) (da_cons (dv 0) (da_cons de_int da_nil)) dk_nil) da_nil) dk_nil) (da_cons de_int da_nil)) dk_nil))
      (dss_cons (ds_set (i := 2) sc_law.nd rfl (.inl rfl) (de_lst true (da_cons (de_tup (da_cons (de_makeK (b := false) K_Crew0 rfl hr4 tkF (by rfl) dk_nil) (da_cons (de_lst false da_nil) da_nil))) da_nil)))
      (dss_cons (ds_for PassesOwn.never rfl (di_range2 (by rfl) B.range (da_cons de_int (da_cons (de_cb (cr_maxA rfl) DL.sMax (by rfl) B.max (by decide +kernel) (da_cons de_int (da_cons (de_cb (cr_minA rfl) DL.sMin (by rfl) B.min (by decide +kernel) (da_cons de_int (da_cons (de_cb call_len DL.sLen (by rfl) B.len (by decide +kernel) (da_cons (dv 0) da_nil)) da_nil))) da_nil))) da_nil))) (dg_name (i := 3) sc_law.nd rfl (Or.inl rfl)) (dss_cons (ds_set (i := 4) sc_law.nd rfl (.inl rfl) (de_call D__law_purse rfl hr1 tkF (by rfl) (da_cons (de_call D__law_cell rfl hr1 tkF (by rfl) (da_cons (dv 0) (da_cons (dv 3) da_nil)) dk_nil) da_nil) dk_nil))
      (dss_cons (ds_asg (de_ix rfl (dv 2) (de_ix rfl (de_lst false (da_cons (de_un un_neg DL.sU de_int) (da_cons (de_un un_neg DL.sU de_int) (da_cons (de_un un_neg DL.sU de_int) (da_cons (de_call D__law_take rfl hr1 tkF (by rfl) (da_cons (dv 4) (da_cons (de_cb call_len DL.sLen (by rfl) B.len (by decide +kernel) (da_cons (dv 2) da_nil)) da_nil)) dk_nil) da_nil))))) (de_call D__law_take rfl hr1 tkF (by rfl) (da_cons (dv 4) (da_cons de_int da_nil)) dk_nil))) (dg_tup (n := 2) rfl rfl (dgs_cons (dg_name (i := 5) sc_law.nd rfl (Or.inl rfl)) (dgs_cons (dg_name (i := 6) sc_law.nd rfl (Or.inl rfl)) dgs_nil))))
      (dss_cons (ds_if (dt_not (dt_val (de_callG D__law_refused_right rfl hg hr9 (by rfl) (da_cons (dv 4) (da_cons (dv 5) (da_cons (dv 6) da_nil)))))) (dss_one (ds_ret de_bl)) dss_nil)
      (dss_cons (ds_set (i := 7) sc_law.nd rfl (.inl rfl) (de_call D__law_next rfl hr11 tkF (by rfl) (da_cons (dv 4) (da_cons (dv 5) (da_cons (dv 6) (da_cons (dv 1) da_nil)))) dk_nil))
      (dss_cons (ds_if (dt_cmp op_isN DL.sIs (dv 7) de_non) (dss_one (ds_ret de_bl)) dss_nil)
      (dss_cons (ds_expr (de_append rfl (dv 2) (dv 7)))
      (dss_one (ds_if (dt_not (dt_val (de_cb (cr_all rfl) DL.sAll (by rfl) B.all (by decide +kernel) (da_cons (de_lcV (own := [("_law_one", 8), ("_law_others", 9)]) (ws := [8, 9]) rfl sc_law.nd (blkOk_by (N := n_law) (sc := defScope s_law) (by decide +kernel)) rfl (dv 2) (by decide) (fun _ _ _ _ _ => (dg_tup (n := 2) rfl rfl (dgs_cons (dg_name (i := 8) sc_law.nd rfl (Or.inl rfl)) (dgs_cons (dg_name (i := 9) sc_law.nd rfl (Or.inl rfl)) dgs_nil)))) (fun _ _ _ _ _ => dpts_nil) (fun _ _ _ _ _ => (de_cmp (op_eqO (n := 3 + 1) hr4) (sEqO (n := 3) (N := 1) rfl EQ) (de_fld rfl (dv 8)) (de_fld rfl (de_call D__law_crew rfl hr9 tkF (by rfl) (da_cons (dv 9) da_nil) dk_nil))))) da_nil)))) (dss_one (ds_ret de_bl)) dss_nil)))))))))
      (dss_one (ds_ret de_bl))))), ?_⟩
  intro ds μ QD QX cl cm h
  refine .inr ?_
  obtain ⟨ns, rfl, q⟩ := h
  have w0 : crwD CTask CDoor (.tup []) = none := crw_rows (rs := []) (by simp) (by simp)
  refine ⟨ns, 0, rfl, by decide, fun z => ?_⟩
  refine ⟨z, rfl, fun a d c ha1 ha2 hd1 hc1 => ?_⟩
  have pu0 : PurseD (μ ++ [some (purseO a d c)]) μ.length := ⟨a, d, c, at_app, ha1, ha2, hd1, hc1⟩
  refine ⟨μ.length, 10, rfl, by decide, pu0, fun ws μ1 hwl hwn hwm p1 => ?_⟩
  refine ⟨rfl, rfl, fun _ _ c3 => ⟨μ1.length, _, rfl, at_app, trivial, ?_⟩⟩
  rw [w0]
  refine ⟨rfl, μ1, _, set_app, rfl, c3, ⟨trivial, trivial⟩, ?_⟩
  have hB : ∀ n : Int, (if (if n < 21 then n else 21) > 9 then (if n < 21 then n else 21) else 9) ≤ 21 ∧ 0 ≤ (if (if n < 21 then n else 21) > 9 then (if n < 21 then n else 21) else 9) := fun n => by
    split <;> split <;> omega
  refine ⟨⟨by decide, by decide, by have := hB ((List.map D.v (List.map V.int ns)).length : Nat); omega, by have := hB ((List.map D.v (List.map V.int ns)).length : Nat); omega⟩, ?_⟩
  refine loop_inv (fun j σ μ' => ∃ (L : List (List Row)) (v3 v4 v5 v6 v7 v8 v9 : Option D), σ = [some (.frz (ns.map V.int)), some (.lst (ws.map fun z => .v (.str z))), some (.loc μ1.length), v3, v4, v5, v6, v7, v8, v9] ∧ μ'[μ1.length]? = some (some (.lst (L.map (prD CTask CDoor CCrew)))) ∧ L ≠ [] ∧ L.length ≤ 1 + j ∧ ∀ rs ∈ L, RsOk rs) ⟨[[]], _, _, _, _, _, _, _, rfl, at_app, by simp, by simp, fun rs hrs => by rw [List.mem_singleton.mp hrs]; exact ⟨by simp, by simp, by simp⟩⟩ ?_ ?_
  · rintro j d σ μ' nx hi ⟨L, v3, v4, v5, v6, v7, v8, v9, rfl, hL, hne, hll, hok⟩ hn
    obtain ⟨hj, ed⟩ := rgD_at hi
    have hd : d = .v (.int ((j + 1 : Nat) : Int)) := by rw [ed]; congr 2; omega
    subst hd
    have hj8 := hB ((List.map D.v (List.map V.int ns)).length : Nat)
    refine ⟨ns, j + 1, rfl, by omega, fun z => ?_⟩
    refine ⟨z, rfl, fun a d c ha1 ha2 hd1 hc1 => ?_⟩
    have hlt : μ1.length < μ'.length := (List.getElem?_eq_some_iff.mp hL).1
    have pu0 : PurseD (μ' ++ [some (purseO a d c)]) μ'.length := ⟨a, d, c, at_app, ha1, ha2, hd1, hc1⟩
    have hL0 : (μ' ++ [some (purseO a d c)])[μ1.length]? = some (some (.lst (L.map (prD CTask CDoor CCrew)))) := by rw [List.getElem?_append_left hlt]; exact hL
    have hpos : 0 < L.length := List.length_pos_iff.mpr hne
    refine ⟨_, hL0, ?_⟩
    refine ⟨μ'.length, _, rfl, by rw [List.length_map]; omega, by rw [List.length_map]; omega, pu0, fun r0 μ2 a0 b0 p0 => ?_⟩
    rw [List.length_map] at b0
    refine ⟨μ'.length, 4, rfl, by decide, by decide, p0.purse, fun r1 μ3 a1 b1 p1 => ?_⟩
    obtain ⟨ix, hix, hixm⟩ := atI_pick (L := [.v (.int (-1)), .v (.int (-1)), .v (.int (-1)), .v (.int r0)]) a1 b1
    refine ⟨ix, hix, ?_⟩
    have P1 := p0.trans p1
    have hL3 : μ3[μ1.length]? = some (some (.lst (L.map (prD CTask CDoor CCrew)))) := by rw [pu_at P1 (by omega)]; exact hL0
    obtain ⟨z2, rs, hz, hrs, hat⟩ : ∃ (z2 : Int) (rs : List Row), ix = .v (.int z2) ∧ rs ∈ L ∧ atI (L.map (prD CTask CDoor CCrew)) z2 = some (prD CTask CDoor CCrew rs) := by
      have neg := last_at (prD CTask CDoor CCrew) hne
      simp only [List.mem_cons, List.not_mem_nil, or_false] at hixm
      rcases hixm with rfl | rfl | rfl | rfl
      · obtain ⟨rs, h1, h2⟩ := neg; exact ⟨_, rs, rfl, h1, h2⟩
      · obtain ⟨rs, h1, h2⟩ := neg; exact ⟨_, rs, rfl, h1, h2⟩
      · obtain ⟨rs, h1, h2⟩ := neg; exact ⟨_, rs, rfl, h1, h2⟩
      · obtain ⟨n, rfl⟩ : ∃ n : Nat, r0 = (n : Int) := ⟨r0.toNat, by omega⟩
        have hn : n < L.length := by omega
        exact ⟨_, L[n], rfl, List.getElem_mem hn, at_ofD (by rw [List.getElem?_map, List.getElem?_eq_getElem hn]; rfl)⟩
    subst hz
    refine ⟨_, _, hL3, hat, ?_⟩
    obtain ⟨k1, k2, k3⟩ := hok rs hrs
    refine ⟨μ'.length, rs, _, rfl, k1, k2, k3, p1.purse, fun μ4 p4 => ?_⟩
    refine ⟨μ'.length, rs, ws, rfl, ⟨k1, k2, k3⟩, hwl, hwm, p4.purse, fun rs' μ5 hrs' p5 => ?_⟩
    have hL5 : μ5[μ1.length]? = some (some (.lst (L.map (prD CTask CDoor CCrew)))) := by rw [pu_at ((P1.trans p4).trans p5) (by omega)]; exact hL0
    have L30 : 30 ≤ sizeLine := by decide
    refine ⟨_, _, rfl, hL5, _, hL5, by rw [List.length_map]; omega, ?_⟩
    have hlt5 : μ1.length < μ5.length := (List.getElem?_eq_some_iff.mp hL5).1
    have em : L.map (prD CTask CDoor CCrew) ++ [prD CTask CDoor CCrew rs'] = (L ++ [rs']).map (prD CTask CDoor CCrew) := by rw [List.map_append]; rfl
    have hL6 : (μ5.set μ1.length (some (.lst (L.map (prD CTask CDoor CCrew) ++ [prD CTask CDoor CCrew rs']))))[μ1.length]? = some (some (.lst ((L ++ [rs']).map (prD CTask CDoor CCrew)))) := by
      rw [List.getElem?_set_self hlt5, em]
    have hok6 : ∀ rs ∈ L ++ [rs'], RsOk rs := fun x hx => by
      rcases List.mem_append.mp hx with hx | hx
      · exact hok x hx
      · rw [List.mem_singleton.mp hx]; exact hrs'
    have l6 : (L ++ [rs']).length ≤ 1 + (j + 1) := by rw [List.length_append, List.length_singleton]; omega
    refine ⟨_, rfl, _, hL6, ?_⟩
    refine compV_mapL (prD CTask CDoor CCrew) (fun _ => .v (.bl true)) hL6 (L ++ [rs']) [] (fun x hx R hR => ?_) (by show 0 + (L ++ [rs']).length ≤ sizeLine; omega) ?_
    · obtain ⟨x1, x2, x3⟩ := hok6 x hx
      obtain ⟨b, h1, h2⟩ := qde_mems (CT := CTask) (CD := CDoor) (CC := CCrew) (ds := [CTask, CDoor, CCrew]) (n := 0) (by simp) (by simp) x3 x3
      obtain rfl : b = true := h2.mpr rfl
      exact ⟨_, _, _, rfl, Cr.fmem, rfl, x, rfl, x1, x2, x3, _, _, _, rfl, Cr.fmem, rfl, true, .ob h1, hR⟩
    · refine ⟨_, _, (L ++ [rs']).map (fun _ => true), rfl, rfl, ?_, ?_⟩
      · rw [List.nil_append, ← blsD_map ((L ++ [rs']).map fun _ => true), List.map_map]
        rfl
      · have e : ((L ++ [rs']).map fun _ => true).all id = true := by simp
        rw [e]
        exact hn _ _ ⟨L ++ [rs'], _, _, _, _, _, _, _, rfl, hL6, by simp, l6, hok6⟩
  · rintro σ μ' ⟨L, v3, v4, v5, v6, v7, v8, v9, rfl, _⟩
    exact q μ'
end
end Du

set_option Elab.async false
set_option linter.all false
set_option maxRecDepth 100000
namespace Du
open PySem L2 DL
section
variable {K : PySem.W.Frag} {fd : FuncData} {ps ks : List Str} {n : Nat}
theorem Bd.kw (h : KBn K fd ps n ks (fun us ws => us ++ ws) (fun us ws => us ++ ws)) : Bd K fd ps n ks (fun ds es => ds ++ es) := ⟨_, _, h, fun own μ H ds vs es zs r1 r2 => Reps.app r1 r2⟩
theorem Bd.dflt {dv : List Value} {dvs : List V} {dd : List D} (hn : n + dvs.length = ps.length) (hb : Binds K fd ps dv) (r : Vals dvs dv) (hd : ∀ own μ H, Reps K own μ H dd dvs) : Bd K fd ps n [] (fun ds _ => ds ++ dd) := by
  refine ⟨fun us _ => us ++ dv, fun vs _ => vs ++ dvs, ⟨fun s us ws X h1 h2 => ?_, fun r1 _ => r1.append r⟩, fun own μ H ds vs es zs r1 _ => Reps.app r1 (hd own μ H)⟩
  have e : ws = [] := List.eq_nil_of_length_eq_zero h2
  subst e
  have := hb s us X (by rw [List.length_append, h1, ← r.length, hn])
  simpa using this
/-- the empty tuple of the module -/
theorem rep_nil {e0 : Addr} (sq : ∀ H : Hp, SqT K H e0 []) (own : Ow) (μ : Store) (H : Hp) : Rep K own μ H (.tup []) (.ref e0) := ⟨e0, [], rfl, sq H, .inl (sq _), rfl⟩
theorem reps_nil {e0 : Addr} (sq : ∀ H : Hp, SqT K H e0 []) (own : Ow) (μ : Store) (H : Hp) : Reps K own μ H [.tup []] [.ref e0] := ⟨_, [], rfl, rep_nil sq own μ H, rfl⟩
theorem reps_task {e0 : Addr} (sq : ∀ H : Hp, SqT K H e0 []) (own : Ow) (μ : Store) (H : Hp) : Reps K own μ H [.v .non, .tup []] [.non, .ref e0] := ⟨.non, [.ref e0], rfl, rfl, reps_nil sq own μ H⟩
/-- one parameter with a default, given, left out, given by name -/
theorem d1_all {x qual : Str} {st : Stmt} {e0 f : Addr} {p : Str} (F : FunD K x qual (defArgs st) (defBody st) (defScope st) [.ref e0] [] f fd)
    (h : ∀ (T : Addr) (kV doc pm : Value) (an : Option Addr) (cdv ct : Value) (us its : List Value), us.length = 2 → its.length = 1 → ∃ k, bindArgs (PySem.W.fnOf x qual (defArgs st) (defBody st) (defScope st) (.ref T) kV doc pm an cdv ct) ⟨us, []⟩ = seqItems? (.ref T) >>= k ∧ k (some its.toArray) = pure ((["self", p] : List Str).zip (us ++ its.drop 1))) : Binds K fd ["self", p] [] := by
  obtain ⟨ds, h1, h2⟩ := FunD.binds1 (ps := ["self", p]) F 2 1 (by simp) rfl h
  cases (show Vals [] ds from h1)
  exact h2
end
/-! K's words about own classes -/
theorem kit_self {K : PySem.W.Frag} {C : Addr} : PySem.W.kitOne K (.ref C) (.ref C) = some true := by
  unfold PySem.W.kitOne
  simp
theorem nf_of {K : PySem.W.Frag} {C D : Addr} (h : PySem.W.subIn K (.ref D) (.ref C) = some false) : PySem.W.notFirst K C (.ref D) = true := by simp [PySem.W.notFirst, h]
theorem nf_self {K : PySem.W.Frag} {C : Addr} : PySem.W.notFirst K C (.ref C) = true := by simp [PySem.W.notFirst]
/-- two classes told apart -/
theorem ne_of_kit {K : PySem.W.Frag} {C D : Addr} (h : PySem.W.kitOne K (.ref C) (.ref D) = some false) : C ≠ D := fun e => by
  subst e
  rw [kit_self] at h
  cases h
theorem own3 {K : PySem.W.Frag} {a b c : Addr} (pa : PlnC K a) (pb : PlnC K b) (pc : PlnC K c) (ab : PySem.W.kitOne K (.ref a) (.ref b) = some false) (ba : PySem.W.kitOne K (.ref b) (.ref a) = some false) (ac : PySem.W.kitOne K (.ref a) (.ref c) = some false) (ca : PySem.W.kitOne K (.ref c) (.ref a) = some false) (bc : PySem.W.kitOne K (.ref b) (.ref c) = some false) (cb : PySem.W.kitOne K (.ref c) (.ref b) = some false)
    (bi : ∀ x, x ∈ [a, b, c] → ∀ n : String, n ∈ ["NoneType", "bool", "int", "str", "tuple", "list", "dict"] → PySem.W.kitOne K (.type n) (.ref x) = some false) : Own K [a, b, c] := by
  refine ⟨fun x hx => ?_, fun x y hx hy => ?_, bi⟩
  · simp only [List.mem_cons, List.not_mem_nil, or_false] at hx
    rcases hx with rfl | rfl | rfl <;> assumption
  · have n1 := ne_of_kit ab
    have n2 := ne_of_kit ac
    have n3 := ne_of_kit bc
    simp only [List.mem_cons, List.not_mem_nil, or_false] at hx hy
    rcases hx with rfl | rfl | rfl <;> rcases hy with rfl | rfl | rfl <;> first | (rw [kit_self, decide_eq_true rfl]; done) | (rw [decide_eq_false (by assumption)]; assumption) | (rw [decide_eq_false (Ne.symm (by assumption))]; assumption)
theorem bi7 {K : PySem.W.Frag} {x : Addr} (h1 : PySem.W.kitOne K (.type "NoneType") (.ref x) = some false) (h2 : PySem.W.kitOne K (.type "bool") (.ref x) = some false) (h3 : PySem.W.kitOne K (.type "int") (.ref x) = some false) (h4 : PySem.W.kitOne K (.type "str") (.ref x) = some false) (h5 : PySem.W.kitOne K (.type "tuple") (.ref x) = some false) (h6 : PySem.W.kitOne K (.type "list") (.ref x) = some false) (h7 : PySem.W.kitOne K (.type "dict") (.ref x) = some false) :
    ∀ n : String, n ∈ ["NoneType", "bool", "int", "str", "tuple", "list", "dict"] → PySem.W.kitOne K (.type n) (.ref x) = some false := by
  intro n hn
  simp only [List.mem_cons, List.not_mem_nil, or_false] at hn
  rcases hn with rfl | rfl | rfl | rfl | rfl | rfl | rfl <;> assumption
theorem bi3 {K : PySem.W.Frag} {a b c : Addr} {ns : List String} (ha : ∀ n : String, n ∈ ns → PySem.W.kitOne K (.type n) (.ref a) = some false) (hb : ∀ n : String, n ∈ ns → PySem.W.kitOne K (.type n) (.ref b) = some false) (hc : ∀ n : String, n ∈ ns → PySem.W.kitOne K (.type n) (.ref c) = some false) : ∀ x, x ∈ [a, b, c] → ∀ n : String, n ∈ ns → PySem.W.kitOne K (.type n) (.ref x) = some false := by
  intro x hx
  simp only [List.mem_cons, List.not_mem_nil, or_false] at hx
  rcases hx with rfl | rfl | rfl <;> assumption
theorem gk_in {CT CD CC : Addr} : ∀ C fs, GK CT CD CC C fs → C ∈ [CT, CD, CC] := fun C fs h => by
  cases h with
  | mem r _ e =>
    cases r with
    | tk n c g d hs =>
      have e : D.obj CT _ = D.obj C fs := e
      injection e with e _
      subst e
      simp
    | dk n r g =>
      have e : D.obj CD _ = D.obj C fs := e
      injection e with e _
      subst e
      simp
  | crew => simp
theorem gk_tho {CT CD CC : Addr} : ∀ r, mOk r → Tho (GK CT CD CC) (memOf CT CD r) := fun r h => by
  obtain ⟨C, fs, e, g, _⟩ := gk_memOf (CT := CT) (CD := CD) (CC := CC) h
  rw [e]
  exact g
theorem gk_named {K : PySem.W.Frag} {CT CD CC : Addr} (T : TaskK K CT) (Do : DoorK K CD) (h1 : CT ≠ CC) (h2 : CD ≠ CC) : ∀ C fs, GK CT CD CC C fs → (C = CT ∨ C = CD) → Named K (.obj C fs) := fun C fs h hc => by
  cases h with
  | mem r hr e =>
    cases r with
    | tk n c g d hs =>
      have e : D.obj CT _ = D.obj C fs := e
      cases e
      exact ⟨_, _, n, rfl, T.fname, rfl, nm_thing hr.1⟩
    | dk n r g =>
      have e : D.obj CD _ = D.obj C fs := e
      cases e
      exact ⟨_, _, n, rfl, Do.fname, rfl, nm_thing hr.1⟩
  | crew => rcases hc with h | h <;> first | exact (h1 h.symm).elim | exact (h2 h.symm).elim
end Du

set_option Elab.async false
set_option linter.all false
set_option maxRecDepth 100000
set_option maxHeartbeats 1000000
namespace Du
open PySem PySem.W PySem.Calls PyProof.Rows PySem.HandSPX Builtin Builtin.ObjectAttr
open L2 (defArgs defBody defScope inClass)
/-- what is known of a built-in base -/
structure BaseB (B new ini : String) (bm : List Value) : Prop where
  exc : ExcBaseFacts B new ini bm
  kxs : KxsFacts B ini
  sto : StoreFacts B bm "object.__setattr__" "object"
abbrev veM : List Value := [.type "ValueError", .type "Exception", .type "BaseException", .type "object"]
abbrev leM : List Value := [.type "LookupError", .type "Exception", .type "BaseException", .type "object"]
abbrev aeM : List Value := [.type "ArithmeticError", .type "Exception", .type "BaseException", .type "object"]
theorem base_VE : BaseB "ValueError" "ValueError.__new__" "ValueError.__init__" veM := ⟨F.excBase_ValueError, kxs_ValueError, F.store_ValueError⟩
theorem base_LE : BaseB "LookupError" "LookupError.__new__" "LookupError.__init__" leM := ⟨F.excBase_LookupError, kxs_LookupError, F.store_LookupError⟩
theorem base_AE : BaseB "ArithmeticError" "ArithmeticError.__new__" "ArithmeticError.__init__" aeM := ⟨F.excBase_ArithmeticError, kxs_ArithmeticError, F.store_ArithmeticError⟩
section
variable {prog : Program} {w : World} {A : Around} {R : Result → Shared → Prop} {hp : Heap} {g : Array GenState} {d : Drawn} {t : Nat} {os : OsState} {K : Frag} {B new ini : String} {bm : List Value} {C x : Addr} {cd : ClassData} {fv : Array Value} {name : Str} {tk : Tok} {v : Value}
theorem taker_none (h : findIn K (.ref C) name = some none) : takerIn K C name = some none := by
  unfold takerIn
  rw [h]
  rfl
/-- the first field of an error -/
theorem osaN (b : BaseB B new ini bm) (X : K.In hp) (hx : hp.get? x = some { cls := .ref C, data := .fields fv }) (hcd : clsIn K C = some cd) (hh : cd.hasDict = true) (ho : excOver K C bm = true) (ha : findIn K (.ref C) name = some none)
    (hq : ∀ h' tk' dx, (∀ b o, b ≠ x → hp.get? b = some o → h'.get? b = some o) → hp.objs.size ≤ dx → dx ≠ x → h'.get? x = some { cls := .ref C, dict := some dx, data := .fields fv } → h'.Ns1 dx (fun y => if y = name then some v else none) → R (.ok (.ret .none)) ⟨h', g, d, tk', os⟩) :
    codeAny (model prog w) A (.call (.builtin "object.__setattr__") ⟨[.ref x, .str name tk, v], []⟩) R ⟨hp, g, d, t, os⟩ := by
  have hxs : x ≠ hp.objs.size := Nat.ne_of_lt (Heap.lt_size hx)
  have hcls : Looks (model prog w) hp (classData C) cd := looks_clsIn X hcd
  refine osa_openX b.sto X (ox := { cls := .ref C, data := .fields fv }) (od := none) ⟨hx, rfl, rfl, trivial⟩ ho (taker_none ha) fun c => ?_
  obtain ⟨c1, c2, c3, c4, c5, c6, c7, c8, c9, c10, c11⟩ := cd
  cases (show c6 = true from hh)
  simp only [storeInOwnDict, ownDictForStores]
  repeat (first | (with_reducible refine store_in_new ?_ ?_) | (with_reducible refine wpAny_loadPart_at hx ?_) | (with_reducible refine hcls.at ?_) | wp_step)
  · exact ⟨_, #[], _, (Heap.get?_update_ne _ _ _ _ hxs.symm).trans (Heap.get?_push_at rfl rfl), rfl, (fun e he => absurd he (by simp)), fun _ => rfl⟩
  · exact fun h' tk' hn' hs => hq h' tk' hp.objs.size (fun b o hb ho => (hs.2 b (Nat.ne_of_lt (Heap.lt_size ho))).trans ((Heap.get?_update_ne _ _ _ _ hb).trans (Heap.get?_push_of_some _ ho))) (Nat.le_refl _) hxs.symm ((hs.2 x hxs).trans (Heap.get?_update_self _ (Heap.get?_push_of_some _ hx) rfl)) hn'
/-- a further field of an error -/
theorem osaM {dx : Addr} {m0 : Str → Option Value} {nl : List Str} (b : BaseB B new ini bm) (X : K.In hp) (hx : hp.get? x = some { cls := .ref C, dict := some dx, data := .fields fv }) (hns : hp.Ns1 dx m0) (hw : Within m0 nl) (hz : nl.length ≤ 1000) (hcd : clsIn K C = some cd) (hh : cd.hasDict = true) (ho : excOver K C bm = true) (ha : findIn K (.ref C) name = some none)
    (hq : ∀ h' tk', (∀ b o, b ≠ dx → hp.get? b = some o → h'.get? b = some o) → h'.Ns1 dx (fun y => if y = name then some v else m0 y) → R (.ok (.ret .none)) ⟨h', g, d, tk', os⟩) :
    codeAny (model prog w) A (.call (.builtin "object.__setattr__") ⟨[.ref x, .str name tk, v], []⟩) R ⟨hp, g, d, t, os⟩ := by
  obtain ⟨oD, esD, epD, hoD, _⟩ := hns.count hw
  have hcls : Looks (model prog w) hp (classData C) cd := looks_clsIn X hcd
  refine osa_openX b.sto X (ox := { cls := .ref C, dict := some dx, data := .fields fv }) (od := some oD) ⟨hx, rfl, rfl, hoD⟩ ho (taker_none ha) fun c => ?_
  obtain ⟨c1, c2, c3, c4, c5, c6, c7, c8, c9, c10, c11⟩ := cd
  cases (show c6 = true from hh)
  simp only [storeInOwnDict, ownDictForStores]
  repeat (first | (with_reducible refine PySem.OEX.store_in_old hns hw hz ?_) | (with_reducible refine wpAny_loadPart_at hx ?_) | (with_reducible refine hcls.at ?_) | wp_step)
  exact fun h' tk' hn' hs => hq h' tk' (fun b o hb ho => (hs.2 b hb).trans ho) hn'
end
/-- what the written part says of an error class over a built-in base -/
structure ErrB (P : Program) (K : Frag) (mg : Str → Option Value) (B new ini : String) (bm : List Value) (x : Str) (flds : List Str) (qual : Str) (st : Stmt) (C fI : Addr) : Prop where
  gC : mg x = some (.ref C)
  cls : ∃ nm q N bs bc sn sub ab col dd k0 k1 k2 k3 k5, K.lookup C = some (excClassObj nm q C N bs bc true sn sub ab col dd k0 k1 k2 k3 k5 new) ∧ excTail bm bc = true
  sa : findIn K (.ref C) "__setattr__" = some (some (.builtin "object.__setattr__"))
  ga : findIn K (.ref C) "__getattribute__" = some (some (.builtin "BaseException.__getattribute__"))
  gg : findIn K (.ref C) "__getattr__" = some none
  noN : ∀ f ∈ flds, findIn K (.ref C) f = some none
  iC : findIn K (.ref C) "__init__" = some (some (.ref fI))
  tC : typeIn K (.ref fI) = some (.type "function")
  kC : keepIn K (.ref C) = true
  exC : subIn K (.ref C) (.type "BaseException") = some true
  veC : subIn K (.ref C) (.type B) = some true
  tyC : typeIn K (.ref C) = some (.type "type")
  hdC : hasDictIn K C = true
  mro : mroIn K C (.ref C) = some true
  sup : ks_superIn K C C "__init__" = some (some (.builtin ini))
  any : nsIn K cStatics "thirdparty.any" = some none
  top : (P.main.scope.names.lookup ("super" : Str)).isSome = false
  mS : mg "super" = none
  fn : ∃ (oc : Value) (od : Option Addr) (doc pm : Value) (an : Option Addr) (cda cc : Addr) (ct : Value) (osl : Array (Option Value)) (ccl cl : Value) (cdd cld : Option Addr) (ccs csl : Array (Option Value)) (vs : Array Value) (file : Str) (tf : Tok),
    K.lookup fI = some ⟨oc, od, .func (ksFn "__init__" qual (defArgs st) (defBody st) (defScope st) .none .none doc pm an (.ref cda) ct cc), osl⟩ ∧ codeIn K (.ref cda) qual = true ∧
    K.lookup cda = some ⟨ccl, cdd, .fields vs, ccs⟩ ∧ vs[2]? = some (.str file tf) ∧ ((P.main.file : Str) == file) = true ∧ K.lookup cc = some ⟨cl, cld, .cell (some (.ref C)), csl⟩
end Du

set_option Elab.async false
set_option linter.all false
set_option maxRecDepth 100000
set_option maxHeartbeats 1000000
namespace Du
open PySem PySem.W PySem.Calls PyProof.Rows PySem.HandSPX
open L2 (defArgs defBody defScope inClass)
abbrev sENoTask : Stmt := inClass (topS 3) 0
section
variable {prog : Program} {w : World} {A : Around} {E : Value → Shared → Prop} {R : Result → Shared → Prop} {s : Shared} {K : Frag} {mg mb : Str → Option Value} {C fI : Addr} {nm qual : Str}
theorem initE_NoTask (T : ErrB prog K mg "ValueError" "ValueError.__new__" "ValueError.__init__" veM nm ["part"] qual sENoTask C fI) {x t0 : Addr} {v : Value} (X : K.In s.heap) (hlim : s.heap.NoLimit) (G : s.heap.Ns mainGlobals mg) (Bn : s.heap.Ns builtinsNs mb) (hbb : ∀ y : Str, y ≠ "__name__" → mb y = bootBuiltins y)
    (hx : s.heap.get? x = some (excO C t0)) (hnx : K.lookup x = none) (hroom : A.depth < recursionLimit) (hq : ∀ h' tk dx, ErrEnd s.heap h' x C dx "part" v → R (.ok (.ret .none)) { s with heap := h', toks := tk }) : codeAny (model prog w) A (.call (.ref fI) ⟨[.ref x, v], []⟩) R s := by
  obtain ⟨oc, od, doc, pm, an, cda, cc, ct, osl, ccl, cl, cdd, cld, ccs, csl, vs, file, tf, lk, hcd, hcode, hvs, hfile, hcell⟩ := T.fn
  obtain ⟨nm', q', N', bs, bc, sn, sub, ab, col, dd, k0, k1, k2, k3, k5, hC, hbm⟩ := T.cls
  have hcl : clsIn K C = some { name := nm', bases := bs, mro := .ref C :: bc, ns := N', qualname := q', hasDict := true, slotNames := sn, subclasses := sub, abstract := ab, collection := col, hasDel := false } := by unfold clsIn; rw [hC] <;> rfl
  have hov : excOver K C veM = true := by
    unfold excOver
    rw [hcl]
    show (C == C && excTail veM bc) = true
    rw [hbm]
    simp
  have nocell : ∀ y ∈ (defScope sENoTask).names, y.2 ≠ .cell := by decide +kernel
  refine ks_codeAny_call_defAt (binds := [(("self" : Str), Value.ref x), ("part", v)]) hroom (X _ _ lk) rfl hlim (codeRec_of X hcd) rfl (BindsTo.of_eq rfl) nocell (fun y hy => ?_) (fun h1 hn k => ?_)
  · simp only [List.mem_cons, List.not_mem_nil, or_false] at hy
    rcases hy with rfl | rfl
    · rfl
    · rfl
  have X1 : K.In h1 := X.keeps k
  have hx1 := k _ _ hx
  have I1 : InstAt h1 x (excO C t0) C none := ⟨hx1, rfl, rfl, trivial⟩
  obtain ⟨oD, hD1, cdD, hD2⟩ : ∃ oD, h1.get? C = some oD ∧ ∃ cd, oD.data = .cls cd := ⟨_, X1 _ _ hC, _, rfl⟩
  refine ks_wpAt_execs_cons (ks_wpAt_Expr_any (ks_wpAt_MethodCall ?_))
  refine ks_wpAt_super_base rfl rfl (by decide) rfl (X1 _ _ lk) rfl rfl rfl (X1 _ _ hcode) rfl hvs hfile T.top ?_
  refine ks_loadName_global rfl rfl (loadGlobal_builtin (G.keeps k) T.mS (Bn.keeps k) ((hbb _ (by decide)).trans PyProof.Rows.Boot.«super») ⟨rfl, ?_⟩)
  refine wpAny_loadName_free rfl rfl rfl ⟨_, X1 _ _ hcell, rfl⟩ (wpAny_loadName_local rfl rfl hn rfl ?_)
  refine ks_wpAny_isType_cls hD1 hD2 ⟨rfl, ?_⟩
  refine ks_wpAny_call_super hD1 hD2 hx1 rfl (fun c e => by cases e) (looks_mroIn X1 T.mro) (fun h2 hso k2 => ?_)
  have X2 : K.In h2 := X1.keeps k2
  have hx2 := k2 _ _ hx1
  have I2 : InstAt h2 x (excO C t0) C none := ⟨hx2, rfl, rfl, trivial⟩
  have hm := T.sup
  unfold ks_superIn at hm
  rw [hcl] at hm
  have hmro : W.Looks (model prog w) h2 (mroOf (.ref C)) (.ref C :: bc) := (looks_clsIn X2 hcl).andThen .now
  refine kxs_getMethod base_VE.kxs hso (looks_opaque X2 T.any) hmro rfl X2 hm (I2.type.andThen (looks_subIn X2 T.veC)) (ks_ne X2 I2 hcl) (by decide) ?_
  have k3 : ∀ b o, h2.get? b = some o → (h2.push (kxs_mw "ValueError.__init__" x)).get? b = some o := fun b o e => Heap.get?_push_of_some _ e
  refine kxs_callWith (i := "ValueError.__init__") (x := x) rfl (evalArgs_plain (args_cons (Calls.Constant_str (args_nil ⟨Heap.get?_push_at rfl rfl, ?_⟩))))
  refine call_mw base_VE.exc (k3 _ _ (X2 _ _ hC)) (k3 _ _ hx2) (Heap.get?_push_at rfl rfl) (by show 1 ≤ sizeLine; decide) fun h4 t1 k4 hx4 => ?_
  have kx : ∀ b o, b ≠ x → h1.get? b = some o → h4.get? b = some o := fun b o hb e => k4 b o hb (k3 b o (k2 b o e))
  have X4 : K.In h4 := fun b o e => kx b o (fun z => by rw [z, hnx] at e; cases e) (X1 b o e)
  have hL : s.heap.objs.size ≠ x := Nat.ne_of_gt (Heap.lt_size hx)
  obtain ⟨oL, esL, epL, eL, rL⟩ := id hn
  have hn4 : h4.Ns s.heap.objs.size _ := ⟨oL, esL, epL, kx _ _ hL eL, rL⟩
  have z : s.heap.objs.size < h4.objs.size := hn4.lt
  refine ks_wpAt_execs_cons (ks_wpAt_Assign_Attr (wpAt_of_wpAny (wpAny_Name (wpAny_loadName_local rfl rfl hn4 rfl (wpAny_Name (wpAny_loadName_local rfl rfl hn4 rfl ?_) (by decide))) (by decide))))
  refine set_plain X4 (ox := excO C t1) (od := none) ⟨hx4, rfl, rfl, trivial⟩ T.sa ?_
  refine osaN base_VE X4 hx4 hcl rfl hov (T.noN _ (by simp)) (fun h5 tk5 dx k5 dn dne hx5 hn5 => ?_)
  have dn' : h4.objs.size ≤ dx := dn
  exact wpAt_of_wpAny (wpAny_execs_nil (hq h5 tk5 dx ⟨fun b o hb e => k5 b o hb (kx b o hb (k b o e)), ⟨t1, hx5⟩, by omega, dne, hn5⟩))
theorem madeE_NoTask (T : ErrB prog K mg "ValueError" "ValueError.__new__" "ValueError.__init__" veM nm ["part"] qual sENoTask C fI) {v : Value} (X : K.In s.heap) (hlim : s.heap.NoLimit) (G : s.heap.Ns mainGlobals mg) (Bn : s.heap.Ns builtinsNs mb) (hbb : ∀ y : Str, y ≠ "__name__" → mb y = bootBuiltins y) (hroom : A.depth + 1 < recursionLimit)
    (hq : ∀ h' tk e d, ErrMade s.heap h' e C d "part" v → R (.ok (.ret (.ref e))) { s with heap := h', toks := tk }) : codeAny (model prog w) A (.call (.ref C) ⟨[v], []⟩) R s := by
  obtain ⟨nm', q', N', bs, bc, sn, sub, ab, col, dd, k0, k1, k2, k3, k5, hC, hbm⟩ := T.cls
  obtain ⟨hp, g, dr, tk, os⟩ := s
  have k : ∀ b o, hp.get? b = some o → ((hp.push (kdv_tup [v])).push (excO C hp.objs.size)).get? b = some o := fun b o e => Heap.get?_push_of_some _ (Heap.get?_push_of_some _ e)
  have hget : ((hp.push (kdv_tup [v])).push (excO C hp.objs.size)).get? (hp.objs.size + 1) = some (excO C hp.objs.size) := by heap_get
  have hnx : K.lookup (hp.objs.size + 1) = none := by
    cases e : K.lookup (hp.objs.size + 1) with
    | none => rfl
    | some o => exact absurd (Nat.lt_of_succ_lt (Heap.lt_size (show hp.get? (hp.objs.size + 1) = some o from X _ _ e))) (Nat.lt_irrefl _)
  refine call_own base_VE.exc (fun X => excTail_contains X bc hbm) (X _ _ hC) (looks_findIn X T.iC) (fun self => bind_fn X self T.tC) (by show 1 ≤ sizeLine; decide) ?_
  refine initE_NoTask (s := ⟨(hp.push (kdv_tup [v])).push (excO C hp.objs.size), g, dr, tk, os⟩) T (X.keeps k) (hlim.keeps k) (G.keeps k) (Bn.keeps k) hbb hget hnx hroom fun h' tk' dx m => ?_
  obtain ⟨k', ⟨t1, hx⟩, dn, dne, hns⟩ := m
  have z : hp.objs.size + 1 + 1 ≤ dx := by
    have q := dn
    rw [Heap.size_push, Heap.size_push] at q
    exact q
  exact ⟨rfl, hq h' tk' (hp.objs.size + 1) dx ⟨fun b o e => k' b o (Nat.ne_of_lt (Nat.lt_succ_of_lt (Heap.lt_size e))) (k b o e), Nat.le_succ _, ⟨_, _, hx, rfl, rfl, rfl, rfl, rfl⟩, Nat.le_trans (Nat.le_trans (Nat.le_succ _) (Nat.le_succ _)) z, dne, hns⟩⟩
end
theorem errE_NoTask {P : Program} {w : World} {K : PySem.W.Frag} {mg : Str → Option Value} {x qual : Str} {C fI : Addr} (T : ErrB P K mg "ValueError" "ValueError.__new__" "ValueError.__init__" veM x ["part"] qual sENoTask C fI) : Err P w K mg x "part" C :=
  ⟨T.gC, T.kC, T.exC, T.tyC, T.ga, T.gg, T.noN _ (by simp), T.hdC, fun X l G B hb hr q => madeE_NoTask T X l G B hb hr q⟩
abbrev sENoDoor : Stmt := inClass (topS 4) 0
section
variable {prog : Program} {w : World} {A : Around} {E : Value → Shared → Prop} {R : Result → Shared → Prop} {s : Shared} {K : Frag} {mg mb : Str → Option Value} {C fI : Addr} {nm qual : Str}
theorem initE_NoDoor (T : ErrB prog K mg "ValueError" "ValueError.__new__" "ValueError.__init__" veM nm ["part"] qual sENoDoor C fI) {x t0 : Addr} {v : Value} (X : K.In s.heap) (hlim : s.heap.NoLimit) (G : s.heap.Ns mainGlobals mg) (Bn : s.heap.Ns builtinsNs mb) (hbb : ∀ y : Str, y ≠ "__name__" → mb y = bootBuiltins y)
    (hx : s.heap.get? x = some (excO C t0)) (hnx : K.lookup x = none) (hroom : A.depth < recursionLimit) (hq : ∀ h' tk dx, ErrEnd s.heap h' x C dx "part" v → R (.ok (.ret .none)) { s with heap := h', toks := tk }) : codeAny (model prog w) A (.call (.ref fI) ⟨[.ref x, v], []⟩) R s := by
  obtain ⟨oc, od, doc, pm, an, cda, cc, ct, osl, ccl, cl, cdd, cld, ccs, csl, vs, file, tf, lk, hcd, hcode, hvs, hfile, hcell⟩ := T.fn
  obtain ⟨nm', q', N', bs, bc, sn, sub, ab, col, dd, k0, k1, k2, k3, k5, hC, hbm⟩ := T.cls
  have hcl : clsIn K C = some { name := nm', bases := bs, mro := .ref C :: bc, ns := N', qualname := q', hasDict := true, slotNames := sn, subclasses := sub, abstract := ab, collection := col, hasDel := false } := by unfold clsIn; rw [hC] <;> rfl
  have hov : excOver K C veM = true := by
    unfold excOver
    rw [hcl]
    show (C == C && excTail veM bc) = true
    rw [hbm]
    simp
  have nocell : ∀ y ∈ (defScope sENoDoor).names, y.2 ≠ .cell := by decide +kernel
  refine ks_codeAny_call_defAt (binds := [(("self" : Str), Value.ref x), ("part", v)]) hroom (X _ _ lk) rfl hlim (codeRec_of X hcd) rfl (BindsTo.of_eq rfl) nocell (fun y hy => ?_) (fun h1 hn k => ?_)
  · simp only [List.mem_cons, List.not_mem_nil, or_false] at hy
    rcases hy with rfl | rfl
    · rfl
    · rfl
  have X1 : K.In h1 := X.keeps k
  have hx1 := k _ _ hx
  have I1 : InstAt h1 x (excO C t0) C none := ⟨hx1, rfl, rfl, trivial⟩
  obtain ⟨oD, hD1, cdD, hD2⟩ : ∃ oD, h1.get? C = some oD ∧ ∃ cd, oD.data = .cls cd := ⟨_, X1 _ _ hC, _, rfl⟩
  refine ks_wpAt_execs_cons (ks_wpAt_Expr_any (ks_wpAt_MethodCall ?_))
  refine ks_wpAt_super_base rfl rfl (by decide) rfl (X1 _ _ lk) rfl rfl rfl (X1 _ _ hcode) rfl hvs hfile T.top ?_
  refine ks_loadName_global rfl rfl (loadGlobal_builtin (G.keeps k) T.mS (Bn.keeps k) ((hbb _ (by decide)).trans PyProof.Rows.Boot.«super») ⟨rfl, ?_⟩)
  refine wpAny_loadName_free rfl rfl rfl ⟨_, X1 _ _ hcell, rfl⟩ (wpAny_loadName_local rfl rfl hn rfl ?_)
  refine ks_wpAny_isType_cls hD1 hD2 ⟨rfl, ?_⟩
  refine ks_wpAny_call_super hD1 hD2 hx1 rfl (fun c e => by cases e) (looks_mroIn X1 T.mro) (fun h2 hso k2 => ?_)
  have X2 : K.In h2 := X1.keeps k2
  have hx2 := k2 _ _ hx1
  have I2 : InstAt h2 x (excO C t0) C none := ⟨hx2, rfl, rfl, trivial⟩
  have hm := T.sup
  unfold ks_superIn at hm
  rw [hcl] at hm
  have hmro : W.Looks (model prog w) h2 (mroOf (.ref C)) (.ref C :: bc) := (looks_clsIn X2 hcl).andThen .now
  refine kxs_getMethod base_VE.kxs hso (looks_opaque X2 T.any) hmro rfl X2 hm (I2.type.andThen (looks_subIn X2 T.veC)) (ks_ne X2 I2 hcl) (by decide) ?_
  have k3 : ∀ b o, h2.get? b = some o → (h2.push (kxs_mw "ValueError.__init__" x)).get? b = some o := fun b o e => Heap.get?_push_of_some _ e
  refine kxs_callWith (i := "ValueError.__init__") (x := x) rfl (evalArgs_plain (args_cons (Calls.Constant_str (args_nil ⟨Heap.get?_push_at rfl rfl, ?_⟩))))
  refine call_mw base_VE.exc (k3 _ _ (X2 _ _ hC)) (k3 _ _ hx2) (Heap.get?_push_at rfl rfl) (by show 1 ≤ sizeLine; decide) fun h4 t1 k4 hx4 => ?_
  have kx : ∀ b o, b ≠ x → h1.get? b = some o → h4.get? b = some o := fun b o hb e => k4 b o hb (k3 b o (k2 b o e))
  have X4 : K.In h4 := fun b o e => kx b o (fun z => by rw [z, hnx] at e; cases e) (X1 b o e)
  have hL : s.heap.objs.size ≠ x := Nat.ne_of_gt (Heap.lt_size hx)
  obtain ⟨oL, esL, epL, eL, rL⟩ := id hn
  have hn4 : h4.Ns s.heap.objs.size _ := ⟨oL, esL, epL, kx _ _ hL eL, rL⟩
  have z : s.heap.objs.size < h4.objs.size := hn4.lt
  refine ks_wpAt_execs_cons (ks_wpAt_Assign_Attr (wpAt_of_wpAny (wpAny_Name (wpAny_loadName_local rfl rfl hn4 rfl (wpAny_Name (wpAny_loadName_local rfl rfl hn4 rfl ?_) (by decide))) (by decide))))
  refine set_plain X4 (ox := excO C t1) (od := none) ⟨hx4, rfl, rfl, trivial⟩ T.sa ?_
  refine osaN base_VE X4 hx4 hcl rfl hov (T.noN _ (by simp)) (fun h5 tk5 dx k5 dn dne hx5 hn5 => ?_)
  have dn' : h4.objs.size ≤ dx := dn
  exact wpAt_of_wpAny (wpAny_execs_nil (hq h5 tk5 dx ⟨fun b o hb e => k5 b o hb (kx b o hb (k b o e)), ⟨t1, hx5⟩, by omega, dne, hn5⟩))
theorem madeE_NoDoor (T : ErrB prog K mg "ValueError" "ValueError.__new__" "ValueError.__init__" veM nm ["part"] qual sENoDoor C fI) {v : Value} (X : K.In s.heap) (hlim : s.heap.NoLimit) (G : s.heap.Ns mainGlobals mg) (Bn : s.heap.Ns builtinsNs mb) (hbb : ∀ y : Str, y ≠ "__name__" → mb y = bootBuiltins y) (hroom : A.depth + 1 < recursionLimit)
    (hq : ∀ h' tk e d, ErrMade s.heap h' e C d "part" v → R (.ok (.ret (.ref e))) { s with heap := h', toks := tk }) : codeAny (model prog w) A (.call (.ref C) ⟨[v], []⟩) R s := by
  obtain ⟨nm', q', N', bs, bc, sn, sub, ab, col, dd, k0, k1, k2, k3, k5, hC, hbm⟩ := T.cls
  obtain ⟨hp, g, dr, tk, os⟩ := s
  have k : ∀ b o, hp.get? b = some o → ((hp.push (kdv_tup [v])).push (excO C hp.objs.size)).get? b = some o := fun b o e => Heap.get?_push_of_some _ (Heap.get?_push_of_some _ e)
  have hget : ((hp.push (kdv_tup [v])).push (excO C hp.objs.size)).get? (hp.objs.size + 1) = some (excO C hp.objs.size) := by heap_get
  have hnx : K.lookup (hp.objs.size + 1) = none := by
    cases e : K.lookup (hp.objs.size + 1) with
    | none => rfl
    | some o => exact absurd (Nat.lt_of_succ_lt (Heap.lt_size (show hp.get? (hp.objs.size + 1) = some o from X _ _ e))) (Nat.lt_irrefl _)
  refine call_own base_VE.exc (fun X => excTail_contains X bc hbm) (X _ _ hC) (looks_findIn X T.iC) (fun self => bind_fn X self T.tC) (by show 1 ≤ sizeLine; decide) ?_
  refine initE_NoDoor (s := ⟨(hp.push (kdv_tup [v])).push (excO C hp.objs.size), g, dr, tk, os⟩) T (X.keeps k) (hlim.keeps k) (G.keeps k) (Bn.keeps k) hbb hget hnx hroom fun h' tk' dx m => ?_
  obtain ⟨k', ⟨t1, hx⟩, dn, dne, hns⟩ := m
  have z : hp.objs.size + 1 + 1 ≤ dx := by
    have q := dn
    rw [Heap.size_push, Heap.size_push] at q
    exact q
  exact ⟨rfl, hq h' tk' (hp.objs.size + 1) dx ⟨fun b o e => k' b o (Nat.ne_of_lt (Nat.lt_succ_of_lt (Heap.lt_size e))) (k b o e), Nat.le_succ _, ⟨_, _, hx, rfl, rfl, rfl, rfl, rfl⟩, Nat.le_trans (Nat.le_trans (Nat.le_succ _) (Nat.le_succ _)) z, dne, hns⟩⟩
end
theorem errE_NoDoor {P : Program} {w : World} {K : PySem.W.Frag} {mg : Str → Option Value} {x qual : Str} {C fI : Addr} (T : ErrB P K mg "ValueError" "ValueError.__new__" "ValueError.__init__" veM x ["part"] qual sENoDoor C fI) : Err P w K mg x "part" C :=
  ⟨T.gC, T.kC, T.exC, T.tyC, T.ga, T.gg, T.noN _ (by simp), T.hdC, fun X l G B hb hr q => madeE_NoDoor T X l G B hb hr q⟩
abbrev sENoCrew : Stmt := inClass (topS 5) 0
section
variable {prog : Program} {w : World} {A : Around} {E : Value → Shared → Prop} {R : Result → Shared → Prop} {s : Shared} {K : Frag} {mg mb : Str → Option Value} {C fI : Addr} {nm qual : Str}
theorem initE_NoCrew (T : ErrB prog K mg "ValueError" "ValueError.__new__" "ValueError.__init__" veM nm ["name"] qual sENoCrew C fI) {x t0 : Addr} {v : Value} (X : K.In s.heap) (hlim : s.heap.NoLimit) (G : s.heap.Ns mainGlobals mg) (Bn : s.heap.Ns builtinsNs mb) (hbb : ∀ y : Str, y ≠ "__name__" → mb y = bootBuiltins y)
    (hx : s.heap.get? x = some (excO C t0)) (hnx : K.lookup x = none) (hroom : A.depth < recursionLimit) (hq : ∀ h' tk dx, ErrEnd s.heap h' x C dx "name" v → R (.ok (.ret .none)) { s with heap := h', toks := tk }) : codeAny (model prog w) A (.call (.ref fI) ⟨[.ref x, v], []⟩) R s := by
  obtain ⟨oc, od, doc, pm, an, cda, cc, ct, osl, ccl, cl, cdd, cld, ccs, csl, vs, file, tf, lk, hcd, hcode, hvs, hfile, hcell⟩ := T.fn
  obtain ⟨nm', q', N', bs, bc, sn, sub, ab, col, dd, k0, k1, k2, k3, k5, hC, hbm⟩ := T.cls
  have hcl : clsIn K C = some { name := nm', bases := bs, mro := .ref C :: bc, ns := N', qualname := q', hasDict := true, slotNames := sn, subclasses := sub, abstract := ab, collection := col, hasDel := false } := by unfold clsIn; rw [hC] <;> rfl
  have hov : excOver K C veM = true := by
    unfold excOver
    rw [hcl]
    show (C == C && excTail veM bc) = true
    rw [hbm]
    simp
  have nocell : ∀ y ∈ (defScope sENoCrew).names, y.2 ≠ .cell := by decide +kernel
  refine ks_codeAny_call_defAt (binds := [(("self" : Str), Value.ref x), ("name", v)]) hroom (X _ _ lk) rfl hlim (codeRec_of X hcd) rfl (BindsTo.of_eq rfl) nocell (fun y hy => ?_) (fun h1 hn k => ?_)
  · simp only [List.mem_cons, List.not_mem_nil, or_false] at hy
    rcases hy with rfl | rfl
    · rfl
    · rfl
  have X1 : K.In h1 := X.keeps k
  have hx1 := k _ _ hx
  have I1 : InstAt h1 x (excO C t0) C none := ⟨hx1, rfl, rfl, trivial⟩
  obtain ⟨oD, hD1, cdD, hD2⟩ : ∃ oD, h1.get? C = some oD ∧ ∃ cd, oD.data = .cls cd := ⟨_, X1 _ _ hC, _, rfl⟩
  refine ks_wpAt_execs_cons (ks_wpAt_Expr_any (ks_wpAt_MethodCall ?_))
  refine ks_wpAt_super_base rfl rfl (by decide) rfl (X1 _ _ lk) rfl rfl rfl (X1 _ _ hcode) rfl hvs hfile T.top ?_
  refine ks_loadName_global rfl rfl (loadGlobal_builtin (G.keeps k) T.mS (Bn.keeps k) ((hbb _ (by decide)).trans PyProof.Rows.Boot.«super») ⟨rfl, ?_⟩)
  refine wpAny_loadName_free rfl rfl rfl ⟨_, X1 _ _ hcell, rfl⟩ (wpAny_loadName_local rfl rfl hn rfl ?_)
  refine ks_wpAny_isType_cls hD1 hD2 ⟨rfl, ?_⟩
  refine ks_wpAny_call_super hD1 hD2 hx1 rfl (fun c e => by cases e) (looks_mroIn X1 T.mro) (fun h2 hso k2 => ?_)
  have X2 : K.In h2 := X1.keeps k2
  have hx2 := k2 _ _ hx1
  have I2 : InstAt h2 x (excO C t0) C none := ⟨hx2, rfl, rfl, trivial⟩
  have hm := T.sup
  unfold ks_superIn at hm
  rw [hcl] at hm
  have hmro : W.Looks (model prog w) h2 (mroOf (.ref C)) (.ref C :: bc) := (looks_clsIn X2 hcl).andThen .now
  refine kxs_getMethod base_VE.kxs hso (looks_opaque X2 T.any) hmro rfl X2 hm (I2.type.andThen (looks_subIn X2 T.veC)) (ks_ne X2 I2 hcl) (by decide) ?_
  have k3 : ∀ b o, h2.get? b = some o → (h2.push (kxs_mw "ValueError.__init__" x)).get? b = some o := fun b o e => Heap.get?_push_of_some _ e
  refine kxs_callWith (i := "ValueError.__init__") (x := x) rfl (evalArgs_plain (args_cons (Calls.Constant_str (args_nil ⟨Heap.get?_push_at rfl rfl, ?_⟩))))
  refine call_mw base_VE.exc (k3 _ _ (X2 _ _ hC)) (k3 _ _ hx2) (Heap.get?_push_at rfl rfl) (by show 1 ≤ sizeLine; decide) fun h4 t1 k4 hx4 => ?_
  have kx : ∀ b o, b ≠ x → h1.get? b = some o → h4.get? b = some o := fun b o hb e => k4 b o hb (k3 b o (k2 b o e))
  have X4 : K.In h4 := fun b o e => kx b o (fun z => by rw [z, hnx] at e; cases e) (X1 b o e)
  have hL : s.heap.objs.size ≠ x := Nat.ne_of_gt (Heap.lt_size hx)
  obtain ⟨oL, esL, epL, eL, rL⟩ := id hn
  have hn4 : h4.Ns s.heap.objs.size _ := ⟨oL, esL, epL, kx _ _ hL eL, rL⟩
  have z : s.heap.objs.size < h4.objs.size := hn4.lt
  refine ks_wpAt_execs_cons (ks_wpAt_Assign_Attr (wpAt_of_wpAny (wpAny_Name (wpAny_loadName_local rfl rfl hn4 rfl (wpAny_Name (wpAny_loadName_local rfl rfl hn4 rfl ?_) (by decide))) (by decide))))
  refine set_plain X4 (ox := excO C t1) (od := none) ⟨hx4, rfl, rfl, trivial⟩ T.sa ?_
  refine osaN base_VE X4 hx4 hcl rfl hov (T.noN _ (by simp)) (fun h5 tk5 dx k5 dn dne hx5 hn5 => ?_)
  have dn' : h4.objs.size ≤ dx := dn
  exact wpAt_of_wpAny (wpAny_execs_nil (hq h5 tk5 dx ⟨fun b o hb e => k5 b o hb (kx b o hb (k b o e)), ⟨t1, hx5⟩, by omega, dne, hn5⟩))
theorem madeE_NoCrew (T : ErrB prog K mg "ValueError" "ValueError.__new__" "ValueError.__init__" veM nm ["name"] qual sENoCrew C fI) {v : Value} (X : K.In s.heap) (hlim : s.heap.NoLimit) (G : s.heap.Ns mainGlobals mg) (Bn : s.heap.Ns builtinsNs mb) (hbb : ∀ y : Str, y ≠ "__name__" → mb y = bootBuiltins y) (hroom : A.depth + 1 < recursionLimit)
    (hq : ∀ h' tk e d, ErrMade s.heap h' e C d "name" v → R (.ok (.ret (.ref e))) { s with heap := h', toks := tk }) : codeAny (model prog w) A (.call (.ref C) ⟨[v], []⟩) R s := by
  obtain ⟨nm', q', N', bs, bc, sn, sub, ab, col, dd, k0, k1, k2, k3, k5, hC, hbm⟩ := T.cls
  obtain ⟨hp, g, dr, tk, os⟩ := s
  have k : ∀ b o, hp.get? b = some o → ((hp.push (kdv_tup [v])).push (excO C hp.objs.size)).get? b = some o := fun b o e => Heap.get?_push_of_some _ (Heap.get?_push_of_some _ e)
  have hget : ((hp.push (kdv_tup [v])).push (excO C hp.objs.size)).get? (hp.objs.size + 1) = some (excO C hp.objs.size) := by heap_get
  have hnx : K.lookup (hp.objs.size + 1) = none := by
    cases e : K.lookup (hp.objs.size + 1) with
    | none => rfl
    | some o => exact absurd (Nat.lt_of_succ_lt (Heap.lt_size (show hp.get? (hp.objs.size + 1) = some o from X _ _ e))) (Nat.lt_irrefl _)
  refine call_own base_VE.exc (fun X => excTail_contains X bc hbm) (X _ _ hC) (looks_findIn X T.iC) (fun self => bind_fn X self T.tC) (by show 1 ≤ sizeLine; decide) ?_
  refine initE_NoCrew (s := ⟨(hp.push (kdv_tup [v])).push (excO C hp.objs.size), g, dr, tk, os⟩) T (X.keeps k) (hlim.keeps k) (G.keeps k) (Bn.keeps k) hbb hget hnx hroom fun h' tk' dx m => ?_
  obtain ⟨k', ⟨t1, hx⟩, dn, dne, hns⟩ := m
  have z : hp.objs.size + 1 + 1 ≤ dx := by
    have q := dn
    rw [Heap.size_push, Heap.size_push] at q
    exact q
  exact ⟨rfl, hq h' tk' (hp.objs.size + 1) dx ⟨fun b o e => k' b o (Nat.ne_of_lt (Nat.lt_succ_of_lt (Heap.lt_size e))) (k b o e), Nat.le_succ _, ⟨_, _, hx, rfl, rfl, rfl, rfl, rfl⟩, Nat.le_trans (Nat.le_trans (Nat.le_succ _) (Nat.le_succ _)) z, dne, hns⟩⟩
end
theorem errE_NoCrew {P : Program} {w : World} {K : PySem.W.Frag} {mg : Str → Option Value} {x qual : Str} {C fI : Addr} (T : ErrB P K mg "ValueError" "ValueError.__new__" "ValueError.__init__" veM x ["name"] qual sENoCrew C fI) : Err P w K mg x "name" C :=
  ⟨T.gC, T.kC, T.exC, T.tyC, T.ga, T.gg, T.noN _ (by simp), T.hdC, fun X l G B hb hr q => madeE_NoCrew T X l G B hb hr q⟩
abbrev sENoName : Stmt := inClass (topS 7) 0
section
variable {prog : Program} {w : World} {A : Around} {E : Value → Shared → Prop} {R : Result → Shared → Prop} {s : Shared} {K : Frag} {mg mb : Str → Option Value} {C fI : Addr} {nm qual : Str}
theorem initE_NoName (T : ErrB prog K mg "LookupError" "LookupError.__new__" "LookupError.__init__" leM nm ["name"] qual sENoName C fI) {x t0 : Addr} {v : Value} (X : K.In s.heap) (hlim : s.heap.NoLimit) (G : s.heap.Ns mainGlobals mg) (Bn : s.heap.Ns builtinsNs mb) (hbb : ∀ y : Str, y ≠ "__name__" → mb y = bootBuiltins y)
    (hx : s.heap.get? x = some (excO C t0)) (hnx : K.lookup x = none) (hroom : A.depth < recursionLimit) (hq : ∀ h' tk dx, ErrEnd s.heap h' x C dx "name" v → R (.ok (.ret .none)) { s with heap := h', toks := tk }) : codeAny (model prog w) A (.call (.ref fI) ⟨[.ref x, v], []⟩) R s := by
  obtain ⟨oc, od, doc, pm, an, cda, cc, ct, osl, ccl, cl, cdd, cld, ccs, csl, vs, file, tf, lk, hcd, hcode, hvs, hfile, hcell⟩ := T.fn
  obtain ⟨nm', q', N', bs, bc, sn, sub, ab, col, dd, k0, k1, k2, k3, k5, hC, hbm⟩ := T.cls
  have hcl : clsIn K C = some { name := nm', bases := bs, mro := .ref C :: bc, ns := N', qualname := q', hasDict := true, slotNames := sn, subclasses := sub, abstract := ab, collection := col, hasDel := false } := by unfold clsIn; rw [hC] <;> rfl
  have hov : excOver K C leM = true := by
    unfold excOver
    rw [hcl]
    show (C == C && excTail leM bc) = true
    rw [hbm]
    simp
  have nocell : ∀ y ∈ (defScope sENoName).names, y.2 ≠ .cell := by decide +kernel
  refine ks_codeAny_call_defAt (binds := [(("self" : Str), Value.ref x), ("name", v)]) hroom (X _ _ lk) rfl hlim (codeRec_of X hcd) rfl (BindsTo.of_eq rfl) nocell (fun y hy => ?_) (fun h1 hn k => ?_)
  · simp only [List.mem_cons, List.not_mem_nil, or_false] at hy
    rcases hy with rfl | rfl
    · rfl
    · rfl
  have X1 : K.In h1 := X.keeps k
  have hx1 := k _ _ hx
  have I1 : InstAt h1 x (excO C t0) C none := ⟨hx1, rfl, rfl, trivial⟩
  obtain ⟨oD, hD1, cdD, hD2⟩ : ∃ oD, h1.get? C = some oD ∧ ∃ cd, oD.data = .cls cd := ⟨_, X1 _ _ hC, _, rfl⟩
  refine ks_wpAt_execs_cons (ks_wpAt_Expr_any (ks_wpAt_MethodCall ?_))
  refine ks_wpAt_super_base rfl rfl (by decide) rfl (X1 _ _ lk) rfl rfl rfl (X1 _ _ hcode) rfl hvs hfile T.top ?_
  refine ks_loadName_global rfl rfl (loadGlobal_builtin (G.keeps k) T.mS (Bn.keeps k) ((hbb _ (by decide)).trans PyProof.Rows.Boot.«super») ⟨rfl, ?_⟩)
  refine wpAny_loadName_free rfl rfl rfl ⟨_, X1 _ _ hcell, rfl⟩ (wpAny_loadName_local rfl rfl hn rfl ?_)
  refine ks_wpAny_isType_cls hD1 hD2 ⟨rfl, ?_⟩
  refine ks_wpAny_call_super hD1 hD2 hx1 rfl (fun c e => by cases e) (looks_mroIn X1 T.mro) (fun h2 hso k2 => ?_)
  have X2 : K.In h2 := X1.keeps k2
  have hx2 := k2 _ _ hx1
  have I2 : InstAt h2 x (excO C t0) C none := ⟨hx2, rfl, rfl, trivial⟩
  have hm := T.sup
  unfold ks_superIn at hm
  rw [hcl] at hm
  have hmro : W.Looks (model prog w) h2 (mroOf (.ref C)) (.ref C :: bc) := (looks_clsIn X2 hcl).andThen .now
  refine kxs_getMethod base_LE.kxs hso (looks_opaque X2 T.any) hmro rfl X2 hm (I2.type.andThen (looks_subIn X2 T.veC)) (ks_ne X2 I2 hcl) (by decide) ?_
  have k3 : ∀ b o, h2.get? b = some o → (h2.push (kxs_mw "LookupError.__init__" x)).get? b = some o := fun b o e => Heap.get?_push_of_some _ e
  refine kxs_callWith (i := "LookupError.__init__") (x := x) rfl (evalArgs_plain (args_cons (Calls.Constant_str (args_nil ⟨Heap.get?_push_at rfl rfl, ?_⟩))))
  refine call_mw base_LE.exc (k3 _ _ (X2 _ _ hC)) (k3 _ _ hx2) (Heap.get?_push_at rfl rfl) (by show 1 ≤ sizeLine; decide) fun h4 t1 k4 hx4 => ?_
  have kx : ∀ b o, b ≠ x → h1.get? b = some o → h4.get? b = some o := fun b o hb e => k4 b o hb (k3 b o (k2 b o e))
  have X4 : K.In h4 := fun b o e => kx b o (fun z => by rw [z, hnx] at e; cases e) (X1 b o e)
  have hL : s.heap.objs.size ≠ x := Nat.ne_of_gt (Heap.lt_size hx)
  obtain ⟨oL, esL, epL, eL, rL⟩ := id hn
  have hn4 : h4.Ns s.heap.objs.size _ := ⟨oL, esL, epL, kx _ _ hL eL, rL⟩
  have z : s.heap.objs.size < h4.objs.size := hn4.lt
  refine ks_wpAt_execs_cons (ks_wpAt_Assign_Attr (wpAt_of_wpAny (wpAny_Name (wpAny_loadName_local rfl rfl hn4 rfl (wpAny_Name (wpAny_loadName_local rfl rfl hn4 rfl ?_) (by decide))) (by decide))))
  refine set_plain X4 (ox := excO C t1) (od := none) ⟨hx4, rfl, rfl, trivial⟩ T.sa ?_
  refine osaN base_LE X4 hx4 hcl rfl hov (T.noN _ (by simp)) (fun h5 tk5 dx k5 dn dne hx5 hn5 => ?_)
  have dn' : h4.objs.size ≤ dx := dn
  exact wpAt_of_wpAny (wpAny_execs_nil (hq h5 tk5 dx ⟨fun b o hb e => k5 b o hb (kx b o hb (k b o e)), ⟨t1, hx5⟩, by omega, dne, hn5⟩))
theorem madeE_NoName (T : ErrB prog K mg "LookupError" "LookupError.__new__" "LookupError.__init__" leM nm ["name"] qual sENoName C fI) {v : Value} (X : K.In s.heap) (hlim : s.heap.NoLimit) (G : s.heap.Ns mainGlobals mg) (Bn : s.heap.Ns builtinsNs mb) (hbb : ∀ y : Str, y ≠ "__name__" → mb y = bootBuiltins y) (hroom : A.depth + 1 < recursionLimit)
    (hq : ∀ h' tk e d, ErrMade s.heap h' e C d "name" v → R (.ok (.ret (.ref e))) { s with heap := h', toks := tk }) : codeAny (model prog w) A (.call (.ref C) ⟨[v], []⟩) R s := by
  obtain ⟨nm', q', N', bs, bc, sn, sub, ab, col, dd, k0, k1, k2, k3, k5, hC, hbm⟩ := T.cls
  obtain ⟨hp, g, dr, tk, os⟩ := s
  have k : ∀ b o, hp.get? b = some o → ((hp.push (kdv_tup [v])).push (excO C hp.objs.size)).get? b = some o := fun b o e => Heap.get?_push_of_some _ (Heap.get?_push_of_some _ e)
  have hget : ((hp.push (kdv_tup [v])).push (excO C hp.objs.size)).get? (hp.objs.size + 1) = some (excO C hp.objs.size) := by heap_get
  have hnx : K.lookup (hp.objs.size + 1) = none := by
    cases e : K.lookup (hp.objs.size + 1) with
    | none => rfl
    | some o => exact absurd (Nat.lt_of_succ_lt (Heap.lt_size (show hp.get? (hp.objs.size + 1) = some o from X _ _ e))) (Nat.lt_irrefl _)
  refine call_own base_LE.exc (fun X => excTail_contains X bc hbm) (X _ _ hC) (looks_findIn X T.iC) (fun self => bind_fn X self T.tC) (by show 1 ≤ sizeLine; decide) ?_
  refine initE_NoName (s := ⟨(hp.push (kdv_tup [v])).push (excO C hp.objs.size), g, dr, tk, os⟩) T (X.keeps k) (hlim.keeps k) (G.keeps k) (Bn.keeps k) hbb hget hnx hroom fun h' tk' dx m => ?_
  obtain ⟨k', ⟨t1, hx⟩, dn, dne, hns⟩ := m
  have z : hp.objs.size + 1 + 1 ≤ dx := by
    have q := dn
    rw [Heap.size_push, Heap.size_push] at q
    exact q
  exact ⟨rfl, hq h' tk' (hp.objs.size + 1) dx ⟨fun b o e => k' b o (Nat.ne_of_lt (Nat.lt_succ_of_lt (Heap.lt_size e))) (k b o e), Nat.le_succ _, ⟨_, _, hx, rfl, rfl, rfl, rfl, rfl⟩, Nat.le_trans (Nat.le_trans (Nat.le_succ _) (Nat.le_succ _)) z, dne, hns⟩⟩
end
theorem errE_NoName {P : Program} {w : World} {K : PySem.W.Frag} {mg : Str → Option Value} {x qual : Str} {C fI : Addr} (T : ErrB P K mg "LookupError" "LookupError.__new__" "LookupError.__init__" leM x ["name"] qual sENoName C fI) : Err P w K mg x "name" C :=
  ⟨T.gC, T.kC, T.exC, T.tyC, T.ga, T.gg, T.noN _ (by simp), T.hdC, fun X l G B hb hr q => madeE_NoName T X l G B hb hr q⟩
end Du

set_option Elab.async false
set_option linter.all false
set_option maxRecDepth 100000
namespace Du
open PySem L2 DL
theorem kitA4 {K : PySem.W.Frag} {t c1 c2 c3 c4 : Value} (h1 : PySem.W.kitOne K t c1 = some false) (h2 : PySem.W.kitOne K t c2 = some false) (h3 : PySem.W.kitOne K t c3 = some false) (h4 : PySem.W.kitOne K t c4 = some false) : PySem.W.kitAny K t [c1, c2, c3, c4] = some false := by
  simp only [PySem.W.kitAny, h1, h2, h3, h4]
theorem exm_of {K : PySem.W.Frag} {C c : Addr} {b : Bool} (h1 : PySem.W.subIn K (.ref c) (.type "BaseException") = some true) (h2 : PySem.W.hasDictIn K c = true) (h3 : PySem.W.typeIn K (.ref c) = some (.type "type")) (h4 : PySem.W.subIn K (.ref C) (.ref c) = some b) : PySem.W.exmOne K (.ref C) (.ref c) = some b := by
  obtain ⟨cd, hc, _⟩ := PySem.W.any_some h2
  unfold PySem.W.exmOne PySem.W.kitCls
  rw [h1]
  show (if ((PySem.W.clsIn K c).isSome && PySem.W.typeIn K (.ref c) == some (.type "type")) = true then PySem.W.subIn K (.ref C) (.ref c) else none) = some b
  rw [hc, h3, h4]
  rfl
theorem exm3 {K : PySem.W.Frag} {t c1 c2 c3 : Value} {b1 b2 b3 : Bool} (h1 : PySem.W.exmOne K t c1 = some b1) (h2 : PySem.W.exmOne K t c2 = some b2) (h3 : PySem.W.exmOne K t c3 = some b3) : PySem.W.exmAny K t [c1, c2, c3] = some (b1 || b2 || b3) := by
  unfold PySem.W.exmAny PySem.W.exmAny PySem.W.exmAny PySem.W.exmAny
  rw [h1, h2, h3]
  cases b1 <;> cases b2 <;> cases b3 <;> rfl
set_option maxHeartbeats 4000000 in
theorem all_mk {l : PySem.W.OpenLaw} {w : World} {K : PySem.W.Frag} {h : Heap} {mg : Str → Option Value} {fa : Addr} (X : K.In h) (G : h.Ns mainGlobals mg) (hfa : mg "law" = some (.ref fa))
    {fis_number fis_whole fis_name fis_hold fgoes_ahead fare_holds fwrong_in_task fwrong_in_door fis_member fare_members fname_twice f_law_cell f_law_purse f_law_take f_law_words f_law_holds f_law_task f_law_door f_law_member f_law_crew f_law_drawn_row f_law_sort f_law_told f_law_put f_law_refused_right f_law_next flaw CT fTaskI DI e0 CD fDoorI CC fCrewI DT0 e1 fTask_eq fDoor_eq fCrew_eq fTask_repr fDoor_repr fCrew_repr fCrew_names fCrew_named fCrew_with_member fCrew_without CNoTask fxNoTask_ xNoTask_N xNoTask_cda xNoTask_cc CNoDoor fxNoDoor_ xNoDoor_N xNoDoor_cda xNoDoor_cc CNoCrew fxNoCrew_ xNoCrew_N xNoCrew_cda xNoCrew_cc CNoName fxNoName_ xNoName_N xNoName_cda xNoName_cc CTimeError CLostError CFullError CNoTool : Addr}
    {odis_number anis_number odis_whole anis_whole odis_name anis_name odis_hold anis_hold odgoes_ahead angoes_ahead odare_holds anare_holds odwrong_in_task anwrong_in_task odwrong_in_door anwrong_in_door odis_member anis_member odare_members anare_members odname_twice anname_twice od_law_cell an_law_cell od_law_purse an_law_purse od_law_take an_law_take od_law_words an_law_words od_law_holds an_law_holds od_law_task an_law_task od_law_door an_law_door od_law_member an_law_member od_law_crew an_law_crew od_law_drawn_row an_law_drawn_row od_law_sort an_law_sort od_law_told an_law_told od_law_put an_law_put od_law_refused_right an_law_refused_right od_law_next an_law_next odlaw anlaw odTaskI anTaskI od0 odDoorI anDoorI odCrewI anCrewI od1 od2 odTask_eq anTask_eq odDoor_eq anDoor_eq odCrew_eq anCrew_eq odTask_repr anTask_repr odDoor_repr anDoor_repr odCrew_repr anCrew_repr odCrew_names anCrew_names odCrew_named anCrew_named odCrew_with_member anCrew_with_member odCrew_without anCrew_without xNoTask_dd xNoTask_od xNoTask_an_ xNoTask_cdd xNoTask_cld xNoDoor_dd xNoDoor_od xNoDoor_an_ xNoDoor_cdd xNoDoor_cld xNoCrew_dd xNoCrew_od xNoCrew_an_ xNoCrew_cdd xNoCrew_cld xNoName_dd xNoName_od xNoName_an_ xNoName_cdd xNoName_cld : Option Addr}
    {slis_number slis_whole slis_name slis_hold slgoes_ahead slare_holds slwrong_in_task slwrong_in_door slis_member slare_members slname_twice sl_law_cell sl_law_purse sl_law_take sl_law_words sl_law_holds sl_law_task sl_law_door sl_law_member sl_law_crew sl_law_drawn_row sl_law_sort sl_law_told sl_law_put sl_law_refused_right sl_law_next sllaw slTaskI sl0 slDoorI slCrewI sl1 sl2 slTask_eq slDoor_eq slCrew_eq slTask_repr slDoor_repr slCrew_repr slCrew_names slCrew_named slCrew_with_member slCrew_without xNoTask_osl xNoTask_ccs xNoTask_csl xNoDoor_osl xNoDoor_ccs xNoDoor_csl xNoCrew_osl xNoCrew_ccs xNoCrew_csl xNoName_osl xNoName_ccs xNoName_csl : Array (Option Value)}
    {ocis_number dcis_number pmis_number cdis_number ctis_number kVis_number ocis_whole dcis_whole pmis_whole cdis_whole ctis_whole kVis_whole ocis_name dcis_name pmis_name cdis_name ctis_name kVis_name ocis_hold dcis_hold pmis_hold cdis_hold ctis_hold kVis_hold ocgoes_ahead dcgoes_ahead pmgoes_ahead cdgoes_ahead ctgoes_ahead kVgoes_ahead ocare_holds dcare_holds pmare_holds cdare_holds ctare_holds kVare_holds ocwrong_in_task dcwrong_in_task pmwrong_in_task cdwrong_in_task ctwrong_in_task kVwrong_in_task ocwrong_in_door dcwrong_in_door pmwrong_in_door cdwrong_in_door ctwrong_in_door kVwrong_in_door ocis_member dcis_member pmis_member cdis_member ctis_member kVis_member ocare_members dcare_members pmare_members cdare_members ctare_members kVare_members ocname_twice dcname_twice pmname_twice cdname_twice ctname_twice kVname_twice oc_law_cell dc_law_cell pm_law_cell cd_law_cell ct_law_cell kV_law_cell oc_law_purse dc_law_purse pm_law_purse cd_law_purse ct_law_purse kV_law_purse oc_law_take dc_law_take pm_law_take cd_law_take ct_law_take kV_law_take oc_law_words dc_law_words pm_law_words cd_law_words ct_law_words kV_law_words oc_law_holds dc_law_holds pm_law_holds cd_law_holds ct_law_holds kV_law_holds oc_law_task dc_law_task pm_law_task cd_law_task ct_law_task kV_law_task oc_law_door dc_law_door pm_law_door cd_law_door ct_law_door kV_law_door oc_law_member dc_law_member pm_law_member cd_law_member ct_law_member kV_law_member oc_law_crew dc_law_crew pm_law_crew cd_law_crew ct_law_crew kV_law_crew oc_law_drawn_row dc_law_drawn_row pm_law_drawn_row cd_law_drawn_row ct_law_drawn_row kV_law_drawn_row oc_law_sort dc_law_sort pm_law_sort cd_law_sort ct_law_sort kV_law_sort oc_law_told dc_law_told pm_law_told cd_law_told ct_law_told kV_law_told oc_law_put dc_law_put pm_law_put cd_law_put ct_law_put kV_law_put oc_law_refused_right dc_law_refused_right pm_law_refused_right cd_law_refused_right ct_law_refused_right kV_law_refused_right oc_law_next dc_law_next pm_law_next cd_law_next ct_law_next kV_law_next oclaw dclaw pmlaw cdlaw ctlaw kVlaw ocTaskI dcTaskI pmTaskI cdTaskI ctTaskI ocDoorI dcDoorI pmDoorI cdDoorI ctDoorI kVDoorI ocCrewI dcCrewI pmCrewI cdCrewI ctCrewI kVCrewI tcl1 ocTask_eq dcTask_eq pmTask_eq cdTask_eq ctTask_eq kVTask_eq ocDoor_eq dcDoor_eq pmDoor_eq cdDoor_eq ctDoor_eq kVDoor_eq ocCrew_eq dcCrew_eq pmCrew_eq cdCrew_eq ctCrew_eq kVCrew_eq ocTask_repr dcTask_repr pmTask_repr cdTask_repr ctTask_repr kVTask_repr ocDoor_repr dcDoor_repr pmDoor_repr cdDoor_repr ctDoor_repr kVDoor_repr ocCrew_repr dcCrew_repr pmCrew_repr cdCrew_repr ctCrew_repr kVCrew_repr ocCrew_names dcCrew_names pmCrew_names cdCrew_names ctCrew_names kVCrew_names ocCrew_named dcCrew_named pmCrew_named cdCrew_named ctCrew_named kVCrew_named ocCrew_with_member dcCrew_with_member pmCrew_with_member cdCrew_with_member ctCrew_with_member kVCrew_with_member ocCrew_without dcCrew_without pmCrew_without cdCrew_without ctCrew_without kVCrew_without xNoTask_oc xNoTask_doc xNoTask_pm xNoTask_ct xNoTask_ccl xNoTask_cl2 xNoDoor_oc xNoDoor_doc xNoDoor_pm xNoDoor_ct xNoDoor_ccl xNoDoor_cl2 xNoCrew_oc xNoCrew_doc xNoCrew_pm xNoCrew_ct xNoCrew_ccl xNoCrew_cl2 xNoName_oc xNoName_doc xNoName_pm xNoName_ct xNoName_ccl xNoName_cl2 : Value}
    {n0 n1 n2 : Nat}
    {w1 w2 w3 w4 w5 w6 xNoTask_tf xNoDoor_tf xNoCrew_tf xNoName_tf : Tok}
    {xNoTask_nm xNoTask_q xNoTask_file xNoDoor_nm xNoDoor_q xNoDoor_file xNoCrew_nm xNoCrew_q xNoCrew_file xNoName_nm xNoName_q xNoName_file : Str}
    {xNoTask_bs xNoTask_bm xNoTask_sub xNoDoor_bs xNoDoor_bm xNoDoor_sub xNoCrew_bs xNoCrew_bm xNoCrew_sub xNoName_bs xNoName_bm xNoName_sub : List Value}
    {xNoTask_sn xNoDoor_sn xNoCrew_sn xNoName_sn : List Str}
    {xNoTask_ab xNoDoor_ab xNoCrew_ab xNoName_ab : Bool}
    {xNoTask_col xNoDoor_col xNoCrew_col xNoName_col : Option Bool}
    {xNoTask_k0 xNoTask_k1 xNoTask_k2 xNoTask_k3 xNoTask_k5 xNoDoor_k0 xNoDoor_k1 xNoDoor_k2 xNoDoor_k3 xNoDoor_k5 xNoCrew_k0 xNoCrew_k1 xNoCrew_k2 xNoCrew_k3 xNoCrew_k5 xNoName_k0 xNoName_k1 xNoName_k2 xNoName_k3 xNoName_k5 : Option Value}
    {xNoTask_vs_ xNoDoor_vs_ xNoCrew_vs_ xNoName_vs_ : Array Value}
    (ais_number : PySem.W.nsIn K mainGlobals "is_number" = some (some (.ref fis_number)))
    (lis_number : K.lookup fis_number = some ⟨ocis_number, odis_number, .func (PySem.W.fnOf "is_number" "is_number" (defArgs s_is_number) (defBody s_is_number) (defScope s_is_number) .none kVis_number dcis_number pmis_number anis_number cdis_number ctis_number), slis_number⟩)
    (cis_number : PySem.W.codeIn K cdis_number "is_number" = true)
    (kis_number : PySem.W.keepIn K (.ref fis_number) = true)
    (ais_whole : PySem.W.nsIn K mainGlobals "is_whole" = some (some (.ref fis_whole)))
    (lis_whole : K.lookup fis_whole = some ⟨ocis_whole, odis_whole, .func (PySem.W.fnOf "is_whole" "is_whole" (defArgs s_is_whole) (defBody s_is_whole) (defScope s_is_whole) .none kVis_whole dcis_whole pmis_whole anis_whole cdis_whole ctis_whole), slis_whole⟩)
    (cis_whole : PySem.W.codeIn K cdis_whole "is_whole" = true)
    (kis_whole : PySem.W.keepIn K (.ref fis_whole) = true)
    (ais_name : PySem.W.nsIn K mainGlobals "is_name" = some (some (.ref fis_name)))
    (lis_name : K.lookup fis_name = some ⟨ocis_name, odis_name, .func (PySem.W.fnOf "is_name" "is_name" (defArgs s_is_name) (defBody s_is_name) (defScope s_is_name) .none kVis_name dcis_name pmis_name anis_name cdis_name ctis_name), slis_name⟩)
    (cis_name : PySem.W.codeIn K cdis_name "is_name" = true)
    (kis_name : PySem.W.keepIn K (.ref fis_name) = true)
    (ais_hold : PySem.W.nsIn K mainGlobals "is_hold" = some (some (.ref fis_hold)))
    (lis_hold : K.lookup fis_hold = some ⟨ocis_hold, odis_hold, .func (PySem.W.fnOf "is_hold" "is_hold" (defArgs s_is_hold) (defBody s_is_hold) (defScope s_is_hold) .none kVis_hold dcis_hold pmis_hold anis_hold cdis_hold ctis_hold), slis_hold⟩)
    (cis_hold : PySem.W.codeIn K cdis_hold "is_hold" = true)
    (kis_hold : PySem.W.keepIn K (.ref fis_hold) = true)
    (agoes_ahead : PySem.W.nsIn K mainGlobals "goes_ahead" = some (some (.ref fgoes_ahead)))
    (lgoes_ahead : K.lookup fgoes_ahead = some ⟨ocgoes_ahead, odgoes_ahead, .func (PySem.W.fnOf "goes_ahead" "goes_ahead" (defArgs s_goes_ahead) (defBody s_goes_ahead) (defScope s_goes_ahead) .none kVgoes_ahead dcgoes_ahead pmgoes_ahead angoes_ahead cdgoes_ahead ctgoes_ahead), slgoes_ahead⟩)
    (cgoes_ahead : PySem.W.codeIn K cdgoes_ahead "goes_ahead" = true)
    (kgoes_ahead : PySem.W.keepIn K (.ref fgoes_ahead) = true)
    (aare_holds : PySem.W.nsIn K mainGlobals "are_holds" = some (some (.ref fare_holds)))
    (lare_holds : K.lookup fare_holds = some ⟨ocare_holds, odare_holds, .func (PySem.W.fnOf "are_holds" "are_holds" (defArgs s_are_holds) (defBody s_are_holds) (defScope s_are_holds) .none kVare_holds dcare_holds pmare_holds anare_holds cdare_holds ctare_holds), slare_holds⟩)
    (care_holds : PySem.W.codeIn K cdare_holds "are_holds" = true)
    (kare_holds : PySem.W.keepIn K (.ref fare_holds) = true)
    (awrong_in_task : PySem.W.nsIn K mainGlobals "wrong_in_task" = some (some (.ref fwrong_in_task)))
    (lwrong_in_task : K.lookup fwrong_in_task = some ⟨ocwrong_in_task, odwrong_in_task, .func (PySem.W.fnOf "wrong_in_task" "wrong_in_task" (defArgs s_wrong_in_task) (defBody s_wrong_in_task) (defScope s_wrong_in_task) .none kVwrong_in_task dcwrong_in_task pmwrong_in_task anwrong_in_task cdwrong_in_task ctwrong_in_task), slwrong_in_task⟩)
    (cwrong_in_task : PySem.W.codeIn K cdwrong_in_task "wrong_in_task" = true)
    (kwrong_in_task : PySem.W.keepIn K (.ref fwrong_in_task) = true)
    (awrong_in_door : PySem.W.nsIn K mainGlobals "wrong_in_door" = some (some (.ref fwrong_in_door)))
    (lwrong_in_door : K.lookup fwrong_in_door = some ⟨ocwrong_in_door, odwrong_in_door, .func (PySem.W.fnOf "wrong_in_door" "wrong_in_door" (defArgs s_wrong_in_door) (defBody s_wrong_in_door) (defScope s_wrong_in_door) .none kVwrong_in_door dcwrong_in_door pmwrong_in_door anwrong_in_door cdwrong_in_door ctwrong_in_door), slwrong_in_door⟩)
    (cwrong_in_door : PySem.W.codeIn K cdwrong_in_door "wrong_in_door" = true)
    (kwrong_in_door : PySem.W.keepIn K (.ref fwrong_in_door) = true)
    (ais_member : PySem.W.nsIn K mainGlobals "is_member" = some (some (.ref fis_member)))
    (lis_member : K.lookup fis_member = some ⟨ocis_member, odis_member, .func (PySem.W.fnOf "is_member" "is_member" (defArgs s_is_member) (defBody s_is_member) (defScope s_is_member) .none kVis_member dcis_member pmis_member anis_member cdis_member ctis_member), slis_member⟩)
    (cis_member : PySem.W.codeIn K cdis_member "is_member" = true)
    (kis_member : PySem.W.keepIn K (.ref fis_member) = true)
    (aare_members : PySem.W.nsIn K mainGlobals "are_members" = some (some (.ref fare_members)))
    (lare_members : K.lookup fare_members = some ⟨ocare_members, odare_members, .func (PySem.W.fnOf "are_members" "are_members" (defArgs s_are_members) (defBody s_are_members) (defScope s_are_members) .none kVare_members dcare_members pmare_members anare_members cdare_members ctare_members), slare_members⟩)
    (care_members : PySem.W.codeIn K cdare_members "are_members" = true)
    (kare_members : PySem.W.keepIn K (.ref fare_members) = true)
    (aname_twice : PySem.W.nsIn K mainGlobals "name_twice" = some (some (.ref fname_twice)))
    (lname_twice : K.lookup fname_twice = some ⟨ocname_twice, odname_twice, .func (PySem.W.fnOf "name_twice" "name_twice" (defArgs s_name_twice) (defBody s_name_twice) (defScope s_name_twice) .none kVname_twice dcname_twice pmname_twice anname_twice cdname_twice ctname_twice), slname_twice⟩)
    (cname_twice : PySem.W.codeIn K cdname_twice "name_twice" = true)
    (kname_twice : PySem.W.keepIn K (.ref fname_twice) = true)
    (a_law_cell : PySem.W.nsIn K mainGlobals "_law_cell" = some (some (.ref f_law_cell)))
    (l_law_cell : K.lookup f_law_cell = some ⟨oc_law_cell, od_law_cell, .func (PySem.W.fnOf "_law_cell" "_law_cell" (defArgs s__law_cell) (defBody s__law_cell) (defScope s__law_cell) .none kV_law_cell dc_law_cell pm_law_cell an_law_cell cd_law_cell ct_law_cell), sl_law_cell⟩)
    (c_law_cell : PySem.W.codeIn K cd_law_cell "_law_cell" = true)
    (k_law_cell : PySem.W.keepIn K (.ref f_law_cell) = true)
    (a_law_purse : PySem.W.nsIn K mainGlobals "_law_purse" = some (some (.ref f_law_purse)))
    (l_law_purse : K.lookup f_law_purse = some ⟨oc_law_purse, od_law_purse, .func (PySem.W.fnOf "_law_purse" "_law_purse" (defArgs s__law_purse) (defBody s__law_purse) (defScope s__law_purse) .none kV_law_purse dc_law_purse pm_law_purse an_law_purse cd_law_purse ct_law_purse), sl_law_purse⟩)
    (c_law_purse : PySem.W.codeIn K cd_law_purse "_law_purse" = true)
    (k_law_purse : PySem.W.keepIn K (.ref f_law_purse) = true)
    (a_law_take : PySem.W.nsIn K mainGlobals "_law_take" = some (some (.ref f_law_take)))
    (l_law_take : K.lookup f_law_take = some ⟨oc_law_take, od_law_take, .func (PySem.W.fnOf "_law_take" "_law_take" (defArgs s__law_take) (defBody s__law_take) (defScope s__law_take) .none kV_law_take dc_law_take pm_law_take an_law_take cd_law_take ct_law_take), sl_law_take⟩)
    (c_law_take : PySem.W.codeIn K cd_law_take "_law_take" = true)
    (k_law_take : PySem.W.keepIn K (.ref f_law_take) = true)
    (a_law_words : PySem.W.nsIn K mainGlobals "_law_words" = some (some (.ref f_law_words)))
    (l_law_words : K.lookup f_law_words = some ⟨oc_law_words, od_law_words, .func (PySem.W.fnOf "_law_words" "_law_words" (defArgs s__law_words) (defBody s__law_words) (defScope s__law_words) .none kV_law_words dc_law_words pm_law_words an_law_words cd_law_words ct_law_words), sl_law_words⟩)
    (c_law_words : PySem.W.codeIn K cd_law_words "_law_words" = true)
    (k_law_words : PySem.W.keepIn K (.ref f_law_words) = true)
    (a_law_holds : PySem.W.nsIn K mainGlobals "_law_holds" = some (some (.ref f_law_holds)))
    (l_law_holds : K.lookup f_law_holds = some ⟨oc_law_holds, od_law_holds, .func (PySem.W.fnOf "_law_holds" "_law_holds" (defArgs s__law_holds) (defBody s__law_holds) (defScope s__law_holds) .none kV_law_holds dc_law_holds pm_law_holds an_law_holds cd_law_holds ct_law_holds), sl_law_holds⟩)
    (c_law_holds : PySem.W.codeIn K cd_law_holds "_law_holds" = true)
    (k_law_holds : PySem.W.keepIn K (.ref f_law_holds) = true)
    (a_law_task : PySem.W.nsIn K mainGlobals "_law_task" = some (some (.ref f_law_task)))
    (l_law_task : K.lookup f_law_task = some ⟨oc_law_task, od_law_task, .func (PySem.W.fnOf "_law_task" "_law_task" (defArgs s__law_task) (defBody s__law_task) (defScope s__law_task) .none kV_law_task dc_law_task pm_law_task an_law_task cd_law_task ct_law_task), sl_law_task⟩)
    (c_law_task : PySem.W.codeIn K cd_law_task "_law_task" = true)
    (k_law_task : PySem.W.keepIn K (.ref f_law_task) = true)
    (a_law_door : PySem.W.nsIn K mainGlobals "_law_door" = some (some (.ref f_law_door)))
    (l_law_door : K.lookup f_law_door = some ⟨oc_law_door, od_law_door, .func (PySem.W.fnOf "_law_door" "_law_door" (defArgs s__law_door) (defBody s__law_door) (defScope s__law_door) .none kV_law_door dc_law_door pm_law_door an_law_door cd_law_door ct_law_door), sl_law_door⟩)
    (c_law_door : PySem.W.codeIn K cd_law_door "_law_door" = true)
    (k_law_door : PySem.W.keepIn K (.ref f_law_door) = true)
    (a_law_member : PySem.W.nsIn K mainGlobals "_law_member" = some (some (.ref f_law_member)))
    (l_law_member : K.lookup f_law_member = some ⟨oc_law_member, od_law_member, .func (PySem.W.fnOf "_law_member" "_law_member" (defArgs s__law_member) (defBody s__law_member) (defScope s__law_member) .none kV_law_member dc_law_member pm_law_member an_law_member cd_law_member ct_law_member), sl_law_member⟩)
    (c_law_member : PySem.W.codeIn K cd_law_member "_law_member" = true)
    (k_law_member : PySem.W.keepIn K (.ref f_law_member) = true)
    (a_law_crew : PySem.W.nsIn K mainGlobals "_law_crew" = some (some (.ref f_law_crew)))
    (l_law_crew : K.lookup f_law_crew = some ⟨oc_law_crew, od_law_crew, .func (PySem.W.fnOf "_law_crew" "_law_crew" (defArgs s__law_crew) (defBody s__law_crew) (defScope s__law_crew) .none kV_law_crew dc_law_crew pm_law_crew an_law_crew cd_law_crew ct_law_crew), sl_law_crew⟩)
    (c_law_crew : PySem.W.codeIn K cd_law_crew "_law_crew" = true)
    (k_law_crew : PySem.W.keepIn K (.ref f_law_crew) = true)
    (a_law_drawn_row : PySem.W.nsIn K mainGlobals "_law_drawn_row" = some (some (.ref f_law_drawn_row)))
    (l_law_drawn_row : K.lookup f_law_drawn_row = some ⟨oc_law_drawn_row, od_law_drawn_row, .func (PySem.W.fnOf "_law_drawn_row" "_law_drawn_row" (defArgs s__law_drawn_row) (defBody s__law_drawn_row) (defScope s__law_drawn_row) .none kV_law_drawn_row dc_law_drawn_row pm_law_drawn_row an_law_drawn_row cd_law_drawn_row ct_law_drawn_row), sl_law_drawn_row⟩)
    (c_law_drawn_row : PySem.W.codeIn K cd_law_drawn_row "_law_drawn_row" = true)
    (k_law_drawn_row : PySem.W.keepIn K (.ref f_law_drawn_row) = true)
    (a_law_sort : PySem.W.nsIn K mainGlobals "_law_sort" = some (some (.ref f_law_sort)))
    (l_law_sort : K.lookup f_law_sort = some ⟨oc_law_sort, od_law_sort, .func (PySem.W.fnOf "_law_sort" "_law_sort" (defArgs s__law_sort) (defBody s__law_sort) (defScope s__law_sort) .none kV_law_sort dc_law_sort pm_law_sort an_law_sort cd_law_sort ct_law_sort), sl_law_sort⟩)
    (c_law_sort : PySem.W.codeIn K cd_law_sort "_law_sort" = true)
    (k_law_sort : PySem.W.keepIn K (.ref f_law_sort) = true)
    (a_law_told : PySem.W.nsIn K mainGlobals "_law_told" = some (some (.ref f_law_told)))
    (l_law_told : K.lookup f_law_told = some ⟨oc_law_told, od_law_told, .func (PySem.W.fnOf "_law_told" "_law_told" (defArgs s__law_told) (defBody s__law_told) (defScope s__law_told) .none kV_law_told dc_law_told pm_law_told an_law_told cd_law_told ct_law_told), sl_law_told⟩)
    (c_law_told : PySem.W.codeIn K cd_law_told "_law_told" = true)
    (k_law_told : PySem.W.keepIn K (.ref f_law_told) = true)
    (a_law_put : PySem.W.nsIn K mainGlobals "_law_put" = some (some (.ref f_law_put)))
    (l_law_put : K.lookup f_law_put = some ⟨oc_law_put, od_law_put, .func (PySem.W.fnOf "_law_put" "_law_put" (defArgs s__law_put) (defBody s__law_put) (defScope s__law_put) .none kV_law_put dc_law_put pm_law_put an_law_put cd_law_put ct_law_put), sl_law_put⟩)
    (c_law_put : PySem.W.codeIn K cd_law_put "_law_put" = true)
    (k_law_put : PySem.W.keepIn K (.ref f_law_put) = true)
    (a_law_refused_right : PySem.W.nsIn K mainGlobals "_law_refused_right" = some (some (.ref f_law_refused_right)))
    (l_law_refused_right : K.lookup f_law_refused_right = some ⟨oc_law_refused_right, od_law_refused_right, .func (PySem.W.fnOf "_law_refused_right" "_law_refused_right" (defArgs s__law_refused_right) (defBody s__law_refused_right) (defScope s__law_refused_right) .none kV_law_refused_right dc_law_refused_right pm_law_refused_right an_law_refused_right cd_law_refused_right ct_law_refused_right), sl_law_refused_right⟩)
    (c_law_refused_right : PySem.W.codeIn K cd_law_refused_right "_law_refused_right" = true)
    (k_law_refused_right : PySem.W.keepIn K (.ref f_law_refused_right) = true)
    (a_law_next : PySem.W.nsIn K mainGlobals "_law_next" = some (some (.ref f_law_next)))
    (l_law_next : K.lookup f_law_next = some ⟨oc_law_next, od_law_next, .func (PySem.W.fnOf "_law_next" "_law_next" (defArgs s__law_next) (defBody s__law_next) (defScope s__law_next) .none kV_law_next dc_law_next pm_law_next an_law_next cd_law_next ct_law_next), sl_law_next⟩)
    (c_law_next : PySem.W.codeIn K cd_law_next "_law_next" = true)
    (k_law_next : PySem.W.keepIn K (.ref f_law_next) = true)
    (alaw : PySem.W.nsIn K mainGlobals "law" = some (some (.ref flaw)))
    (llaw : K.lookup flaw = some ⟨oclaw, odlaw, .func (PySem.W.fnOf "law" "law" (defArgs s_law) (defBody s_law) (defScope s_law) .none kVlaw dclaw pmlaw anlaw cdlaw ctlaw), sllaw⟩)
    (claw : PySem.W.codeIn K cdlaw "law" = true)
    (klaw : PySem.W.keepIn K (.ref flaw) = true)
    (tg : PySem.W.specialIn K (.builtin "object.__class__") "__get__" = some (some (.builtin "getset_descriptor.__get__")))
    (tt : PySem.W.takesIn K (.builtin "object.__class__") = some true)
    (at_ : PySem.W.nsIn K mainGlobals "Task" = some (some (.ref CT)))
    (t_pg : PySem.W.plainGet K CT Str.empty = true)
    (t_hd : PySem.W.hasDictIn K CT = true)
    (t_po : PySem.W.plainOver K CT = true)
    (t_sa : PySem.W.findIn K (.ref CT) "__setattr__" = some (some (.builtin "object.__setattr__")))
    (t_mk : PySem.W.makesIn K CT = true)
    (t_kc : PySem.W.keepIn K (.ref CT) = true)
    (t_nN : PySem.W.findIn K (.ref CT) "name" = some none)
    (t_nC : PySem.W.findIn K (.ref CT) "cost" = some none)
    (t_nG : PySem.W.findIn K (.ref CT) "gap" = some none)
    (t_nD : PySem.W.findIn K (.ref CT) "due" = some none)
    (t_nH : PySem.W.findIn K (.ref CT) "holds" = some none)
    (t_tc : PySem.W.findIn K (.ref CT) "__class__" = some (some (.builtin "object.__class__")))
    (t_tm : PySem.W.mroIn K CT (.type "object") = some true)
    (t_kint : PySem.W.kitOne K (.ref CT) (.type "int") = some false)
    (t_kbool : PySem.W.kitOne K (.ref CT) (.type "bool") = some false)
    (t_kstr : PySem.W.kitOne K (.ref CT) (.type "str") = some false)
    (t_ktuple : PySem.W.kitOne K (.ref CT) (.type "tuple") = some false)
    (aTaskI : PySem.W.findIn K (.ref CT) "__init__" = some (some (.ref fTaskI)))
    (lTaskI : K.lookup fTaskI = some ⟨ocTaskI, odTaskI, .func (PySem.W.fnOf "__init__" "Task.__init__" (defArgs s_Task___init__) (defBody s_Task___init__) (defScope s_Task___init__) .none (.ref DI) dcTaskI pmTaskI anTaskI cdTaskI ctTaskI), slTaskI⟩)
    (cTaskI : PySem.W.codeIn K cdTaskI "Task.__init__" = true)
    (kTaskI : PySem.W.keepIn K (.ref fTaskI) = true)
    (iTaskI : PySem.W.isFn K (.ref fTaskI) = true)
    (q1 : PySem.W.nsIn K DI "due" = some (some .none))
    (q2 : PySem.W.nsIn K DI "holds" = some (some (.ref e0)))
    (q3 : K.lookup e0 = some ⟨.type "tuple", od0, .seq #[] n0, sl0⟩)
    (ad_ : PySem.W.nsIn K mainGlobals "Door" = some (some (.ref CD)))
    (d_pg : PySem.W.plainGet K CD Str.empty = true)
    (d_hd : PySem.W.hasDictIn K CD = true)
    (d_po : PySem.W.plainOver K CD = true)
    (d_sa : PySem.W.findIn K (.ref CD) "__setattr__" = some (some (.builtin "object.__setattr__")))
    (d_mk : PySem.W.makesIn K CD = true)
    (d_kc : PySem.W.keepIn K (.ref CD) = true)
    (d_nN : PySem.W.findIn K (.ref CD) "name" = some none)
    (d_nR : PySem.W.findIn K (.ref CD) "room" = some none)
    (d_nG : PySem.W.findIn K (.ref CD) "gap" = some none)
    (d_tc : PySem.W.findIn K (.ref CD) "__class__" = some (some (.builtin "object.__class__")))
    (d_tm : PySem.W.mroIn K CD (.type "object") = some true)
    (d_kint : PySem.W.kitOne K (.ref CD) (.type "int") = some false)
    (d_kbool : PySem.W.kitOne K (.ref CD) (.type "bool") = some false)
    (d_kstr : PySem.W.kitOne K (.ref CD) (.type "str") = some false)
    (d_ktuple : PySem.W.kitOne K (.ref CD) (.type "tuple") = some false)
    (aDoorI : PySem.W.findIn K (.ref CD) "__init__" = some (some (.ref fDoorI)))
    (lDoorI : K.lookup fDoorI = some ⟨ocDoorI, odDoorI, .func (PySem.W.fnOf "__init__" "Door.__init__" (defArgs s_Door___init__) (defBody s_Door___init__) (defScope s_Door___init__) .none kVDoorI dcDoorI pmDoorI anDoorI cdDoorI ctDoorI), slDoorI⟩)
    (cDoorI : PySem.W.codeIn K cdDoorI "Door.__init__" = true)
    (kDoorI : PySem.W.keepIn K (.ref fDoorI) = true)
    (iDoorI : PySem.W.isFn K (.ref fDoorI) = true)
    (ac_ : PySem.W.nsIn K mainGlobals "Crew" = some (some (.ref CC)))
    (c_pg : PySem.W.plainGet K CC Str.empty = true)
    (c_hd : PySem.W.hasDictIn K CC = true)
    (c_po : PySem.W.plainOver K CC = true)
    (c_sa : PySem.W.findIn K (.ref CC) "__setattr__" = some (some (.builtin "object.__setattr__")))
    (c_mk : PySem.W.makesIn K CC = true)
    (c_kc : PySem.W.keepIn K (.ref CC) = true)
    (c_nM : PySem.W.findIn K (.ref CC) "members" = some none)
    (c_tc : PySem.W.findIn K (.ref CC) "__class__" = some (some (.builtin "object.__class__")))
    (c_tm : PySem.W.mroIn K CC (.type "object") = some true)
    (c_kint : PySem.W.kitOne K (.ref CC) (.type "int") = some false)
    (c_kbool : PySem.W.kitOne K (.ref CC) (.type "bool") = some false)
    (c_kstr : PySem.W.kitOne K (.ref CC) (.type "str") = some false)
    (c_ktuple : PySem.W.kitOne K (.ref CC) (.type "tuple") = some false)
    (aCrewI : PySem.W.findIn K (.ref CC) "__init__" = some (some (.ref fCrewI)))
    (lCrewI : K.lookup fCrewI = some ⟨ocCrewI, odCrewI, .func (PySem.W.fnOf "__init__" "Crew.__init__" (defArgs s_Crew___init__) (defBody s_Crew___init__) (defScope s_Crew___init__) (.ref DT0) kVCrewI dcCrewI pmCrewI anCrewI cdCrewI ctCrewI), slCrewI⟩)
    (cCrewI : PySem.W.codeIn K cdCrewI "Crew.__init__" = true)
    (kCrewI : PySem.W.keepIn K (.ref fCrewI) = true)
    (iCrewI : PySem.W.isFn K (.ref fCrewI) = true)
    (q4 : K.lookup DT0 = some ⟨tcl1, od1, .seq #[.ref e1] n1, sl1⟩)
    (q5 : K.lookup e1 = some ⟨.type "tuple", od2, .seq #[] n2, sl2⟩)
    (t_BNoneType : PySem.W.kitOne K (.type "NoneType") (.ref CT) = some false)
    (t_Bbool : PySem.W.kitOne K (.type "bool") (.ref CT) = some false)
    (t_Bint : PySem.W.kitOne K (.type "int") (.ref CT) = some false)
    (t_Bstr : PySem.W.kitOne K (.type "str") (.ref CT) = some false)
    (t_Btuple : PySem.W.kitOne K (.type "tuple") (.ref CT) = some false)
    (t_Blist : PySem.W.kitOne K (.type "list") (.ref CT) = some false)
    (t_Bdict : PySem.W.kitOne K (.type "dict") (.ref CT) = some false)
    (oCTCD : PySem.W.kitOne K (.ref CT) (.ref CD) = some false)
    (oCTCC : PySem.W.kitOne K (.ref CT) (.ref CC) = some false)
    (d_BNoneType : PySem.W.kitOne K (.type "NoneType") (.ref CD) = some false)
    (d_Bbool : PySem.W.kitOne K (.type "bool") (.ref CD) = some false)
    (d_Bint : PySem.W.kitOne K (.type "int") (.ref CD) = some false)
    (d_Bstr : PySem.W.kitOne K (.type "str") (.ref CD) = some false)
    (d_Btuple : PySem.W.kitOne K (.type "tuple") (.ref CD) = some false)
    (d_Blist : PySem.W.kitOne K (.type "list") (.ref CD) = some false)
    (d_Bdict : PySem.W.kitOne K (.type "dict") (.ref CD) = some false)
    (oCDCT : PySem.W.kitOne K (.ref CD) (.ref CT) = some false)
    (oCDCC : PySem.W.kitOne K (.ref CD) (.ref CC) = some false)
    (c_BNoneType : PySem.W.kitOne K (.type "NoneType") (.ref CC) = some false)
    (c_Bbool : PySem.W.kitOne K (.type "bool") (.ref CC) = some false)
    (c_Bint : PySem.W.kitOne K (.type "int") (.ref CC) = some false)
    (c_Bstr : PySem.W.kitOne K (.type "str") (.ref CC) = some false)
    (c_Btuple : PySem.W.kitOne K (.type "tuple") (.ref CC) = some false)
    (c_Blist : PySem.W.kitOne K (.type "list") (.ref CC) = some false)
    (c_Bdict : PySem.W.kitOne K (.type "dict") (.ref CC) = some false)
    (oCCCT : PySem.W.kitOne K (.ref CC) (.ref CT) = some false)
    (oCCCD : PySem.W.kitOne K (.ref CC) (.ref CD) = some false)
    (aTask_eq : PySem.W.findIn K (.ref CT) "__eq__" = some (some (.ref fTask_eq)))
    (lTask_eq : K.lookup fTask_eq = some ⟨ocTask_eq, odTask_eq, .func (PySem.W.fnOf "__eq__" "Task.__eq__" (defArgs s_Task___eq__) (defBody s_Task___eq__) (defScope s_Task___eq__) .none kVTask_eq dcTask_eq pmTask_eq anTask_eq cdTask_eq ctTask_eq), slTask_eq⟩)
    (cTask_eq : PySem.W.codeIn K cdTask_eq "Task.__eq__" = true)
    (kTask_eq : PySem.W.keepIn K (.ref fTask_eq) = true)
    (iTask_eq : PySem.W.isFn K (.ref fTask_eq) = true)
    (aDoor_eq : PySem.W.findIn K (.ref CD) "__eq__" = some (some (.ref fDoor_eq)))
    (lDoor_eq : K.lookup fDoor_eq = some ⟨ocDoor_eq, odDoor_eq, .func (PySem.W.fnOf "__eq__" "Door.__eq__" (defArgs s_Door___eq__) (defBody s_Door___eq__) (defScope s_Door___eq__) .none kVDoor_eq dcDoor_eq pmDoor_eq anDoor_eq cdDoor_eq ctDoor_eq), slDoor_eq⟩)
    (cDoor_eq : PySem.W.codeIn K cdDoor_eq "Door.__eq__" = true)
    (kDoor_eq : PySem.W.keepIn K (.ref fDoor_eq) = true)
    (iDoor_eq : PySem.W.isFn K (.ref fDoor_eq) = true)
    (aCrew_eq : PySem.W.findIn K (.ref CC) "__eq__" = some (some (.ref fCrew_eq)))
    (lCrew_eq : K.lookup fCrew_eq = some ⟨ocCrew_eq, odCrew_eq, .func (PySem.W.fnOf "__eq__" "Crew.__eq__" (defArgs s_Crew___eq__) (defBody s_Crew___eq__) (defScope s_Crew___eq__) .none kVCrew_eq dcCrew_eq pmCrew_eq anCrew_eq cdCrew_eq ctCrew_eq), slCrew_eq⟩)
    (cCrew_eq : PySem.W.codeIn K cdCrew_eq "Crew.__eq__" = true)
    (kCrew_eq : PySem.W.keepIn K (.ref fCrew_eq) = true)
    (iCrew_eq : PySem.W.isFn K (.ref fCrew_eq) = true)
    (aTask_repr : PySem.W.findIn K (.ref CT) "__repr__" = some (some (.ref fTask_repr)))
    (lTask_repr : K.lookup fTask_repr = some ⟨ocTask_repr, odTask_repr, .func (PySem.W.fnOf "__repr__" "Task.__repr__" (defArgs s_Task___repr__) (defBody s_Task___repr__) (defScope s_Task___repr__) .none kVTask_repr dcTask_repr pmTask_repr anTask_repr cdTask_repr ctTask_repr), slTask_repr⟩)
    (cTask_repr : PySem.W.codeIn K cdTask_repr "Task.__repr__" = true)
    (kTask_repr : PySem.W.keepIn K (.ref fTask_repr) = true)
    (iTask_repr : PySem.W.isFn K (.ref fTask_repr) = true)
    (aDoor_repr : PySem.W.findIn K (.ref CD) "__repr__" = some (some (.ref fDoor_repr)))
    (lDoor_repr : K.lookup fDoor_repr = some ⟨ocDoor_repr, odDoor_repr, .func (PySem.W.fnOf "__repr__" "Door.__repr__" (defArgs s_Door___repr__) (defBody s_Door___repr__) (defScope s_Door___repr__) .none kVDoor_repr dcDoor_repr pmDoor_repr anDoor_repr cdDoor_repr ctDoor_repr), slDoor_repr⟩)
    (cDoor_repr : PySem.W.codeIn K cdDoor_repr "Door.__repr__" = true)
    (kDoor_repr : PySem.W.keepIn K (.ref fDoor_repr) = true)
    (iDoor_repr : PySem.W.isFn K (.ref fDoor_repr) = true)
    (aCrew_repr : PySem.W.findIn K (.ref CC) "__repr__" = some (some (.ref fCrew_repr)))
    (lCrew_repr : K.lookup fCrew_repr = some ⟨ocCrew_repr, odCrew_repr, .func (PySem.W.fnOf "__repr__" "Crew.__repr__" (defArgs s_Crew___repr__) (defBody s_Crew___repr__) (defScope s_Crew___repr__) .none kVCrew_repr dcCrew_repr pmCrew_repr anCrew_repr cdCrew_repr ctCrew_repr), slCrew_repr⟩)
    (cCrew_repr : PySem.W.codeIn K cdCrew_repr "Crew.__repr__" = true)
    (kCrew_repr : PySem.W.keepIn K (.ref fCrew_repr) = true)
    (iCrew_repr : PySem.W.isFn K (.ref fCrew_repr) = true)
    (aCrew_names : PySem.W.findIn K (.ref CC) "names" = some (some (.ref fCrew_names)))
    (lCrew_names : K.lookup fCrew_names = some ⟨ocCrew_names, odCrew_names, .func (PySem.W.fnOf "names" "Crew.names" (defArgs s_Crew_names) (defBody s_Crew_names) (defScope s_Crew_names) .none kVCrew_names dcCrew_names pmCrew_names anCrew_names cdCrew_names ctCrew_names), slCrew_names⟩)
    (cCrew_names : PySem.W.codeIn K cdCrew_names "Crew.names" = true)
    (kCrew_names : PySem.W.keepIn K (.ref fCrew_names) = true)
    (iCrew_names : PySem.W.isFn K (.ref fCrew_names) = true)
    (aCrew_named : PySem.W.findIn K (.ref CC) "named" = some (some (.ref fCrew_named)))
    (lCrew_named : K.lookup fCrew_named = some ⟨ocCrew_named, odCrew_named, .func (PySem.W.fnOf "named" "Crew.named" (defArgs s_Crew_named) (defBody s_Crew_named) (defScope s_Crew_named) .none kVCrew_named dcCrew_named pmCrew_named anCrew_named cdCrew_named ctCrew_named), slCrew_named⟩)
    (cCrew_named : PySem.W.codeIn K cdCrew_named "Crew.named" = true)
    (kCrew_named : PySem.W.keepIn K (.ref fCrew_named) = true)
    (iCrew_named : PySem.W.isFn K (.ref fCrew_named) = true)
    (aCrew_with_member : PySem.W.findIn K (.ref CC) "with_member" = some (some (.ref fCrew_with_member)))
    (lCrew_with_member : K.lookup fCrew_with_member = some ⟨ocCrew_with_member, odCrew_with_member, .func (PySem.W.fnOf "with_member" "Crew.with_member" (defArgs s_Crew_with_member) (defBody s_Crew_with_member) (defScope s_Crew_with_member) .none kVCrew_with_member dcCrew_with_member pmCrew_with_member anCrew_with_member cdCrew_with_member ctCrew_with_member), slCrew_with_member⟩)
    (cCrew_with_member : PySem.W.codeIn K cdCrew_with_member "Crew.with_member" = true)
    (kCrew_with_member : PySem.W.keepIn K (.ref fCrew_with_member) = true)
    (iCrew_with_member : PySem.W.isFn K (.ref fCrew_with_member) = true)
    (aCrew_without : PySem.W.findIn K (.ref CC) "without" = some (some (.ref fCrew_without)))
    (lCrew_without : K.lookup fCrew_without = some ⟨ocCrew_without, odCrew_without, .func (PySem.W.fnOf "without" "Crew.without" (defArgs s_Crew_without) (defBody s_Crew_without) (defScope s_Crew_without) .none kVCrew_without dcCrew_without pmCrew_without anCrew_without cdCrew_without ctCrew_without), slCrew_without⟩)
    (cCrew_without : PySem.W.codeIn K cdCrew_without "Crew.without" = true)
    (kCrew_without : PySem.W.keepIn K (.ref fCrew_without) = true)
    (iCrew_without : PySem.W.isFn K (.ref fCrew_without) = true)
    (t_sn : PySem.W.findIn K (.ref CT) "__ne__" = some (some (.builtin "object.__ne__")))
    (t_so : PySem.W.subIn K (.ref CT) (.type "object") = some true)
    (t_sNoneType : PySem.W.subIn K (.ref CT) (.type "NoneType") = some false)
    (t_sbool : PySem.W.subIn K (.ref CT) (.type "bool") = some false)
    (t_sint : PySem.W.subIn K (.ref CT) (.type "int") = some false)
    (t_sstr : PySem.W.subIn K (.ref CT) (.type "str") = some false)
    (t_stuple : PySem.W.subIn K (.ref CT) (.type "tuple") = some false)
    (t_slist : PySem.W.subIn K (.ref CT) (.type "list") = some false)
    (t_sdict : PySem.W.subIn K (.ref CT) (.type "dict") = some false)
    (d_sn : PySem.W.findIn K (.ref CD) "__ne__" = some (some (.builtin "object.__ne__")))
    (d_so : PySem.W.subIn K (.ref CD) (.type "object") = some true)
    (d_sNoneType : PySem.W.subIn K (.ref CD) (.type "NoneType") = some false)
    (d_sbool : PySem.W.subIn K (.ref CD) (.type "bool") = some false)
    (d_sint : PySem.W.subIn K (.ref CD) (.type "int") = some false)
    (d_sstr : PySem.W.subIn K (.ref CD) (.type "str") = some false)
    (d_stuple : PySem.W.subIn K (.ref CD) (.type "tuple") = some false)
    (d_slist : PySem.W.subIn K (.ref CD) (.type "list") = some false)
    (d_sdict : PySem.W.subIn K (.ref CD) (.type "dict") = some false)
    (c_sn : PySem.W.findIn K (.ref CC) "__ne__" = some (some (.builtin "object.__ne__")))
    (c_so : PySem.W.subIn K (.ref CC) (.type "object") = some true)
    (c_sNoneType : PySem.W.subIn K (.ref CC) (.type "NoneType") = some false)
    (c_sbool : PySem.W.subIn K (.ref CC) (.type "bool") = some false)
    (c_sint : PySem.W.subIn K (.ref CC) (.type "int") = some false)
    (c_sstr : PySem.W.subIn K (.ref CC) (.type "str") = some false)
    (c_stuple : PySem.W.subIn K (.ref CC) (.type "tuple") = some false)
    (c_slist : PySem.W.subIn K (.ref CC) (.type "list") = some false)
    (c_sdict : PySem.W.subIn K (.ref CC) (.type "dict") = some false)
    (uCTCD : PySem.W.subIn K (.ref CD) (.ref CT) = some false)
    (uCTCC : PySem.W.subIn K (.ref CC) (.ref CT) = some false)
    (uCDCT : PySem.W.subIn K (.ref CT) (.ref CD) = some false)
    (uCDCC : PySem.W.subIn K (.ref CC) (.ref CD) = some false)
    (uCCCT : PySem.W.subIn K (.ref CT) (.ref CC) = some false)
    (uCCCD : PySem.W.subIn K (.ref CD) (.ref CC) = some false)
    (v1 : PySem.W.nsIn K mainGlobals "LETTERS" = some (some (.str "abcdefghijklmnopqrstuvwxyz" w1)))
    (v2 : PySem.W.nsIn K mainGlobals "MOST_LETTERS" = some (some (.int 8 w2)))
    (v3 : PySem.W.nsIn K mainGlobals "MOST_COST" = some (some (.int 99 w3)))
    (v4 : PySem.W.nsIn K mainGlobals "MOST_GAP" = some (some (.int 600 w4)))
    (v5 : PySem.W.nsIn K mainGlobals "MOST_HOLDS" = some (some (.int 4 w5)))
    (v6 : PySem.W.nsIn K mainGlobals "MOST_MEMBERS" = some (some (.int 8 w6)))
    (e_CNoTask : PySem.W.nsIn K mainGlobals "NoTask" = some (some (.ref CNoTask)))
    (xNoTask_iC : PySem.W.findIn K (.ref CNoTask) "__init__" = some (some (.ref fxNoTask_)))
    (xNoTask_cl : K.lookup CNoTask = some (PySem.excClassObj xNoTask_nm xNoTask_q CNoTask xNoTask_N xNoTask_bs xNoTask_bm true xNoTask_sn xNoTask_sub xNoTask_ab xNoTask_col xNoTask_dd xNoTask_k0 xNoTask_k1 xNoTask_k2 xNoTask_k3 xNoTask_k5 "ValueError.__new__"))
    (xNoTask_ve : PySem.W.excTail veM xNoTask_bm = true)
    (xNoTask_sa : PySem.W.findIn K (.ref CNoTask) "__setattr__" = some (some (.builtin "object.__setattr__")))
    (xNoTask_ga : PySem.W.findIn K (.ref CNoTask) "__getattribute__" = some (some (.builtin "BaseException.__getattribute__")))
    (xNoTask_gg : PySem.W.findIn K (.ref CNoTask) "__getattr__" = some none)
    (xNoTask_no : PySem.W.findIn K (.ref CNoTask) "part" = some none)
    (xNoTask_tC : PySem.W.typeIn K (.ref fxNoTask_) = some (.type "function"))
    (xNoTask_kC : PySem.W.keepIn K (.ref CNoTask) = true)
    (xNoTask_ex : PySem.W.subIn K (.ref CNoTask) (.type "BaseException") = some true)
    (xNoTask_vs : PySem.W.subIn K (.ref CNoTask) (.type "ValueError") = some true)
    (xNoTask_ty : PySem.W.typeIn K (.ref CNoTask) = some (.type "type"))
    (xNoTask_hd : PySem.W.hasDictIn K CNoTask = true)
    (xNoTask_mr : PySem.W.mroIn K CNoTask (.ref CNoTask) = some true)
    (xNoTask_su : PySem.W.ks_superIn K CNoTask CNoTask "__init__" = some (some (.builtin "ValueError.__init__")))
    (xNoTask_an : PySem.W.nsIn K cStatics "thirdparty.any" = some none)
    (xNoTask_tp : (l.prog.main.scope.names.lookup ("super" : Str)).isSome = false)
    (xNoTask_fn : K.lookup fxNoTask_ = some ⟨xNoTask_oc, xNoTask_od, .func (PySem.W.ksFn "__init__" "NoTask.__init__" (defArgs sENoTask) (defBody sENoTask) (defScope sENoTask) .none .none xNoTask_doc xNoTask_pm xNoTask_an_ (.ref xNoTask_cda) xNoTask_ct xNoTask_cc), xNoTask_osl⟩)
    (xNoTask_co : PySem.W.codeIn K (.ref xNoTask_cda) "NoTask.__init__" = true)
    (xNoTask_cd : K.lookup xNoTask_cda = some ⟨xNoTask_ccl, xNoTask_cdd, .fields xNoTask_vs_, xNoTask_ccs⟩)
    (xNoTask_v2 : xNoTask_vs_[2]? = some (.str xNoTask_file xNoTask_tf))
    (xNoTask_fi : ((l.prog.main.file : Str) == xNoTask_file) = true)
    (xNoTask_ce : K.lookup xNoTask_cc = some ⟨xNoTask_cl2, xNoTask_cld, .cell (some (.ref CNoTask)), xNoTask_csl⟩)
    (xNoTask_tc : PySem.W.findIn K (.ref CNoTask) "__class__" = some (some (.builtin "object.__class__")))
    (xNoTask_tm : PySem.W.mroIn K CNoTask (.type "object") = some true)
    (e_CNoDoor : PySem.W.nsIn K mainGlobals "NoDoor" = some (some (.ref CNoDoor)))
    (xNoDoor_iC : PySem.W.findIn K (.ref CNoDoor) "__init__" = some (some (.ref fxNoDoor_)))
    (xNoDoor_cl : K.lookup CNoDoor = some (PySem.excClassObj xNoDoor_nm xNoDoor_q CNoDoor xNoDoor_N xNoDoor_bs xNoDoor_bm true xNoDoor_sn xNoDoor_sub xNoDoor_ab xNoDoor_col xNoDoor_dd xNoDoor_k0 xNoDoor_k1 xNoDoor_k2 xNoDoor_k3 xNoDoor_k5 "ValueError.__new__"))
    (xNoDoor_ve : PySem.W.excTail veM xNoDoor_bm = true)
    (xNoDoor_sa : PySem.W.findIn K (.ref CNoDoor) "__setattr__" = some (some (.builtin "object.__setattr__")))
    (xNoDoor_ga : PySem.W.findIn K (.ref CNoDoor) "__getattribute__" = some (some (.builtin "BaseException.__getattribute__")))
    (xNoDoor_gg : PySem.W.findIn K (.ref CNoDoor) "__getattr__" = some none)
    (xNoDoor_no : PySem.W.findIn K (.ref CNoDoor) "part" = some none)
    (xNoDoor_tC : PySem.W.typeIn K (.ref fxNoDoor_) = some (.type "function"))
    (xNoDoor_kC : PySem.W.keepIn K (.ref CNoDoor) = true)
    (xNoDoor_ex : PySem.W.subIn K (.ref CNoDoor) (.type "BaseException") = some true)
    (xNoDoor_vs : PySem.W.subIn K (.ref CNoDoor) (.type "ValueError") = some true)
    (xNoDoor_ty : PySem.W.typeIn K (.ref CNoDoor) = some (.type "type"))
    (xNoDoor_hd : PySem.W.hasDictIn K CNoDoor = true)
    (xNoDoor_mr : PySem.W.mroIn K CNoDoor (.ref CNoDoor) = some true)
    (xNoDoor_su : PySem.W.ks_superIn K CNoDoor CNoDoor "__init__" = some (some (.builtin "ValueError.__init__")))
    (xNoDoor_an : PySem.W.nsIn K cStatics "thirdparty.any" = some none)
    (xNoDoor_tp : (l.prog.main.scope.names.lookup ("super" : Str)).isSome = false)
    (xNoDoor_fn : K.lookup fxNoDoor_ = some ⟨xNoDoor_oc, xNoDoor_od, .func (PySem.W.ksFn "__init__" "NoDoor.__init__" (defArgs sENoDoor) (defBody sENoDoor) (defScope sENoDoor) .none .none xNoDoor_doc xNoDoor_pm xNoDoor_an_ (.ref xNoDoor_cda) xNoDoor_ct xNoDoor_cc), xNoDoor_osl⟩)
    (xNoDoor_co : PySem.W.codeIn K (.ref xNoDoor_cda) "NoDoor.__init__" = true)
    (xNoDoor_cd : K.lookup xNoDoor_cda = some ⟨xNoDoor_ccl, xNoDoor_cdd, .fields xNoDoor_vs_, xNoDoor_ccs⟩)
    (xNoDoor_v2 : xNoDoor_vs_[2]? = some (.str xNoDoor_file xNoDoor_tf))
    (xNoDoor_fi : ((l.prog.main.file : Str) == xNoDoor_file) = true)
    (xNoDoor_ce : K.lookup xNoDoor_cc = some ⟨xNoDoor_cl2, xNoDoor_cld, .cell (some (.ref CNoDoor)), xNoDoor_csl⟩)
    (xNoDoor_tc : PySem.W.findIn K (.ref CNoDoor) "__class__" = some (some (.builtin "object.__class__")))
    (xNoDoor_tm : PySem.W.mroIn K CNoDoor (.type "object") = some true)
    (e_CNoCrew : PySem.W.nsIn K mainGlobals "NoCrew" = some (some (.ref CNoCrew)))
    (xNoCrew_iC : PySem.W.findIn K (.ref CNoCrew) "__init__" = some (some (.ref fxNoCrew_)))
    (xNoCrew_cl : K.lookup CNoCrew = some (PySem.excClassObj xNoCrew_nm xNoCrew_q CNoCrew xNoCrew_N xNoCrew_bs xNoCrew_bm true xNoCrew_sn xNoCrew_sub xNoCrew_ab xNoCrew_col xNoCrew_dd xNoCrew_k0 xNoCrew_k1 xNoCrew_k2 xNoCrew_k3 xNoCrew_k5 "ValueError.__new__"))
    (xNoCrew_ve : PySem.W.excTail veM xNoCrew_bm = true)
    (xNoCrew_sa : PySem.W.findIn K (.ref CNoCrew) "__setattr__" = some (some (.builtin "object.__setattr__")))
    (xNoCrew_ga : PySem.W.findIn K (.ref CNoCrew) "__getattribute__" = some (some (.builtin "BaseException.__getattribute__")))
    (xNoCrew_gg : PySem.W.findIn K (.ref CNoCrew) "__getattr__" = some none)
    (xNoCrew_no : PySem.W.findIn K (.ref CNoCrew) "name" = some none)
    (xNoCrew_tC : PySem.W.typeIn K (.ref fxNoCrew_) = some (.type "function"))
    (xNoCrew_kC : PySem.W.keepIn K (.ref CNoCrew) = true)
    (xNoCrew_ex : PySem.W.subIn K (.ref CNoCrew) (.type "BaseException") = some true)
    (xNoCrew_vs : PySem.W.subIn K (.ref CNoCrew) (.type "ValueError") = some true)
    (xNoCrew_ty : PySem.W.typeIn K (.ref CNoCrew) = some (.type "type"))
    (xNoCrew_hd : PySem.W.hasDictIn K CNoCrew = true)
    (xNoCrew_mr : PySem.W.mroIn K CNoCrew (.ref CNoCrew) = some true)
    (xNoCrew_su : PySem.W.ks_superIn K CNoCrew CNoCrew "__init__" = some (some (.builtin "ValueError.__init__")))
    (xNoCrew_an : PySem.W.nsIn K cStatics "thirdparty.any" = some none)
    (xNoCrew_tp : (l.prog.main.scope.names.lookup ("super" : Str)).isSome = false)
    (xNoCrew_fn : K.lookup fxNoCrew_ = some ⟨xNoCrew_oc, xNoCrew_od, .func (PySem.W.ksFn "__init__" "NoCrew.__init__" (defArgs sENoCrew) (defBody sENoCrew) (defScope sENoCrew) .none .none xNoCrew_doc xNoCrew_pm xNoCrew_an_ (.ref xNoCrew_cda) xNoCrew_ct xNoCrew_cc), xNoCrew_osl⟩)
    (xNoCrew_co : PySem.W.codeIn K (.ref xNoCrew_cda) "NoCrew.__init__" = true)
    (xNoCrew_cd : K.lookup xNoCrew_cda = some ⟨xNoCrew_ccl, xNoCrew_cdd, .fields xNoCrew_vs_, xNoCrew_ccs⟩)
    (xNoCrew_v2 : xNoCrew_vs_[2]? = some (.str xNoCrew_file xNoCrew_tf))
    (xNoCrew_fi : ((l.prog.main.file : Str) == xNoCrew_file) = true)
    (xNoCrew_ce : K.lookup xNoCrew_cc = some ⟨xNoCrew_cl2, xNoCrew_cld, .cell (some (.ref CNoCrew)), xNoCrew_csl⟩)
    (xNoCrew_tc : PySem.W.findIn K (.ref CNoCrew) "__class__" = some (some (.builtin "object.__class__")))
    (xNoCrew_tm : PySem.W.mroIn K CNoCrew (.type "object") = some true)
    (e_CNoName : PySem.W.nsIn K mainGlobals "NoName" = some (some (.ref CNoName)))
    (xNoName_iC : PySem.W.findIn K (.ref CNoName) "__init__" = some (some (.ref fxNoName_)))
    (xNoName_cl : K.lookup CNoName = some (PySem.excClassObj xNoName_nm xNoName_q CNoName xNoName_N xNoName_bs xNoName_bm true xNoName_sn xNoName_sub xNoName_ab xNoName_col xNoName_dd xNoName_k0 xNoName_k1 xNoName_k2 xNoName_k3 xNoName_k5 "LookupError.__new__"))
    (xNoName_ve : PySem.W.excTail leM xNoName_bm = true)
    (xNoName_sa : PySem.W.findIn K (.ref CNoName) "__setattr__" = some (some (.builtin "object.__setattr__")))
    (xNoName_ga : PySem.W.findIn K (.ref CNoName) "__getattribute__" = some (some (.builtin "BaseException.__getattribute__")))
    (xNoName_gg : PySem.W.findIn K (.ref CNoName) "__getattr__" = some none)
    (xNoName_no : PySem.W.findIn K (.ref CNoName) "name" = some none)
    (xNoName_tC : PySem.W.typeIn K (.ref fxNoName_) = some (.type "function"))
    (xNoName_kC : PySem.W.keepIn K (.ref CNoName) = true)
    (xNoName_ex : PySem.W.subIn K (.ref CNoName) (.type "BaseException") = some true)
    (xNoName_vs : PySem.W.subIn K (.ref CNoName) (.type "LookupError") = some true)
    (xNoName_ty : PySem.W.typeIn K (.ref CNoName) = some (.type "type"))
    (xNoName_hd : PySem.W.hasDictIn K CNoName = true)
    (xNoName_mr : PySem.W.mroIn K CNoName (.ref CNoName) = some true)
    (xNoName_su : PySem.W.ks_superIn K CNoName CNoName "__init__" = some (some (.builtin "LookupError.__init__")))
    (xNoName_an : PySem.W.nsIn K cStatics "thirdparty.any" = some none)
    (xNoName_tp : (l.prog.main.scope.names.lookup ("super" : Str)).isSome = false)
    (xNoName_fn : K.lookup fxNoName_ = some ⟨xNoName_oc, xNoName_od, .func (PySem.W.ksFn "__init__" "NoName.__init__" (defArgs sENoName) (defBody sENoName) (defScope sENoName) .none .none xNoName_doc xNoName_pm xNoName_an_ (.ref xNoName_cda) xNoName_ct xNoName_cc), xNoName_osl⟩)
    (xNoName_co : PySem.W.codeIn K (.ref xNoName_cda) "NoName.__init__" = true)
    (xNoName_cd : K.lookup xNoName_cda = some ⟨xNoName_ccl, xNoName_cdd, .fields xNoName_vs_, xNoName_ccs⟩)
    (xNoName_v2 : xNoName_vs_[2]? = some (.str xNoName_file xNoName_tf))
    (xNoName_fi : ((l.prog.main.file : Str) == xNoName_file) = true)
    (xNoName_ce : K.lookup xNoName_cc = some ⟨xNoName_cl2, xNoName_cld, .cell (some (.ref CNoName)), xNoName_csl⟩)
    (xNoName_tc : PySem.W.findIn K (.ref CNoName) "__class__" = some (some (.builtin "object.__class__")))
    (xNoName_tm : PySem.W.mroIn K CNoName (.type "object") = some true)
    (e_CTimeError : PySem.W.nsIn K mainGlobals "TimeError" = some (some (.ref CTimeError)))
    (e_CLostError : PySem.W.nsIn K mainGlobals "LostError" = some (some (.ref CLostError)))
    (e_CFullError : PySem.W.nsIn K mainGlobals "FullError" = some (some (.ref CFullError)))
    (e_CNoTool : PySem.W.nsIn K mainGlobals "NoTool" = some (some (.ref CNoTool)))
    (sNoCrewNoTask : PySem.W.kitOne K (.ref CNoCrew) (.ref CNoTask) = some false)
    (sNoCrewNoDoor : PySem.W.kitOne K (.ref CNoCrew) (.ref CNoDoor) = some false)
    (sNoCrewNoTool : PySem.W.kitOne K (.ref CNoCrew) (.ref CNoTool) = some false)
    (sNoCrewFullError : PySem.W.kitOne K (.ref CNoCrew) (.ref CFullError) = some false)
    (sNoCrewValueError : PySem.W.kitOne K (.ref CNoCrew) (.type "ValueError") = some true)
    (sNoCrewLookupError : PySem.W.kitOne K (.ref CNoCrew) (.type "LookupError") = some false)
    (sNoNameNoTask : PySem.W.kitOne K (.ref CNoName) (.ref CNoTask) = some false)
    (sNoNameNoDoor : PySem.W.kitOne K (.ref CNoName) (.ref CNoDoor) = some false)
    (sNoNameNoTool : PySem.W.kitOne K (.ref CNoName) (.ref CNoTool) = some false)
    (sNoNameFullError : PySem.W.kitOne K (.ref CNoName) (.ref CFullError) = some false)
    (sNoNameValueError : PySem.W.kitOne K (.ref CNoName) (.type "ValueError") = some false)
    (sNoNameLookupError : PySem.W.kitOne K (.ref CNoName) (.type "LookupError") = some true)
    (sNoNameNoCrew : PySem.W.kitOne K (.ref CNoName) (.ref CNoCrew) = some false)
    (z_len : PySem.W.nsIn K mainGlobals "len" = some none)
    (z_range : PySem.W.nsIn K mainGlobals "range" = some none)
    (z_min : PySem.W.nsIn K mainGlobals "min" = some none)
    (z_max : PySem.W.nsIn K mainGlobals "max" = some none)
    (z_abs : PySem.W.nsIn K mainGlobals "abs" = some none)
    (z_int : PySem.W.nsIn K mainGlobals "int" = some none)
    (z_bool : PySem.W.nsIn K mainGlobals "bool" = some none)
    (z_str : PySem.W.nsIn K mainGlobals "str" = some none)
    (z_tuple : PySem.W.nsIn K mainGlobals "tuple" = some none)
    (z_list : PySem.W.nsIn K mainGlobals "list" = some none)
    (z_isinstance : PySem.W.nsIn K mainGlobals "isinstance" = some none)
    (z_all : PySem.W.nsIn K mainGlobals "all" = some none)
    (z_any : PySem.W.nsIn K mainGlobals "any" = some none)
    (z_sum : PySem.W.nsIn K mainGlobals "sum" = some none)
    (z_zip : PySem.W.nsIn K mainGlobals "zip" = some none)
    (z_repr : PySem.W.nsIn K mainGlobals "repr" = some none)
    (z_sorted : PySem.W.nsIn K mainGlobals "sorted" = some none)
    (z_enumerate : PySem.W.nsIn K mainGlobals "enumerate" = some none)
    (z_ValueError : PySem.W.nsIn K mainGlobals "ValueError" = some none)
    (z_super : PySem.W.nsIn K mainGlobals "super" = some none)
    (z_LookupError : PySem.W.nsIn K mainGlobals "LookupError" = some none)
    (z_set : PySem.W.nsIn K mainGlobals "set" = some none)
    (b_CTimeError : PySem.W.subIn K (.ref CTimeError) (.type "BaseException") = some true)
    (h_CTimeError : PySem.W.hasDictIn K CTimeError = true)
    (y_CTimeError : PySem.W.typeIn K (.ref CTimeError) = some (.type "type"))
    (u_CNoCrew_CTimeError : PySem.W.subIn K (.ref CNoCrew) (.ref CTimeError) = some true)
    (b_CLostError : PySem.W.subIn K (.ref CLostError) (.type "BaseException") = some true)
    (h_CLostError : PySem.W.hasDictIn K CLostError = true)
    (y_CLostError : PySem.W.typeIn K (.ref CLostError) = some (.type "type"))
    (u_CNoCrew_CLostError : PySem.W.subIn K (.ref CNoCrew) (.ref CLostError) = some false)
    (b_CFullError : PySem.W.subIn K (.ref CFullError) (.type "BaseException") = some true)
    (h_CFullError : PySem.W.hasDictIn K CFullError = true)
    (y_CFullError : PySem.W.typeIn K (.ref CFullError) = some (.type "type"))
    (u_CNoCrew_CFullError : PySem.W.subIn K (.ref CNoCrew) (.ref CFullError) = some false)
    (u_CNoName_CTimeError : PySem.W.subIn K (.ref CNoName) (.ref CTimeError) = some false)
    (u_CNoName_CLostError : PySem.W.subIn K (.ref CNoName) (.ref CLostError) = some true)
    (u_CNoName_CFullError : PySem.W.subIn K (.ref CNoName) (.ref CFullError) = some false)
    : ∃ fd : FuncData, (∀ (s : Shared) (v : Value), BindsTo s fd ⟨[v], []⟩ [("_law_script", v)]) ∧ ∀ base : Heap, K.In base → base.Ns mainGlobals mg → LawOk l.prog w K mg base fa fd "_law_script" (spLaw K) := by
  have e := hfa.symm.trans (PySem.W.mg_of X G alaw)
  cases e
  have m_len := PySem.W.mg_none_of X G z_len
  have m_range := PySem.W.mg_none_of X G z_range
  have m_min := PySem.W.mg_none_of X G z_min
  have m_max := PySem.W.mg_none_of X G z_max
  have m_abs := PySem.W.mg_none_of X G z_abs
  have m_int := PySem.W.mg_none_of X G z_int
  have m_bool := PySem.W.mg_none_of X G z_bool
  have m_str := PySem.W.mg_none_of X G z_str
  have m_tuple := PySem.W.mg_none_of X G z_tuple
  have m_list := PySem.W.mg_none_of X G z_list
  have m_isinstance := PySem.W.mg_none_of X G z_isinstance
  have m_all := PySem.W.mg_none_of X G z_all
  have m_any := PySem.W.mg_none_of X G z_any
  have m_sum := PySem.W.mg_none_of X G z_sum
  have m_zip := PySem.W.mg_none_of X G z_zip
  have m_repr := PySem.W.mg_none_of X G z_repr
  have m_sorted := PySem.W.mg_none_of X G z_sorted
  have m_enumerate := PySem.W.mg_none_of X G z_enumerate
  have m_ValueError := PySem.W.mg_none_of X G z_ValueError
  have m_super := PySem.W.mg_none_of X G z_super
  have m_LookupError := PySem.W.mg_none_of X G z_LookupError
  have m_set := PySem.W.mg_none_of X G z_set
  have B : Blt mg := ⟨m_len, m_range, m_min, m_max, m_abs, m_int, m_bool, m_str, m_tuple, m_list, m_isinstance, m_all, m_any, m_sum, m_zip, m_repr, m_sorted, m_enumerate, m_ValueError⟩
  have Fis_number := fun_mk (st := s_is_number) lis_number cis_number kis_number
  have bis_number := Fis_number.binds (ps := ["thing"]) fun _ _ _ _ _ _ us hl => match us, hl with | [_], _ => rfl
  have Fis_whole := fun_mk (st := s_is_whole) lis_whole cis_whole kis_whole
  have bis_whole := Fis_whole.binds (ps := ["thing", "least", "most"]) fun _ _ _ _ _ _ us hl => match us, hl with | [_, _, _], _ => rfl
  have Fis_name := fun_mk (st := s_is_name) lis_name cis_name kis_name
  have bis_name := Fis_name.binds (ps := ["thing"]) fun _ _ _ _ _ _ us hl => match us, hl with | [_], _ => rfl
  have Fis_hold := fun_mk (st := s_is_hold) lis_hold cis_hold kis_hold
  have bis_hold := Fis_hold.binds (ps := ["thing", "cost"]) fun _ _ _ _ _ _ us hl => match us, hl with | [_, _], _ => rfl
  have Fgoes_ahead := fun_mk (st := s_goes_ahead) lgoes_ahead cgoes_ahead kgoes_ahead
  have bgoes_ahead := Fgoes_ahead.binds (ps := ["hold", "other"]) fun _ _ _ _ _ _ us hl => match us, hl with | [_, _], _ => rfl
  have Fare_holds := fun_mk (st := s_are_holds) lare_holds care_holds kare_holds
  have bare_holds := Fare_holds.binds (ps := ["thing", "cost"]) fun _ _ _ _ _ _ us hl => match us, hl with | [_, _], _ => rfl
  have Fwrong_in_task := fun_mk (st := s_wrong_in_task) lwrong_in_task cwrong_in_task kwrong_in_task
  have bwrong_in_task := Fwrong_in_task.binds (ps := ["name", "cost", "gap", "due", "holds"]) fun _ _ _ _ _ _ us hl => match us, hl with | [_, _, _, _, _], _ => rfl
  have Fwrong_in_door := fun_mk (st := s_wrong_in_door) lwrong_in_door cwrong_in_door kwrong_in_door
  have bwrong_in_door := Fwrong_in_door.binds (ps := ["name", "room", "gap"]) fun _ _ _ _ _ _ us hl => match us, hl with | [_, _, _], _ => rfl
  have Fis_member := fun_mk (st := s_is_member) lis_member cis_member kis_member
  have bis_member := Fis_member.binds (ps := ["thing"]) fun _ _ _ _ _ _ us hl => match us, hl with | [_], _ => rfl
  have Fare_members := fun_mk (st := s_are_members) lare_members care_members kare_members
  have bare_members := Fare_members.binds (ps := ["thing"]) fun _ _ _ _ _ _ us hl => match us, hl with | [_], _ => rfl
  have Fname_twice := fun_mk (st := s_name_twice) lname_twice cname_twice kname_twice
  have bname_twice := Fname_twice.binds (ps := ["members"]) fun _ _ _ _ _ _ us hl => match us, hl with | [_], _ => rfl
  have F_law_cell := fun_mk (st := s__law_cell) l_law_cell c_law_cell k_law_cell
  have b_law_cell := F_law_cell.binds (ps := ["_law_script", "_law_k"]) fun _ _ _ _ _ _ us hl => match us, hl with | [_, _], _ => rfl
  have F_law_purse := fun_mk (st := s__law_purse) l_law_purse c_law_purse k_law_purse
  have b_law_purse := F_law_purse.binds (ps := ["_law_cell_here"]) fun _ _ _ _ _ _ us hl => match us, hl with | [_], _ => rfl
  have F_law_take := fun_mk (st := s__law_take) l_law_take c_law_take k_law_take
  have b_law_take := F_law_take.binds (ps := ["_law_purse_here", "_law_many"]) fun _ _ _ _ _ _ us hl => match us, hl with | [_, _], _ => rfl
  have F_law_words := fun_mk (st := s__law_words) l_law_words c_law_words k_law_words
  have b_law_words := F_law_words.binds (ps := ["_law_purse_here", "_law_many"]) fun _ _ _ _ _ _ us hl => match us, hl with | [_, _], _ => rfl
  have F_law_holds := fun_mk (st := s__law_holds) l_law_holds c_law_holds k_law_holds
  have b_law_holds := F_law_holds.binds (ps := ["_law_purse_here", "_law_cost", "_law_tools"]) fun _ _ _ _ _ _ us hl => match us, hl with | [_, _, _], _ => rfl
  have F_law_task := fun_mk (st := s__law_task) l_law_task c_law_task k_law_task
  have b_law_task := F_law_task.binds (ps := ["_law_purse_here", "_law_label", "_law_many", "_law_tools"]) fun _ _ _ _ _ _ us hl => match us, hl with | [_, _, _, _], _ => rfl
  have F_law_door := fun_mk (st := s__law_door) l_law_door c_law_door k_law_door
  have b_law_door := F_law_door.binds (ps := ["_law_purse_here", "_law_label", "_law_many"]) fun _ _ _ _ _ _ us hl => match us, hl with | [_, _, _], _ => rfl
  have F_law_member := fun_mk (st := s__law_member) l_law_member c_law_member k_law_member
  have b_law_member := F_law_member.binds (ps := ["_law_row"]) fun _ _ _ _ _ _ us hl => match us, hl with | [_], _ => rfl
  have F_law_crew := fun_mk (st := s__law_crew) l_law_crew c_law_crew k_law_crew
  have b_law_crew := F_law_crew.binds (ps := ["_law_rows"]) fun _ _ _ _ _ _ us hl => match us, hl with | [_], _ => rfl
  have F_law_drawn_row := fun_mk (st := s__law_drawn_row) l_law_drawn_row c_law_drawn_row k_law_drawn_row
  have b_law_drawn_row := F_law_drawn_row.binds (ps := ["_law_purse_here", "_law_label"]) fun _ _ _ _ _ _ us hl => match us, hl with | [_, _], _ => rfl
  have F_law_sort := fun_mk (st := s__law_sort) l_law_sort c_law_sort k_law_sort
  have b_law_sort := F_law_sort.binds (ps := ["_law_e"]) fun _ _ _ _ _ _ us hl => match us, hl with | [_], _ => rfl
  have F_law_told := fun_mk (st := s__law_told) l_law_told c_law_told k_law_told
  have b_law_told := F_law_told.binds (ps := ["_law_crew_here", "_law_word", "_law_thing", "_law_by_name"]) fun _ _ _ _ _ _ us hl => match us, hl with | [_, _, _, _], _ => rfl
  have F_law_put := fun_mk (st := s__law_put) l_law_put c_law_put k_law_put
  have b_law_put := F_law_put.binds (ps := ["_law_rows", "_law_row"]) fun _ _ _ _ _ _ us hl => match us, hl with | [_, _], _ => rfl
  have F_law_refused_right := fun_mk (st := s__law_refused_right) l_law_refused_right c_law_refused_right k_law_refused_right
  have b_law_refused_right := F_law_refused_right.binds (ps := ["_law_purse_here", "_law_crew_here", "_law_rows"]) fun _ _ _ _ _ _ us hl => match us, hl with | [_, _, _], _ => rfl
  have F_law_next := fun_mk (st := s__law_next) l_law_next c_law_next k_law_next
  have b_law_next := F_law_next.binds (ps := ["_law_purse_here", "_law_crew_here", "_law_rows", "_law_names"]) fun _ _ _ _ _ _ us hl => match us, hl with | [_, _, _, _], _ => rfl
  have Flaw := fun_mk (st := s_law) llaw claw klaw
  have FTask_eq := fun_mk (st := s_Task___eq__) lTask_eq cTask_eq kTask_eq
  have bTask_eq := FTask_eq.binds (ps := ["self", "other"]) fun _ _ _ _ _ _ us hl => match us, hl with | [_, _], _ => rfl
  have FDoor_eq := fun_mk (st := s_Door___eq__) lDoor_eq cDoor_eq kDoor_eq
  have bDoor_eq := FDoor_eq.binds (ps := ["self", "other"]) fun _ _ _ _ _ _ us hl => match us, hl with | [_, _], _ => rfl
  have FCrew_eq := fun_mk (st := s_Crew___eq__) lCrew_eq cCrew_eq kCrew_eq
  have bCrew_eq := FCrew_eq.binds (ps := ["self", "other"]) fun _ _ _ _ _ _ us hl => match us, hl with | [_, _], _ => rfl
  have FTask_repr := fun_mk (st := s_Task___repr__) lTask_repr cTask_repr kTask_repr
  have bTask_repr := FTask_repr.binds (ps := ["self"]) fun _ _ _ _ _ _ us hl => match us, hl with | [_], _ => rfl
  have FDoor_repr := fun_mk (st := s_Door___repr__) lDoor_repr cDoor_repr kDoor_repr
  have bDoor_repr := FDoor_repr.binds (ps := ["self"]) fun _ _ _ _ _ _ us hl => match us, hl with | [_], _ => rfl
  have FCrew_repr := fun_mk (st := s_Crew___repr__) lCrew_repr cCrew_repr kCrew_repr
  have bCrew_repr := FCrew_repr.binds (ps := ["self"]) fun _ _ _ _ _ _ us hl => match us, hl with | [_], _ => rfl
  have FCrew_names := fun_mk (st := s_Crew_names) lCrew_names cCrew_names kCrew_names
  have bCrew_names := FCrew_names.binds (ps := ["self"]) fun _ _ _ _ _ _ us hl => match us, hl with | [_], _ => rfl
  have FCrew_named := fun_mk (st := s_Crew_named) lCrew_named cCrew_named kCrew_named
  have bCrew_named := FCrew_named.binds (ps := ["self", "name"]) fun _ _ _ _ _ _ us hl => match us, hl with | [_, _], _ => rfl
  have FCrew_with_member := fun_mk (st := s_Crew_with_member) lCrew_with_member cCrew_with_member kCrew_with_member
  have bCrew_with_member := FCrew_with_member.binds (ps := ["self", "member"]) fun _ _ _ _ _ _ us hl => match us, hl with | [_, _], _ => rfl
  have FCrew_without := fun_mk (st := s_Crew_without) lCrew_without cCrew_without kCrew_without
  have bCrew_without := FCrew_without.binds (ps := ["self", "name"]) fun _ _ _ _ _ _ us hl => match us, hl with | [_, _], _ => rfl
  have FTaskI : FunD K "__init__" "Task.__init__" (defArgs s_Task___init__) (defBody s_Task___init__) (defScope s_Task___init__) [] [("due", .non), ("holds", .ref e0)] fTaskI _ := ⟨⟨_, _, _, _, _, _, _, _, _, _, rfl, lTaskI, cTaskI, .inl ⟨rfl, rfl⟩, .inr ⟨DI, rfl, fun q hq => by
    rcases List.mem_cons.mp hq with rfl | hq
    · exact ⟨_, q1, rfl⟩
    · rw [List.mem_singleton.mp hq]
      exact ⟨_, q2, rfl⟩⟩⟩, kTaskI⟩
  have sq0 : ∀ H : Hp, SqT K H e0 [] := fun H => .inr ⟨_, #[], _, q3, rfl, rfl, Nat.zero_le _, .nil⟩
  have FDoorI := fun_mk (st := s_Door___init__) lDoorI cDoorI kDoorI
  have bDoorI := FDoorI.binds (ps := ["self", "name", "room", "gap"]) fun _ _ _ _ _ _ us hl => match us, hl with | [_, _, _, _], _ => rfl
  have FCrewI : FunD K "__init__" "Crew.__init__" (defArgs s_Crew___init__) (defBody s_Crew___init__) (defScope s_Crew___init__) [.ref e1] [] fCrewI _ := ⟨⟨_, _, _, _, _, _, _, _, _, _, rfl, lCrewI, cCrewI, .inr ⟨by simp, DT0, _, [.ref e1], _, rfl, q4, rfl, .cons rfl .nil⟩, .inl rfl⟩, kCrewI⟩
  have sq1 : ∀ H : Hp, SqT K H e1 [] := fun H => .inr ⟨_, #[], _, q5, rfl, rfl, Nat.zero_le _, .nil⟩
  have TyT : TyC K CT := ⟨⟨t_pg, t_hd, t_po, t_sa⟩, t_tc, tg, tt, t_tm⟩
  have PTyT : PlnC K CT := ⟨TyT, t_kint, t_kbool, t_kstr, t_ktuple⟩
  have TyD : TyC K CD := ⟨⟨d_pg, d_hd, d_po, d_sa⟩, d_tc, tg, tt, d_tm⟩
  have PTyD : PlnC K CD := ⟨TyD, d_kint, d_kbool, d_kstr, d_ktuple⟩
  have TyC : TyC K CC := ⟨⟨c_pg, c_hd, c_po, c_sa⟩, c_tc, tg, tt, c_tm⟩
  have PTyC : PlnC K CC := ⟨TyC, c_kint, c_kbool, c_kstr, c_ktuple⟩
  have TK : TaskK K CT := ⟨⟨⟨t_pg, t_hd, t_po, t_sa⟩, t_nN⟩, ⟨⟨t_pg, t_hd, t_po, t_sa⟩, t_nC⟩, ⟨⟨t_pg, t_hd, t_po, t_sa⟩, t_nG⟩, ⟨⟨t_pg, t_hd, t_po, t_sa⟩, t_nD⟩, ⟨⟨t_pg, t_hd, t_po, t_sa⟩, t_nH⟩, PTyT⟩
  have DK : DoorK K CD := ⟨⟨⟨d_pg, d_hd, d_po, d_sa⟩, d_nN⟩, ⟨⟨d_pg, d_hd, d_po, d_sa⟩, d_nR⟩, ⟨⟨d_pg, d_hd, d_po, d_sa⟩, d_nG⟩, PTyD⟩
  have CrK : CrewK K CC := ⟨⟨⟨c_pg, c_hd, c_po, c_sa⟩, c_nM⟩⟩
  have hTD : CT ≠ CD := ne_of_kit oCTCD
  have hTC : CT ≠ CC := ne_of_kit oCTCC
  have hDC : CD ≠ CC := ne_of_kit oCDCC
  have OW : Own K [CT, CD, CC] := own3 PTyT PTyD PTyC oCTCD oCDCT oCTCC oCCCT oCDCC oCCCD (bi3 (bi7 t_BNoneType t_Bbool t_Bint t_Bstr t_Btuple t_Blist t_Bdict) (bi7 d_BNoneType d_Bbool d_Bint d_Bstr d_Btuple d_Blist d_Bdict) (bi7 c_BNoneType c_Bbool c_Bint c_Bstr c_Btuple c_Blist c_Bdict))
  have hG : ∀ C fs, GK CT CD CC C fs → C ∈ [CT, CD, CC] := gk_in
  have hN : ∀ C fs, GK CT CD CC C fs → (C = CT ∨ C = CD) → Named K (.obj C fs) := gk_named TK DK hTC hDC
  have hGm : ∀ r, mOk r → Tho (GK CT CD CC) (memOf CT CD r) := gk_tho
  have MkT : Mk K CT fTaskI := ⟨t_mk, aTaskI, iTaskI, t_kc⟩
  have MkDo : Mk K CD fDoorI := ⟨d_mk, aDoorI, iDoorI, d_kc⟩
  have MkC : Mk K CC fCrewI := ⟨c_mk, aCrewI, iCrewI, c_kc⟩
  have Cs : Cst mg := ⟨⟨_, PySem.W.mg_of X G v1⟩, ⟨_, PySem.W.mg_of X G v2⟩, ⟨_, PySem.W.mg_of X G v3⟩, ⟨_, PySem.W.mg_of X G v4⟩, ⟨_, PySem.W.mg_of X G v5⟩⟩
  refine ⟨PySem.W.fnOf "law" "law" (defArgs s_law) (defBody s_law) (defScope s_law) .none kVlaw dclaw pmlaw anlaw cdlaw ctlaw, fun s v => .of_eq rfl, fun base _ _ => ?_⟩
  have ENoTask : Err l.prog w K mg "NoTask" "part" CNoTask := errE_NoTask (show ErrB l.prog K mg "ValueError" "ValueError.__new__" "ValueError.__init__" veM "NoTask" ["part"] "NoTask.__init__" sENoTask CNoTask fxNoTask_ from ⟨PySem.W.mg_of X G e_CNoTask, ⟨_, _, _, _, _, _, _, _, _, _, _, _, _, _, _, xNoTask_cl, xNoTask_ve⟩, xNoTask_sa, xNoTask_ga, xNoTask_gg, (fun f hf => by rw [List.mem_singleton.mp hf]; exact xNoTask_no), xNoTask_iC, xNoTask_tC, xNoTask_kC, xNoTask_ex, xNoTask_vs, xNoTask_ty, xNoTask_hd, xNoTask_mr, xNoTask_su, xNoTask_an, xNoTask_tp, m_super,
    ⟨_, _, _, _, _, _, _, _, _, _, _, _, _, _, _, _, _, _, xNoTask_fn, xNoTask_co, xNoTask_cd, xNoTask_v2, xNoTask_fi, xNoTask_ce⟩⟩)
  have ENoDoor : Err l.prog w K mg "NoDoor" "part" CNoDoor := errE_NoDoor (show ErrB l.prog K mg "ValueError" "ValueError.__new__" "ValueError.__init__" veM "NoDoor" ["part"] "NoDoor.__init__" sENoDoor CNoDoor fxNoDoor_ from ⟨PySem.W.mg_of X G e_CNoDoor, ⟨_, _, _, _, _, _, _, _, _, _, _, _, _, _, _, xNoDoor_cl, xNoDoor_ve⟩, xNoDoor_sa, xNoDoor_ga, xNoDoor_gg, (fun f hf => by rw [List.mem_singleton.mp hf]; exact xNoDoor_no), xNoDoor_iC, xNoDoor_tC, xNoDoor_kC, xNoDoor_ex, xNoDoor_vs, xNoDoor_ty, xNoDoor_hd, xNoDoor_mr, xNoDoor_su, xNoDoor_an, xNoDoor_tp, m_super,
    ⟨_, _, _, _, _, _, _, _, _, _, _, _, _, _, _, _, _, _, xNoDoor_fn, xNoDoor_co, xNoDoor_cd, xNoDoor_v2, xNoDoor_fi, xNoDoor_ce⟩⟩)
  have ENoCrew : Err l.prog w K mg "NoCrew" "name" CNoCrew := errE_NoCrew (show ErrB l.prog K mg "ValueError" "ValueError.__new__" "ValueError.__init__" veM "NoCrew" ["name"] "NoCrew.__init__" sENoCrew CNoCrew fxNoCrew_ from ⟨PySem.W.mg_of X G e_CNoCrew, ⟨_, _, _, _, _, _, _, _, _, _, _, _, _, _, _, xNoCrew_cl, xNoCrew_ve⟩, xNoCrew_sa, xNoCrew_ga, xNoCrew_gg, (fun f hf => by rw [List.mem_singleton.mp hf]; exact xNoCrew_no), xNoCrew_iC, xNoCrew_tC, xNoCrew_kC, xNoCrew_ex, xNoCrew_vs, xNoCrew_ty, xNoCrew_hd, xNoCrew_mr, xNoCrew_su, xNoCrew_an, xNoCrew_tp, m_super,
    ⟨_, _, _, _, _, _, _, _, _, _, _, _, _, _, _, _, _, _, xNoCrew_fn, xNoCrew_co, xNoCrew_cd, xNoCrew_v2, xNoCrew_fi, xNoCrew_ce⟩⟩)
  have ENoName : Err l.prog w K mg "NoName" "name" CNoName := errE_NoName (show ErrB l.prog K mg "LookupError" "LookupError.__new__" "LookupError.__init__" leM "NoName" ["name"] "NoName.__init__" sENoName CNoName fxNoName_ from ⟨PySem.W.mg_of X G e_CNoName, ⟨_, _, _, _, _, _, _, _, _, _, _, _, _, _, _, xNoName_cl, xNoName_ve⟩, xNoName_sa, xNoName_ga, xNoName_gg, (fun f hf => by rw [List.mem_singleton.mp hf]; exact xNoName_no), xNoName_iC, xNoName_tC, xNoName_kC, xNoName_ex, xNoName_vs, xNoName_ty, xNoName_hd, xNoName_mr, xNoName_su, xNoName_an, xNoName_tp, m_super,
    ⟨_, _, _, _, _, _, _, _, _, _, _, _, _, _, _, _, _, _, xNoName_fn, xNoName_co, xNoName_cd, xNoName_v2, xNoName_fi, xNoName_ce⟩⟩)
  have xC0 := exm3 (exm_of b_CTimeError h_CTimeError y_CTimeError u_CNoCrew_CTimeError) (exm_of b_CLostError h_CLostError y_CLostError u_CNoCrew_CLostError) (exm_of b_CFullError h_CFullError y_CFullError u_CNoCrew_CFullError)
  have xC : PySem.W.exmAny K (.ref CNoCrew) [.ref CTimeError, .ref CLostError, .ref CFullError] = some true := xC0
  have xN0 := exm3 (exm_of b_CTimeError h_CTimeError y_CTimeError u_CNoName_CTimeError) (exm_of b_CLostError h_CLostError y_CLostError u_CNoName_CLostError) (exm_of b_CFullError h_CFullError y_CFullError u_CNoName_CFullError)
  have xN : PySem.W.exmAny K (.ref CNoName) [.ref CTimeError, .ref CLostError, .ref CFullError] = some true := xN0
  have SK : SortK K CNoCrew CNoName CNoTask CNoDoor CNoTool CFullError := ⟨⟨xNoCrew_ga, xNoCrew_gg, xNoCrew_ex, xNoCrew_hd, xNoCrew_tc, tg, tt, xNoCrew_tm⟩, ⟨xNoName_ga, xNoName_gg, xNoName_ex, xNoName_hd, xNoName_tc, tg, tt, xNoName_tm⟩, xNoCrew_no, xNoName_no, kitA4 sNoCrewNoTask sNoCrewNoDoor sNoCrewNoTool sNoCrewFullError, kitA4 sNoNameNoTask sNoNameNoDoor sNoNameNoTool sNoNameFullError, kit_self, sNoNameNoCrew, kit_self, sNoCrewValueError, sNoCrewLookupError, sNoNameValueError, sNoNameLookupError⟩
  have Ois_number := okd_number (P := l.prog) (w := w) (mg := mg) (base := base)  Fis_number B
  have Dis_number : DnP l.prog w K mg base 1 "is_number" p_is_number 1 _ := ⟨_, _, Ois_number, PySem.W.mg_of X G ais_number, kis_number, Bd.all rfl bis_number⟩
  have Ois_whole := okd_whole (P := l.prog) (w := w) (mg := mg) (base := base)  Fis_whole B Dis_number
  have Dis_whole : DnP l.prog w K mg base 2 "is_whole" p_is_whole 3 _ := ⟨_, _, Ois_whole, PySem.W.mg_of X G ais_whole, kis_whole, Bd.all rfl bis_whole⟩
  have Ois_name := okd_name (P := l.prog) (w := w) (mg := mg) (base := base)  Fis_name B Cs
  have Dis_name : DnP l.prog w K mg base 2 "is_name" p_is_name 1 _ := ⟨_, _, Ois_name, PySem.W.mg_of X G ais_name, kis_name, Bd.all rfl bis_name⟩
  have Ois_hold := okd_hold (P := l.prog) (w := w) (mg := mg) (base := base)  Fis_hold B Dis_name Dis_whole
  have Dis_hold : DnP l.prog w K mg base 3 "is_hold" p_is_hold 2 _ := ⟨_, _, Ois_hold, PySem.W.mg_of X G ais_hold, kis_hold, Bd.all rfl bis_hold⟩
  have Ogoes_ahead := okd_ahead (P := l.prog) (w := w) (mg := mg) (base := base)  Fgoes_ahead
  have Dgoes_ahead : DnP l.prog w K mg base 2 "goes_ahead" p_goes_ahead 2 _ := ⟨_, _, Ogoes_ahead, PySem.W.mg_of X G agoes_ahead, kgoes_ahead, Bd.all rfl bgoes_ahead⟩
  have Oare_holds := okd_holds (P := l.prog) (w := w) (mg := mg) (base := base)  Fare_holds B Cs Dis_hold Dgoes_ahead
  have Dare_holds : DnP l.prog w K mg base 4 "are_holds" p_are_holds 2 _ := ⟨_, _, Oare_holds, PySem.W.mg_of X G aare_holds, kare_holds, Bd.all rfl bare_holds⟩
  have Owrong_in_task := okd_wrongT (P := l.prog) (w := w) (mg := mg) (base := base)  Fwrong_in_task B Cs Dis_name Dis_whole Dare_holds
  have Dwrong_in_task : DnP l.prog w K mg base 5 "wrong_in_task" p_wrong_in_task 5 _ := ⟨_, _, Owrong_in_task, PySem.W.mg_of X G awrong_in_task, kwrong_in_task, Bd.all rfl bwrong_in_task⟩
  have Owrong_in_door := okd_wrongD (P := l.prog) (w := w) (mg := mg) (base := base)  Fwrong_in_door B Cs Dis_name Dis_whole
  have Dwrong_in_door : DnP l.prog w K mg base 3 "wrong_in_door" p_wrong_in_door 3 _ := ⟨_, _, Owrong_in_door, PySem.W.mg_of X G awrong_in_door, kwrong_in_door, Bd.all rfl bwrong_in_door⟩
  have OTask_init := okd_taskInit (P := l.prog) (w := w) (mg := mg) (base := base)  FTaskI TK ENoTask Dwrong_in_task
  have ODoor_init := okd_doorInit (P := l.prog) (w := w) (mg := mg) (base := base)  FDoorI DK ENoDoor Dwrong_in_door
  obtain ⟨dvT, rvT, hbT⟩ := kb0 FTaskI
  obtain ⟨mvT, hkT⟩ := kb2 FTaskI
  have KTask : MkD l.prog w K mg base 6 "Task" CT p_Task___init__ 3 [] (fun ds es => ds ++ [.v .non, .tup []]) (spTaskD K CT CNoTask) := ⟨PySem.W.mg_of X G at_, _, _, OTask_init, MkT, Bd.dflt rfl hbT rvT (reps_task sq0)⟩
  have KTaskdh : MkD l.prog w K mg base 6 "Task" CT p_Task___init__ 3 ["due", "holds"] (fun ds es => ds ++ es) (spTaskD K CT CNoTask) := ⟨PySem.W.mg_of X G at_, _, _, OTask_init, MkT, Bd.kw hkT⟩
  have KDoor : MkD l.prog w K mg base 4 "Door" CD p_Door___init__ 3 [] gPos (spDoorD K CD CNoDoor) := ⟨PySem.W.mg_of X G ad_, _, _, ODoor_init, MkDo, Bd.all rfl bDoorI⟩
  have Ois_member := okd_member (P := l.prog) (w := w) (mg := mg) (base := base)  Fis_member B OW hG (by simp) (by simp) (PySem.W.mg_of X G at_) (PySem.W.mg_of X G ad_)
  have Dis_member : DnP l.prog w K mg base 1 "is_member" p_is_member 1 _ := ⟨_, _, Ois_member, PySem.W.mg_of X G ais_member, kis_member, Bd.all rfl bis_member⟩
  have Oare_members := okd_members (P := l.prog) (w := w) (mg := mg) (base := base)  Fare_members B OW hG ⟨_, PySem.W.mg_of X G v6⟩ Dis_member
  have Dare_members : DnP l.prog w K mg base 2 "are_members" p_are_members 1 _ := ⟨_, _, Oare_members, PySem.W.mg_of X G aare_members, kare_members, Bd.all rfl bare_members⟩
  have Oname_twice := okd_twice (P := l.prog) (w := w) (mg := mg) (base := base)  Fname_twice
  have Dname_twice : DnP l.prog w K mg base 1 "name_twice" p_name_twice 1 _ := ⟨_, _, Oname_twice, PySem.W.mg_of X G aname_twice, kname_twice, Bd.all rfl bname_twice⟩
  have OCrew_init := okd_crewInit (P := l.prog) (w := w) (mg := mg) (base := base)  FCrewI CrK hN ENoCrew Dare_members Dname_twice
  have bC2 : Binds K _ ["self", "members"] [] := d1_all FCrewI fun T kV doc pm an cdv ct us its h1 h2 => match us, its, h1, h2 with | [_, _], [_], _, _ => ⟨_, rfl, rfl⟩
  obtain ⟨dvC, rvC, hbC⟩ := FunD.binds1 (ps := ["self", "members"]) FCrewI 1 0 (by simp) rfl fun T kV doc pm an cdv ct us its h1 h2 => match us, its, h1, h2 with | [_], [_], _, _ => ⟨_, rfl, rfl⟩
  obtain ⟨itC, hkC⟩ := FunD.kbindsD (ps := ["self", "members"]) FCrewI 1 ["members"] (fun us _ ws => us ++ ws) (by simp) (fun r1 _ r3 => r1.append r3) fun T kV doc pm an cdv ct us its ws h1 h2 h3 => match us, its, ws, h1, h2, h3 with | [_], [_], [_], _, _, _ => ⟨_, rfl, rfl⟩
  have KCrew : MkD l.prog w K mg base 3 "Crew" CC p_Crew___init__ 1 [] gPos (spCrewD (GK CT CD CC) CT CD CC CNoCrew) := ⟨PySem.W.mg_of X G ac_, _, _, OCrew_init, MkC, Bd.all rfl bC2⟩
  have KCrew0 : MkD l.prog w K mg base 3 "Crew" CC p_Crew___init__ 0 [] (fun ds es => ds ++ [.tup []]) (spCrewD (GK CT CD CC) CT CD CC CNoCrew) := ⟨PySem.W.mg_of X G ac_, _, _, OCrew_init, MkC, Bd.dflt rfl hbC rvC (reps_nil sq1)⟩
  have KCrewm : MkD l.prog w K mg base 3 "Crew" CC p_Crew___init__ 0 ["members"] gPos (spCrewD (GK CT CD CC) CT CD CC CNoCrew) := ⟨PySem.W.mg_of X G ac_, _, _, OCrew_init, MkC, Bd.kw hkC⟩
  have O_law_cell := okd_cell (P := l.prog) (w := w) (mg := mg) (base := base)  F_law_cell B
  have D_law_cell : DnP l.prog w K mg base 1 "_law_cell" p__law_cell 2 _ := ⟨_, _, O_law_cell, PySem.W.mg_of X G a_law_cell, k_law_cell, Bd.all rfl b_law_cell⟩
  have O_law_take := okd_take (P := l.prog) (w := w) (mg := mg) (base := base)  F_law_take
  have D_law_take : DnP l.prog w K mg base 1 "_law_take" p__law_take 2 _ := ⟨_, _, O_law_take, PySem.W.mg_of X G a_law_take, k_law_take, Bd.all rfl b_law_take⟩
  have O_law_purse := okd_purse (P := l.prog) (w := w) (mg := mg) (base := base)  F_law_purse B
  have D_law_purse : DnP l.prog w K mg base 1 "_law_purse" p__law_purse 1 _ := ⟨_, _, O_law_purse, PySem.W.mg_of X G a_law_purse, k_law_purse, Bd.all rfl b_law_purse⟩
  have O_law_words := okd_words (P := l.prog) (w := w) (mg := mg) (base := base)  F_law_words B D_law_take
  have D_law_words : DnP l.prog w K mg base 2 "_law_words" p__law_words 2 _ := ⟨_, _, O_law_words, PySem.W.mg_of X G a_law_words, k_law_words, Bd.all rfl b_law_words⟩
  have O_law_holds := okd_holdsL (P := l.prog) (w := w) (mg := mg) (base := base)  F_law_holds B D_law_take
  have D_law_holds : DnP l.prog w K mg base 2 "_law_holds" p__law_holds 3 _ := ⟨_, _, O_law_holds, PySem.W.mg_of X G a_law_holds, k_law_holds, Bd.all rfl b_law_holds⟩
  have O_law_task := okd_taskL (P := l.prog) (w := w) (mg := mg) (base := base)  F_law_task B D_law_take D_law_holds
  have D_law_task : DnP l.prog w K mg base 3 "_law_task" p__law_task 4 _ := ⟨_, _, O_law_task, PySem.W.mg_of X G a_law_task, k_law_task, Bd.all rfl b_law_task⟩
  have O_law_door := okd_doorL (P := l.prog) (w := w) (mg := mg) (base := base)  F_law_door B D_law_take
  have D_law_door : DnP l.prog w K mg base 2 "_law_door" p__law_door 3 _ := ⟨_, _, O_law_door, PySem.W.mg_of X G a_law_door, k_law_door, Bd.all rfl b_law_door⟩
  have O_law_member := okd_memberL (P := l.prog) (w := w) (mg := mg) (base := base)  F_law_member KDoor KTaskdh
  have D_law_member : DnP l.prog w K mg base 8 "_law_member" p__law_member 1 _ := ⟨_, _, O_law_member, PySem.W.mg_of X G a_law_member, k_law_member, Bd.all rfl b_law_member⟩
  have O_law_crew := okd_crewL (P := l.prog) (w := w) (mg := mg) (base := base)  F_law_crew B hGm KCrew D_law_member
  have D_law_crew : DnP l.prog w K mg base 9 "_law_crew" p__law_crew 1 _ := ⟨_, _, O_law_crew, PySem.W.mg_of X G a_law_crew, k_law_crew, Bd.all rfl b_law_crew⟩
  have OCrew_names := okd_names (P := l.prog) (w := w) (mg := mg) (base := base)  FCrew_names B CrK
  have MCrew_names : MtD l.prog w K mg base 1 CC "names" p_Crew_names 0 [] gPos _ := ⟨⟨c_pg, c_hd, c_po, c_sa⟩, _, _, OCrew_names, ⟨aCrew_names, iCrew_names, kCrew_names⟩, Bd.all rfl bCrew_names⟩
  have OCrew_named := okd_named (P := l.prog) (w := w) (mg := mg) (base := base) (G := GK CT CD CC) FCrew_named B CrK ENoName Dis_name
  have MCrew_named : MtD l.prog w K mg base 3 CC "named" p_Crew_named 1 [] gPos _ := ⟨⟨c_pg, c_hd, c_po, c_sa⟩, _, _, OCrew_named, ⟨aCrew_named, iCrew_named, kCrew_named⟩, Bd.all rfl bCrew_named⟩
  have OCrew_with_member := okd_with (P := l.prog) (w := w) (mg := mg) (base := base)  FCrew_with_member B TK DK CrK hTC hDC ENoCrew Dis_member KCrew MCrew_names
  have MCrew_with_member : MtD l.prog w K mg base 5 CC "with_member" p_Crew_with_member 1 [] gPos _ := ⟨⟨c_pg, c_hd, c_po, c_sa⟩, _, _, OCrew_with_member, ⟨aCrew_with_member, iCrew_with_member, kCrew_with_member⟩, Bd.all rfl bCrew_with_member⟩
  have MCrew_with_member_member : MtD l.prog w K mg base 5 CC "with_member" p_Crew_with_member 0 ["member"] gPos _ := ⟨⟨c_pg, c_hd, c_po, c_sa⟩, _, _, OCrew_with_member, ⟨aCrew_with_member, iCrew_with_member, kCrew_with_member⟩, Bd.kw ⟨fun s us ws X h1 h2 => .of_eq (match us, ws, h1, h2 with | [_], [_], _, _ => rfl), fun r1 r2 => r1.append r2⟩⟩
  have OCrew_without := okd_without (P := l.prog) (w := w) (mg := mg) (base := base)  FCrew_without B TK DK CrK KCrew MCrew_named
  have MCrew_without : MtD l.prog w K mg base 5 CC "without" p_Crew_without 1 [] gPos _ := ⟨⟨c_pg, c_hd, c_po, c_sa⟩, _, _, OCrew_without, ⟨aCrew_without, iCrew_without, kCrew_without⟩, Bd.all rfl bCrew_without⟩
  have MCrew_without_name : MtD l.prog w K mg base 5 CC "without" p_Crew_without 0 ["name"] gPos _ := ⟨⟨c_pg, c_hd, c_po, c_sa⟩, _, _, OCrew_without, ⟨aCrew_without, iCrew_without, kCrew_without⟩, Bd.kw ⟨fun s us ws X h1 h2 => .of_eq (match us, ws, h1, h2 with | [_], [_], _, _ => rfl), fun r1 r2 => r1.append r2⟩⟩
  have OTask_eq := okd_eqT (P := l.prog) (w := w) (mg := mg) (base := base)  FTask_eq B OW hG (by simp) hTD hTC TK (PySem.W.mg_of X G at_)
  have ODoor_eq := okd_eqDo (P := l.prog) (w := w) (mg := mg) (base := base)  FDoor_eq B OW hG (by simp) hTD hDC DK (PySem.W.mg_of X G ad_)
  have OET : OwnE l.prog w K mg base 1 CT (sp0 K _) := ⟨⟨fTask_eq, _, _, fn0 OTask_eq, bTask_eq, aTask_eq, iTask_eq⟩, t_sn, t_so, t_sNoneType, t_sint, t_sbool, t_sstr, t_stuple, t_slist, t_sdict⟩
  have OED : OwnE l.prog w K mg base 1 CD (sp0 K _) := ⟨⟨fDoor_eq, _, _, fn0 ODoor_eq, bDoor_eq, aDoor_eq, iDoor_eq⟩, d_sn, d_so, d_sNoneType, d_sint, d_sbool, d_sstr, d_stuple, d_slist, d_sdict⟩
  have EQ1 : EqC l.prog w K mg base 1 (eqsG (GK CT CD CC) [CT, CD]) := eqC_of hG (fun c hc => by simp only [List.mem_cons, List.not_mem_nil, or_false] at hc; rcases hc with rfl | rfl <;> exact ⟨1, by decide, by assumption⟩) (fun C fs h => gk_clf h) (fun c hc c' hc' => by simp only [List.mem_cons, List.not_mem_nil, or_false] at hc hc'; rcases hc with rfl | rfl <;> rcases hc' with rfl | rfl | rfl <;> first | exact nf_self | (apply nf_of; assumption))
  have OCrew_eq := okd_eqC (P := l.prog) (w := w) (mg := mg) (base := base)  FCrew_eq B OW hG (by simp) hTC hDC CrK (PySem.W.mg_of X G ac_) EQ1
  have OEC : OwnE l.prog w K mg base 3 CC (sp0 K _) := ⟨⟨fCrew_eq, _, _, fn0 OCrew_eq, bCrew_eq, aCrew_eq, iCrew_eq⟩, c_sn, c_so, c_sNoneType, c_sint, c_sbool, c_sstr, c_stuple, c_slist, c_sdict⟩
  have EQ3 : EqC l.prog w K mg base 3 (eqsG (GK CT CD CC) [CT, CD, CC]) := eqC_of hG (fun c hc => by simp only [List.mem_cons, List.not_mem_nil, or_false] at hc; rcases hc with rfl | rfl | rfl <;> first | exact ⟨1, by decide, by assumption⟩ | exact ⟨3, by decide, by assumption⟩) (fun C fs h => gk_clf h) (fun c hc c' hc' => by simp only [List.mem_cons, List.not_mem_nil, or_false] at hc hc'; rcases hc with rfl | rfl | rfl <;> rcases hc' with rfl | rfl | rfl <;> first | exact nf_self | (apply nf_of; assumption))
  have OTask_repr := okd_reprT (P := l.prog) (w := w) (mg := mg) (base := base) (CDoor := CD) FTask_repr TK
  have ODoor_repr := okd_reprDo (P := l.prog) (w := w) (mg := mg) (base := base) (CTask := CT) FDoor_repr DK
  have OCrew_repr := okd_reprC (P := l.prog) (w := w) (mg := mg) (base := base)  FCrew_repr TK DK MCrew_names
  have SH : ShC l.prog w K mg base 2 (rpA CT CD CC) := shA_of ⟨⟨fCrew_repr, _, _, fn0 OCrew_repr, bCrew_repr, aCrew_repr, iCrew_repr⟩⟩ ⟨⟨fTask_repr, _, _, fn0 OTask_repr, bTask_repr, aTask_repr, iTask_repr⟩⟩ ⟨⟨fDoor_repr, _, _, fn0 ODoor_repr, bDoor_repr, aDoor_repr, iDoor_repr⟩⟩
  have O_law_drawn_row := okd_drawnRow (P := l.prog) (w := w) (mg := mg) (base := base)  F_law_drawn_row B m_set D_law_take D_law_door D_law_task
  have D_law_drawn_row : DnP l.prog w K mg base 4 "_law_drawn_row" p__law_drawn_row 2 _ := ⟨_, _, O_law_drawn_row, PySem.W.mg_of X G a_law_drawn_row, k_law_drawn_row, Bd.all rfl b_law_drawn_row⟩
  have O_law_sort := okd_sort (P := l.prog) (w := w) (mg := mg) (base := base)  F_law_sort B m_LookupError (PySem.W.mg_of X G e_CNoTask) (PySem.W.mg_of X G e_CNoDoor) (PySem.W.mg_of X G e_CNoTool) (PySem.W.mg_of X G e_CFullError) (PySem.W.mg_of X G e_CNoCrew) (PySem.W.mg_of X G e_CNoName) SK
  have D_law_sort : DnED l.prog w K mg base 1 "_law_sort" p__law_sort _ := ⟨⟨_, _, O_law_sort, PySem.W.mg_of X G a_law_sort, k_law_sort, b_law_sort⟩⟩
  have O_law_told := okd_told (P := l.prog) (w := w) (mg := mg) (base := base)  F_law_told OW TK DK hG (PySem.W.mg_of X G e_CTimeError) (PySem.W.mg_of X G e_CLostError) (PySem.W.mg_of X G e_CFullError) SK xC xN D_law_sort MCrew_with_member MCrew_with_member_member MCrew_without MCrew_without_name MCrew_named
  have D_law_told : DnP l.prog w K mg base 6 "_law_told" p__law_told 4 _ := ⟨_, _, O_law_told, PySem.W.mg_of X G a_law_told, k_law_told, Bd.all rfl b_law_told⟩
  have O_law_put := okd_put (P := l.prog) (w := w) (mg := mg) (base := base)  F_law_put B
  have D_law_put : DnP l.prog w K mg base 2 "_law_put" p__law_put 2 _ := ⟨_, _, O_law_put, PySem.W.mg_of X G a_law_put, k_law_put, Bd.all rfl b_law_put⟩
  have O_law_refused_right := okd_refused (P := l.prog) (w := w) (mg := mg) (base := base)  F_law_refused_right B hTD hTC hDC SH D_law_take D_law_told KDoor KTask
  have D_law_refused_right : DnGD l.prog w K mg base 9 "_law_refused_right" p__law_refused_right _ := ⟨⟨_, _, O_law_refused_right, PySem.W.mg_of X G a_law_refused_right, k_law_refused_right, b_law_refused_right⟩⟩
  have O_law_next := okd_next (P := l.prog) (w := w) (mg := mg) (base := base)  F_law_next B TK DK hTD hTC hDC hG EQ3 D_law_take D_law_drawn_row D_law_put D_law_member D_law_crew D_law_told MCrew_names
  have D_law_next : DnP l.prog w K mg base 11 "_law_next" p__law_next 4 _ := ⟨_, _, O_law_next, PySem.W.mg_of X G a_law_next, k_law_next, Bd.all rfl b_law_next⟩
  exact lawGD (sp := spLawD) (fun ns μ Q X q => ⟨ns, rfl, q⟩) (okd_law (P := l.prog) (w := w) (mg := mg) (base := base) Flaw B CrK hG EQ3 KCrew0 D_law_cell D_law_purse D_law_take D_law_words D_law_crew D_law_refused_right D_law_next) ⟨rfl, by decide, by decide⟩
end Du

set_option Elab.async false
set_option linter.all false
open PySem PySem.W PyProof.Rows
set_option maxRecDepth 100000 in
set_option maxHeartbeats 0 in
theorem PySem.Challenge.cw_duetimes_k07_crews_by_deeds_holds : PySem.Challenge.rw_duetimes_k07_crews_by_deeds.Holds := by
  w_on; o_law; k_head; (case hw => w_witness2)
  k_fill
  refine Du.walk_at (l := PySem.Challenge.rw_duetimes_k07_crews_by_deeds) (n := 63) (x := "_law_script") (sp := fun w => Du.spLaw _) rfl (by decide) rfl (fun w h Y => PySem.W.kIn_of Y) ?F (fun _ _ a ns hl hS => ⟨a, ns, rfl, hS, fun _ => rfl⟩)
  case F =>
    intro w mg fa h KX G hmg
    refine' Du.all_mk KX G hmg ?ais_number ?lis_number ?cis_number ?kis_number ?ais_whole ?lis_whole ?cis_whole ?kis_whole ?ais_name ?lis_name ?cis_name ?kis_name ?ais_hold ?lis_hold ?cis_hold ?kis_hold ?agoes_ahead ?lgoes_ahead ?cgoes_ahead ?kgoes_ahead ?aare_holds ?lare_holds ?care_holds ?kare_holds ?awrong_in_task ?lwrong_in_task ?cwrong_in_task ?kwrong_in_task ?awrong_in_door ?lwrong_in_door ?cwrong_in_door ?kwrong_in_door ?ais_member ?lis_member ?cis_member ?kis_member ?aare_members ?lare_members ?care_members ?kare_members ?aname_twice ?lname_twice ?cname_twice ?kname_twice ?a_law_cell ?l_law_cell ?c_law_cell ?k_law_cell ?a_law_purse ?l_law_purse ?c_law_purse ?k_law_purse ?a_law_take ?l_law_take ?c_law_take ?k_law_take ?a_law_words ?l_law_words ?c_law_words ?k_law_words ?a_law_holds ?l_law_holds ?c_law_holds ?k_law_holds ?a_law_task ?l_law_task ?c_law_task ?k_law_task ?a_law_door ?l_law_door ?c_law_door ?k_law_door ?a_law_member ?l_law_member ?c_law_member ?k_law_member ?a_law_crew ?l_law_crew ?c_law_crew ?k_law_crew ?a_law_drawn_row ?l_law_drawn_row ?c_law_drawn_row ?k_law_drawn_row ?a_law_sort ?l_law_sort ?c_law_sort ?k_law_sort ?a_law_told ?l_law_told ?c_law_told ?k_law_told ?a_law_put ?l_law_put ?c_law_put ?k_law_put ?a_law_refused_right ?l_law_refused_right ?c_law_refused_right ?k_law_refused_right ?a_law_next ?l_law_next ?c_law_next ?k_law_next ?alaw ?llaw ?claw ?klaw ?tg ?tt ?at_ ?t_pg ?t_hd ?t_po ?t_sa ?t_mk ?t_kc ?t_nN ?t_nC ?t_nG ?t_nD ?t_nH ?t_tc ?t_tm ?t_kint ?t_kbool ?t_kstr ?t_ktuple ?aTaskI ?lTaskI ?cTaskI ?kTaskI ?iTaskI ?q1 ?q2 ?q3 ?ad_ ?d_pg ?d_hd ?d_po ?d_sa ?d_mk ?d_kc ?d_nN ?d_nR ?d_nG ?d_tc ?d_tm ?d_kint ?d_kbool ?d_kstr ?d_ktuple ?aDoorI ?lDoorI ?cDoorI ?kDoorI ?iDoorI ?ac_ ?c_pg ?c_hd ?c_po ?c_sa ?c_mk ?c_kc ?c_nM ?c_tc ?c_tm ?c_kint ?c_kbool ?c_kstr ?c_ktuple ?aCrewI ?lCrewI ?cCrewI ?kCrewI ?iCrewI ?q4 ?q5 ?t_BNoneType ?t_Bbool ?t_Bint ?t_Bstr ?t_Btuple ?t_Blist ?t_Bdict ?oCTCD ?oCTCC ?d_BNoneType ?d_Bbool ?d_Bint ?d_Bstr ?d_Btuple ?d_Blist ?d_Bdict ?oCDCT ?oCDCC ?c_BNoneType ?c_Bbool ?c_Bint ?c_Bstr ?c_Btuple ?c_Blist ?c_Bdict ?oCCCT ?oCCCD ?aTask_eq ?lTask_eq ?cTask_eq ?kTask_eq ?iTask_eq ?aDoor_eq ?lDoor_eq ?cDoor_eq ?kDoor_eq ?iDoor_eq ?aCrew_eq ?lCrew_eq ?cCrew_eq ?kCrew_eq ?iCrew_eq ?aTask_repr ?lTask_repr ?cTask_repr ?kTask_repr ?iTask_repr ?aDoor_repr ?lDoor_repr ?cDoor_repr ?kDoor_repr ?iDoor_repr ?aCrew_repr ?lCrew_repr ?cCrew_repr ?kCrew_repr ?iCrew_repr ?aCrew_names ?lCrew_names ?cCrew_names ?kCrew_names ?iCrew_names ?aCrew_named ?lCrew_named ?cCrew_named ?kCrew_named ?iCrew_named ?aCrew_with_member ?lCrew_with_member ?cCrew_with_member ?kCrew_with_member ?iCrew_with_member ?aCrew_without ?lCrew_without ?cCrew_without ?kCrew_without ?iCrew_without ?t_sn ?t_so ?t_sNoneType ?t_sbool ?t_sint ?t_sstr ?t_stuple ?t_slist ?t_sdict ?d_sn ?d_so ?d_sNoneType ?d_sbool ?d_sint ?d_sstr ?d_stuple ?d_slist ?d_sdict ?c_sn ?c_so ?c_sNoneType ?c_sbool ?c_sint ?c_sstr ?c_stuple ?c_slist ?c_sdict ?uCTCD ?uCTCC ?uCDCT ?uCDCC ?uCCCT ?uCCCD ?v1 ?v2 ?v3 ?v4 ?v5 ?v6 ?e_CNoTask ?xNoTask_iC ?xNoTask_cl ?xNoTask_ve ?xNoTask_sa ?xNoTask_ga ?xNoTask_gg ?xNoTask_no ?xNoTask_tC ?xNoTask_kC ?xNoTask_ex ?xNoTask_vs ?xNoTask_ty ?xNoTask_hd ?xNoTask_mr ?xNoTask_su ?xNoTask_an ?xNoTask_tp ?xNoTask_fn ?xNoTask_co ?xNoTask_cd ?xNoTask_v2 ?xNoTask_fi ?xNoTask_ce ?xNoTask_tc ?xNoTask_tm ?e_CNoDoor ?xNoDoor_iC ?xNoDoor_cl ?xNoDoor_ve ?xNoDoor_sa ?xNoDoor_ga ?xNoDoor_gg ?xNoDoor_no ?xNoDoor_tC ?xNoDoor_kC ?xNoDoor_ex ?xNoDoor_vs ?xNoDoor_ty ?xNoDoor_hd ?xNoDoor_mr ?xNoDoor_su ?xNoDoor_an ?xNoDoor_tp ?xNoDoor_fn ?xNoDoor_co ?xNoDoor_cd ?xNoDoor_v2 ?xNoDoor_fi ?xNoDoor_ce ?xNoDoor_tc ?xNoDoor_tm ?e_CNoCrew ?xNoCrew_iC ?xNoCrew_cl ?xNoCrew_ve ?xNoCrew_sa ?xNoCrew_ga ?xNoCrew_gg ?xNoCrew_no ?xNoCrew_tC ?xNoCrew_kC ?xNoCrew_ex ?xNoCrew_vs ?xNoCrew_ty ?xNoCrew_hd ?xNoCrew_mr ?xNoCrew_su ?xNoCrew_an ?xNoCrew_tp ?xNoCrew_fn ?xNoCrew_co ?xNoCrew_cd ?xNoCrew_v2 ?xNoCrew_fi ?xNoCrew_ce ?xNoCrew_tc ?xNoCrew_tm ?e_CNoName ?xNoName_iC ?xNoName_cl ?xNoName_ve ?xNoName_sa ?xNoName_ga ?xNoName_gg ?xNoName_no ?xNoName_tC ?xNoName_kC ?xNoName_ex ?xNoName_vs ?xNoName_ty ?xNoName_hd ?xNoName_mr ?xNoName_su ?xNoName_an ?xNoName_tp ?xNoName_fn ?xNoName_co ?xNoName_cd ?xNoName_v2 ?xNoName_fi ?xNoName_ce ?xNoName_tc ?xNoName_tm ?e_CTimeError ?e_CLostError ?e_CFullError ?e_CNoTool ?sNoCrewNoTask ?sNoCrewNoDoor ?sNoCrewNoTool ?sNoCrewFullError ?sNoCrewValueError ?sNoCrewLookupError ?sNoNameNoTask ?sNoNameNoDoor ?sNoNameNoTool ?sNoNameFullError ?sNoNameValueError ?sNoNameLookupError ?sNoNameNoCrew ?z_len ?z_range ?z_min ?z_max ?z_abs ?z_int ?z_bool ?z_str ?z_tuple ?z_list ?z_isinstance ?z_all ?z_any ?z_sum ?z_zip ?z_repr ?z_sorted ?z_enumerate ?z_ValueError ?z_super ?z_LookupError ?z_set ?b_CTimeError ?h_CTimeError ?y_CTimeError ?u_CNoCrew_CTimeError ?b_CLostError ?h_CLostError ?y_CLostError ?u_CNoCrew_CLostError ?b_CFullError ?h_CFullError ?y_CFullError ?u_CNoCrew_CFullError ?u_CNoName_CTimeError ?u_CNoName_CLostError ?u_CNoName_CFullError
    (case ais_number => k_is)
    (case lis_number => k_is)
    (case cis_number => k_is)
    (case kis_number => k_is)
    (case ais_whole => k_is)
    (case lis_whole => k_is)
    (case cis_whole => k_is)
    (case kis_whole => k_is)
    (case ais_name => k_is)
    (case lis_name => k_is)
    (case cis_name => k_is)
    (case kis_name => k_is)
    (case ais_hold => k_is)
    (case lis_hold => k_is)
    (case cis_hold => k_is)
    (case kis_hold => k_is)
    (case agoes_ahead => k_is)
    (case lgoes_ahead => k_is)
    (case cgoes_ahead => k_is)
    (case kgoes_ahead => k_is)
    (case aare_holds => k_is)
    (case lare_holds => k_is)
    (case care_holds => k_is)
    (case kare_holds => k_is)
    (case awrong_in_task => k_is)
    (case lwrong_in_task => k_is)
    (case cwrong_in_task => k_is)
    (case kwrong_in_task => k_is)
    (case awrong_in_door => k_is)
    (case lwrong_in_door => k_is)
    (case cwrong_in_door => k_is)
    (case kwrong_in_door => k_is)
    (case ais_member => k_is)
    (case lis_member => k_is)
    (case cis_member => k_is)
    (case kis_member => k_is)
    (case aare_members => k_is)
    (case lare_members => k_is)
    (case care_members => k_is)
    (case kare_members => k_is)
    (case aname_twice => k_is)
    (case lname_twice => k_is)
    (case cname_twice => k_is)
    (case kname_twice => k_is)
    (case a_law_cell => k_is)
    (case l_law_cell => k_is)
    (case c_law_cell => k_is)
    (case k_law_cell => k_is)
    (case a_law_purse => k_is)
    (case l_law_purse => k_is)
    (case c_law_purse => k_is)
    (case k_law_purse => k_is)
    (case a_law_take => k_is)
    (case l_law_take => k_is)
    (case c_law_take => k_is)
    (case k_law_take => k_is)
    (case a_law_words => k_is)
    (case l_law_words => k_is)
    (case c_law_words => k_is)
    (case k_law_words => k_is)
    (case a_law_holds => k_is)
    (case l_law_holds => k_is)
    (case c_law_holds => k_is)
    (case k_law_holds => k_is)
    (case a_law_task => k_is)
    (case l_law_task => k_is)
    (case c_law_task => k_is)
    (case k_law_task => k_is)
    (case a_law_door => k_is)
    (case l_law_door => k_is)
    (case c_law_door => k_is)
    (case k_law_door => k_is)
    (case a_law_member => k_is)
    (case l_law_member => k_is)
    (case c_law_member => k_is)
    (case k_law_member => k_is)
    (case a_law_crew => k_is)
    (case l_law_crew => k_is)
    (case c_law_crew => k_is)
    (case k_law_crew => k_is)
    (case a_law_drawn_row => k_is)
    (case l_law_drawn_row => k_is)
    (case c_law_drawn_row => k_is)
    (case k_law_drawn_row => k_is)
    (case a_law_sort => k_is)
    (case l_law_sort => k_is)
    (case c_law_sort => k_is)
    (case k_law_sort => k_is)
    (case a_law_told => k_is)
    (case l_law_told => k_is)
    (case c_law_told => k_is)
    (case k_law_told => k_is)
    (case a_law_put => k_is)
    (case l_law_put => k_is)
    (case c_law_put => k_is)
    (case k_law_put => k_is)
    (case a_law_refused_right => k_is)
    (case l_law_refused_right => k_is)
    (case c_law_refused_right => k_is)
    (case k_law_refused_right => k_is)
    (case a_law_next => k_is)
    (case l_law_next => k_is)
    (case c_law_next => k_is)
    (case k_law_next => k_is)
    (case alaw => k_is)
    (case llaw => k_is)
    (case claw => k_is)
    (case klaw => k_is)
    (case tg => k_is)
    (case tt => k_is)
    (case at_ => k_is)
    (case t_pg => k_is)
    (case t_hd => k_is)
    (case t_po => k_is)
    (case t_sa => k_is)
    (case t_mk => k_is)
    (case t_kc => k_is)
    (case t_nN => k_is)
    (case t_nC => k_is)
    (case t_nG => k_is)
    (case t_nD => k_is)
    (case t_nH => k_is)
    (case t_tc => k_is)
    (case t_tm => k_is)
    (case t_kint => kit_is)
    (case t_kbool => kit_is)
    (case t_kstr => kit_is)
    (case t_ktuple => kit_is)
    (case aTaskI => k_is)
    (case lTaskI => k_is)
    (case cTaskI => k_is)
    (case kTaskI => k_is)
    (case iTaskI => k_is)
    (case q1 => k_is)
    (case q2 => k_is)
    (case q3 => k_is)
    (case ad_ => k_is)
    (case d_pg => k_is)
    (case d_hd => k_is)
    (case d_po => k_is)
    (case d_sa => k_is)
    (case d_mk => k_is)
    (case d_kc => k_is)
    (case d_nN => k_is)
    (case d_nR => k_is)
    (case d_nG => k_is)
    (case d_tc => k_is)
    (case d_tm => k_is)
    (case d_kint => kit_is)
    (case d_kbool => kit_is)
    (case d_kstr => kit_is)
    (case d_ktuple => kit_is)
    (case aDoorI => k_is)
    (case lDoorI => k_is)
    (case cDoorI => k_is)
    (case kDoorI => k_is)
    (case iDoorI => k_is)
    (case ac_ => k_is)
    (case c_pg => k_is)
    (case c_hd => k_is)
    (case c_po => k_is)
    (case c_sa => k_is)
    (case c_mk => k_is)
    (case c_kc => k_is)
    (case c_nM => k_is)
    (case c_tc => k_is)
    (case c_tm => k_is)
    (case c_kint => kit_is)
    (case c_kbool => kit_is)
    (case c_kstr => kit_is)
    (case c_ktuple => kit_is)
    (case aCrewI => k_is)
    (case lCrewI => k_is)
    (case cCrewI => k_is)
    (case kCrewI => k_is)
    (case iCrewI => k_is)
    (case q4 => k_is)
    (case q5 => k_is)
    (case t_BNoneType => kit_is)
    (case t_Bbool => kit_is)
    (case t_Bint => kit_is)
    (case t_Bstr => kit_is)
    (case t_Btuple => kit_is)
    (case t_Blist => kit_is)
    (case t_Bdict => kit_is)
    (case oCTCD => kit_is)
    (case oCTCC => kit_is)
    (case d_BNoneType => kit_is)
    (case d_Bbool => kit_is)
    (case d_Bint => kit_is)
    (case d_Bstr => kit_is)
    (case d_Btuple => kit_is)
    (case d_Blist => kit_is)
    (case d_Bdict => kit_is)
    (case oCDCT => kit_is)
    (case oCDCC => kit_is)
    (case c_BNoneType => kit_is)
    (case c_Bbool => kit_is)
    (case c_Bint => kit_is)
    (case c_Bstr => kit_is)
    (case c_Btuple => kit_is)
    (case c_Blist => kit_is)
    (case c_Bdict => kit_is)
    (case oCCCT => kit_is)
    (case oCCCD => kit_is)
    (case aTask_eq => k_is)
    (case lTask_eq => k_is)
    (case cTask_eq => k_is)
    (case kTask_eq => k_is)
    (case iTask_eq => k_is)
    (case aDoor_eq => k_is)
    (case lDoor_eq => k_is)
    (case cDoor_eq => k_is)
    (case kDoor_eq => k_is)
    (case iDoor_eq => k_is)
    (case aCrew_eq => k_is)
    (case lCrew_eq => k_is)
    (case cCrew_eq => k_is)
    (case kCrew_eq => k_is)
    (case iCrew_eq => k_is)
    (case aTask_repr => k_is)
    (case lTask_repr => k_is)
    (case cTask_repr => k_is)
    (case kTask_repr => k_is)
    (case iTask_repr => k_is)
    (case aDoor_repr => k_is)
    (case lDoor_repr => k_is)
    (case cDoor_repr => k_is)
    (case kDoor_repr => k_is)
    (case iDoor_repr => k_is)
    (case aCrew_repr => k_is)
    (case lCrew_repr => k_is)
    (case cCrew_repr => k_is)
    (case kCrew_repr => k_is)
    (case iCrew_repr => k_is)
    (case aCrew_names => k_is)
    (case lCrew_names => k_is)
    (case cCrew_names => k_is)
    (case kCrew_names => k_is)
    (case iCrew_names => k_is)
    (case aCrew_named => k_is)
    (case lCrew_named => k_is)
    (case cCrew_named => k_is)
    (case kCrew_named => k_is)
    (case iCrew_named => k_is)
    (case aCrew_with_member => k_is)
    (case lCrew_with_member => k_is)
    (case cCrew_with_member => k_is)
    (case kCrew_with_member => k_is)
    (case iCrew_with_member => k_is)
    (case aCrew_without => k_is)
    (case lCrew_without => k_is)
    (case cCrew_without => k_is)
    (case kCrew_without => k_is)
    (case iCrew_without => k_is)
    (case t_sn => k_is)
    (case t_so => k_is)
    (case t_sNoneType => k_is)
    (case t_sbool => k_is)
    (case t_sint => k_is)
    (case t_sstr => k_is)
    (case t_stuple => k_is)
    (case t_slist => k_is)
    (case t_sdict => k_is)
    (case d_sn => k_is)
    (case d_so => k_is)
    (case d_sNoneType => k_is)
    (case d_sbool => k_is)
    (case d_sint => k_is)
    (case d_sstr => k_is)
    (case d_stuple => k_is)
    (case d_slist => k_is)
    (case d_sdict => k_is)
    (case c_sn => k_is)
    (case c_so => k_is)
    (case c_sNoneType => k_is)
    (case c_sbool => k_is)
    (case c_sint => k_is)
    (case c_sstr => k_is)
    (case c_stuple => k_is)
    (case c_slist => k_is)
    (case c_sdict => k_is)
    (case uCTCD => k_is)
    (case uCTCC => k_is)
    (case uCDCT => k_is)
    (case uCDCC => k_is)
    (case uCCCT => k_is)
    (case uCCCD => k_is)
    (case v1 => k_is)
    (case v2 => k_is)
    (case v3 => k_is)
    (case v4 => k_is)
    (case v5 => k_is)
    (case v6 => k_is)
    (case e_CNoTask => k_is)
    (case xNoTask_iC => k_is)
    (case xNoTask_cl => k_is)
    (case xNoTask_ve => rfl)
    (case xNoTask_sa => k_is)
    (case xNoTask_ga => k_is)
    (case xNoTask_gg => k_is)
    (case xNoTask_no => k_is)
    (case xNoTask_tC => k_is)
    (case xNoTask_kC => k_is)
    (case xNoTask_ex => k_is)
    (case xNoTask_vs => k_is)
    (case xNoTask_ty => k_is)
    (case xNoTask_hd => k_is)
    (case xNoTask_mr => k_is)
    (case xNoTask_su => ks_is)
    (case xNoTask_an => k_is)
    (case xNoTask_tp => rfl)
    (case xNoTask_fn => k_is)
    (case xNoTask_co => k_is)
    (case xNoTask_cd => k_is)
    (case xNoTask_v2 => rfl)
    (case xNoTask_fi => rfl)
    (case xNoTask_ce => k_is)
    (case xNoTask_tc => k_is)
    (case xNoTask_tm => k_is)
    (case e_CNoDoor => k_is)
    (case xNoDoor_iC => k_is)
    (case xNoDoor_cl => k_is)
    (case xNoDoor_ve => rfl)
    (case xNoDoor_sa => k_is)
    (case xNoDoor_ga => k_is)
    (case xNoDoor_gg => k_is)
    (case xNoDoor_no => k_is)
    (case xNoDoor_tC => k_is)
    (case xNoDoor_kC => k_is)
    (case xNoDoor_ex => k_is)
    (case xNoDoor_vs => k_is)
    (case xNoDoor_ty => k_is)
    (case xNoDoor_hd => k_is)
    (case xNoDoor_mr => k_is)
    (case xNoDoor_su => ks_is)
    (case xNoDoor_an => k_is)
    (case xNoDoor_tp => rfl)
    (case xNoDoor_fn => k_is)
    (case xNoDoor_co => k_is)
    (case xNoDoor_cd => k_is)
    (case xNoDoor_v2 => rfl)
    (case xNoDoor_fi => rfl)
    (case xNoDoor_ce => k_is)
    (case xNoDoor_tc => k_is)
    (case xNoDoor_tm => k_is)
    (case e_CNoCrew => k_is)
    (case xNoCrew_iC => k_is)
    (case xNoCrew_cl => k_is)
    (case xNoCrew_ve => rfl)
    (case xNoCrew_sa => k_is)
    (case xNoCrew_ga => k_is)
    (case xNoCrew_gg => k_is)
    (case xNoCrew_no => k_is)
    (case xNoCrew_tC => k_is)
    (case xNoCrew_kC => k_is)
    (case xNoCrew_ex => k_is)
    (case xNoCrew_vs => k_is)
    (case xNoCrew_ty => k_is)
    (case xNoCrew_hd => k_is)
    (case xNoCrew_mr => k_is)
    (case xNoCrew_su => ks_is)
    (case xNoCrew_an => k_is)
    (case xNoCrew_tp => rfl)
    (case xNoCrew_fn => k_is)
    (case xNoCrew_co => k_is)
    (case xNoCrew_cd => k_is)
    (case xNoCrew_v2 => rfl)
    (case xNoCrew_fi => rfl)
    (case xNoCrew_ce => k_is)
    (case xNoCrew_tc => k_is)
    (case xNoCrew_tm => k_is)
    (case e_CNoName => k_is)
    (case xNoName_iC => k_is)
    (case xNoName_cl => k_is)
    (case xNoName_ve => rfl)
    (case xNoName_sa => k_is)
    (case xNoName_ga => k_is)
    (case xNoName_gg => k_is)
    (case xNoName_no => k_is)
    (case xNoName_tC => k_is)
    (case xNoName_kC => k_is)
    (case xNoName_ex => k_is)
    (case xNoName_vs => k_is)
    (case xNoName_ty => k_is)
    (case xNoName_hd => k_is)
    (case xNoName_mr => k_is)
    (case xNoName_su => ks_is)
    (case xNoName_an => k_is)
    (case xNoName_tp => rfl)
    (case xNoName_fn => k_is)
    (case xNoName_co => k_is)
    (case xNoName_cd => k_is)
    (case xNoName_v2 => rfl)
    (case xNoName_fi => rfl)
    (case xNoName_ce => k_is)
    (case xNoName_tc => k_is)
    (case xNoName_tm => k_is)
    (case e_CTimeError => k_is)
    (case e_CLostError => k_is)
    (case e_CFullError => k_is)
    (case e_CNoTool => k_is)
    (case sNoCrewNoTask => kit_is)
    (case sNoCrewNoDoor => kit_is)
    (case sNoCrewNoTool => kit_is)
    (case sNoCrewFullError => kit_is)
    (case sNoCrewValueError => kit_is)
    (case sNoCrewLookupError => kit_is)
    (case sNoNameNoTask => kit_is)
    (case sNoNameNoDoor => kit_is)
    (case sNoNameNoTool => kit_is)
    (case sNoNameFullError => kit_is)
    (case sNoNameValueError => kit_is)
    (case sNoNameLookupError => kit_is)
    (case sNoNameNoCrew => kit_is)
    (case z_len => k_is)
    (case z_range => k_is)
    (case z_min => k_is)
    (case z_max => k_is)
    (case z_abs => k_is)
    (case z_int => k_is)
    (case z_bool => k_is)
    (case z_str => k_is)
    (case z_tuple => k_is)
    (case z_list => k_is)
    (case z_isinstance => k_is)
    (case z_all => k_is)
    (case z_any => k_is)
    (case z_sum => k_is)
    (case z_zip => k_is)
    (case z_repr => k_is)
    (case z_sorted => k_is)
    (case z_enumerate => k_is)
    (case z_ValueError => k_is)
    (case z_super => k_is)
    (case z_LookupError => k_is)
    (case z_set => k_is)
    (case b_CTimeError => k_is)
    (case h_CTimeError => k_is)
    (case y_CTimeError => k_is)
    (case u_CNoCrew_CTimeError => k_is)
    (case b_CLostError => k_is)
    (case h_CLostError => k_is)
    (case y_CLostError => k_is)
    (case u_CNoCrew_CLostError => k_is)
    (case b_CFullError => k_is)
    (case h_CFullError => k_is)
    (case y_CFullError => k_is)
    (case u_CNoCrew_CFullError => k_is)
    (case u_CNoName_CTimeError => k_is)
    (case u_CNoName_CLostError => k_is)
    (case u_CNoName_CFullError => k_is)

