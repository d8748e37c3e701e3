import PyProof.Rows.All
import Wide.All
import OpenK.AllK
import Wide.FinOn
import HandS.ForMost
import HandS.ForExc
import HandS.IsInst
import HandS.OwnEq
import HandS.Style
import HandS.Flow
import HandS.Walk
import HandS.Zip
import HandS.TupAny
import HandS.Conv
import HandS.MakeKwOnly
import HandS.ExcInit
import HandS.ExcSuper
import KE.KExcSuper
import HandS.ExcCtx
import KE.KTryMore
import HandS.HotCalls
import KE.KExcIs
import HandS.TryOnly
import KE.RegKIsAll
import KE.RegKSuper
import PySem.Challenge.RW_duetimes_k02_tasks_refused
set_option Elab.async false
set_option linter.all false
set_option maxRecDepth 100000
namespace Du
open PySem L2
def topS (i : Nat) : Stmt := PySem.Challenge.pw_duetimes_k02_tasks_refused.main.body.getD i (.Pass ⟨0, 0, 0, 0⟩)
abbrev sNumber : Stmt := topS 23
abbrev sWhole : Stmt := topS 24
abbrev sName : Stmt := topS 25
/-- a def by its name -/
structure Dn (P : Program) (w : World) (K : PySem.W.Frag) (mg : Str → Option Value) (base : Heap) (k : Nat) (x : Str) (ps : List Str) (sp : Sp) : Prop where
  ex : ∃ (f : Addr) (fd : FuncData), FnOk P w K mg base CX0 k f fd ps sp ∧ mg x = some (.ref f) ∧ PySem.W.keepIn K (.ref f) = true ∧ Binds K fd ps []
theorem pcall {X : Cx} {k : Nat} {x : Str} {ps : List Str} {sp : Sp} {p pos : Pos} {e : Expr} {es : List Expr} {t : TA} (D : Dn X.prog X.w X.K X.mg X.base k x ps sp) (hr : Room k X.A) (hg : Gl X x) (ha : PA X (e :: es) t)
    (hdb : (x == ("__debug__" : Str)) = false := by decide) (he : starEach (e :: es) X.env = (false, eval e X.env) :: starEach es X.env := by rfl) (hpl : (backTo pos (starEach es X.env)).any (·.1) = false := by rfl) :
    PE X (.Call (.Name x p) (e :: es) [] pos) (tCall sp [] E0 t) := by
  obtain ⟨f, fd, F, hm, hk, hb⟩ := D.ex
  exact pe_call F hr hg hm hk hb .nil pass0 ha hdb he hpl
theorem Dn.mono {P : Program} {w : World} {K : PySem.W.Frag} {mg : Str → Option Value} {base : Heap} {j k : Nat} {x : Str} {ps : List Str} {sp : Sp} (D : Dn P w K mg base j x ps sp) (h : j ≤ k) : Dn P w K mg base k x ps sp := by
  obtain ⟨f, fd, F, hm, hk, hb⟩ := D.ex
  exact ⟨f, fd, F.mono h, hm, hk, hb⟩
section
variable {P : Program} {w : World} {K : PySem.W.Frag} {mg : Str → Option Value} {base : Heap}
/-! is_number -/
theorem scNumber : FnScope ["thing"] ["thing"] (defScope sNumber) := ⟨rfl, rfl, rfl, by decide +kernel, rfl, by decide +kernel, by decide +kernel⟩
def spNumber (K : PySem.W.Frag) : Sp := fun vs H Q _ => ∃ x : V, vs = [x] ∧
  ((∃ i : Int, x = .int i ∧ Q (.bl true) H) ∨ (∃ b : Bool, x = .bl b ∧ Q (.bl false) H) ∨ (∃ t, TyX K H x t ∧ PySem.W.kitOne K t (.type "int") = some false ∧ Q (.bl false) H))
theorem ok_number {f : Addr} {fd : FuncData} (F : Fun K "is_number" "is_number" sNumber f fd) (mI : mg "isinstance" = none) (mi : mg "int" = none) (mb : mg "bool" = none) :
    FnOk P w K mg base CX0 1 f fd ["thing"] (spNumber K) := by
  refine F.ok scNumber (fun vs H Q E h => ?_) (fun cdv A outer s H vs Q E hr h => ?_)
  · obtain ⟨x, rfl, _⟩ := h
    rfl
  · obtain ⟨x, rfl, h⟩ := h
    refine ⟨_, pss_one (ps_ret (pe_and (pe_callB call_isi (by rfl) mI (by decide +kernel) (pa_cons (pv 0) (pa_cons (pe_bltn (v := .ty "int") (by rfl) mi (by decide +kernel) rfl) pa_nil)))
      (pe_one (pe_not (pe_callB call_isi (by rfl) mI (by decide +kernel) (pa_cons (pv 0) (pa_cons (pe_bltn (v := .ty "bool") (by rfl) mb (by decide +kernel) rfl) pa_nil))))))), ?_⟩
    rcases h with ⟨i, rfl, q⟩ | ⟨b, rfl, q⟩ | ⟨t, ht, ht2, q⟩
    · refine ⟨_, rfl, _, _, _, _, true, rfl, .ty "int", .base (.int _), kit_ty (by decide +kernel), true, rfl, ?_⟩
      exact iteT ⟨_, rfl, _, _, _, _, false, rfl, .ty "bool", .base (.int _), kit_ty (by decide +kernel), false, rfl, q⟩
    · refine ⟨_, rfl, _, _, _, _, true, rfl, .ty "int", .base (.bl _), kit_ty (by decide +kernel), true, rfl, ?_⟩
      exact iteT ⟨_, rfl, _, _, _, _, true, rfl, .ty "bool", .base (.bl _), kit_ty (by decide +kernel), true, rfl, q⟩
    · refine ⟨_, rfl, _, _, _, _, false, rfl, .ty "int", ht, ht2, false, rfl, ?_⟩
      exact iteF q
/-! is_whole -/
theorem scWhole : FnScope ["thing", "least", "most"] ["thing", "least", "most"] (defScope sWhole) := ⟨rfl, rfl, rfl, by decide +kernel, rfl, by decide +kernel, by decide +kernel⟩
def spWhole (K : PySem.W.Frag) : Sp := fun vs H Q _ => ∃ (x : V) (lo hi : Int), vs = [x, .int lo, .int hi] ∧
  ((∃ i : Int, x = .int i ∧ Q (.bl (decide (lo ≤ i) && decide (i ≤ hi))) H) ∨ (∃ b : Bool, x = .bl b ∧ Q (.bl false) H) ∨ (∃ t, TyX K H x t ∧ PySem.W.kitOne K t (.type "int") = some false ∧ Q (.bl false) H))
theorem ok_whole {f : Addr} {fd : FuncData} (F : Fun K "is_whole" "is_whole" sWhole f fd) (DU : Dn P w K mg base 1 "is_number" ["thing"] (spNumber K)) :
    FnOk P w K mg base CX0 2 f fd ["thing", "least", "most"] (spWhole K) := by
  refine F.ok scWhole (fun vs H Q E h => ?_) (fun cdv A outer s H vs Q E hr h => ?_)
  · obtain ⟨x, lo, hi, rfl, _⟩ := h
    rfl
  · obtain ⟨x, lo, hi, rfl, h⟩ := h
    refine ⟨_, pss_one (ps_ret (pe_and (pcall DU hr (by rfl) (pa_cons (pv 0) pa_nil)) (pe_one (pe_chain op_le op_le (pv 1) (pv 0) (pv 2))))), ?_⟩
    rcases h with ⟨i, rfl, q⟩ | ⟨b, rfl, q⟩ | ⟨t, ht, ht2, q⟩
    · refine ⟨_, rfl, _, rfl, .inl ⟨i, rfl, true, rfl, ?_⟩⟩
      refine iteT ⟨_, rfl, _, rfl, _, _, rfl, rfl, _, rfl, ?_⟩
      by_cases h1 : lo ≤ i
      · rw [decide_eq_true h1] at q ⊢
        refine iteT ⟨_, rfl, _, _, rfl, rfl, ?_⟩
        simpa using q
      · rw [decide_eq_false h1] at q ⊢
        exact iteF (by simpa using q)
    · refine ⟨_, rfl, _, rfl, .inr (.inl ⟨b, rfl, false, rfl, ?_⟩)⟩
      exact iteF q
    · refine ⟨_, rfl, _, rfl, .inr (.inr ⟨t, ht, ht2, false, rfl, ?_⟩)⟩
      exact iteF q
end
end Du

set_option Elab.async false
set_option linter.all false
set_option maxRecDepth 100000
namespace Du
open PySem L2
section
variable {P : Program} {w : World} {K : PySem.W.Frag} {mg : Str → Option Value} {base : Heap}
theorem same_upd {H : Hp} {p : Addr} {o : HO} (h : H p = none) : Same H (upd H p o) := fun b x e => by
  rw [upd_ne (ne_of_none e h)]
  exact e
/-- all but one new address stays -/
theorem same_upd2 {H H1 : Hp} {p : Addr} {o : HO} (s : Same H H1) (h : H p = none) : Same H (upd H1 p o) := fun b x e => by
  rw [upd_ne (ne_of_none e h)]
  exact s _ _ e
theorem take_map1 {α β : Type} {l : List α} {i : Nat} {x : α} (f : α → β) (h : l[i]? = some x) : (l.take (i + 1)).map f = (l.take i).map f ++ [f x] := by
  rw [List.take_add_one, h, List.map_append]
  rfl
/-! is_name -/
def letters : Str := "abcdefghijklmnopqrstuvwxyz"
def isLetter (c : Nat) : Bool := decide (c ∈ letters.cps.toList)
def isNm (z : Str) : Bool := decide (1 ≤ z.length) && (decide (z.length ≤ 8) && z.cps.toList.all isLetter)
theorem scName : FnScope ["thing", "sign"] ["thing"] (defScope sName) := ⟨rfl, rfl, rfl, by decide +kernel, rfl, by decide +kernel, by decide +kernel⟩
def spName (K : PySem.W.Frag) : Sp := fun vs H Q _ => ∃ x : V, vs = [x] ∧
  ((∃ z : Str, x = .str z ∧ z.length ≤ sizeLine ∧ ∀ H', Same H H' → Q (.bl (isNm z)) H') ∨ (∃ t, TyX K H x t ∧ PySem.W.kitOne K t (.type "str") = some false ∧ Q (.bl false) H))
theorem ok_name {f : Addr} {fd : FuncData} (F : Fun K "is_name" "is_name" sName f fd) (mI : mg "isinstance" = none) (ms : mg "str" = none) (ml : mg "len" = none) (ma : mg "all" = none)
    (mM : ∃ t, mg "MOST_LETTERS" = some (.int 8 t)) (mL : ∃ t, mg "LETTERS" = some (.str letters t)) :
    FnOk P w K mg base CX0 2 f fd ["thing"] (spName K) := by
  obtain ⟨tM, mM⟩ := mM
  obtain ⟨tL, mL⟩ := mL
  refine F.ok scName (fun vs H Q E h => ?_) (fun cdv A outer s H vs Q E hr h => ?_)
  · obtain ⟨x, rfl, _⟩ := h
    rfl
  · obtain ⟨x, rfl, h⟩ := h
    refine ⟨_, pss_cons (ps_if (PW.pt (pw_or (pt_not (pt_val (pe_callB call_isi (by rfl) mI (by decide +kernel) (pa_cons (pv 0) (pa_cons (pe_bltn (v := .ty "str") (by rfl) ms (by decide +kernel) rfl) pa_nil)))))
        (pw_or1 (pt_not (pt_chain op_le op_le pe_int (pe_callB call_len_str (by rfl) ml (by decide +kernel) (pa_cons (pv 0) pa_nil)) (pe_glob (v := .int 8) rfl mM ⟨_, rfl⟩))))))
        (pss_one (ps_ret pe_bl)) pss_nil)
      (pss_one (ps_ret (pe_callB (cr_all rfl) (by rfl) ma (by decide +kernel) (pa_cons (pe_lc (own := [("sign", 1)]) (g := gName 1) (tt := tYes) rfl scName.nd (pi_str (pv 0))
        (blkOk_by (N := ["thing", "sign"]) (sc := defScope sName) (by decide +kernel)) (fun _ _ _ _ _ => pg_name (i := 1) scName.nd rfl (Or.inl rfl)) (fun _ _ _ _ _ => pts_nil)
        (fun _ _ _ _ _ => pe_cmpR op_in_sign (pv 1) (pe_glob (v := .str letters) rfl mL ⟨_, rfl⟩) (by rfl))) pa_nil)))), ?_⟩
    rcases h with ⟨z, rfl, hz, q⟩ | ⟨t, ht, ht2, q⟩
    · refine ⟨_, rfl, _, _, _, _, true, rfl, .ty "str", .base (.str _), kit_ty (by decide +kernel), true, rfl, ?_⟩
      refine iteF ⟨_, rfl, z, rfl, hz, _, _, rfl, rfl, _, rfl, ?_⟩
      by_cases h1 : 1 ≤ z.length
      · have e1 : decide ((1 : Int) ≤ ((z.length : Nat) : Int)) = true := decide_eq_true (by omega)
        rw [e1]
        refine iteT ⟨_, _, rfl, rfl, _, rfl, ?_⟩
        by_cases h2 : z.length ≤ 8
        · have e2 : decide (((z.length : Nat) : Int) ≤ 8) = true := decide_eq_true (by omega)
          rw [e2]
          refine iteF ?_
          -- the comprehension
          refine ⟨_, rfl, z, rfl, fun D nD => lc_it walk_str (fun i H' => Same H H' ∧ H' D = some (.lst ((z.cps.toList.take i).map fun c => V.bl (isLetter c)))) ⟨same_upd nD, upd_same⟩ (fun _ _ _ _ => trivial) ?_ ?_⟩
          · rintro i x H1 H2 hi ⟨s1, e⟩ ⟨rfl, c, hc, rfl⟩
            have hc' : z.cps.toList[i]? = some c := by simpa using hc
            refine ⟨rfl, _, rfl, c, letters, rfl, rfl, _, e, ?_, same_upd2 s1 nD, ?_⟩
            · rw [List.length_map, List.length_take]
              have : z.cps.toList.length = z.length := by simp [Str.length]
              have h9 : z.length < sizeLine := Nat.lt_of_le_of_lt h2 (by decide)
              omega
            · rw [upd_same, take_map1 _ hc']
              rfl
          · rintro H1 ⟨s1, e⟩
            have el : z.cps.toList.take z.cps.size = z.cps.toList := by
              rw [List.take_of_length_le]
              simp
            rw [el] at e
            refine ⟨D, z.cps.toList.map isLetter, rfl, SqL.of (by rw [e, List.map_map]; rfl), ?_⟩
            have q' := q H1 s1
            have eb : isNm z = (z.cps.toList.map isLetter).all id := by
              unfold isNm
              rw [decide_eq_true h1, decide_eq_true h2, List.all_map]
              rfl
            rw [eb] at q'
            exact q'
        · have e2 : decide (((z.length : Nat) : Int) ≤ 8) = false := decide_eq_false (by omega)
          rw [e2]
          refine iteT ?_
          have q' := q H (Same.refl _)
          unfold isNm at q'
          rw [decide_eq_false h2] at q'
          have q2 : Q (V.bl false) H := by simpa using q'
          exact q2
      · have e1 : decide ((1 : Int) ≤ ((z.length : Nat) : Int)) = false := decide_eq_false (by omega)
        rw [e1]
        refine iteF ⟨_, rfl, ?_⟩
        have q' := q H (Same.refl _)
        unfold isNm at q'
        rw [decide_eq_false h1] at q'
        have q2 : Q (V.bl false) H := by simpa using q'
        exact q2
    · refine ⟨_, rfl, _, _, _, _, false, rfl, .ty "str", ht, ht2, false, rfl, ?_⟩
      exact iteT (iteT q)
end
end Du

set_option Elab.async false
set_option linter.all false
set_option maxRecDepth 100000
namespace Du
open PySem L2
abbrev sHold : Stmt := topS 26
abbrev sAhead : Stmt := topS 27
abbrev sHolds : Stmt := topS 28
section
variable {P : Program} {w : World} {K : PySem.W.Frag} {mg : Str → Option Value} {base : Heap}
theorem tyx_tup {H : Hp} {a : Addr} {xs : List V} (h : SqT K H a xs) : TyX K H (.ref a) (.type "tuple") := by
  rcases h with (h | ⟨o, h⟩) | ⟨o, its, n, hk, hc, _⟩
  · exact .base (.tup h)
  · exact .fTuple h
  · exact .kTuple hk hc
theorem kit_tt : PySem.W.kitOne K (.type "tuple") (.type "tuple") = some true := kit_ty (by decide +kernel)
theorem walk_zipT {a b : Addr} {xs ys : List V} {n : Nat} (hn : n = min xs.length ys.length) : Walk (RZ.ItzT K a b) n (fun H => SqT K H a xs ∧ SqT K H b ys) (YPair (fun i => xs[i]?) (fun i => ys[i]?)) := by
  refine ⟨fun i H hi q => ?_, fun H q => ⟨xs, ys, q.1, q.2, by omega⟩, fun i H v H' hi q y => ?_⟩
  · exact ⟨xs, ys, xs[i]'(by omega), ys[i]'(by omega), q.1, q.2, List.getElem?_eq_getElem (by omega), List.getElem?_eq_getElem (by omega)⟩
  · obtain ⟨T, x, z, h1, h2, h3, h4, h5⟩ := y
    exact ⟨T, x, z, h1, h2, h3, h4 xs q.1, h5 ys q.2⟩
/-! is_hold -/
abbrev Hold := Str × Int × Int
def isHd (h : Hold) (cost : Int) : Bool := isNm h.1 && ((decide (0 ≤ h.2.1) && decide (h.2.1 ≤ cost)) && (decide (1 ≤ h.2.2) && decide (h.2.2 ≤ cost - h.2.1)))
def HdAt (K : PySem.W.Frag) (H : Hp) (v : V) (h : Hold) : Prop := ∃ a, v = .ref a ∧ SqT K H a [.str h.1, .int h.2.1, .int h.2.2]
theorem HdAt.same {H H' : Hp} {v : V} {h : Hold} (d : HdAt K H v h) (s : Same H H') : HdAt K H' v h := by
  obtain ⟨a, e, q⟩ := d
  exact ⟨a, e, q.ext s⟩
theorem scHold : FnScope ["thing", "cost", "tool", "start", "long"] ["thing", "cost"] (defScope sHold) := ⟨rfl, rfl, rfl, by decide +kernel, rfl, by decide +kernel, by decide +kernel⟩
def spHold (K : PySem.W.Frag) : Sp := fun vs H Q _ => ∃ (v : V) (h : Hold) (cost : Int), vs = [v, .int cost] ∧ HdAt K H v h ∧ h.1.length ≤ sizeLine ∧ ∀ H', Same H H' → Q (.bl (isHd h cost)) H'
theorem ok_hold {f : Addr} {fd : FuncData} (F : Fun K "is_hold" "is_hold" sHold f fd) (mI : mg "isinstance" = none) (mt : mg "tuple" = none) (ml : mg "len" = none)
    (DN : Dn P w K mg base 2 "is_name" ["thing"] (spName K)) (DW : Dn P w K mg base 2 "is_whole" ["thing", "least", "most"] (spWhole K)) :
    FnOk P w K mg base CX0 3 f fd ["thing", "cost"] (spHold K) := by
  refine F.ok scHold (fun vs H Q E h => ?_) (fun cdv A outer s H vs Q E hr h => ?_)
  · obtain ⟨v, h, cost, rfl, _⟩ := h
    rfl
  · obtain ⟨v, h, cost, rfl, ⟨a, rfl, hS⟩, hl, q⟩ := h
    refine ⟨_, pss_cons (ps_if (PW.pt (pw_or (pt_not (pt_val (pe_callB call_isi (by rfl) mI (by decide +kernel) (pa_cons (pv 0) (pa_cons (pe_bltn (v := .ty "tuple") (by rfl) mt (by decide +kernel) rfl) pa_nil)))))
        (pw_or1 (pt_cmpR op_ne (pe_callB call_len_seq (by rfl) ml (by decide +kernel) (pa_cons (pv 0) pa_nil)) pe_int (nomark _)))))
        (pss_one (ps_ret pe_bl)) pss_nil)
      (pss_cons (ps_asg (pv 0) (pg_tup rfl (pgs_cons (pg_name (i := 2) scHold.nd rfl (.inl rfl)) (pgs_cons (pg_name (i := 3) scHold.nd rfl (.inl rfl)) (pgs_cons (pg_name (i := 4) scHold.nd rfl (.inl rfl)) pgs_nil)))))
      (pss_one (ps_ret (pe_and (pcall DN hr (by rfl) (pa_cons (pv 2) pa_nil)) (pe_and (pcall DW hr (by rfl) (pa_cons (pv 3) (pa_cons pe_int (pa_cons (pv 1) pa_nil))))
        (pe_one (pcall DW hr (by rfl) (pa_cons (pv 4) (pa_cons pe_int (pa_cons (pe_op op_sub (pv 1) (pv 3)) pa_nil)))))))))), ?_⟩
    refine ⟨_, rfl, _, _, _, _, true, rfl, .ty "tuple", tyx_tup hS, kit_tt, true, rfl, ?_⟩
    refine ⟨_, rfl, a, _, rfl, .inr hS, rfl, _, rfl, ?_⟩
    show if (!decide ((V.int (3 : Nat)) = V.int 3)) = true then _ else _
    refine iteNS rfl ?_
    refine ⟨_, rfl, a, _, rfl, hS, rfl, _, _, rfl, _, _, rfl, _, _, rfl, rfl, ?_⟩
    -- the three questions
    refine ⟨_, rfl, _, rfl, .inl ⟨h.1, rfl, hl, fun H1 s1 => ⟨_, rfl, ?_⟩⟩⟩
    cases e1 : isNm h.1 with
    | false =>
      have q1 := q H1 s1
      unfold isHd at q1
      rw [e1] at q1
      exact q1
    | true =>
      refine ⟨_, rfl, _, rfl, _, _, _, rfl, .inl ⟨_, rfl, _, rfl, ?_⟩⟩
      cases e2 : (decide (0 ≤ h.2.1) && decide (h.2.1 ≤ cost)) with
      | false =>
        have q1 := q H1 s1
        unfold isHd at q1
        rw [e1, e2] at q1
        exact q1
      | true =>
        refine ⟨_, rfl, _, rfl, _, rfl, _, _, rfl, rfl, _, _, _, rfl, .inl ⟨_, rfl, ?_⟩⟩
        have q1 := q H1 s1
        unfold isHd at q1
        rw [e1, e2] at q1
        exact q1
/-! goes_ahead -/
def ahead (h g : Hold) : Bool := if h.1 = g.1 then decide (h.2.1 + h.2.2 ≤ g.2.1) else decide (h.1.cps.toList < g.1.cps.toList)
theorem scAhead : FnScope ["hold", "other", "tool", "start", "long"] ["hold", "other"] (defScope sAhead) := ⟨rfl, rfl, rfl, by decide +kernel, rfl, by decide +kernel, by decide +kernel⟩
def spAhead (K : PySem.W.Frag) : Sp := fun vs H Q _ => ∃ (v u : V) (h g : Hold), vs = [v, u] ∧ HdAt K H v h ∧ HdAt K H u g ∧ Q (.bl (ahead h g)) H
theorem ok_ahead {f : Addr} {fd : FuncData} (F : Fun K "goes_ahead" "goes_ahead" sAhead f fd) : FnOk P w K mg base CX0 2 f fd ["hold", "other"] (spAhead K) := by
  refine F.ok scAhead (fun vs H Q E h => ?_) (fun cdv A outer s H vs Q E hr h => ?_)
  · obtain ⟨v, u, h, g, rfl, _⟩ := h
    rfl
  · obtain ⟨v, u, h, g, rfl, ⟨a, rfl, hS⟩, ⟨b, rfl, hT⟩, q⟩ := h
    refine ⟨_, pss_cons (ps_asg (pv 0) (pg_tup rfl (pgs_cons (pg_name (i := 2) scAhead.nd rfl (.inl rfl)) (pgs_cons (pg_name (i := 3) scAhead.nd rfl (.inl rfl)) (pgs_cons (pg_name (i := 4) scAhead.nd rfl (.inl rfl)) pgs_nil)))))
      (pss_cons (ps_if (pt_cmpR op_eq (pv 2) (pe_ix ix_tup (pv 1) pe_int (fun _ _ => rfl)) (nomark _))
        (pss_one (ps_ret (pe_cmpR op_le (pe_op op_add (pv 3) (pv 4)) (pe_ix ix_tup (pv 1) pe_int (fun _ _ => rfl)) (nomark _)))) pss_nil)
      (pss_one (ps_ret (pe_cmpR op_lt_str (pv 2) (pe_ix ix_tup (pv 1) pe_int (fun _ _ => rfl)) (nomark _))))), ?_⟩
    refine ⟨_, rfl, a, _, rfl, hS, rfl, _, _, rfl, _, _, rfl, _, _, rfl, rfl, ?_⟩
    refine ⟨_, rfl, _, rfl, b, _, _, _, rfl, rfl, hT, at_of (j := 0) rfl rfl, rfl, _, rfl, ?_⟩
    by_cases hz : h.1 = g.1
    · have e1 : decide (V.str h.1 = V.str g.1) = true := decide_eq_true (by rw [hz])
      rw [e1]
      refine iteT ⟨_, rfl, _, rfl, _, _, rfl, rfl, _, rfl, b, _, _, _, rfl, rfl, hT, at_of (j := 1) rfl rfl, _, _, rfl, rfl, ?_⟩
      unfold ahead at q
      rw [if_pos hz] at q
      exact q
    · have e1 : decide (V.str h.1 = V.str g.1) = false := decide_eq_false (fun e => hz (V.str.inj e))
      rw [e1]
      refine iteF ⟨_, rfl, _, rfl, b, _, _, _, rfl, rfl, hT, at_of (j := 0) rfl rfl, _, _, rfl, rfl, ?_⟩
      unfold ahead at q
      rw [if_neg hz] at q
      exact q
end
end Du

set_option Elab.async false
set_option linter.all false
set_option maxRecDepth 100000
namespace Du
open PySem L2
section
variable {P : Program} {w : World} {K : PySem.W.Frag} {mg : Str → Option Value} {base : Heap}
/-! are_holds -/
def HdsAt (K : PySem.W.Frag) (H : Hp) (t : Addr) (hs : List Hold) : Prop := ∃ vs : List V, SqT K H t vs ∧ vs.length = hs.length ∧ ∀ (i : Nat) v h, vs[i]? = some v → hs[i]? = some h → HdAt K H v h
theorem HdsAt.same {H H' : Hp} {t : Addr} {hs : List Hold} (d : HdsAt K H t hs) (s : Same H H') : HdsAt K H' t hs := by
  obtain ⟨vs, h1, h2, h3⟩ := d
  exact ⟨vs, h1.ext s, h2, fun i v h e1 e2 => (h3 i v h e1 e2).same s⟩
def areHds (hs : List Hold) (cost : Int) : Bool := decide (hs.length ≤ 4) && (hs.all (fun h => isHd h cost) && (hs.zip (hs.drop 1)).all fun p => ahead p.1 p.2)
theorem scHolds : FnScope ["thing", "cost", "hold", "other"] ["thing", "cost"] (defScope sHolds) := ⟨rfl, rfl, rfl, by decide +kernel, rfl, by decide +kernel, by decide +kernel⟩
def spHolds (K : PySem.W.Frag) : Sp := fun vs H Q _ => ∃ (t : Addr) (hs : List Hold) (cost : Int), vs = [.ref t, .int cost] ∧ HdsAt K H t hs ∧ (∀ h ∈ hs, h.1.length ≤ sizeLine) ∧ ∀ H', Same H H' → Q (.bl (areHds hs cost)) H'
theorem cut1 (xs : List V) : cutV xs (some 1) none = xs.drop 1 := by
  unfold cutV
  rw [show HT.sIx xs.length 0 (some 1) = min 1 xs.length from HT.sIx_nat xs.length 0 1, HT.sIx_none]
  cases xs with
  | nil => rfl
  | cons x r =>
    rw [show min 1 (x :: r).length = 1 by rw [List.length_cons]; omega]
    show (List.take ((x :: r).length - 1) r) = r
    rw [List.length_cons, Nat.add_sub_cancel, List.take_length]
theorem getmem {α : Type} {l : List α} {i : Nat} {x : α} (h : l[i]? = some x) : x ∈ l := List.mem_of_getElem? h
theorem ok_holds {f : Addr} {fd : FuncData} (F : Fun K "are_holds" "are_holds" sHolds f fd) (mI : mg "isinstance" = none) (mt : mg "tuple" = none) (ml : mg "len" = none) (ma : mg "all" = none) (mz : mg "zip" = none)
    (mM : ∃ t, mg "MOST_HOLDS" = some (.int 4 t)) (DH : Dn P w K mg base 3 "is_hold" ["thing", "cost"] (spHold K)) (DA : Dn P w K mg base 2 "goes_ahead" ["hold", "other"] (spAhead K)) :
    FnOk P w K mg base CX0 4 f fd ["thing", "cost"] (spHolds K) := by
  obtain ⟨tM, mM⟩ := mM
  refine F.ok scHolds (fun vs H Q E h => ?_) (fun cdv A outer s H vs Q E hr h => ?_)
  · obtain ⟨t, hs, cost, rfl, _⟩ := h
    rfl
  · obtain ⟨t, hs, cost, rfl, ⟨vs, hS, hvl, hat⟩, hl, q⟩ := h
    have hr1 : Room 2 _ := hr.mono (by decide)
    refine ⟨_, pss_cons (ps_if (PW.pt (pw_or (pt_not (pt_val (pe_callB call_isi (by rfl) mI (by decide +kernel) (pa_cons (pv 0) (pa_cons (pe_bltn (v := .ty "tuple") (by rfl) mt (by decide +kernel) rfl) pa_nil)))))
        (pw_or1 (pt_cmpR op_gt (pe_callB call_len_seq (by rfl) ml (by decide +kernel) (pa_cons (pv 0) pa_nil)) (pe_glob (v := .int 4) rfl mM ⟨_, rfl⟩) (nomark _)))))
        (pss_one (ps_ret pe_bl)) pss_nil)
      (pss_cons (ps_if (pt_not (pt_val (pe_callB (cr_all rfl) (by rfl) ma (by decide +kernel) (pa_cons (pe_lc (own := [("hold", 2)]) (g := gName 2) (tt := tYes) rfl scHolds.nd (pi_tup (pv 0))
        (blkOk_by (N := ["thing", "cost", "hold", "other"]) (sc := defScope sHolds) (by decide +kernel)) (fun _ _ _ _ _ => pg_name (i := 2) scHolds.nd rfl (Or.inl rfl)) (fun _ _ _ _ _ => pts_nil)
        (fun _ _ _ _ _ => pcall DH hr (by rfl) (pa_cons (pv 2) (pa_cons (pv 1) pa_nil)))) pa_nil)))) (pss_one (ps_ret pe_bl)) pss_nil)
      (pss_one (ps_ret (pe_callB (cr_all rfl) (by rfl) ma (by decide +kernel) (pa_cons (pe_lc (own := [("hold", 2), ("other", 3)]) (g := gTup K 2 (gCons (gName 2) (gCons (gName 3) gNil))) (tt := tYes) rfl scHolds.nd
        (RZ.pi_zipA (by rfl) mz (pa_cons (pv 0) (pa_cons (pe_slice sl_tupA (pv 0) (po_some pe_int) po_none) pa_nil)))
        (blkOk_by (N := ["thing", "cost", "hold", "other"]) (sc := defScope sHolds) (by decide +kernel))
        (fun _ _ _ _ _ => pg_tup rfl (pgs_cons (pg_name (i := 2) scHolds.nd rfl (Or.inl rfl)) (pgs_cons (pg_name (i := 3) scHolds.nd rfl (Or.inl rfl)) pgs_nil))) (fun _ _ _ _ _ => pts_nil)
        (fun _ _ _ _ _ => pcall DA hr1 (by rfl) (pa_cons (pv 2) (pa_cons (pv 3) pa_nil)))) pa_nil))))), ?_⟩
    refine ⟨_, rfl, _, _, _, _, true, rfl, .ty "tuple", tyx_tup hS, kit_tt, true, rfl, ?_⟩
    refine ⟨_, rfl, t, _, rfl, .inr hS, _, _, rfl, rfl, _, rfl, ?_⟩
    rw [hvl]
    by_cases h4 : hs.length ≤ 4
    · have e1 : decide ((4 : Int) < ((hs.length : Nat) : Int)) = false := decide_eq_false (by omega)
      rw [e1]
      refine iteF ?_
      -- [is_hold(hold, cost) for hold in thing]
      refine ⟨_, rfl, t, rfl, ⟨vs, hS⟩, fun D nD => lc_tup (K := K) (a := t) (xs := vs) (fun i H' => Same H H' ∧ H' D = some (.lst ((hs.take i).map fun h => V.bl (isHd h cost)))) ⟨same_upd nD, upd_same⟩ (fun i H' _ z => hS.ext z.1) ?_ ?_⟩
      · rintro i x H1 hx ⟨s1, e⟩
        have hi : i < hs.length := by
          rw [← hvl]
          exact (List.getElem?_eq_some_iff.mp hx).1
        have hh : hs[i]? = some hs[i] := List.getElem?_eq_getElem hi
        refine ⟨rfl, _, rfl, _, rfl, x, hs[i], cost, rfl, (hat i x _ hx hh).same s1, hl _ (getmem hh), fun H2 s2 => ⟨_, s2 _ _ e, ?_, same_upd2 (s1.trans s2) nD, ?_⟩⟩
        · rw [List.length_map, List.length_take]
          exact Nat.lt_of_le_of_lt (Nat.min_le_right _ _) (Nat.lt_of_le_of_lt h4 (by decide))
        · rw [upd_same, take_map1 _ hh]
      · rintro H1 ⟨s1, e⟩
        rw [hvl, List.take_of_length_le (Nat.le_refl _)] at e
        refine ⟨D, hs.map (fun h => isHd h cost), rfl, SqL.of (by rw [e, List.map_map]; rfl), _, rfl, ?_⟩
        have ea : (hs.map fun h => isHd h cost).all id = hs.all fun h => isHd h cost := by
          rw [List.all_map]
          rfl
        rw [ea]
        cases eb : hs.all fun h => isHd h cost with
        | false =>
          have q1 := q H1 s1
          unfold areHds at q1
          rw [eb, decide_eq_true h4] at q1
          exact q1
        | true =>
          refine iteF ?_
          -- [goes_ahead(hold, other) for hold, other in zip(thing, thing[1:])]
          have fin : ∀ (b : Addr) (H2 : Hp), Same H H2 → SqT K H2 b (vs.drop 1) → ∀ (D : Addr), H2 D = none → ∃ W : Nat → Nat → Hp → Prop, (∃ m, W 0 m (upd H2 D (.lst []))) ∧ ∀ i m H, W i m H →
              ((RZ.ItzT K t b).stop i H ∧ rAll K [.ref D] H Q) ∨ ((RZ.ItzT K t b).go i H ∧ ∃ Nx : Hp → Prop, (∀ H', Nx H' → ∃ m', m' < m ∧ W (i + 1) m' H') ∧ ∀ x H', (RZ.ItzT K t b).yld i H x H' →
                gTup K 2 (gCons (gName 2) (gCons (gName 3) gNil)) x (wipe (L2.start ["thing", "cost", "hold", "other"] [V.ref t, V.int cost]) [2, 3]) H' fun σ2 H2 => wipe σ2 [2, 3] = wipe (L2.start ["thing", "cost", "hold", "other"] [V.ref t, V.int cost]) [2, 3] ∧ tYes σ2 H2 fun b H3 =>
                if b = true then tCall (spAhead K) [] E0 (tCons (tVar 2) (tCons (tVar 3) tNil)) σ2 H3 fun y H4 => ∃ acc, H4 D = some (.lst acc) ∧ acc.length < sizeLine ∧ Nx (upd H4 D (.lst (acc ++ [y]))) else Nx H3) := by
            intro b H2 s2 hb D2 nD2
            have hz : (hs.zip (hs.drop 1)).length = hs.length - 1 := by
              rw [List.length_zip, List.length_drop]
              omega
            refine lc_it (walk_zipT (xs := vs) (ys := vs.drop 1) (n := hs.length - 1) (by rw [List.length_drop, hvl]; omega)) (fun i H' => Same H2 H' ∧ H' D2 = some (.lst (((hs.zip (hs.drop 1)).take i).map fun p => V.bl (ahead p.1 p.2)))) ⟨same_upd nD2, upd_same⟩
              (fun i H' _ z => ⟨hS.ext (s2.trans z.1), hb.ext z.1⟩) ?_ ?_
            · rintro i x H3 H4 hi ⟨s3, e3⟩ ⟨T, x1, x2, rfl, nT, rfl, hx1, hx2⟩
              have hi1 : i < hs.length := by omega
              have hi2 : i + 1 < hs.length := by omega
              have g1 : hs[i]? = some hs[i] := List.getElem?_eq_getElem hi1
              have g2 : hs[i + 1]? = some hs[i + 1] := List.getElem?_eq_getElem hi2
              have hx2' : vs[i + 1]? = some x2 := by
                have z : (vs.drop 1)[i]? = some x2 := hx2
                rw [List.getElem?_drop, Nat.add_comm] at z
                exact z
              have sT : Same H3 (upd H3 T (.tup [x1, x2])) := same_upd nT
              have gz : (hs.zip (hs.drop 1))[i]? = some (hs[i], hs[i + 1]) := by
                rw [List.getElem?_zip_eq_some]
                refine ⟨g1, ?_⟩
                rw [List.getElem?_drop, Nat.add_comm]
                exact g2
              have s5 := (s2.trans s3).trans sT
              refine ⟨T, [x1, x2], rfl, SqT.of upd_same, rfl, x1, [x2], rfl, x2, [], rfl, rfl, rfl, _, rfl, _, rfl, x1, x2, hs[i], hs[i + 1], rfl, (hat _ _ _ hx1 g1).same s5, (hat _ _ _ hx2' g2).same s5, _, sT _ _ e3, ?_, same_upd2 (s3.trans sT) nD2, ?_⟩
              · rw [List.length_map, List.length_take]
                exact Nat.lt_of_le_of_lt (Nat.min_le_right _ _) (Nat.lt_of_le_of_lt (show _ ≤ 4 by omega) (by decide))
              · rw [upd_same, take_map1 _ gz]
            · rintro H3 ⟨s3, e3⟩
              rw [List.take_of_length_le (by omega)] at e3
              refine ⟨D2, (hs.zip (hs.drop 1)).map (fun p => ahead p.1 p.2), rfl, SqL.of (by rw [e3, List.map_map]; rfl), ?_⟩
              have q1 := q H3 (s2.trans s3)
              unfold areHds at q1
              rw [eb, decide_eq_true h4] at q1
              rw [List.all_map]
              exact q1
          refine ⟨_, rfl, _, rfl, 1, rfl, t, vs, rfl, hS.ext s1, fun hc => ?_, fun hc p np => ?_⟩
          · have e0 : vs = [] := by
              have h0 := hc.1
              rw [show HT.sIx vs.length 0 (some 1) = min 1 vs.length from HT.sIx_nat vs.length 0 1] at h0
              cases vs with
              | nil => rfl
              | cons x r =>
                rw [List.length_cons] at h0
                omega
            refine ⟨t, t, vs, vs.drop 1, rfl, .inr ⟨hS.ext s1, ?_, fin t H1 s1 ?_⟩⟩
            · rw [e0] at hS ⊢
              exact hS.ext s1
            · rw [e0] at hS ⊢
              exact hS.ext s1
          · have sp := same_upd (o := .tup (cutV vs (some 1) none)) np
            have hb : SqT K (upd H1 p (.tup (cutV vs (some 1) none))) p (vs.drop 1) := by
              rw [← cut1]
              exact SqT.of upd_same
            exact ⟨t, p, vs, vs.drop 1, rfl, .inr ⟨hS.ext (s1.trans sp), hb, fin p _ (s1.trans sp) hb⟩⟩
    · have e1 : decide ((4 : Int) < ((hs.length : Nat) : Int)) = true := decide_eq_true (by omega)
      rw [e1]
      refine iteT ?_
      have q1 := q H (Same.refl _)
      unfold areHds at q1
      rw [decide_eq_false h4] at q1
      exact q1
end
end Du

set_option Elab.async false
set_option linter.all false
set_option maxRecDepth 100000
namespace Du
open PySem L2 PyProof.Rows
section
variable {X : Cx} {CX : CXT} {k : Nat} {f C : Addr} {fd : FuncData} {ps : List Str} {sp : Sp} {pins : List (Addr × Obj)} {σ : L2.St} {H : Hp} {s : Shared}
/-- a call of an own def from somewhere below the body -/
theorem own_call {A : Around} {vs : List V} {us : List Value} {Q : VK} (F : FnOk X.prog X.w X.K X.mg X.base CX0 k f fd ps sp) (hb : Binds X.K fd ps []) (sb : Sub X k A) (I : Inv X pins σ H s) (r : Vals vs us) (h : sp vs H Q E0) :
    wpAny (model X.prog X.w) A (call (.ref f) us) (EP X pins σ Q) X.xe s := by
  have e := I.env0
  have e0 : Env0 X.prog X.w X.K X.mg X.base A X.stack s H := ⟨sb.fr.trans e.frames, e.mod, e.bs, e.bsz, e.funs, e.frf, e.hok, e.bare⟩
  have hl := F.len _ _ _ _ h
  have hu := hb s us I.kIn (by rw [List.append_nil, ← r.length, hl])
  rw [List.append_nil] at hu
  refine wpAny_call (codeAny_mono (F.run A X.stack s H ⟨us, []⟩ us vs Q E0 sb.room e0 hu r h) fun z s' hq => ?_)
  match z, hq with
  | .error _, hq => exact hq.elim
  | .ok (.ret u), hq => exact I.after hq
  | .ok .next, hq => exact hq.elim
  | .ok .brk, hq => exact hq.elim
  | .ok .cont, hq => exact hq.elim
/-- what len wants of an own __len__ -/
def rLenO (C : Addr) (sp : Sp) : List V → Hp → VK → Prop := fun xs H Q => ∃ (a dx : Addr) (fs : List (Str × V)), xs = [.ref a] ∧ H a = some (.ins C dx fs) ∧ sp [.ref a] H (fun v H' => ∃ n : Int, v = .int n ∧ 0 ≤ n ∧ n < 2 ^ 63 ∧ Q (.int n) H') E0
theorem call_lenO (F : FnOk X.prog X.w X.K X.mg X.base CX0 k f fd ps sp) (hb : Binds X.K fd ps []) (hr : Room (k + 1) X.A) (hs : PySem.W.findIn X.K (.ref C) "__len__" = some (some (.ref f))) (hf : PySem.W.isFn X.K (.ref f) = true) :
    CallR X (.builtin "len") (rLenO C sp) := by
  intro pins s σ H xs us Q I r h
  obtain ⟨a, dx, fs, rfl, ha, hsp⟩ := h
  obtain ⟨u, rfl, ru⟩ := vals1 r
  cases ru
  obtain ⟨mA, J, _⟩ := ins_get I.hok ha
  obtain ⟨od, J, _⟩ := J.look
  obtain ⟨m, hF⟩ := I.fr
  refine PySem.W.len_K hF I.ok.mod.kin J hs hf (wpAny_mono (own_call F hb ⟨hr.in1, rfl⟩ I (vs := [.ref a]) (.cons rfl .nil) hsp) (fun v s' q => ?_) fun _ _ z => z)
  obtain ⟨z, H', I', rz, n, rfl, h0, h1, q⟩ := q
  obtain ⟨t, rfl⟩ := rz
  exact ⟨⟨h0, h1⟩, .int n, H', I'.tok _, ⟨_, rfl⟩, q⟩
/-- the body of len over an own __len__ -/
theorem lenO_body {prog : Program} {w : World} {A : Around} {E : Value → Shared → Prop} {K : PySem.W.Frag} {x : Addr} {ox : Obj} {od : Option Obj} {Q : Value → Shared → Prop} (X : K.In s.heap) (I : PySem.W.InstAt s.heap x ox C od)
    (hs : PySem.W.findIn K (.ref C) "__len__" = some (some (.ref f))) (hf : PySem.W.isFn K (.ref f) = true) (h : wpAny (model prog w) A (call (.ref f) [.ref x]) (PySem.W.LenBack Q) E s) :
    wpAny (model prog w) A (Builtin.«len» ⟨[.ref x], []⟩) (fun fin s' => ∃ r, fin = .done (.ret r) ∧ Q r s') E s := by
  unfold Builtin.«len»
  refine wpAny_bind (m := oneArg "len" _) (wpAny_pure (wpAny_bind (m := callSpecial? (.ref x) (Str.ofString "__len__")) (PySem.W.special_fn X I hs (beq_iff_eq.mp hf) (wpAny_mono h (fun r s' hr => ?_) fun _ _ y => y))))
  match r, hr with
  | .int n u, ⟨⟨h0, h1⟩, hq⟩ =>
    refine wpAny_bind (wpAny_holding (wpAny_pure (wpAny_bind (wpAny_letGo ?_))))
    show wpAny _ _ (if n < 0 then _ else if n ≥ 2 ^ 63 then _ else _) _ _ _
    rw [if_neg (Int.not_lt.mpr h0), if_neg (Int.not_le.mpr h1)]; exact wpAny_bind (wpAny_mkInt (wpAny_pure ⟨_, rfl, hq⟩))
theorem truthyO {prog : Program} {w : World} {A : Around} {E : Value → Shared → Prop} {K : PySem.W.Frag} {x : Addr} {ox : Obj} {od : Option Obj} {Q : Bool → Shared → Prop} (X : K.In s.heap) (I : PySem.W.InstAt s.heap x ox C od)
    (hnb : PySem.W.findIn K (.ref C) "__bool__" = some none) (hs : PySem.W.findIn K (.ref C) "__len__" = some (some (.ref f))) (hf : PySem.W.isFn K (.ref f) = true)
    (h : wpAny (model prog w) A.in1 (call (.ref f) [.ref x]) (PySem.W.LenBack fun v s' => ∃ n t, v = .int n t ∧ Q (n != 0) s') E s) : wpAny (model prog w) A (truthy (.ref x)) Q E s := by
  have key : wpAny (model prog w) A (runValue (.builtin "len" ⟨[.ref x], []⟩)) (fun v s' => ∃ n t, v = .int n t ∧ Q (n != 0) s') E s := by
    refine wpAny_runValue (codeAny_builtin entry_len ?_)
    rw [Around.under_plainId plain_len _]
    exact wpAny_mono (lenO_body X I hs hf h) (fun fin s' h' => by obtain ⟨r, rfl, hq⟩ := h'; exact hq) fun _ _ e => e
  unfold truthy
  refine wpAny_bind (m := callSpecial? (.ref x) (Str.ofString "__bool__")) (wpAny_bind (wpAny_bind (I.type.here ((PySem.W.looks_findIn X hnb).here (wpAny_pure ?_)))))
  refine wpAny_bind (wpAny_bind (I.type.here ((PySem.W.looks_findIn X hs).here ?_)))
  refine wpAny_bind (wpAny_mono key (fun v s' q => ?_) fun _ _ e => e)
  obtain ⟨n, t, rfl, q⟩ := q
  exact wpAny_pure q
/-- the truth of an object with an own __len__, as a test -/
theorem pt_lenO {e : Expr} {te : TE} (F : FnOk X.prog X.w X.K X.mg X.base CX0 k f fd ps sp) (hb : Binds X.K fd ps []) (hr : Room (k + 1) X.A) (hnb : PySem.W.findIn X.K (.ref C) "__bool__" = some none)
    (hs : PySem.W.findIn X.K (.ref C) "__len__" = some (some (.ref f))) (hf : PySem.W.isFn X.K (.ref f) = true) (ha : PE X e te)
    (he : ∀ whole, isTrue e X.env whole = (do let v ← whole; standAt e.pos; holding [v] (truthy v)) := by intro _; rfl) :
    PT X e (fun σ H Q => te σ H fun x H' => ∃ (a dx : Addr) (fs : List (Str × V)), x = .ref a ∧ H' a = some (.ins C dx fs) ∧ sp [.ref a] H' (fun v H2 => ∃ n : Int, v = .int n ∧ 0 ≤ n ∧ n < 2 ^ 63 ∧ Q (n != 0) H2) E0) := by
  refine ⟨fun pins s σ H Q I h => isTrue_plain (thn (ha.run pins s σ H _ I h) fun v s1 ⟨x, H1, I1, r1, a, dx, fs, e1, h1, q1⟩ => ?_) (he _)⟩
  subst e1
  cases r1
  obtain ⟨mA, J, _⟩ := ins_get I1.hok h1
  obtain ⟨od, J, _⟩ := J.look
  refine truthyO I1.kIn J hnb hs hf (wpAny_mono (own_call F hb ⟨hr.in1, rfl⟩ I1 (vs := [.ref a]) (.cons rfl .nil) q1) (fun v s' q => ?_) fun _ _ z => z)
  obtain ⟨z, H', I', rz, n, rfl, h0, h2, q⟩ := q
  obtain ⟨t, rfl⟩ := rz
  exact ⟨⟨h0, h2⟩, n, _, rfl, H', I'.tok _, q⟩
/-- len(range(e)) -/
theorem pe_lenRg {e : Expr} {te : L2.St → Hp → (Int → Int → Hp → Prop) → Prop} {p pos : Pos} (hg : Gl X "len") (hm : X.mg "len" = none) (he : PRg X e te) (na : starEach [e] X.env = (false, eval e X.env) :: starEach [] X.env := by rfl) :
    PE X (.Call (.Name "len" p) [e] [] pos) (fun σ H Q => te σ H fun a b H1 => (((b - a).toNat : Nat) : Int) < 2 ^ 63 ∧ Q (.int ((b - a).toNat : Nat)) H1) := by
  refine ⟨fun pins s σ H Q I h => wpAny_Call_Name_kw (ld_blt I hg hm boot_len (callWith_builtin1 (args_cons (thn (he pins s σ H _ I h) fun x s1 ⟨r, a, b, t, u, v, H1, ex, hr, I1, ok, q⟩ => args_nil ?_) na) na))⟩
  subst ex
  exact call_len_range hr (rangeSize_nat a b) ok ⟨.int _, H1, I1.tok _, ⟨_, rfl⟩, q⟩
end
end Du

set_option Elab.async false
set_option linter.all false
set_option maxRecDepth 100000
namespace Du
open PySem L2 PyProof.Rows
section
variable {prog : Program} {w : World} {A : Around} {E : Value → Shared → Prop} {s : Shared} {K : PySem.W.Frag} {x y C f : Addr} {ox : Obj} {od : Option Obj}
/-- object's __ne__ over an own __eq__ -/
theorem neO_body {Q : Fin → Shared → Prop} (hu : A.units < cLine) (X : K.In s.heap) (I : PySem.W.InstAt s.heap x ox C od) (hs : PySem.W.findIn K (.ref C) "__eq__" = some (some (.ref f))) (hf : PySem.W.isFn K (.ref f) = true)
    (h : wpAny (model prog w) A (call (.ref f) [.ref x, .ref y]) (fun v s' => ∃ b, v = .bool b ∧ Q (.done (.ret (.bool (!b)))) s') E s) : wpAny (model prog w) A (Builtin.«object.__ne__» ⟨[.ref x, .ref y], []⟩) Q E s := by
  unfold Builtin.«object.__ne__»
  refine wpAny_bind (m := slotArgs "__ne__" 1 _) (wpAny_pure (wpAny_bind (wpAny_cRoomFor hu ?_)))
  refine wpAny_bind (m := callSpecialIfBound? (.ref x) (Str.ofString "__eq__") [.ref y]) (PySem.W.ifBound_K X I hs hf (wpAny_mono h (fun r s' hr => ?_) fun _ _ e => e))
  obtain ⟨b, rfl, hq⟩ := hr
  exact wpAny_bind (wpAny_truthy_bool (wpAny_pure hq))
theorem neO_try {Q : Option Value → Shared → Prop} (hu : A.units + 1 < cLine) (X : K.In s.heap) (I : PySem.W.InstAt s.heap x ox C od) (hn : PySem.W.findIn K (.ref C) "__ne__" = some (some (.builtin "object.__ne__")))
    (ho : PySem.W.subIn K (.ref C) (.type "object") = some true) (hs : PySem.W.findIn K (.ref C) "__eq__" = some (some (.ref f))) (hf : PySem.W.isFn K (.ref f) = true)
    (h : wpAny (model prog w) A.in1 (call (.ref f) [.ref x, .ref y]) (fun v s' => ∃ b, v = .bool b ∧ Q (some (.bool (!b))) s') E s) : wpAny (model prog w) A (tryCompare (.ref x) (Str.ofString "__ne__") (.ref y)) Q E s := by
  have S := F.cmp_object.ne
  have go : wpAny (model prog w) A (call (.builtin "object.__ne__") [.ref x, .ref y]) (fun v s' => ∃ b, v = .bool b ∧ Q (some (.bool b)) s') E s := by
    refine wpAny_call (codeAny_call_builtin S.plain F.cmpEntry_ne (PySem.W.check_slot F.cmpKind_ne F.cmpSplit_ne (I.type.andThen (PySem.W.looks_subIn X ho)) (F.cmpArgs_ne _ _) ?_))
    exact neO_body hu X I hs hf (wpAny_mono h (fun v s' z => by obtain ⟨b, rfl, q⟩ := z; exact ⟨b, rfl, !b, rfl, q⟩) fun _ _ e => e)
  have fin : wpAny (model prog w) A (call (.builtin "object.__ne__") ([.ref x] ++ [.ref y]) >>= fun v => pure (some v)) (fun r s' => ∃ b, r = some (Value.bool b) ∧ Q (some (.bool b)) s') E s :=
    wpAny_bind (wpAny_mono go (fun v s' z => by obtain ⟨b, rfl, q⟩ := z; exact wpAny_pure ⟨b, rfl, q⟩) fun _ _ e => e)
  unfold tryCompare
  refine wpAny_bind (m := callSpecialIfBound? (.ref x) (Str.ofString "__ne__") [.ref y]) ?_
  have step : wpAny (model prog w) A (callSpecialIfBound? (.ref x) (Str.ofString "__ne__") [.ref y]) (fun r s' => ∃ b, r = some (Value.bool b) ∧ Q (some (.bool b)) s') E s := by
    simp only [callSpecialIfBound?, bindSpecialIfBound?]
    refine wpAny_holding (wpAny_bind (wpAny_bind (wpAny_bind (I.type.here ((PySem.W.looks_findIn X hn).here (wpAny_bind (wpAny_askSetting (wpAny_ite ?_))))))))
    split
    · rw [S.bind]; exact wpAny_bind (wpAny_pure (wpAny_pure (by exact fin)))
    · rw [S.bind]; exact wpAny_tryCatch (wpAny_bind (wpAny_pure (wpAny_pure (by exact fin))))
  refine wpAny_mono step (fun r s' z => ?_) fun _ _ e => e
  obtain ⟨b, rfl, q⟩ := z
  exact wpAny_pure q
theorem neO_rich {Q : Value → Shared → Prop} (hu : A.units + 1 < cLine) (X : K.In s.heap) (I : PySem.W.InstAt s.heap x ox C od) (hy : PySem.W.Looks (model prog w) s.heap (typeOf (.ref y)) (.ref C)) (hn : PySem.W.findIn K (.ref C) "__ne__" = some (some (.builtin "object.__ne__")))
    (ho : PySem.W.subIn K (.ref C) (.type "object") = some true) (hs : PySem.W.findIn K (.ref C) "__eq__" = some (some (.ref f))) (hf : PySem.W.isFn K (.ref f) = true)
    (h : wpAny (model prog w) A.in1 (call (.ref f) [.ref x, .ref y]) (fun v s' => ∃ b, v = .bool b ∧ Q (.bool (!b)) s') E s) : wpAny (model prog w) A (richCompare .NotEq (.ref x) (.ref y)) Q E s := by
  have one : wpAny (model prog w) A (tryCompare (.ref x) (Str.ofString "__ne__") (.ref y)) (fun r s' => ∃ v, r = some v ∧ Q v s') E s :=
    neO_try hu X I hn ho hs hf (wpAny_mono h (fun v s' z => by obtain ⟨b, rfl, q⟩ := z; exact ⟨b, rfl, _, rfl, q⟩) fun _ _ e => e)
  unfold richCompare
  simp only [oneThing_ref, cmpInfo_NotEq]
  refine wpAny_holding (wpAny_bind (wpAny_cRoomFor (Nat.lt_of_succ_lt hu) (wpAny_bind (I.type.here (wpAny_bind (hy.here ?_))))))
  have e : (Value.ref C != Value.ref C) = false := by simp
  simp only [e, Bool.false_eq_true, if_false]
  refine wpAny_bind (wpAny_pure ?_)
  simp only [Bool.false_eq_true, if_false]
  refine wpAny_bind (wpAny_mono one (fun r s' z => ?_) fun _ _ e => e)
  obtain ⟨v, rfl, q⟩ := z
  exact wpAny_pure q
end
/-- x != y of two objects of one class with an own ==, that are equal -/
theorem op_neG {X : Cx} {n : Nat} {C f : Addr} {fd : FuncData} {ps : List Str} {R : Addr → Addr → Hp → Prop} (F : FnOk X.prog X.w X.K X.mg X.base CX0 n f fd ps (spEq R)) (hb : Binds X.K fd ps []) (hr : Room (n + 1) X.A)
    (hn : PySem.W.findIn X.K (.ref C) "__ne__" = some (some (.builtin "object.__ne__"))) (ho : PySem.W.subIn X.K (.ref C) (.type "object") = some true) (hs : PySem.W.findIn X.K (.ref C) "__eq__" = some (some (.ref f))) (hf : PySem.W.isFn X.K (.ref f) = true) :
    OpR X (compareOp .NotEq) (fun x y H Q => DIns C R x y H ∧ ∀ H', Ext H H' → Q (.bl false) H') := by
  intro pins s σ H x y v u Q I rx ry hq
  obtain ⟨⟨a, b, dx, dy, fs, gs, rfl, rfl, ha, hb', hR⟩, q⟩ := hq
  cases rx
  cases ry
  obtain ⟨mA, J, _⟩ := ins_get I.hok ha
  obtain ⟨mB, J', _⟩ := ins_get I.hok hb'
  obtain ⟨od, J, _⟩ := J.look
  obtain ⟨od', J', _⟩ := J'.look
  show wpAny _ _ (richCompare .NotEq (.ref a) (.ref b)) _ _ _
  refine neO_rich (hu_of hr) I.kIn J J'.type hn ho hs hf (wpAny_mono (own_call F hb ⟨hr.in1, rfl⟩ I (vs := [.ref a, .ref b]) (Q := fun v H' => v = .bl true ∧ Q (.bl false) H') (.cons rfl (.cons rfl .nil)) ⟨a, b, rfl, hR, fun H' e => ⟨rfl, q H' e⟩⟩) (fun r s' z => ?_) fun _ _ e => e)
  obtain ⟨v, H', I', rv, rfl, q'⟩ := z
  cases rv
  exact ⟨true, rfl, .bl false, H', I', rfl, q'⟩
/-- repr of data, where nothing is being shown -/
theorem call_reprD {X : Cx} (hg : X.A.guards = some []) (hu : X.A.units + 66 < cLine) : CallR X (.builtin "repr") (fun xs H Q => ∃ (a : Addr) (d : PyData), xs = [.ref a] ∧ Dp X.K H (.ref a) d ∧ d.showable = true ∧ d.hasDict = false ∧ d.depth ≤ 64 ∧ d.shown.length ≤ sizeLine ∧ Q (.str d.shown) H) := by
  intro pins s σ H xs us Q I r h
  obtain ⟨a, d, rfl, hd, h1, h2, h3, h4, q⟩ := h
  obtain ⟨u, rfl, ru⟩ := vals1 r
  cases ru
  obtain ⟨as, hr⟩ := Dp.reads I d _ _ hd rfl
  exact repr_of_reads' hr h1 (PyData.noDict_hsm h2) hg (by omega) (fun _ _ e => e) (fun h' u tk hk => ⟨.str d.shown, H, I.kept hk, ⟨_, rfl⟩, q⟩) h4
end Du

set_option Elab.async false
set_option linter.all false
set_option maxRecDepth 100000
namespace Du
open PySem L2
abbrev sWrongT : Stmt := topS 29
abbrev sInit : Stmt := inClass (topS 31) 0
abbrev sEq : Stmt := inClass (topS 31) 2
abbrev sLen : Stmt := inClass (topS 31) 3
def tf (n : Str) (c g d : Int) (t : Addr) : List (Str × V) := [("name", .str n), ("cost", .int c), ("gap", .int g), ("due", .int d), ("holds", .ref t)]
theorem tf_name (n : Str) (c g d : Int) (t : Addr) : (tf n c g d t).lookup ("name" : Str) = some (.str n) := rfl
theorem tf_cost (n : Str) (c g d : Int) (t : Addr) : (tf n c g d t).lookup ("cost" : Str) = some (.int c) := rfl
theorem tf_gap (n : Str) (c g d : Int) (t : Addr) : (tf n c g d t).lookup ("gap" : Str) = some (.int g) := rfl
theorem tf_due (n : Str) (c g d : Int) (t : Addr) : (tf n c g d t).lookup ("due" : Str) = some (.int d) := rfl
theorem tf_holds (n : Str) (c g d : Int) (t : Addr) : (tf n c g d t).lookup ("holds" : Str) = some (.ref t) := rfl
theorem tf_put (n : Str) (c g d : Int) (t : Addr) : putF "holds" (.ref t) (putF "due" (.int d) (putF "gap" (.int g) (putF "cost" (.int c) (putF "name" (.str n) [])))) = tf n c g d t := rfl
/-- what is asked of the class Task as the top has made it -/
structure TaskC (K : PySem.W.Frag) (mg : Str → Option Value) (C : Addr) : Prop where
  cl : Cls K C
  nN : NoAttr K C "name"
  nC : NoAttr K C "cost"
  nG : NoAttr K C "gap"
  nD : NoAttr K C "due"
  nH : NoAttr K C "holds"
  mg : mg "Task" = some (.ref C)
  kc : PySem.W.findIn K (.ref C) "__class__" = some (some (.builtin "object.__class__"))
  kg : PySem.W.specialIn K (.builtin "object.__class__") "__get__" = some (some (.builtin "getset_descriptor.__get__"))
  kt : PySem.W.takesIn K (.builtin "object.__class__") = some true
  km : PySem.W.mroIn K C (.type "object") = some true
  kk : PySem.W.kitOne K (.ref C) (.ref C) = some true
structure TaskV where
  name : Str
  cost : Int
  gap : Int
  due : Int
  holds : List Hold
/-- a good task -/
def TaskV.ok (t : TaskV) : Prop := isNm t.name = true ∧ (1 ≤ t.cost ∧ t.cost ≤ 99) ∧ (1 ≤ t.gap ∧ t.gap ≤ 600) ∧ (1 ≤ t.due ∧ t.due ≤ t.gap) ∧ areHds t.holds t.cost = true ∧ ∀ h ∈ t.holds, h.1.length ≤ sizeLine
/-- a task stands at x, its holds at h -/
def TaskAt (K : PySem.W.Frag) (C : Addr) (H : Hp) (x : Addr) (v : TaskV) (h : Addr) : Prop := (∃ dx, H x = some (.ins C dx (tf v.name v.cost v.gap v.due h))) ∧ HdsAt K H h v.holds
theorem TaskAt.same {K : PySem.W.Frag} {C : Addr} {H H' : Hp} {x h : Addr} {v : TaskV} (d : TaskAt K C H x v h) (s : Same H H') : TaskAt K C H' x v h := by
  obtain ⟨⟨dx, e⟩, q⟩ := d
  exact ⟨⟨dx, s _ _ e⟩, q.same s⟩
def dueV : Option Int → V
  | none => .non
  | some d => .int d
/-- the heap behind the five fields -/
def initH (H : Hp) (C x dx : Addr) (n : Str) (c g d : Int) (t : Addr) : Hp :=
  upd (upd (upd (upd (upd H x (.ins C dx (putF "name" (.str n) []))) x (.ins C dx (putF "cost" (.int c) (putF "name" (.str n) [])))) x (.ins C dx (putF "gap" (.int g) (putF "cost" (.int c) (putF "name" (.str n) []))))) x
    (.ins C dx (putF "due" (.int d) (putF "gap" (.int g) (putF "cost" (.int c) (putF "name" (.str n) [])))))) x (.ins C dx (putF "holds" (.ref t) (putF "due" (.int d) (putF "gap" (.int g) (putF "cost" (.int c) (putF "name" (.str n) []))))))
theorem initH_keep {H : Hp} {C x dx t b : Addr} {n : Str} {c g d : Int} (hb : b ≠ x) : initH H C x dx n c g d t b = H b := by
  unfold initH
  rw [upd_ne hb, upd_ne hb, upd_ne hb, upd_ne hb, upd_ne hb]
theorem initH_at {K : PySem.W.Frag} {H H2 : Hp} {C x dx h : Addr} {v : TaskV} (hx : H x = some (.ins C dx [])) (s : Same H H2) (hh : HdsAt K H h v.holds) :
    TaskAt K C (initH H2 C x dx v.name v.cost v.gap v.due h) x v h ∧ ∀ b o, H b = some o → b ≠ x → initH H2 C x dx v.name v.cost v.gap v.due h b = some o := by
  have keep : ∀ b o, H b = some o → b ≠ x → initH H2 C x dx v.name v.cost v.gap v.due h b = some o := fun b o e hb => by
    rw [initH_keep hb]
    exact s _ _ e
  refine ⟨⟨⟨dx, by unfold initH; rw [upd_same, tf_put]⟩, ?_⟩, keep⟩
  obtain ⟨vs, q1, q2, q3⟩ := hh
  have kT : ∀ a xs, SqT K H a xs → SqT K (initH H2 C x dx v.name v.cost v.gap v.due h) a xs := fun a xs z => by
    rcases z with (z | ⟨o, z⟩) | z
    · exact .inl (.inl (keep a _ z (ne_of z hx (by intro y; cases y))))
    · exact .inl (.inr ⟨o, keep a _ z (ne_of z hx (by intro y; cases y))⟩)
    · exact .inr z
  exact ⟨vs, kT _ _ q1, q2, fun i v h e1 e2 => by obtain ⟨a, ea, z⟩ := q3 i v h e1 e2; exact ⟨a, ea, kT _ _ z⟩⟩
section
variable {P : Program} {w : World} {K : PySem.W.Frag} {mg : Str → Option Value} {base : Heap}
/-! wrong_in_task of a good one -/
abbrev nWrongT : List Str := ["name", "cost", "gap", "due", "holds"]
theorem scWrongT : FnScope nWrongT nWrongT (defScope sWrongT) := ⟨rfl, rfl, rfl, by decide +kernel, rfl, by decide +kernel, by decide +kernel⟩
def spWrongT (K : PySem.W.Frag) : Sp := fun vs H Q _ => ∃ (h : Addr) (v : TaskV) (od : Option Int), vs = [.str v.name, .int v.cost, .int v.gap, dueV od, .ref h] ∧ v.due = od.getD v.gap ∧ v.ok ∧ HdsAt K H h v.holds ∧ ∀ H', Same H H' → Q .non H'
theorem ok_wrongT {f : Addr} {fd : FuncData} (F : Fun K "wrong_in_task" "wrong_in_task" sWrongT f fd) (mC : ∃ t, mg "MOST_COST" = some (.int 99 t)) (mG : ∃ t, mg "MOST_GAP" = some (.int 600 t))
    (DN : Dn P w K mg base 2 "is_name" ["thing"] (spName K)) (DW : Dn P w K mg base 2 "is_whole" ["thing", "least", "most"] (spWhole K)) (DH : Dn P w K mg base 4 "are_holds" ["thing", "cost"] (spHolds K)) :
    FnOk P w K mg base CX0 5 f fd nWrongT (spWrongT K) := by
  obtain ⟨uC, mC⟩ := mC
  obtain ⟨uG, mG⟩ := mG
  refine F.ok scWrongT (fun vs H Q E h => ?_) (fun cdv A outer s H vs Q E hr h => ?_)
  · obtain ⟨h, v, od, rfl, _⟩ := h
    rfl
  · obtain ⟨h, v, od, rfl, hdue, ⟨o1, o2, o3, o4, o5, o6⟩, hh, k⟩ := h
    have hr1 : Room 2 _ := hr.mono (by decide)
    refine ⟨_, (pss_cons (ps_if (pt_not (pt_val (pcall DN hr1 (by rfl) (pa_cons (pv 0) pa_nil)))) pss_never pss_nil) (pss_cons (ps_if (pt_not (pt_val (pcall DW hr1 (by rfl) (pa_cons (pv 1) (pa_cons pe_int (pa_cons (pe_glob (v := .int 99) rfl mC ⟨_, rfl⟩) pa_nil)))))) pss_never pss_nil) (pss_cons (ps_if (pt_not (pt_val (pcall DW hr1 (by rfl) (pa_cons (pv 2) (pa_cons pe_int (pa_cons (pe_glob (v := .int 600) rfl mG ⟨_, rfl⟩) pa_nil)))))) pss_never pss_nil) (pss_cons (ps_if (PW.pt (pw_and (pt_cmpR op_notN (pv 3) pe_non (nomark _)) (pw_and1 (pt_not (pt_val (pcall DW hr1 (by rfl) (pa_cons (pv 3) (pa_cons pe_int (pa_cons (pv 2) pa_nil))))))))) pss_never pss_nil) (pss_cons (ps_if (pt_not (pt_val (pcall DH hr (by rfl) (pa_cons (pv 4) (pa_cons (pv 1) pa_nil))))) pss_never pss_nil) (pss_one (ps_ret pe_non))))))), ?_⟩
    have hn8 : v.name.length ≤ sizeLine := by
      unfold isNm at o1
      simp only [Bool.and_eq_true, decide_eq_true_eq] at o1
      exact Nat.le_trans o1.2.1 (by decide)
    refine ⟨_, rfl, _, rfl, .inl ⟨_, rfl, hn8, fun H1 s1 => ⟨_, rfl, ?_⟩⟩⟩
    rw [o1]
    refine iteF ⟨_, rfl, _, _, _, rfl, .inl ⟨_, rfl, _, rfl, ?_⟩⟩
    rw [decide_eq_true o2.1, decide_eq_true o2.2]
    refine iteF ⟨_, rfl, _, _, _, rfl, .inl ⟨_, rfl, _, rfl, ?_⟩⟩
    rw [decide_eq_true o3.1, decide_eq_true o3.2]
    refine iteF ⟨_, rfl, rfl, _, rfl, ?_⟩
    cases od with
    | none =>
      refine ⟨_, rfl, _, rfl, h, v.holds, v.cost, rfl, hh.same s1, o6, fun H2 s2 => ⟨_, rfl, ?_⟩⟩
      rw [o5]
      exact iteF (k H2 (s1.trans s2))
    | some d =>
      have ed : v.due = d := hdue
      refine ⟨_, rfl, _, rfl, _, _, _, rfl, .inl ⟨_, rfl, _, rfl, ?_⟩⟩
      rw [ed] at o4
      rw [decide_eq_true o4.1, decide_eq_true o4.2]
      refine ⟨_, rfl, _, rfl, h, v.holds, v.cost, rfl, hh.same s1, o6, fun H2 s2 => ⟨_, rfl, ?_⟩⟩
      rw [o5]
      exact iteF (k H2 (s1.trans s2))
abbrev nInit : List Str := ["self", "name", "cost", "gap", "due", "holds", "part"]
theorem scInit : FnScope nInit ["self", "name", "cost", "gap", "due", "holds"] (defScope sInit) := ⟨rfl, rfl, rfl, by decide +kernel, rfl, by decide +kernel, by decide +kernel⟩
def spInit (K : PySem.W.Frag) (C : Addr) : Sp := fun vs H Q _ => ∃ (x dx h : Addr) (v : TaskV) (od : Option Int), vs = [.ref x, .str v.name, .int v.cost, .int v.gap, dueV od, .ref h] ∧ v.due = od.getD v.gap ∧ v.ok ∧ HdsAt K H h v.holds ∧ H x = some (.ins C dx []) ∧
  ∀ H', TaskAt K C H' x v h → (∀ b o, H b = some o → b ≠ x → H' b = some o) → Q .non H'
theorem ok_init {C f : Addr} {fd : FuncData} {kws : List (Str × V)} (F : FunD K "__init__" "Task.__init__" (defArgs sInit) (defBody sInit) (defScope sInit) [] kws f fd) (T : TaskC K mg C)
    (DT : Dn P w K mg base 5 "wrong_in_task" nWrongT (spWrongT K)) :
    FnOk P w K mg base CX0 6 f fd ["self", "name", "cost", "gap", "due", "holds"] (spInit K C) := by
  refine F.ok (CX := CX0) scInit (fun vs H Q E h => ?_) (fun cdv A outer s H vs Q E hr h => ?_)
  · obtain ⟨x, dx, h, v, od, rfl, _⟩ := h
    rfl
  · obtain ⟨x, dx, h, v, od, rfl, hdue, hok, hh, hx, k⟩ := h
    refine ⟨_, (pss_cons (ps_set (i := 6) scInit.nd rfl (.inl rfl) (pcall DT hr (by rfl) (pa_cons (pv 1) (pa_cons (pv 2) (pa_cons (pv 3) (pa_cons (pv 4) (pa_cons (pv 5) pa_nil))))))) (pss_cons (ps_if (pt_cmpR op_notN (pv 6) pe_non (nomark _)) pss_never pss_nil) (pss_cons (ps_fld (pv 0) (pv 1) rfl) (pss_cons (ps_fld (pv 0) (pv 2) rfl) (pss_cons (ps_fld (pv 0) (pv 3) rfl) (pss_cons (ps_fld (pv 0) (pe_ifExp (pt_cmpR op_isN (pv 4) pe_non (nomark _)) (pv 3) (pv 4)) rfl) (pss_one (ps_fld (pv 0) (pv 5) rfl)))))))), ?_⟩
    refine ⟨_, rfl, _, rfl, _, rfl, _, rfl, _, rfl, h, v, od, rfl, hdue, hok, hh, fun H2 s2 => ?_⟩
    refine ⟨_, rfl, rfl, _, rfl, ?_⟩
    refine iteF ?_
    refine ⟨_, rfl, _, rfl, x, C, dx, [], rfl, s2 _ _ hx, T.cl, T.nN, (by show 0 < 1000; decide), ?_⟩
    refine ⟨_, rfl, _, rfl, x, C, dx, _, rfl, upd_same, T.cl, T.nC, (by show 1 < 1000; decide), ?_⟩
    refine ⟨_, rfl, _, rfl, x, C, dx, _, rfl, upd_same, T.cl, T.nG, (by show 2 < 1000; decide), ?_⟩
    refine ⟨_, rfl, rfl, _, rfl, ?_⟩
    obtain ⟨z1, z2⟩ := initH_at hx s2 hh
    cases od with
    | none =>
      have ed : v.due = v.gap := hdue
      rw [ed] at z1 z2
      exact ⟨_, rfl, _, rfl, x, C, dx, _, rfl, upd_same, T.cl, T.nD, (by show 3 < 1000; decide), _, rfl, _, rfl, x, C, dx, _, rfl, upd_same, T.cl, T.nH, (by show 4 < 1000; decide), k _ z1 z2⟩
    | some d =>
      have ed : v.due = d := hdue
      rw [ed] at z1 z2
      exact ⟨_, rfl, _, rfl, x, C, dx, _, rfl, upd_same, T.cl, T.nD, (by show 3 < 1000; decide), _, rfl, _, rfl, x, C, dx, _, rfl, upd_same, T.cl, T.nH, (by show 4 < 1000; decide), k _ z1 z2⟩
end
end Du

set_option Elab.async false
set_option linter.all false
set_option maxRecDepth 100000
namespace Du
open PySem L2
section
variable {P : Program} {w : World} {K : PySem.W.Frag} {mg : Str → Option Value} {base : Heap}
def hdD (h : Hold) : PyData := .tuple [.str h.1, .int h.2.1, .int h.2.2]
theorem hd_dp {H : Hp} {v : V} {h : Hold} (d : HdAt K H v h) : Dp K H v (hdD h) := by
  obtain ⟨a, rfl, q⟩ := d
  exact .tup q (.cons (.str _) (.cons (.int _) (.cons (.int _) .nil)))
theorem hds_all {H : Hp} : ∀ {vs : List V} {hs : List Hold}, vs.length = hs.length → (∀ (i : Nat) v h, vs[i]? = some v → hs[i]? = some h → HdAt K H v h) → DpAll K H vs (hs.map hdD)
  | [], [], _, _ => .nil
  | v :: vs, h :: hs, hl, q => .cons (hd_dp (q 0 v h rfl rfl)) (hds_all (Nat.succ.inj hl) fun i a b e1 e2 => q (i + 1) a b e1 e2)
theorem hds_dp {H : Hp} {t : Addr} {hs : List Hold} (d : HdsAt K H t hs) : Dp K H (.ref t) (.tuple (hs.map hdD)) := by
  obtain ⟨vs, q1, q2, q3⟩ := d
  exact .tup q1 (hds_all q2 q3)
theorem letter_small {c : Nat} (h : isLetter c = true) : 97 ≤ c ∧ c ≤ 122 := by
  have z : ∀ c ∈ letters.cps.toList, 97 ≤ c ∧ c ≤ 122 := by decide +kernel
  exact z c (of_decide_eq_true h)
theorem nm_len {z : Str} (h : isNm z = true) : 1 ≤ z.length ∧ z.length ≤ 8 := by
  unfold isNm at h
  simp only [Bool.and_eq_true, decide_eq_true_eq] at h
  exact ⟨h.1, h.2.1⟩
theorem nm_codes {z : Str} (h : isNm z = true) : ∀ c ∈ z.cps.toList, 97 ≤ c ∧ c ≤ 122 := by
  unfold isNm at h
  simp only [Bool.and_eq_true, List.all_eq_true] at h
  exact fun c hc => letter_small (h.2.2 c hc)
theorem nm_strOk {z : Str} (h : isNm z = true) : PyData.strOk z = true := by
  unfold PyData.strOk
  rw [← Array.all_toList, List.all_eq_true]
  intro c hc
  have := nm_codes h c hc
  exact decide_eq_true (by omega)
theorem hds_lay : ∀ hs : List Hold, (∀ h ∈ hs, isNm h.1 = true) → PyData.canLayAll0 (hs.map hdD) = true
  | [], _ => rfl
  | h :: hs, q => by
    show (PyData.canLay0 (hdD h) && PyData.canLayAll0 (hs.map hdD)) = true
    rw [hds_lay hs fun g hg => q g (List.mem_cons_of_mem _ hg)]
    have e : PyData.canLay0 (hdD h) = PyData.strOk h.1 := by
      show (PyData.strOk h.1 && (true && (true && true))) = PyData.strOk h.1
      simp
    rw [e, nm_strOk (q h List.mem_cons_self)]
    rfl
theorem hds_depth : ∀ hs : List Hold, PyData.depthAll (hs.map hdD) ≤ 1
  | [] => Nat.zero_le _
  | h :: hs => by
    show max (PyData.depth (hdD h)) (PyData.depthAll (hs.map hdD)) ≤ 1
    have := hds_depth hs
    have e : PyData.depth (hdD h) = 1 := rfl
    omega
theorem hds_shaped {hs : List Hold} (q : ∀ h ∈ hs, isNm h.1 = true) : SeqAt.shaped (.tuple (hs.map hdD)) = true := by
  unfold SeqAt.shaped
  have h1 : PyData.canLay0 (.tuple (hs.map hdD)) = true := by
    simp only [PyData.canLay0]
    exact hds_lay hs q
  have h2 : PyData.depth (.tuple (hs.map hdD)) ≤ 64 := by
    have := hds_depth hs
    simp only [PyData.depth]
    omega
  rw [h1, decide_eq_true h2]
  rfl
theorem hds_eqv {hs : List Hold} (q : ∀ h ∈ hs, isNm h.1 = true) : PyData.eqv (.tuple (hs.map hdD)) (.tuple (hs.map hdD)) = true := SeqAt.eqv_refl _ (SeqAt.canLay_of_shaped (hds_shaped q))
/-! Task.__eq__ -/
theorem scEq : FnScope ["self", "other"] ["self", "other"] (defScope sEq) := ⟨rfl, rfl, rfl, by decide +kernel, rfl, by decide +kernel, by decide +kernel⟩
def TwoTasks (K : PySem.W.Frag) (C : Addr) (a b : Addr) (H : Hp) : Prop := ∃ (v : TaskV) (ha hb : Addr), TaskAt K C H a v ha ∧ TaskAt K C H b v hb ∧ ∀ h ∈ v.holds, isNm h.1 = true
theorem decV (x : V) : decide (x = x) = true := decide_eq_true rfl
theorem ok_eq {C f : Addr} {fd : FuncData} (F : Fun K "__eq__" "Task.__eq__" sEq f fd) (T : TaskC K mg C) (mI : mg "isinstance" = none) :
    FnOk P w K mg base CX0 3 f fd ["self", "other"] (spEq (TwoTasks K C)) := by
  refine F.ok scEq (fun vs H Q E h => ?_) (fun cdv A outer s H vs Q E hr h => ?_)
  · obtain ⟨a, b, rfl, _⟩ := h
    rfl
  · obtain ⟨a, b, rfl, ⟨v, ha, hb, ⟨⟨da, e1⟩, q1⟩, ⟨⟨db, e2⟩, q2⟩, hnm⟩, k⟩ := h
    refine ⟨_, pss_one (ps_ret (pe_and (pe_callB call_isi (by rfl) mI (by decide +kernel) (pa_cons (pv 1) (pa_cons (pe_glob (v := .ref C) rfl T.mg rfl) pa_nil)))
      (pe_and (pe_cmpR op_eq (pe_fld (pv 0) rfl) (pe_fld (pv 1) rfl) (nomark _)) (pe_and (pe_cmpR op_eq (pe_fld (pv 0) rfl) (pe_fld (pv 1) rfl) (nomark _)) (pe_and (pe_cmpR op_eq (pe_fld (pv 0) rfl) (pe_fld (pv 1) rfl) (nomark _))
      (pe_and (pe_cmpR op_eq (pe_fld (pv 0) rfl) (pe_fld (pv 1) rfl) (nomark _)) (pe_one (pe_cmpR (op_eqD hr.units) (pe_fld (pv 0) rfl) (pe_fld (pv 1) rfl) (nomark _))))))))), ?_⟩
    refine ⟨_, rfl, _, _, _, _, true, rfl, .own C, .base (.ins e2 T.cl T.kc T.kg T.kt T.km), T.kk, true, rfl, ?_⟩
    refine iteT ⟨_, rfl, a, C, da, _, _, rfl, e1, T.cl, T.nN, tf_name _ _ _ _ _, _, rfl, b, C, db, _, _, rfl, e2, T.cl, T.nN, tf_name _ _ _ _ _, rfl, _, rfl, ?_⟩
    rw [decV]
    refine iteT ⟨_, rfl, a, C, da, _, _, rfl, e1, T.cl, T.nC, tf_cost _ _ _ _ _, _, rfl, b, C, db, _, _, rfl, e2, T.cl, T.nC, tf_cost _ _ _ _ _, rfl, _, rfl, ?_⟩
    rw [decV]
    refine iteT ⟨_, rfl, a, C, da, _, _, rfl, e1, T.cl, T.nG, tf_gap _ _ _ _ _, _, rfl, b, C, db, _, _, rfl, e2, T.cl, T.nG, tf_gap _ _ _ _ _, rfl, _, rfl, ?_⟩
    rw [decV]
    refine iteT ⟨_, rfl, a, C, da, _, _, rfl, e1, T.cl, T.nD, tf_due _ _ _ _ _, _, rfl, b, C, db, _, _, rfl, e2, T.cl, T.nD, tf_due _ _ _ _ _, rfl, _, rfl, ?_⟩
    rw [decV]
    refine iteT ⟨_, rfl, a, C, da, _, _, rfl, e1, T.cl, T.nH, tf_holds _ _ _ _ _, _, rfl, b, C, db, _, _, rfl, e2, T.cl, T.nH, tf_holds _ _ _ _ _, _, _, hds_dp q1, hds_dp q2, hds_shaped hnm, hds_shaped hnm, ?_⟩
    rw [hds_eqv hnm]
    exact k H (Same.refl _)
/-! Task.__len__ -/
theorem scLen : FnScope ["self"] ["self"] (defScope sLen) := ⟨rfl, rfl, rfl, by decide +kernel, rfl, by decide +kernel, by decide +kernel⟩
def spLenT (K : PySem.W.Frag) (C : Addr) : Sp := fun vs H Q _ => ∃ (a h : Addr) (v : TaskV), vs = [.ref a] ∧ TaskAt K C H a v h ∧ 0 ≤ v.cost ∧ v.cost < 1000 ∧ Q (.int v.cost) H
theorem ok_len {C f : Addr} {fd : FuncData} (F : Fun K "__len__" "Task.__len__" sLen f fd) (T : TaskC K mg C) (ml : mg "len" = none) (mr : mg "range" = none) :
    FnOk P w K mg base CX0 3 f fd ["self"] (spLenT K C) := by
  refine F.ok scLen (fun vs H Q E h => ?_) (fun cdv A outer s H vs Q E hr h => ?_)
  · obtain ⟨a, h, v, rfl, _⟩ := h
    rfl
  · obtain ⟨a, h, v, rfl, ⟨⟨dx, e1⟩, _⟩, h0, h1, q⟩ := h
    refine ⟨_, pss_one (ps_ret (pe_lenRg (by rfl) ml (prg_1 (by rfl) mr (pe_fld (pv 0) rfl)))), ?_⟩
    have en : (((v.cost - 0).toNat : Nat) : Int) = v.cost := by omega
    refine ⟨_, rfl, a, C, dx, _, _, rfl, e1, T.cl, T.nC, tf_cost _ _ _ _ _, _, rfl, by omega, ?_⟩
    rw [en]
    exact q
end
end Du

set_option Elab.async false
set_option linter.all false
set_option maxRecDepth 100000
namespace Du
open PySem L2
abbrev sCell : Stmt := topS 34
abbrev sPurse : Stmt := topS 35
abbrev sTake : Stmt := topS 36
section
variable {P : Program} {w : World} {K : PySem.W.Frag} {mg : Str → Option Value} {base : Heap}
theorem cutV_mem {xs : List V} {lo hi : Option Int} {x : V} (h : x ∈ cutV xs lo hi) : x ∈ xs := List.mem_of_mem_drop (List.mem_of_mem_take h)
/-! _law_cell -/
theorem scCell : FnScope ["_law_script", "_law_k", "_law_state", "_law_cell_here"] ["_law_script", "_law_k"] (defScope sCell) := ⟨rfl, rfl, rfl, by decide +kernel, rfl, by decide +kernel, by decide +kernel⟩
def spCellL (K : PySem.W.Frag) : Sp := fun vs H Q _ => ∃ (a : Addr) (ns : List Int) (k : Nat), vs = [.ref a, .int (k : Int)] ∧ SqL K H a (ns.map V.int) ∧ k < 64 ∧ ∀ (n : Int) H', Same H H' → Q (.int n) H'
theorem ok_cell {f : Addr} {fd : FuncData} (F : Fun K "_law_cell" "_law_cell" sCell f fd) (ml : mg "len" = none) : FnOk P w K mg base CX0 3 f fd ["_law_script", "_law_k"] (spCellL K) := by
  refine F.ok scCell (fun vs H Q E h => ?_) (fun cdv A outer s H vs Q E hr h => ?_)
  · obtain ⟨a, ns, k, rfl, _⟩ := h
    rfl
  · obtain ⟨a, ns, k, rfl, hS, hk, q⟩ := h
    refine ⟨_, pss_cons (ps_if (pt_cmpR op_lt (pv 1) (pe_callB call_len_seq (by rfl) ml (by decide +kernel) (pa_cons (pv 0) pa_nil)) (nomark _)) (pss_one (ps_ret (pe_ix ix_list (pv 0) (pv 1) (fun _ _ => rfl)))) pss_nil)
      (pss_cons (ps_set (i := 2) scCell.nd rfl (.inl rfl) (pe_op op_mod (pe_op op_mul pe_int (pe_op op_add (pe_op op_add (pe_op op_mul (pv 1) (pv 1)) (pe_op op_mul pe_int (pv 1))) pe_int)) pe_int))
      (pss_cons (ps_for PassesOwn.never rfl (pi_list (pe_slice sl_list (pv 0) po_none (po_some pe_int))) (pg_name (i := 3) scCell.nd rfl (.inl rfl))
        (pss_one (ps_set (i := 2) scCell.nd rfl (.inl rfl) (pe_op op_mod (pe_op op_add (pe_op op_mul (pv 2) pe_int) (pv 3)) pe_int))))
      (pss_one (ps_ret (pv 2))))), ?_⟩
    refine ⟨_, rfl, _, rfl, a, _, rfl, .inl hS, _, _, rfl, rfl, _, rfl, ?_⟩
    by_cases hlt : k < ns.length
    · have e1 : decide ((k : Int) < (((ns.map V.int).length : Nat) : Int)) = true := decide_eq_true (by rw [List.length_map]; omega)
      rw [e1]
      have g : (ns.map V.int)[k]? = some (V.int ns[k]) := by
        rw [List.getElem?_map, List.getElem?_eq_getElem hlt]
        rfl
      exact iteT ⟨_, rfl, _, rfl, a, _, _, _, rfl, rfl, hS, at_of rfl g, q _ H (Same.refl _)⟩
    · have e1 : decide ((k : Int) < (((ns.map V.int).length : Nat) : Int)) = false := decide_eq_false (by rw [List.length_map]; omega)
      rw [e1]
      refine iteF ⟨_, rfl, _, rfl, _, _, rfl, rfl, .inl ⟨by omega, by omega⟩, _, rfl, _, _, rfl, rfl, .inl ⟨by decide, by decide⟩, _, _, rfl, rfl, _, _, rfl, rfl, _, _, rfl, rfl, .inl ⟨by decide, by decide⟩, _, _, rfl, rfl, (by show (0 : Int) < 1000000021; decide), ?_⟩
      refine ⟨_, rfl, 3, rfl, a, _, rfl, hS, fun c nc => ?_⟩
      refine ⟨c, rfl, ⟨_, SqL.of upd_same⟩, for_list (K := K) (a := c) (xs := cutV (ns.map V.int) none (some 3)) (fun i σ H' => ∃ (st : Int) (v : Option V), σ = [some (.ref a), some (.int (k : Int)), some (.int st), v] ∧ Same (upd H c (.lst (cutV (ns.map V.int) none (some 3)))) H')
        ⟨_, none, rfl, Same.refl _⟩ (fun i σ H' _ z => ?_) ?_ ?_⟩
      · obtain ⟨_, _, _, s1⟩ := z
        exact SqL.of (s1 _ _ upd_same)
      · rintro i x σ H' hi ⟨st, v, rfl, s1⟩
        obtain ⟨z, _, rfl⟩ := List.mem_map.mp (cutV_mem (List.mem_of_getElem? hi))
        refine ⟨_, rfl, _, _, rfl, rfl, .inr ⟨by decide, by decide⟩, _, rfl, _, _, rfl, rfl, _, _, rfl, rfl, (by show (0 : Int) < 1000000021; decide), ?_⟩
        exact ⟨_, _, rfl, s1⟩
      · rintro σ H' ⟨st, v, rfl, s1⟩
        exact ⟨_, rfl, q st H' ((same_upd nc).trans s1)⟩
/-! _law_purse -/
def Purse (H : Hp) (p : Addr) : Prop := ∃ a d c : Int, H p = some (.lst [.int a, .int d, .int c]) ∧ 0 ≤ a ∧ a < 1000000021 ∧ 0 ≤ d ∧ 0 ≤ c
theorem scPurse : FnScope ["_law_cell_here", "_law_digits"] ["_law_cell_here"] (defScope sPurse) := ⟨rfl, rfl, rfl, by decide +kernel, rfl, by decide +kernel, by decide +kernel⟩
def spPurse : Sp := fun vs H Q _ => ∃ n : Int, vs = [.int n] ∧ ∀ p H', Same H H' → H p = none → Purse H' p → Q (.ref p) H'
theorem ok_purse {f : Addr} {fd : FuncData} (F : Fun K "_law_purse" "_law_purse" sPurse f fd) (ma : mg "abs" = none) : FnOk P w K mg base CX0 3 f fd ["_law_cell_here"] spPurse := by
  refine F.ok scPurse (fun vs H Q E h => ?_) (fun cdv A outer s H vs Q E hr h => ?_)
  · obtain ⟨n, rfl, _⟩ := h
    rfl
  · obtain ⟨n, rfl, q⟩ := h
    refine ⟨_, pss_cons (ps_set (i := 1) scPurse.nd rfl (.inl rfl) pe_int)
      (pss_cons (ps_if (PW.pt (pw_or (pt_cmpR op_lt (pv 0) pe_int (nomark _)) (pw_or1 (pt_cmpR op_ge (pv 0) (pe_op op_pow pe_int pe_int) (nomark _)))))
        (pss_one (ps_set (i := 1) scPurse.nd rfl (.inl rfl) (pe_callB call_abs (by rfl) ma (by decide +kernel) (pa_cons (pv 0) pa_nil)))) pss_nil)
      (pss_one (ps_ret (pe_lst (pa_cons (pe_op op_mod (pv 0) pe_int) (pa_cons (pv 1) (pa_cons pe_int pa_nil))))))), ?_⟩
    have fin : ∀ d : Int, 0 ≤ d → tRet (fun σ H Q => tCons (tOp (rI (fun _ j => 0 < j) fun i j => .int (i % j)) (tVar 0) (tC (.int 1000000021))) (tCons (tVar 1) (tCons (tC (.int 0)) tNil)) σ H fun vs H1 => vs.length ≤ sizeLine ∧ ∀ p, H1 p = none → Q (.ref p) (upd H1 p (.lst vs)))
        { nx := fun _ H' => Q .non H', rt := Q } [some (.int n), some (.int d)] H := by
      intro d hd
      refine ⟨_, rfl, _, _, rfl, rfl, (by show (0 : Int) < 1000000021; decide), _, rfl, (by show 3 ≤ sizeLine; decide), fun p np => ?_⟩
      exact q p _ (same_upd np) np ⟨_, d, 0, upd_same, Int.emod_nonneg _ (by decide), Int.emod_lt_of_pos _ (by decide), hd, Int.le_refl _⟩
    refine ⟨_, rfl, _, _, rfl, rfl, _, rfl, ?_⟩
    by_cases h1 : n < 0
    · rw [decide_eq_true h1]
      refine ⟨_, rfl, n, rfl, ?_⟩
      exact fin _ (by split <;> omega)
    · rw [decide_eq_false h1]
      refine ⟨_, rfl, _, _, rfl, rfl, ⟨by decide, by decide, by decide⟩, _, _, rfl, rfl, _, rfl, ?_⟩
      by_cases h2 : (10 : Int) ^ (18 : Int).toNat ≤ n
      · rw [decide_eq_true h2]
        refine ⟨_, rfl, n, rfl, ?_⟩
        exact fin _ (by split <;> omega)
      · rw [decide_eq_false h2]
        exact fin 0 (Int.le_refl _)
/-! _law_take -/
/-- the purse goes on, all else that is tracked stays -/
structure Step (p : Addr) (H H' : Hp) : Prop where
  purse : Purse H' p
  keep : ∀ b o, b ≠ p → H b = some o → H' b = some o
theorem scTake : FnScope ["_law_purse_here", "_law_many", "_law_state", "_law_taken"] ["_law_purse_here", "_law_many"] (defScope sTake) := ⟨rfl, rfl, rfl, by decide +kernel, rfl, by decide +kernel, by decide +kernel⟩
def spTake : Sp := fun vs H Q _ => ∃ (p : Addr) (m : Int), vs = [.ref p, .int m] ∧ 0 < m ∧ m < 1073741824 ∧ Purse H p ∧ ∀ (r : Int) H', 0 ≤ r → r < m → Step p H H' → Q (.int r) H'
theorem ok_take {f : Addr} {fd : FuncData} (F : Fun K "_law_take" "_law_take" sTake f fd) : FnOk P w K mg base CX0 3 f fd ["_law_purse_here", "_law_many"] spTake := by
  refine F.ok scTake (fun vs H Q E h => ?_) (fun cdv A outer s H vs Q E hr h => ?_)
  · obtain ⟨p, m, rfl, _⟩ := h
    rfl
  · obtain ⟨p, m, rfl, hm, hm2, ⟨a, d, c, hp, a0, a1, d0, c0⟩, q⟩ := h
    refine ⟨_, pss_cons (ps_asg (pe_op op_add (pe_ix ix_list (pv 0) pe_int (fun _ _ => rfl)) pe_int) (pg_sub (pv 0) pe_int set_list))
      (pss_cons (ps_set (i := 2) scTake.nd rfl (.inl rfl) (pe_ix ix_list (pv 0) pe_int (fun _ _ => rfl)))
      (pss_cons (ps_asg (pe_op op_mod (pe_op op_add (pe_op op_add (pe_op op_mul (pv 2) (pe_op op_add (pe_op op_mod (pv 2) pe_int) pe_int)) (pe_op op_mul pe_int (pe_ix ix_list (pv 0) pe_int (fun _ _ => rfl)))) pe_int) pe_int) (pg_sub (pv 0) pe_int set_list))
      (pss_cons (ps_if (pt_cmpR op_gt (pe_ix ix_list (pv 0) pe_int (fun _ _ => rfl)) pe_int (nomark _))
        (pss_cons (ps_set (i := 3) scTake.nd rfl (.inl rfl) (pe_op op_mod (pe_ix ix_list (pv 0) pe_int (fun _ _ => rfl)) (pv 1)))
        (pss_cons (ps_asg (pe_op op_fdiv (pe_ix ix_list (pv 0) pe_int (fun _ _ => rfl)) (pv 1)) (pg_sub (pv 0) pe_int set_list)) (pss_one (ps_ret (pv 3))))) pss_nil)
      (pss_one (ps_ret (pe_op op_mod (pe_op op_fdiv (pe_ix ix_list (pv 0) pe_int (fun _ _ => rfl)) pe_int) (pv 1))))))), ?_⟩
    refine ⟨_, rfl, p, _, _, _, rfl, rfl, SqL.of hp, at_of (j := 2) rfl rfl, _, _, rfl, rfl, _, rfl, p, _, _, 2, rfl, rfl, hp, rfl, ?_⟩
    refine ⟨_, rfl, p, _, _, _, rfl, rfl, SqL.of upd_same, at_of (j := 0) rfl rfl, ?_⟩
    refine ⟨_, rfl, _, rfl, _, _, rfl, rfl, (by show (0 : Int) < 50021; decide), _, _, rfl, rfl, _, _, rfl, rfl, .inl ⟨by omega, by omega⟩, _, rfl, p, _, _, _, rfl, rfl, SqL.of upd_same, at_of (j := 2) rfl rfl, _, _, rfl, rfl, .inl ⟨by decide, by decide⟩, _, _, rfl, rfl, _, _, rfl, rfl, _, _, rfl, rfl, (by show (0 : Int) < 1000000021; decide), ?_⟩
    refine ⟨_, rfl, p, _, _, 0, rfl, rfl, upd_same, rfl, ?_⟩
    refine ⟨_, rfl, p, _, _, _, rfl, rfl, SqL.of upd_same, at_of (j := 1) rfl rfl, _, _, rfl, rfl, _, rfl, ?_⟩
    have keep : ∀ (o1 o2 : HO) b o, b ≠ p → H b = some o → upd (upd H p o1) p o2 b = some o := fun o1 o2 b o hb e => by rw [upd_ne hb, upd_ne hb]; exact e
    have n0 : ∀ z : Int, 0 ≤ z % 1000000021 := fun z => Int.emod_nonneg _ (by decide)
    have n1 : ∀ z : Int, z % 1000000021 < 1000000021 := fun z => Int.emod_lt_of_pos _ (by decide)
    by_cases hd : 0 < d
    · rw [decide_eq_true hd]
      refine ⟨_, rfl, p, _, _, _, rfl, rfl, SqL.of upd_same, at_of (j := 1) rfl rfl, _, rfl, _, _, rfl, rfl, hm, ?_⟩
      refine ⟨_, rfl, p, _, _, _, rfl, rfl, SqL.of upd_same, at_of (j := 1) rfl rfl, _, rfl, _, _, rfl, rfl, ⟨hm, hm2⟩, _, rfl, p, _, _, 1, rfl, rfl, upd_same, rfl, _, rfl, ?_⟩
      refine q _ _ (Int.emod_nonneg _ (by omega)) (Int.emod_lt_of_pos _ hm) ⟨⟨_, _, _, upd_same, n0 _, n1 _, Int.ediv_nonneg d0 (by omega), by omega⟩, fun b o hb e => ?_⟩
      rw [upd_ne hb]
      exact keep _ _ b o hb e
    · rw [decide_eq_false hd]
      refine ⟨_, rfl, p, _, _, _, rfl, rfl, SqL.of upd_same, at_of (j := 0) rfl rfl, _, _, rfl, rfl, ⟨by decide, by decide⟩, _, rfl, _, _, rfl, rfl, hm, ?_⟩
      exact q _ _ (Int.emod_nonneg _ (by omega)) (Int.emod_lt_of_pos _ hm) ⟨⟨_, _, _, upd_same, n0 _, n1 _, d0, by omega⟩, keep _ _⟩
end
end Du

set_option Elab.async false
set_option linter.all false
set_option maxRecDepth 100000
namespace Du
open PySem L2
/-- a text of these signs -/
def ofL (l : List Nat) : Str := ⟨l.toArray⟩
theorem ofL_codes (l : List Nat) : (ofL l).cps.toList = l := by simp [ofL]
theorem ofL_inj {l m : List Nat} (h : ofL l = ofL m) : l = m := by
  have := congrArg (fun z : Str => z.cps.toList) h
  simpa [ofL] using this
theorem ofL_len (l : List Nat) : (ofL l).length = l.length := by simp [ofL, Str.length]
theorem str_ofL (z : Str) : z = ofL z.cps.toList := by
  cases z
  simp [ofL]
theorem app_ofL (l m : List Nat) : ofL l ++ ofL m = ofL (l ++ m) := by
  show Str.append _ _ = _
  simp [Str.append, ofL]
def allL (l : List Nat) : Prop := ∀ c ∈ l, isLetter c = true
theorem nm_ofL {l : List Nat} (h1 : 1 ≤ l.length) (h8 : l.length ≤ 8) (h : allL l) : isNm (ofL l) = true := by
  unfold isNm
  rw [ofL_len, ofL_codes, decide_eq_true h1, decide_eq_true h8]
  show (l.all isLetter) = true
  exact List.all_eq_true.mpr h
theorem nodup_range_map {α : Type} {n : Nat} {f : Nat → α} (h : ∀ i j, i < n → j < n → i < j → f i ≠ f j) : ((List.range n).map f).Nodup := by
  unfold List.Nodup
  rw [List.pairwise_map]
  exact (List.pairwise_lt_range (n := n)).imp_of_mem fun {a b} ha hb hab => h a b (List.mem_range.mp ha) (List.mem_range.mp hb) hab
/-! the words of rows -/
def ownW : List Str := ["task", "door", "every", "let", "leave", "come", "serve", "end", "in", "soon", "none", "go"]
def ix (n : Int) (spot step : Int) (k : Nat) : Nat := ((spot + step * (k : Int)) % n).toNat
theorem ix_lt {n spot step : Int} {k : Nat} (h : 0 < n) : (ix n spot step k : Int) < n ∧ ((ix n spot step k : Nat) : Int) = (spot + step * (k : Int)) % n := by
  have h1 := Int.emod_nonneg (spot + step * (k : Int)) (show n ≠ 0 by omega)
  have h2 := Int.emod_lt_of_pos (spot + step * (k : Int)) h
  unfold ix
  omega
def Stp (step : Int) : Prop := step = 1 ∨ step = 5 ∨ step = 7 ∨ step = 11
theorem ix12 {spot step : Int} (hs : Stp step) {i j : Nat} (hj : j < 12) (hij : i < j) : ix 12 spot step i ≠ ix 12 spot step j := by
  have h1 := (ix_lt (n := 12) (spot := spot) (step := step) (k := i) (by decide)).2
  have h2 := (ix_lt (n := 12) (spot := spot) (step := step) (k := j) (by decide)).2
  rcases hs with rfl | rfl | rfl | rfl <;> omega
theorem ix26 {spot step : Int} (hs : Stp step) {i j : Nat} (hj : j < 12) (hij : i < j) : ix 26 spot step i ≠ ix 26 spot step j := by
  have h1 := (ix_lt (n := 26) (spot := spot) (step := step) (k := i) (by decide)).2
  have h2 := (ix_lt (n := 26) (spot := spot) (step := step) (k := j) (by decide)).2
  rcases hs with rfl | rfl | rfl | rfl <;> omega
def w1 (spot step : Int) (k : Nat) : Str := ownW.getD (ix 12 spot step k) ""
theorem ownW_nodup : ownW.Nodup := by decide +kernel
theorem ownW_nm : ∀ z ∈ ownW, isNm z = true := by decide +kernel
theorem w1_at (spot step : Int) (k : Nat) : ownW[ix 12 spot step k]? = some (w1 spot step k) := by
  have h := (ix_lt (n := 12) (spot := spot) (step := step) (k := k) (by decide)).1
  have hl : ix 12 spot step k < ownW.length := by
    show ix 12 spot step k < 12
    omega
  unfold w1
  rw [List.getD_eq_getElem?_getD, List.getElem?_eq_getElem hl]
  rfl
theorem w1_nm (spot step : Int) (k : Nat) : isNm (w1 spot step k) = true := ownW_nm _ (List.mem_of_getElem? (w1_at spot step k))
theorem w1_nodup {spot step : Int} (hs : Stp step) {n : Nat} (hn : n ≤ 12) : ((List.range n).map (w1 spot step)).Nodup :=
  nodup_range_map fun i j hi hj hij e => ix12 hs (by omega) hij (nd_ix ownW_nodup (w1_at spot step i) (by rw [e]; exact w1_at spot step j))
/-! words about a stem -/
def letterAt (begin step : Int) (k : Nat) : Nat := letters.cps.toList.getD (ix 26 begin step k) 0
theorem letters_nodup : letters.cps.toList.Nodup := by decide +kernel
theorem letters_len : letters.cps.toList.length = 26 := by decide +kernel
theorem letter_at (begin step : Int) (k : Nat) : letters.cps.toList[ix 26 begin step k]? = some (letterAt begin step k) := by
  have h := (ix_lt (n := 26) (spot := begin) (step := step) (k := k) (by decide)).1
  have hl : ix 26 begin step k < letters.cps.toList.length := by
    rw [letters_len]
    omega
  unfold letterAt
  rw [List.getD_eq_getElem?_getD, List.getElem?_eq_getElem hl]
  rfl
theorem letter_is {i c : Nat} (h : letters.cps.toList[i]? = some c) : isLetter c = true := decide_eq_true (List.mem_of_getElem? h)
def w2 (st : List Nat) (cut : Nat) (begin step : Int) (k : Nat) : Str := ofL (st.take cut ++ [letterAt begin step k] ++ st.drop cut)
theorem w2_nm {st : List Nat} {cut : Nat} {begin step : Int} {k : Nat} (h : allL st) (hl : st.length ≤ 7) : isNm (w2 st cut begin step k) = true := by
  refine nm_ofL ?_ ?_ ?_
  · simp
    omega
  · simp
    omega
  · intro c hc
    simp at hc
    rcases hc with hc | hc | hc
    · exact h c (List.mem_of_mem_take hc)
    · rw [hc]
      exact letter_is (letter_at begin step k)
    · exact h c (List.mem_of_mem_drop hc)
theorem w2_nodup {st : List Nat} {cut : Nat} {begin step : Int} (hs : Stp step) {n : Nat} (hn : n ≤ 12) : ((List.range n).map (w2 st cut begin step)).Nodup :=
  nodup_range_map fun i j hi hj hij e => by
    have e1 := ofL_inj e
    rw [List.append_assoc, List.append_assoc] at e1
    have e2 := List.append_cancel_left e1
    have e3 : letterAt begin step i = letterAt begin step j := by
      simpa using e2
    exact ix26 hs (by omega) hij (nd_ix letters_nodup (letter_at begin step i) (by rw [e3]; exact letter_at begin step j))
/-! cuts -/
theorem cutS_to (st : List Nat) (cut : Nat) (h : cut ≤ st.length) : cutS (ofL st) none (some (cut : Int)) = ofL (st.take cut) := by
  unfold cutS
  rw [ofL_codes, ofL_len, HT.sIx_none, HT.sIx_nat, Nat.min_eq_left h]
  rfl
theorem cutS_from (st : List Nat) (cut : Nat) (h : cut ≤ st.length) : cutS (ofL st) (some (cut : Int)) none = ofL (st.drop cut) := by
  unfold cutS
  rw [ofL_codes, ofL_len, HT.sIx_none, HT.sIx_nat, Nat.min_eq_left h, List.take_of_length_le (by rw [List.length_drop]; exact Nat.le_refl _)]
  rfl
theorem join_ones : ∀ l : List Nat, Str.join "" (l.map fun c => (⟨#[c]⟩ : Str)) = ofL l
  | [] => rfl
  | [c] => rfl
  | c :: d :: r => by
    have ih := join_ones (d :: r)
    show (⟨#[c]⟩ : Str) ++ "" ++ Str.join "" ((d :: r).map fun c => (⟨#[c]⟩ : Str)) = ofL (c :: d :: r)
    rw [ih]
    show (ofL [c] ++ ofL []) ++ ofL (d :: r) = ofL (c :: d :: r)
    rw [app_ofL, app_ofL]
    rfl
end Du

set_option Elab.async false
set_option linter.all false
set_option maxRecDepth 100000
namespace Du
open PySem L2
abbrev sWords : Stmt := topS 37
theorem Purse.ne {H : Hp} {p q : Addr} (h : Purse H p) (n : H q = none) : q ≠ p := by
  obtain ⟨_, _, _, e, _⟩ := h
  exact (ne_of_none e n).symm
theorem Step.refl {p : Addr} {H : Hp} (h : Purse H p) : Step p H H := ⟨h, fun _ _ _ e => e⟩
theorem Step.trans {p : Addr} {H H1 H2 : Hp} (a : Step p H H1) (b : Step p H1 H2) : Step p H H2 := ⟨b.purse, fun c o n e => b.keep c o n (a.keep c o n e)⟩
theorem Purse.upd {H : Hp} {p q : Addr} {o : HO} (h : Purse H p) (n : q ≠ p) : Purse (upd H q o) p := by
  obtain ⟨a, d, c, e, r⟩ := h
  exact ⟨a, d, c, by rw [upd_ne n.symm]; exact e, r⟩
theorem Step.put {p q : Addr} {H H1 : Hp} {o : HO} (s : Step p H H1) (n : H q = none) (hq : q ≠ p) : Step p H (upd H1 q o) :=
  ⟨s.purse.upd hq, fun b u nb e => by rw [upd_ne (ne_of_none e n)]; exact s.keep b u nb e⟩
theorem Step.new {p q : Addr} {H : Hp} {o : HO} (h : Purse H p) (n : H q = none) : Step p H (upd H q o) := (Step.refl h).put n (h.ne n)
theorem Step.of_same {p : Addr} {H H' : Hp} (h : Purse H p) (s : Same H H') : Step p H H' := by
  obtain ⟨a, d, c, e, r⟩ := h
  exact ⟨⟨a, d, c, s _ _ e, r⟩, fun b o _ e => s b o e⟩
theorem Step.free {p q : Addr} {H H' : Hp} (s : Step p H H') (n : H' q = none) : H q = none := by
  cases e : H q with
  | none => rfl
  | some o =>
    rw [s.keep q o (s.purse.ne n) e] at n
    cases n
section
variable {P : Program} {w : World} {K : PySem.W.Frag} {mg : Str → Option Value} {base : Heap}
abbrev nWords : List Str := ["_law_purse_here", "_law_many", "_law_own", "_law_spot", "_law_step", "_law_letters", "_law_stem", "_law_cut", "_law_begin", "_law_k"]
theorem scWords : FnScope nWords ["_law_purse_here", "_law_many"] (defScope sWords) := ⟨rfl, rfl, rfl, by decide +kernel, rfl, by decide +kernel, by decide +kernel⟩
def spWords : Sp := fun vs H Q _ => ∃ (p : Addr) (m : Nat), vs = [.ref p, .int (m : Int)] ∧ m ≤ 12 ∧ Purse H p ∧
  ∀ (l : Addr) (ws : List Str) H', Step p H H' → H l = none → H' l = some (.lst (ws.map V.str)) → ws.length = m → ws.Nodup → (∀ z ∈ ws, isNm z = true) → Q (.ref l) H'
theorem at_nat {α : Type} {xs : List α} {z : Int} {j : Nat} {v : α} (e : z = (j : Int)) (h : xs[j]? = some v) : atI xs z = some v := by
  rw [e]
  exact atI_nat h
theorem step_of {r : Int} (h0 : 0 ≤ r) (h1 : r < 4) : ∃ s : Int, Stp s ∧ atI [V.int 1, V.int 5, V.int 7, V.int 11] r = some (V.int s) := by
  have h : r = 0 ∨ r = 1 ∨ r = 2 ∨ r = 3 := by omega
  rcases h with rfl | rfl | rfl | rfl
  · exact ⟨1, .inl rfl, at_of (j := 0) rfl rfl⟩
  · exact ⟨5, .inr (.inl rfl), at_of (j := 1) rfl rfl⟩
  · exact ⟨7, .inr (.inr (.inl rfl)), at_of (j := 2) rfl rfl⟩
  · exact ⟨11, .inr (.inr (.inr rfl)), at_of (j := 3) rfl rfl⟩
theorem range_map_succ {α : Type} (f : Nat → α) (i : Nat) : (List.range (i + 1)).map f = (List.range i).map f ++ [f i] := by
  rw [List.range_succ, List.map_append]
  rfl
theorem stp_small {s : Int} (h : Stp s) : -18446744073709551616 < s ∧ s < 18446744073709551616 := by
  rcases h with rfl | rfl | rfl | rfl <;> decide
set_option maxHeartbeats 1000000 in
theorem ok_words {f : Addr} {fd : FuncData} (F : Fun K "_law_words" "_law_words" sWords f fd) (ml : mg "len" = none) (mr : mg "range" = none) (DT : Dn P w K mg base 3 "_law_take" ["_law_purse_here", "_law_many"] spTake) :
    FnOk P w K mg base CX0 4 f fd ["_law_purse_here", "_law_many"] spWords := by
  refine F.ok scWords (fun vs H Q E h => ?_) (fun cdv A outer s H vs Q E hr h => ?_)
  · obtain ⟨p, m, rfl, _⟩ := h
    rfl
  · obtain ⟨p, m, rfl, hm, hp, q⟩ := h
    refine ⟨_, pss_cons (ps_set (i := 2) scWords.nd rfl (.inr rfl) (pe_lst (pa_cons pe_str (pa_cons pe_str (pa_cons pe_str (pa_cons pe_str (pa_cons pe_str (pa_cons pe_str (pa_cons pe_str (pa_cons pe_str (pa_cons pe_str (pa_cons pe_str (pa_cons pe_str (pa_cons pe_str pa_nil))))))))))))))
      (pss_cons (ps_asg (pe_tup (pa_cons (pcall DT hr (by rfl) (pa_cons (pv 0) (pa_cons pe_int pa_nil))) (pa_cons (pe_ix ix_list (pe_lst (pa_cons pe_int (pa_cons pe_int (pa_cons pe_int (pa_cons pe_int pa_nil))))) (pcall DT hr (by rfl) (pa_cons (pv 0) (pa_cons pe_int pa_nil))) (fun _ _ => rfl)) pa_nil)))
        (pg_tup rfl (pgs_cons (pg_name (i := 3) scWords.nd rfl (.inr rfl)) (pgs_cons (pg_name (i := 4) scWords.nd rfl (.inr rfl)) pgs_nil))))
      (pss_cons (ps_if (pt_cmpR op_eq (pcall DT hr (by rfl) (pa_cons (pv 0) (pa_cons pe_int pa_nil))) pe_int (nomark _))
        (pss_one (ps_ret (pe_lc (own := [("_law_k", 9)]) (g := gName 9) (tt := tYes) rfl scWords.nd (pi_range1 (by rfl) mr (pa_cons (pv 1) pa_nil)) (blkOk_by (N := nWords) (sc := defScope sWords) (by decide +kernel))
          (fun _ _ _ _ _ => pg_name (i := 9) scWords.nd rfl (Or.inl rfl)) (fun _ _ _ _ _ => pts_nil) (fun _ _ _ _ _ => pe_ix (show IxR _ (rIxL K) from ix_list) (pv 2) (pe_op op_mod (pe_op op_add (pv 3) (pe_op op_mul (pv 4) (pv 9))) pe_int) (fun _ _ => rfl))))) pss_nil)
      (pss_cons (ps_set (i := 5) scWords.nd rfl (.inr rfl) pe_str)
      (pss_cons (ps_set (i := 6) scWords.nd rfl (.inr rfl) (pe_join pe_str (pe_lc (own := [("_law_k", 9)]) (g := gName 9) (tt := tYes) rfl scWords.nd (pi_range1 (by rfl) mr (pa_cons (pcall DT hr (by rfl) (pa_cons (pv 0) (pa_cons pe_int pa_nil))) pa_nil))
          (blkOk_by (N := nWords) (sc := defScope sWords) (by decide +kernel)) (fun _ _ _ _ _ => pg_name (i := 9) scWords.nd rfl (Or.inl rfl)) (fun _ _ _ _ _ => pts_nil)
          (fun _ _ _ _ _ => pe_ix ix_str (pv 5) (pcall DT hr (by rfl) (pa_cons (pv 0) (pa_cons pe_int pa_nil))) (fun _ _ => rfl)))))
      (pss_cons (ps_asg (pe_tup (pa_cons (pcall DT hr (by rfl) (pa_cons (pv 0) (pa_cons (pe_op op_add (pe_callB call_len_str (by rfl) ml (by decide +kernel) (pa_cons (pv 6) pa_nil)) pe_int) pa_nil))) (pa_cons (pcall DT hr (by rfl) (pa_cons (pv 0) (pa_cons pe_int pa_nil))) pa_nil)))
        (pg_tup rfl (pgs_cons (pg_name (i := 7) scWords.nd rfl (.inr rfl)) (pgs_cons (pg_name (i := 8) scWords.nd rfl (.inr rfl)) pgs_nil))))
      (pss_one (ps_ret (pe_lc (own := [("_law_k", 9)]) (g := gName 9) (tt := tYes) rfl scWords.nd (pi_range1 (by rfl) mr (pa_cons (pv 1) pa_nil)) (blkOk_by (N := nWords) (sc := defScope sWords) (by decide +kernel))
          (fun _ _ _ _ _ => pg_name (i := 9) scWords.nd rfl (Or.inl rfl)) (fun _ _ _ _ _ => pts_nil)
          (fun _ _ _ _ _ => pe_op op_add_str (pe_op op_add_str (pe_slice sl_str (pv 6) po_none (po_some (pv 7))) (pe_ix ix_str (pv 5) (pe_op op_mod (pe_op op_add (pv 8) (pe_op op_mul (pv 4) (pv 9))) pe_int) (fun _ _ => rfl))) (pe_slice sl_str (pv 6) (po_some (pv 7)) po_none)))))))))), ?_⟩
    -- the words of rows
    refine ⟨(by show 12 ≤ sizeLine; decide), fun o no => ?_⟩
    have so : Step p H (upd H o (.lst (ownW.map V.str))) := .new hp no
    -- spot, step
    refine ⟨_, rfl, p, 12, rfl, by decide, by decide, so.purse, fun spot H1 _ _ s1 => ?_⟩
    refine ⟨(by show 4 ≤ sizeLine; decide), fun l nl => ?_⟩
    have s2 := (so.trans s1).trans (Step.new (o := .lst [.int 1, .int 5, .int 7, .int 11]) s1.purse nl)
    refine ⟨_, rfl, p, 4, rfl, by decide, by decide, s2.purse, fun r H2 h0 h1 s3 => ?_⟩
    obtain ⟨step, hst, hat⟩ := step_of h0 h1
    have el : H2 l = some (.lst [.int 1, .int 5, .int 7, .int 11]) := s3.keep l _ (s1.purse.ne nl) upd_same
    refine ⟨l, _, _, _, rfl, rfl, SqL.of el, hat, ?_⟩
    refine ⟨(by show 2 ≤ sizeLine; decide), fun t nt => ?_⟩
    have s4 := (s2.trans s3).trans (Step.new (o := .tup [.int spot, .int step]) s3.purse nt)
    refine ⟨t, _, rfl, SqT.of upd_same, rfl, _, _, rfl, _, _, rfl, rfl, ?_⟩
    -- the way
    refine ⟨_, rfl, p, 4, rfl, by decide, by decide, s4.purse, fun r2 H3 _ _ s5 => ?_⟩
    have s6 := s4.trans s5
    have npo : o ≠ p := hp.ne no
    have eo : H3 o = some (.lst (ownW.map V.str)) := by
      refine s5.keep o _ npo ?_
      have e1 := s1.keep o _ npo (upd_same (H := H) (a := o) (o := .lst (ownW.map V.str)))
      rw [upd_ne (ne_of_none (s3.keep o _ npo (by rw [upd_ne (ne_of_none e1 nl)]; exact e1)) nt)]
      exact s3.keep o _ npo (by rw [upd_ne (ne_of_none e1 nl)]; exact e1)
    have hm62 : ((m : Nat) : Int).toNat = m := by omega
    refine ⟨rfl, _, rfl, ite2 (fun _ => ?_) (fun _ => ?_)⟩
    · refine ⟨_, rfl, (m : Int), rfl, by omega, by omega, fun D nD => ?_⟩
      rw [hm62]
      refine lc_range (lo := 0) (n := m) (fun i H' => Step p H3 H' ∧ H' D = some (.lst (((List.range i).map (w1 spot step)).map V.str))) ⟨.new s5.purse nD, upd_same⟩ ?_ ?_
      · rintro i H' hi ⟨s7, e7⟩
        have eo' := s7.keep o _ npo eo
        have hix := ix_lt (n := 12) (spot := spot) (step := step) (k := i) (by decide)
        refine ⟨rfl, _, rfl, _, rfl, _, rfl, _, rfl, _, _, rfl, rfl, .inl (stp_small hst), _, _, rfl, rfl, _, _, rfl, rfl, (by show (0 : Int) < 12; decide), o, _, _, V.str (w1 spot step i), rfl, rfl, SqL.of eo', at_of (j := ix 12 spot step i) (by rw [Int.zero_add]; exact hix.2.symm) (by rw [List.getElem?_map, w1_at]; rfl), _, e7, ?_, s7.put nD (s5.purse.ne nD), ?_⟩
        · rw [List.length_map, List.length_map, List.length_range]
          exact Nat.lt_of_le_of_lt (show i ≤ 12 by omega) (by decide)
        · rw [upd_same, range_map_succ, List.map_append]
          rfl
      · rintro H' ⟨s7, e7⟩
        refine q D _ H' (s6.trans s7) (s6.free nD) e7 (by rw [List.length_map, List.length_range]) (w1_nodup hst hm) fun z hz => ?_
        obtain ⟨k, _, rfl⟩ := List.mem_map.mp hz
        exact w1_nm spot step k
    · -- the stem
      refine ⟨⟨_, rfl⟩, _, rfl, p, 8, rfl, by decide, by decide, s5.purse, fun r3 H4 g0 g1 s7 => ?_⟩
      refine ⟨r3, rfl, by omega, by omega, fun D nD => ?_⟩
      refine lc_range (lo := 0) (n := r3.toNat) (fun i H' => Step p H4 H' ∧ ∃ cs : List Nat, cs.length = i ∧ allL cs ∧ H' D = some (.lst (cs.map fun c => V.str ⟨#[c]⟩))) ⟨.new s7.purse nD, [], rfl, (fun c h => absurd h (by simp)), upd_same⟩ ?_ ?_
      · rintro i H' hi ⟨s8, cs, hc, ha, e8⟩
        refine ⟨rfl, _, rfl, _, rfl, p, 26, rfl, by decide, by decide, s8.purse, fun r4 H5 k0 k1 s9 => ?_⟩
        have hk : r4.toNat < letters.cps.toList.length := by
          rw [letters_len]
          omega
        have hat2 := List.getElem?_eq_getElem hk
        have npD := s7.purse.ne nD
        refine ⟨letters, r4, _, rfl, rfl, by decide +kernel, at_nat (j := r4.toNat) (by omega) hat2, _, s9.keep D _ npD e8, ?_, (s8.trans s9).put nD npD, cs ++ [letters.cps.toList[r4.toNat]], ?_, ?_, ?_⟩
        · rw [List.length_map, hc]
          exact Nat.lt_of_le_of_lt (show i ≤ 8 by omega) (by decide)
        · rw [List.length_append, hc]
          rfl
        · intro c hcc
          rcases List.mem_append.mp hcc with z | z
          · exact ha c z
          · rw [List.mem_singleton.mp z]
            exact letter_is hat2
        · rw [upd_same, List.map_append]
          rfl
      · rintro H' ⟨s8, cs, hc, ha, e8⟩
        have s9 := (s6.trans s7).trans s8
        have hcs : cs.length ≤ 7 := by omega
        refine ⟨_, D, cs.map (fun c => (⟨#[c]⟩ : Str)), rfl, rfl, .inl (SqL.of (by rw [e8, List.map_map]; rfl)), ?_, ?_⟩
        · have hsum : ∀ l : List Nat, ((l.map fun c => (⟨#[c]⟩ : Str)).map (·.length)).sum = l.length := by
            intro l
            induction l with
            | nil => rfl
            | cons c r ih =>
              rw [List.map_cons, List.map_cons, List.sum_cons, ih, List.length_cons]
              show 1 + r.length = r.length + 1
              omega
          rw [hsum, List.length_map]
          show cs.length + cs.length * 0 ≤ 16777216
          omega
        · have ej : Txt.join "" (cs.map (fun c => (⟨#[c]⟩ : Str))) = ofL cs := (TL.join_eq _ _).trans (join_ones cs)
          rw [ej]
          -- cut, begin
          refine ⟨_, rfl, _, rfl, _, rfl, by rw [ofL_len]; exact Nat.le_trans hcs (by decide), _, _, rfl, rfl, p, _, rfl, ?_, ?_, s9.purse, fun cut H5 c0 c1 t1 => ?_⟩
          · omega
          · rw [ofL_len]
            omega
          rw [ofL_len] at c1
          refine ⟨_, rfl, p, 26, rfl, by decide, by decide, t1.purse, fun begin H6 b0 b1 t2 => ?_⟩
          refine ⟨(by show 2 ≤ sizeLine; decide), fun t2' nt2 => ?_⟩
          have t3 := ((s9.trans t1).trans t2).trans (Step.new (o := .tup [.int cut, .int begin]) t2.purse nt2)
          refine ⟨t2', _, rfl, SqT.of upd_same, rfl, _, _, rfl, _, _, rfl, rfl, ?_⟩
          refine ⟨_, rfl, (m : Int), rfl, by omega, by omega, fun D2 nD2 => ?_⟩
          rw [hm62]
          obtain ⟨cu, rfl⟩ : ∃ cu : Nat, cut = (cu : Int) := ⟨cut.toNat, by omega⟩
          have hcu : cu ≤ cs.length := by omega
          refine lc_range (lo := 0) (n := m) (fun i H' => Step p _ H' ∧ H' D2 = some (.lst (((List.range i).map (w2 cs cu begin step)).map V.str))) ⟨.new t3.purse nD2, upd_same⟩ ?_ ?_
          · rintro i H' hi ⟨u1, e7⟩
            have hix := ix_lt (n := 26) (spot := begin) (step := step) (k := i) (by decide)
            have hz : (ofL cs).length ≤ sizeLine := by rw [ofL_len]; exact Nat.le_trans hcs (by decide)
            refine ⟨rfl, _, rfl, _, rfl, (cu : Int), rfl, ofL cs, rfl, hz, _, rfl, _, rfl, _, rfl, _, rfl, _, _, rfl, rfl, .inl (stp_small hst), _, _, rfl, rfl, _, _, rfl, rfl, (by show (0 : Int) < 26; decide), letters, _, letterAt begin step i, rfl, rfl, by decide +kernel,
              at_nat (j := ix 26 begin step i) (by rw [Int.zero_add]; exact hix.2.symm) (letter_at begin step i), _, _, rfl, rfl, ?_, _, rfl, _, rfl, (cu : Int), rfl, ofL cs, rfl, hz, _, _, rfl, rfl, ?_, _, e7, ?_, u1.put nD2 (t3.purse.ne nD2), ?_⟩
            · rw [cutS_to cs cu hcu, ofL_len, List.length_take]
              show min cu cs.length + 1 ≤ sizeLine
              exact Nat.le_trans (show _ ≤ 8 by omega) (by decide)
            · rw [cutS_to cs cu hcu, cutS_from cs cu hcu, show (⟨#[letterAt begin step i]⟩ : Str) = ofL [letterAt begin step i] from rfl, app_ofL, ofL_len, ofL_len, List.length_append, List.length_take, List.length_drop]
              show min cu cs.length + 1 + (cs.length - cu) ≤ sizeLine
              exact Nat.le_trans (show _ ≤ 16 by omega) (by decide)
            · rw [List.length_map, List.length_map, List.length_range]
              exact Nat.lt_of_le_of_lt (show i ≤ 12 by omega) (by decide)
            · rw [upd_same, range_map_succ, List.map_append, cutS_to cs cu hcu, cutS_from cs cu hcu, show (⟨#[letterAt begin step i]⟩ : Str) = ofL [letterAt begin step i] from rfl, app_ofL, app_ofL]
              rfl
          · rintro H' ⟨u1, e7⟩
            refine q D2 _ H' (t3.trans u1) (t3.free nD2) e7 (by rw [List.length_map, List.length_range]) (w2_nodup hst hm) fun z hz => ?_
            obtain ⟨k, _, rfl⟩ := List.mem_map.mp hz
            exact w2_nm ha hcs
end
end Du

set_option Elab.async false
set_option linter.all false
set_option maxRecDepth 100000
namespace Du
open PySem L2
open PySem.Spec (ltCps)
theorem lt_tri : ∀ a b : List Nat, ltCps a b = false → a ≠ b → ltCps b a = true
  | [], [], _, h => absurd rfl h
  | [], _ :: _, h, _ => by simp [ltCps] at h
  | _ :: _, [], _, _ => rfl
  | a :: r, b :: t, h, hn => by
    simp only [ltCps, Bool.or_eq_false_iff, decide_eq_false_iff_not, Bool.and_eq_false_iff] at h
    simp only [ltCps, Bool.or_eq_true, decide_eq_true_eq, Bool.and_eq_true]
    by_cases e : a = b
    · subst e
      rcases h.2 with z | z
      · simp at z
      · exact .inr ⟨by simp, lt_tri r t z fun q => hn (by rw [q])⟩
    · exact .inl (by omega)
theorem lt_tra : ∀ a b c : List Nat, ltCps a b = true → ltCps b c = true → ltCps a c = true
  | [], [], _, h, _ => by simp [ltCps] at h
  | [], _ :: _, [], _, h => by simp [ltCps] at h
  | [], _ :: _, _ :: _, _, _ => rfl
  | _ :: _, [], _, h, _ => by simp [ltCps] at h
  | _ :: _, _ :: _, [], _, h => by simp [ltCps] at h
  | a :: r, b :: t, c :: u, h1, h2 => by
    simp only [ltCps, Bool.or_eq_true, decide_eq_true_eq, Bool.and_eq_true, beq_iff_eq] at h1 h2 ⊢
    rcases h1 with h1 | ⟨rfl, h1⟩ <;> rcases h2 with h2 | ⟨rfl, h2⟩
    · exact .inl (by omega)
    · exact .inl h1
    · exact .inl h2
    · exact .inr ⟨rfl, lt_tra r t u h1 h2⟩
theorem cps_inj {a b : Str} (h : a.cps.toList = b.cps.toList) : a = b := by
  rw [str_ofL a, str_ofL b, h]
theorem rising_pw : ∀ (p : Str) (r : List Str), PyProof.Rows.risingS p r = true → (p :: r).Nodup → (p :: r).Pairwise fun a b => ltCps a.cps.toList b.cps.toList = true
  | p, [], _, _ => by simp
  | p, x :: r, h, hn => by
    simp only [PyProof.Rows.risingS, Bool.and_eq_true, Bool.not_eq_true'] at h
    have hn' := List.nodup_cons.mp hn
    have ih := rising_pw x r h.2 hn'.2
    have hpx : ltCps p.cps.toList x.cps.toList = true := lt_tri _ _ h.1 fun e => hn'.1 (by rw [cps_inj e.symm]; exact List.mem_cons_self)
    refine List.pairwise_cons.mpr ⟨fun y hy => ?_, ih⟩
    rcases List.mem_cons.mp hy with rfl | hy
    · exact hpx
    · exact lt_tra _ _ _ hpx ((List.pairwise_cons.mp ih).1 y hy)
theorem sorted_pw {ys : List Str} (h : PyProof.Rows.sortedS ys = true) (hn : ys.Nodup) : ys.Pairwise fun a b => ltCps a.cps.toList b.cps.toList = true := by
  cases ys with
  | nil => simp
  | cons p r => exact rising_pw p r h hn
theorem pw_take {ys : List Str} (h : ys.Pairwise fun a b => ltCps a.cps.toList b.cps.toList = true) {i : Nat} {x y : Str} (hx : x ∈ ys.take i) (hy : ys[i]? = some y) : ltCps x.cps.toList y.cps.toList = true := by
  obtain ⟨j, hj⟩ := List.getElem?_of_mem hx
  obtain ⟨hl, e⟩ := List.getElem?_eq_some_iff.mp hj
  rw [List.getElem_take] at e
  rw [List.length_take] at hl
  obtain ⟨hi, e2⟩ := List.getElem?_eq_some_iff.mp hy
  rw [← e, ← e2]
  exact List.pairwise_iff_getElem.mp h j i (by omega) hi (by omega)
theorem ahead_lt {h g : Hold} (hn : ltCps h.1.cps.toList g.1.cps.toList = true) : ahead h g = true := by
  unfold ahead
  have ne : ¬ h.1 = g.1 := fun e => by
    rw [e] at hn
    rw [PyProof.Rows.ltCps_eq] at hn
    exact absurd (of_decide_eq_true hn) (by simp)
  rw [if_neg ne, ← PyProof.Rows.ltCps_eq]
  exact hn
theorem ahead_same {h g : Hold} (e : h.1 = g.1) (hl : h.2.1 + h.2.2 ≤ g.2.1) : ahead h g = true := by
  unfold ahead
  rw [if_pos e]
  exact decide_eq_true hl
def chain (hs : List Hold) : Bool := (hs.zip (hs.drop 1)).all fun p => ahead p.1 p.2
theorem chain_add : ∀ (hs : List Hold) (h : Hold), chain hs = true → (∀ g, hs.getLast? = some g → ahead g h = true) → chain (hs ++ [h]) = true
  | [], h, _, _ => rfl
  | [g], h, _, q => by
    show (ahead g h && true) = true
    rw [q g rfl]
    rfl
  | g :: k :: r, h, c, q => by
    have c' : (ahead g k && chain (k :: r)) = true := c
    rw [Bool.and_eq_true] at c'
    show (ahead g k && chain ((k :: r) ++ [h])) = true
    rw [c'.1, chain_add (k :: r) h c'.2 fun g hg => q g (by rw [List.getLast?_cons_cons]; exact hg)]
    rfl
/-- holds that are good, in the making -/
structure Good (hs : List Hold) (c : Int) : Prop where
  len : hs.length ≤ 4
  all : ∀ h ∈ hs, isHd h c = true
  ch : chain hs = true
theorem Good.ok {hs : List Hold} {c : Int} (g : Good hs c) : areHds hs c = true := by
  unfold areHds
  rw [decide_eq_true g.len]
  have e : (hs.all fun h => isHd h c) = true := List.all_eq_true.mpr g.all
  rw [e]
  exact g.ch
theorem Good.nm {hs : List Hold} {c : Int} (g : Good hs c) : ∀ h ∈ hs, isNm h.1 = true := fun h hh => by
  have z := g.all h hh
  unfold isHd at z
  exact (Bool.and_eq_true_iff.mp z).1
theorem Good.nil (c : Int) : Good [] c := ⟨by simp, by simp, rfl⟩
theorem Good.add {hs : List Hold} {c : Int} {h : Hold} (g : Good hs c) (hl : hs.length < 4) (hh : isHd h c = true) (q : ∀ g, hs.getLast? = some g → ahead g h = true) : Good (hs ++ [h]) c :=
  ⟨by rw [List.length_append]; show hs.length + 1 ≤ 4; omega, fun k hk => by
    rcases List.mem_append.mp hk with z | z
    · exact g.all k z
    · rw [List.mem_singleton.mp z]
      exact hh, chain_add hs h g.ch q⟩
theorem hd_of {z : Str} {s l c : Int} (hz : isNm z = true) (h0 : 0 ≤ s) (h1 : 1 ≤ l) (h2 : s + l ≤ c) : isHd (z, s, l) c = true := by
  unfold isHd
  rw [hz]
  simp
  omega
/-! under a step of the purse -/
theorem sqT_step {K : PySem.W.Frag} {p a : Addr} {H H' : Hp} {xs : List V} (hp : Purse H p) (s : Step p H H') (h : SqT K H a xs) : SqT K H' a xs := by
  obtain ⟨x, d, c, e, _⟩ := hp
  rcases h with (h | ⟨o, h⟩) | h
  · exact .inl (.inl (s.keep a _ (ne_of h e (by intro z; cases z)) h))
  · exact .inl (.inr ⟨o, s.keep a _ (ne_of h e (by intro z; cases z)) h⟩)
  · exact .inr h
theorem HdAt.step {K : PySem.W.Frag} {p : Addr} {H H' : Hp} {v : V} {h : Hold} (d : HdAt K H v h) (hp : Purse H p) (s : Step p H H') : HdAt K H' v h := by
  obtain ⟨a, e, q⟩ := d
  exact ⟨a, e, sqT_step hp s q⟩
theorem HdsAt.step {K : PySem.W.Frag} {p t : Addr} {H H' : Hp} {hs : List Hold} (d : HdsAt K H t hs) (hp : Purse H p) (s : Step p H H') : HdsAt K H' t hs := by
  obtain ⟨vs, h1, h2, h3⟩ := d
  exact ⟨vs, sqT_step hp s h1, h2, fun i v h e1 e2 => (h3 i v h e1 e2).step hp s⟩
end Du

set_option Elab.async false
set_option linter.all false
set_option maxRecDepth 100000
namespace Du
open PySem L2
abbrev sHoldsL : Stmt := topS 38
/-- found so far -/
structure Fnd (K : PySem.W.Frag) (p F S : Addr) (ys : List Str) (H H1 : Hp) (hs : List Hold) (vs : List V) : Prop where
  st : Step p H H1
  eS : H1 S = some (.lst (ys.map V.str))
  eF : H1 F = some (.lst vs)
  ln : vs.length = hs.length
  at_ : ∀ (i : Nat) v h, vs[i]? = some v → hs[i]? = some h → HdAt K H1 v h
theorem Fnd.step {K : PySem.W.Frag} {p F S : Addr} {ys : List Str} {H H1 H2 : Hp} {hs : List Hold} {vs : List V} (f : Fnd K p F S ys H H1 hs vs) (hF : F ≠ p) (hS : S ≠ p) (s : Step p H1 H2) : Fnd K p F S ys H H2 hs vs :=
  ⟨f.st.trans s, s.keep _ _ hS f.eS, s.keep _ _ hF f.eF, f.ln, fun i v h e1 e2 => (f.at_ i v h e1 e2).step f.st.purse s⟩
theorem Fnd.add {K : PySem.W.Frag} {p F S T : Addr} {ys : List Str} {H H1 : Hp} {hs : List Hold} {vs : List V} (f : Fnd K p F S ys H H1 hs vs) (hF : F ≠ p) (hSF : S ≠ F) (nF : H F = none) (h : Hold) (nT : H1 T = none) :
    Fnd K p F S ys H (upd (upd H1 T (.tup [.str h.1, .int h.2.1, .int h.2.2])) F (.lst (vs ++ [.ref T]))) (hs ++ [h]) (vs ++ [.ref T]) := by
  have nTF : F ≠ T := ne_of_none f.eF nT
  have nTS : S ≠ T := ne_of_none f.eS nT
  have nTp : T ≠ p := f.st.purse.ne nT
  have kT : ∀ a xs, SqT K H1 a xs → SqT K (upd (upd H1 T (.tup [.str h.1, .int h.2.1, .int h.2.2])) F (.lst (vs ++ [.ref T]))) a xs := fun a xs z => by
    rcases z with (z | ⟨o, z⟩) | z
    · exact .inl (.inl (by rw [upd_ne (ne_of z f.eF (by intro y; cases y)), upd_ne (ne_of_none z nT)]; exact z))
    · exact .inl (.inr ⟨o, by rw [upd_ne (ne_of z f.eF (by intro y; cases y)), upd_ne (ne_of_none z nT)]; exact z⟩)
    · exact .inr z
  refine ⟨(f.st.put (f.st.free nT) nTp).put nF hF, by rw [upd_ne hSF, upd_ne nTS]; exact f.eS, upd_same, by rw [List.length_append, List.length_append, f.ln]; rfl, fun i v g e1 e2 => ?_⟩
  by_cases hi : i < vs.length
  · rw [List.getElem?_append_left hi] at e1
    rw [List.getElem?_append_left (by rw [← f.ln]; exact hi)] at e2
    obtain ⟨a, ea, z⟩ := f.at_ i v g e1 e2
    exact ⟨a, ea, kT a _ z⟩
  · have hi' : vs.length ≤ i := Nat.le_of_not_lt hi
    rw [List.getElem?_append_right hi'] at e1
    rw [List.getElem?_append_right (by rw [← f.ln]; exact hi'), ← f.ln] at e2
    cases hk : i - vs.length with
    | zero =>
      rw [hk] at e1 e2
      cases e1
      cases e2
      exact ⟨T, rfl, SqT.of (by rw [upd_ne nTF.symm, upd_same])⟩
    | succ k =>
      rw [hk] at e1
      simp at e1
section
variable {P : Program} {w : World} {K : PySem.W.Frag} {mg : Str → Option Value} {base : Heap}
abbrev nHoldsL : List Str := ["_law_purse_here", "_law_price", "_law_tools", "_law_found", "_law_tool", "_law_begin", "_law_size", "_law_rest"]
theorem scHoldsL : FnScope nHoldsL ["_law_purse_here", "_law_price", "_law_tools"] (defScope sHoldsL) := ⟨rfl, rfl, rfl, by decide +kernel, rfl, by decide +kernel, by decide +kernel⟩
def spHoldsL (K : PySem.W.Frag) : Sp := fun vs H Q _ => ∃ (p l : Addr) (c : Int) (ws : List Str), vs = [.ref p, .int c, .ref l] ∧ 1 ≤ c ∧ c ≤ 99 ∧ Purse H p ∧ SqL K H l (ws.map V.str) ∧ ws.length < 64 ∧ ws.Nodup ∧ (∀ z ∈ ws, isNm z = true) ∧
  ∀ (t : Addr) (hs : List Hold) H', Step p H H' → HdsAt K H' t hs → Good hs c → (∀ g ∈ hs, g.1 ∈ ws) → Q (.ref t) H'
set_option maxHeartbeats 1000000 in
theorem ok_holdsL {f : Addr} {fd : FuncData} (F : Fun K "_law_holds" "_law_holds" sHoldsL f fd) (ml : mg "len" = none) (ms : mg "sorted" = none) (mt : mg "tuple" = none) (DT : Dn P w K mg base 3 "_law_take" ["_law_purse_here", "_law_many"] spTake) :
    FnOk P w K mg base CX0 4 f fd ["_law_purse_here", "_law_price", "_law_tools"] (spHoldsL K) := by
  refine F.ok scHoldsL (fun vs H Q E h => ?_) (fun cdv A outer s H vs Q E hr h => ?_)
  · obtain ⟨p, l, c, ws, rfl, _⟩ := h
    rfl
  · obtain ⟨p, l, c, ws, rfl, hc1, hc99, hp, hL, hwl, hnd, hnm, q⟩ := h
    refine ⟨_, pss_cons (ps_set (i := 3) scHoldsL.nd rfl (.inl rfl) (pe_lst pa_nil))
      (pss_cons (ps_for PassesOwn.never rfl (pi_list (pe_callB cr_sortedS (by rfl) ms (by decide +kernel) (pa_cons (pv 2) pa_nil))) (pg_name (i := 4) scHoldsL.nd rfl (.inl rfl))
        (pss_one (ps_if (PW.pt (pw_and (pt_cmpR op_lt (pe_callB call_len_seq (by rfl) ml (by decide +kernel) (pa_cons (pv 3) pa_nil)) pe_int (nomark _)) (pw_and1 (pt_cmpR op_gt (pcall DT hr (by rfl) (pa_cons (pv 0) (pa_cons pe_int pa_nil))) pe_int (nomark _)))))
          (pss_cons (ps_set (i := 5) scHoldsL.nd rfl (.inl rfl) (pcall DT hr (by rfl) (pa_cons (pv 0) (pa_cons (pv 1) pa_nil))))
          (pss_cons (ps_set (i := 6) scHoldsL.nd rfl (.inl rfl) (pe_op op_add pe_int (pcall DT hr (by rfl) (pa_cons (pv 0) (pa_cons (pe_op op_sub (pv 1) (pv 5)) pa_nil)))))
          (pss_cons (ps_expr (pe_bm PySem.F.plainAttrs_list PySem.F.slot_list_append PySem.F.type_list_append mt_append (pv 3) (pa_cons (pe_tup (pa_cons (pv 4) (pa_cons (pv 5) (pa_cons (pv 6) pa_nil)))) pa_nil)))
          (pss_cons (ps_set (i := 7) scHoldsL.nd rfl (.inl rfl) (pe_op op_add (pv 5) (pv 6)))
          (pss_one (ps_if (PW.pt (pw_and (pt_cmpR op_lt (pe_callB call_len_seq (by rfl) ml (by decide +kernel) (pa_cons (pv 3) pa_nil)) pe_int (nomark _)) (pw_and (pt_cmpR op_lt (pv 7) (pv 1) (nomark _)) (pw_and1 (pt_cmpR op_eq (pcall DT hr (by rfl) (pa_cons (pv 0) (pa_cons pe_int pa_nil))) pe_int (nomark _))))))
            (pss_cons (ps_set (i := 5) scHoldsL.nd rfl (.inl rfl) (pe_op op_add (pv 7) (pe_ix ix_list (pe_lst (pa_cons pe_int (pa_cons (pcall DT hr (by rfl) (pa_cons (pv 0) (pa_cons (pe_op op_sub (pv 1) (pv 7)) pa_nil))) pa_nil))) (pcall DT hr (by rfl) (pa_cons (pv 0) (pa_cons pe_int pa_nil))) (fun _ _ => rfl))))
            (pss_one (ps_expr (pe_bm PySem.F.plainAttrs_list PySem.F.slot_list_append PySem.F.type_list_append mt_append (pv 3) (pa_cons (pe_tup (pa_cons (pv 4) (pa_cons (pv 5) (pa_cons (pe_op op_add pe_int (pcall DT hr (by rfl) (pa_cons (pv 0) (pa_cons (pe_op op_sub (pv 1) (pv 5)) pa_nil)))) pa_nil)))) pa_nil)))))
            pss_nil)))))) pss_nil)))
      (pss_one (ps_ret (pe_callTy call_tuple_of (by rfl) mt (by decide +kernel) (pa_cons (pv 3) pa_nil))))), ?_⟩
    refine ⟨Nat.zero_le _, fun F0 nF => ?_⟩
    have hF : F0 ≠ p := hp.ne nF
    have s0 : Same H (upd H F0 (.lst [])) := same_upd nF
    refine ⟨_, rfl, l, ws, rfl, hL.ext s0, hwl, fun ys S hperm hsort nS => ?_⟩
    have nS' : H S = none := s0.free nS
    have hSF : S ≠ F0 := fun e => by rw [e, upd_same] at nS; cases nS
    have hS : S ≠ p := hp.ne nS'
    have hys : ∀ z ∈ ys, z ∈ ws := fun z hz => hperm.mem_iff.mp hz
    have pw := sorted_pw hsort (hperm.nodup_iff.mpr hnd)
    refine ⟨S, rfl, ⟨_, SqL.of upd_same⟩, for_list (K := K) (a := S) (xs := ys.map V.str) (fun i σ H1 => ∃ (hs : List Hold) (vs : List V) (v4 v5 v6 v7 : Option V), σ = [some (.ref p), some (.int c), some (.ref l), some (.ref F0), v4, v5, v6, v7] ∧ Fnd K p F0 S ys H H1 hs vs ∧ Good hs c ∧ ∀ g ∈ hs, g.1 ∈ ys.take i)
      ⟨[], [], none, none, none, none, rfl, ⟨(Step.new hp nF).put nS' hS, upd_same, by rw [upd_ne hSF.symm, upd_same], rfl, fun i v h e _ => by simp at e⟩, Good.nil c, by simp⟩ (fun i σ H1 _ z => ?_) ?_ ?_⟩
    · obtain ⟨_, _, _, _, _, _, _, f, _⟩ := z
      exact SqL.of f.eS
    · rintro i x σ H1 hi ⟨hs, vs, v4, v5, v6, v7, rfl, fd0, gd, hin⟩
      obtain ⟨tool, hty, rfl⟩ : ∃ z, ys[i]? = some z ∧ x = V.str z := by
        rw [List.getElem?_map] at hi
        cases e : ys[i]? with
        | none => rw [e] at hi; cases hi
        | some z => rw [e] at hi; exact ⟨z, rfl, (Option.some.inj hi).symm⟩
      have htn : isNm tool = true := hnm _ (hys _ (List.mem_of_getElem? hty))
      have hmono : ∀ g ∈ hs, g.1 ∈ ys.take (i + 1) := fun g hg => by
        rw [List.take_add_one]
        exact List.mem_append_left _ (hin g hg)
      have hself : tool ∈ ys.take (i + 1) := by
        rw [List.take_add_one, hty]
        exact List.mem_append_right _ (by simp)
      refine ⟨_, rfl, F0, _, rfl, .inl (SqL.of fd0.eF), _, _, rfl, rfl, _, rfl, ?_⟩
      by_cases h4 : vs.length < 4
      · have e1 : decide (((vs.length : Nat) : Int) < 4) = true := decide_eq_true (by omega)
        rw [e1]
        refine ⟨_, rfl, p, 3, rfl, by decide, by decide, fd0.st.purse, fun r1 H2 _ _ s1 => ⟨_, _, rfl, rfl, _, rfl, ?_⟩⟩
        have fd1 := fd0.step hF hS s1
        refine ite2 (fun _ => ?_) (fun _ => ⟨hs, vs, _, _, _, _, rfl, fd1, gd, hmono⟩)
        -- begin, size
        refine ⟨_, rfl, _, rfl, p, c, rfl, by omega, by omega, fd1.st.purse, fun b H3 b0 b1 s2 => ?_⟩
        have fd2 := fd1.step hF hS s2
        refine ⟨_, rfl, _, rfl, _, rfl, _, _, rfl, rfl, p, _, rfl, by omega, by omega, fd2.st.purse, fun z H4 z0 z1 s3 => ⟨_, _, rfl, rfl, ?_⟩⟩
        have fd3 := fd2.step hF hS s3
        refine ⟨_, rfl, .inl ⟨rfl, _, SqL.of fd3.eF⟩, _, rfl, _, rfl, _, rfl, (by show 3 ≤ sizeLine; decide), fun T nT => ?_⟩
        have eFT : (upd H4 T (.tup [.str tool, .int b, .int (1 + z)])) F0 = some (.lst vs) := by
          rw [upd_ne (ne_of_none fd3.eF nT)]
          exact fd3.eF
        refine ⟨F0, _, _, rfl, rfl, eFT, Nat.lt_of_lt_of_le h4 (by decide), ?_⟩
        have fd4 := fd3.add hF hSF nF (tool, b, 1 + z) nT
        have gd4 : Good (hs ++ [(tool, b, 1 + z)]) c := gd.add (by rw [← fd0.ln]; exact h4) (hd_of htn b0 (by omega) (by omega)) fun g hg => ahead_lt (pw_take pw (hin g (List.mem_of_getLast? hg)) hty)
        have hin4 : ∀ g ∈ hs ++ [(tool, b, 1 + z)], g.1 ∈ ys.take (i + 1) := fun g hg => by
          rcases List.mem_append.mp hg with y | y
          · exact hmono g y
          · rw [List.mem_singleton.mp y]
            exact hself
        refine ⟨_, rfl, _, rfl, _, _, rfl, rfl, ?_⟩
        refine ⟨_, rfl, F0, _, rfl, .inl (SqL.of fd4.eF), _, _, rfl, rfl, _, rfl, ?_⟩
        by_cases h5 : (vs ++ [V.ref T]).length < 4
        · have e2 : decide ((((vs ++ [V.ref T]).length : Nat) : Int) < 4) = true := decide_eq_true (by omega)
          rw [e2]
          refine ⟨_, rfl, _, rfl, _, _, rfl, rfl, _, rfl, ?_⟩
          by_cases h6 : b + (1 + z) < c
          · rw [decide_eq_true h6]
            refine ⟨_, rfl, p, 3, rfl, by decide, by decide, fd4.st.purse, fun r2 H5 _ _ s5 => ⟨rfl, _, rfl, ?_⟩⟩
            have fd5 := fd4.step hF hS s5
            refine ite2 (fun _ => ?_) (fun _ => ⟨_, _, _, _, _, _, rfl, fd5, gd4, hin4⟩)
            -- the second hold
            refine ⟨_, rfl, _, rfl, _, rfl, _, rfl, _, _, rfl, rfl, p, _, rfl, by omega, by omega, fd5.st.purse, fun d H6 d0 d1 s6 => ?_⟩
            have fd6 := fd5.step hF hS s6
            refine ⟨(by show 2 ≤ sizeLine; decide), fun L nL => ?_⟩
            have s7 : Step p H6 (upd H6 L (.lst [.int 0, .int d])) := .new fd6.st.purse nL
            have fd7 := fd6.step hF hS s7
            refine ⟨_, rfl, p, 2, rfl, by decide, by decide, fd7.st.purse, fun r3 H8 t0 t1 s8 => ?_⟩
            have fd8 := fd7.step hF hS s8
            have eL : H8 L = some (.lst [.int 0, .int d]) := s8.keep L _ (fd6.st.purse.ne nL) upd_same
            obtain ⟨e, he, he0, he1⟩ : ∃ e : Int, atI [V.int 0, V.int d] r3 = some (V.int e) ∧ 0 ≤ e ∧ b + (1 + z) + e < c := by
              have hr3 : r3 = 0 ∨ r3 = 1 := by omega
              rcases hr3 with rfl | rfl
              · exact ⟨0, at_of (j := 0) rfl rfl, Int.le_refl _, by omega⟩
              · exact ⟨d, at_of (j := 1) rfl rfl, d0, by omega⟩
            refine ⟨L, _, _, _, rfl, rfl, SqL.of eL, he, _, _, rfl, rfl, ?_⟩
            refine ⟨_, rfl, .inl ⟨rfl, _, SqL.of fd8.eF⟩, _, rfl, _, rfl, _, rfl, _, rfl, _, rfl, _, _, rfl, rfl, p, _, rfl, by omega, by omega, fd8.st.purse, fun y H9 y0 y1 s9 => ⟨_, _, rfl, rfl, ?_⟩⟩
            have fd9 := fd8.step hF hS s9
            refine ⟨(by show 3 ≤ sizeLine; decide), fun T2 nT2 => ?_⟩
            have eFT2 : (upd H9 T2 (.tup [.str tool, .int (b + (1 + z) + e), .int (1 + y)])) F0 = some (.lst (vs ++ [V.ref T])) := by
              rw [upd_ne (ne_of_none fd9.eF nT2)]
              exact fd9.eF
            refine ⟨F0, _, _, rfl, rfl, eFT2, Nat.lt_of_lt_of_le h5 (by decide), ?_⟩
            refine ⟨_, _, _, _, _, _, rfl, fd9.add hF hSF nF (tool, b + (1 + z) + e, 1 + y) nT2, gd4.add (by rw [← fd4.ln]; exact h5) (hd_of htn (by omega) (by omega) (by omega)) fun g hg => ?_, fun g hg => ?_⟩
            · rw [List.getLast?_append] at hg
              have eg : g = (tool, b, 1 + z) := by simpa using hg.symm
              rw [eg]
              exact ahead_same rfl (by show b + (1 + z) ≤ b + (1 + z) + e; omega)
            · rcases List.mem_append.mp hg with y | y
              · exact hin4 g y
              · rw [List.mem_singleton.mp y]
                exact hself
          · rw [decide_eq_false h6]
            exact ⟨_, _, _, _, _, _, rfl, fd4, gd4, hin4⟩
        · have e2 : decide ((((vs ++ [V.ref T]).length : Nat) : Int) < 4) = false := decide_eq_false (by omega)
          rw [e2]
          exact ⟨_, _, _, _, _, _, rfl, fd4, gd4, hin4⟩
      · have e1 : decide (((vs.length : Nat) : Int) < 4) = false := decide_eq_false (by omega)
        rw [e1]
        exact ⟨hs, vs, _, _, _, _, rfl, fd0, gd, hmono⟩
    · rintro σ H1 ⟨hs, vs, v4, v5, v6, v7, rfl, fd0, gd, hin⟩
      refine ⟨_, rfl, F0, vs, rfl, .inl ⟨SqL.of fd0.eF, fun t nt => ?_⟩⟩
      have sT := Step.new (o := .tup vs) fd0.st.purse nt
      exact q t hs _ (fd0.st.trans sT) ⟨vs, SqT.of upd_same, fd0.ln, fun i v h e1 e2 => (fd0.at_ i v h e1 e2).step fd0.st.purse sT⟩ gd fun g hg => hys _ (List.mem_of_mem_take (hin g hg))
end
end Du

set_option Elab.async false
set_option linter.all false
set_option maxRecDepth 100000
namespace Du
open PySem L2
abbrev pInit : List Str := ["self", "name", "cost", "gap", "due", "holds"]
abbrev FunI (K : PySem.W.Frag) (e0 f : Addr) (fd : FuncData) : Prop := FunD K "__init__" "Task.__init__" (defArgs sInit) (defBody sInit) (defScope sInit) [] [("due", .non), ("holds", .ref e0)] f fd
section
variable {K : PySem.W.Frag} {e0 f : Addr} {fd : FuncData}
def one {α : Type} (l : List α) (i : Nat) : List α := (l.drop i).take 1
theorem one_rel {vs : List V} {us : List Value} (r : Vals vs us) (i : Nat) : Vals (one vs i) (one us i) := (r.drop i).take 1
/-- all five by name -/
theorem kb5 (F : FunI K e0 f fd) : ∃ mv : List Value, KBn K fd pInit 1 ["holds", "gap", "name", "due", "cost"] (fun us ws => us ++ (one ws 2 ++ (one ws 4 ++ (one ws 1 ++ (one ws 3 ++ one ws 0))))) (fun us ws => us ++ (one ws 2 ++ (one ws 4 ++ (one ws 1 ++ (one ws 3 ++ one ws 0))))) :=
  F.kbinds0 1 _ [] (fun us _ ws => us ++ (one ws 2 ++ (one ws 4 ++ (one ws 1 ++ (one ws 3 ++ one ws 0))))) (by simp) (by simp)
    (fun r1 _ r3 => r1.append ((one_rel r3 2).append ((one_rel r3 4).append ((one_rel r3 1).append ((one_rel r3 3).append (one_rel r3 0))))))
    (fun D doc pm an cdv ct us mv ws h1 h2 h3 => match us, mv, ws, h1, h2, h3 with | [_], [], [_, _, _, _, _], _, _, _ => rfl)
/-- four by name -/
theorem kb4 (F : FunI K e0 f fd) : ∃ mv : List Value, KBn K fd pInit 2 ["gap", "due", "cost", "holds"] (fun us ws => us ++ (one ws 2 ++ (one ws 0 ++ (one ws 1 ++ one ws 3)))) (fun us ws => us ++ (one ws 2 ++ (one ws 0 ++ (one ws 1 ++ one ws 3)))) :=
  F.kbinds0 2 _ [] (fun us _ ws => us ++ (one ws 2 ++ (one ws 0 ++ (one ws 1 ++ one ws 3)))) (by simp) (by simp)
    (fun r1 _ r3 => r1.append ((one_rel r3 2).append ((one_rel r3 0).append ((one_rel r3 1).append (one_rel r3 3)))))
    (fun D doc pm an cdv ct us mv ws h1 h2 h3 => match us, mv, ws, h1, h2, h3 with | [_, _], [], [_, _, _, _], _, _, _ => rfl)
theorem kb3 (F : FunI K e0 f fd) : ∃ mv : List Value, KBn K fd pInit 3 ["holds", "due", "gap"] (fun us ws => us ++ (one ws 2 ++ (one ws 1 ++ one ws 0))) (fun us ws => us ++ (one ws 2 ++ (one ws 1 ++ one ws 0))) :=
  F.kbinds0 3 _ [] (fun us _ ws => us ++ (one ws 2 ++ (one ws 1 ++ one ws 0))) (by simp) (by simp)
    (fun r1 _ r3 => r1.append ((one_rel r3 2).append ((one_rel r3 1).append (one_rel r3 0))))
    (fun D doc pm an cdv ct us mv ws h1 h2 h3 => match us, mv, ws, h1, h2, h3 with | [_, _, _], [], [_, _, _], _, _, _ => rfl)
theorem kb2 (F : FunI K e0 f fd) : ∃ mv : List Value, KBn K fd pInit 4 ["due", "holds"] (fun us ws => us ++ ws) (fun us ws => us ++ ws) :=
  F.kbinds0 4 _ [] (fun us _ ws => us ++ ws) (by simp) (by simp) (fun r1 _ r3 => r1.append r3)
    (fun D doc pm an cdv ct us mv ws h1 h2 h3 => match us, mv, ws, h1, h2, h3 with | [_, _, _, _], [], [_, _], _, _, _ => rfl)
theorem kbD (F : FunI K e0 f fd) : ∃ mv : List Value, KBn K fd pInit 4 ["due"] (fun us ws => us ++ (ws ++ mv)) (fun us ws => us ++ (ws ++ [V.ref e0])) :=
  F.kbinds0 4 _ [("holds", V.ref e0)] (fun us mv ws => us ++ (ws ++ mv)) (by simp) (by simp) (fun r1 r2 r3 => r1.append (r3.append r2))
    (fun D doc pm an cdv ct us mv ws h1 h2 h3 => match us, mv, ws, h1, h2, h3 with | [_, _, _, _], [_], [_], _, _, _ => ⟨_, _, _, _, _, _, rfl, rfl, rfl⟩)
theorem kbH (F : FunI K e0 f fd) : ∃ mv : List Value, KBn K fd pInit 4 ["holds"] (fun us ws => us ++ (mv ++ ws)) (fun us ws => us ++ ([V.non] ++ ws)) :=
  F.kbinds0 4 _ [("due", V.non)] (fun us mv ws => us ++ (mv ++ ws)) (by simp) (by simp) (fun r1 r2 r3 => r1.append (r2.append r3))
    (fun D doc pm an cdv ct us mv ws h1 h2 h3 => match us, mv, ws, h1, h2, h3 with | [_, _, _, _], [_], [_], _, _, _ => ⟨_, _, _, _, _, _, rfl, rfl, rfl⟩)
theorem kb0 (F : FunI K e0 f fd) : ∃ ds, Vals [V.non, V.ref e0] ds ∧ Binds K fd pInit ds :=
  F.binds0 4 (by simp) rfl (fun D doc pm an cdv ct us ks h1 h2 => match us, ks, h1, h2 with | [_, _, _, _], [_, _], _, _ => ⟨_, _, _, _, _, _, rfl, rfl, _, _, _, _, _, _, rfl, rfl, rfl⟩)
end
end Du

set_option Elab.async false
set_option linter.all false
set_option maxRecDepth 100000
namespace Du
open PySem L2 PyProof.Rows
section
variable {P : Program} {w : World} {K : PySem.W.Frag} {mg : Str → Option Value} {base : Heap} {k : Nat} {f : Addr} {N ps : List Str} {A : Around} {outer : List Env} {s : Shared} {H : Hp} {args : Args} {us : List Value} {vs : List V} {Q : VK}
/-- a def's call where one stands, by its body there -/
theorem fn_at {name qual : Str} {params : Arguments} {body : List Stmt} {scope : Scope} {dV kV doc pm cdv ct oc : Value} {an od : Option Addr} {osl : Array (Option Value)}
    (lk : K.lookup f = some ⟨oc, od, .func (PySem.W.fnOf name qual params body scope dV kV doc pm an cdv ct), osl⟩) (hcd : PySem.W.codeIn K cdv qual = true) (S : FnScope N ps scope) (hr : Room (k + 1) A) (e0 : Env0 P w K mg base A outer s H)
    (hb : BindsTo s (PySem.W.fnOf name qual params body scope dV kV doc pm an cdv ct) args (ps.zip us)) (r : Vals vs us) (hl : vs.length = ps.length)
    (go : ∃ t, PSs (cxOf CX0 P w K mg base N qual scope f cdv A outer s H E0).nox body t ∧ t { nx := fun _ H' => Q .non H', rt := Q } (L2.start N vs) H) : codeAny (model P w) A (.call (.ref f) args) (CR CX0 outer P w H s Q E0) s := by
  have kept := fun b o e => (e0.bs b o e).1
  have KX : K.In s.heap := e0.mod.kin.keeps kept
  refine codeAny_call_function hr.depth (KX _ _ lk) rfl S.co S.gen rfl (PySem.W.codeRec_of KX hcd) (hb _ _ _ _ (wpAny_newFunctionEnv_cells S.kind (fun y hy => (S.par y.1 (List.of_mem_zip hy).1).imp id fun q => ⟨q, PySem.W.cellsFrom_some _ _ _ (.inl q)⟩) fun env he s1 x => ?_))
  subst he
  obtain ⟨t, ht, hq⟩ := go
  have I := inv_start (CX := CX0) (E := E0) S hr.hd e0 hl r x
  refine ⟨(e0.mod.nolimit.keeps kept).keeps x.toInCall.keep, codeAny_func (wpAny_mono (ht.nox.run [] s1 _ H _ I hq) (fun fl s' hs => ?_) fun _ _ z => z)⟩
  match fl, hs with
  | .ret u, ⟨v, σ', H', J, rv, q⟩ => exact ⟨v, H', J.os, J.bare, J.base, J.hok, rv, q⟩
  | .next, ⟨σ', H', J, q⟩ => exact ⟨V.non, H', J.os, J.bare, J.base, J.hok, rfl, q⟩
  | .brk, ⟨_, _, _, q⟩ => exact q.elim
  | .cont, ⟨_, _, _, q⟩ => exact q.elim
end
/-- the law's def, called by the claim's own caller -/
def LawOk (P : Program) (w : World) (K : PySem.W.Frag) (mg : Str → Option Value) (base : Heap) (fa : Addr) (fd : FuncData) (x : Str) (sp : Sp) : Prop :=
  ∀ (s : Shared) (H : Hp) (u : Value) (v : V) (Q : VK), Env0 P w K mg base callerA [] s H → BindsTo s fd ⟨[u], []⟩ [(x, u)] → RelV v u → sp [v] H Q E0 → codeAny (model P w) callerA (.call (.ref fa) ⟨[u], []⟩) (CR CX0 [] P w H s Q E0) s
theorem law_at {P : Program} {w : World} {K : PySem.W.Frag} {mg mb : Str → Option Value} {fa a : Addr} {fd : FuncData} {x : Str} {sp : Sp} {s1 : Shared} {vs : List Value} {ns : List Int}
    (KX : K.In s1.heap) (hns : s1.heap.Ns mainGlobals mg) (hb : s1.heap.Ns builtinsNs mb) (hbb : ∀ y : Str, y ≠ "__name__" → mb y = bootBuiltins y) (hlim : s1.heap.NoLimit) (hg : s1.gens = #[])
    (ha : s1.heap.get? a = some { cls := .type "list", data := .seq vs.toArray }) (hi : IntsAre vs ns) (hl : ns.length ≤ sizeLine)
    (F : ∀ base : Heap, K.In base → base.Ns mainGlobals mg → LawOk P w K mg base fa fd x sp) (hbind : ∀ (s : Shared) (u : Value), BindsTo s fd ⟨[u], []⟩ [(x, u)])
    (hsp : ∀ H : Hp, SqL K H a (ns.map V.int) → sp [.ref a] H (fun v _ => v = .bl true) E0) :
    codeAny (model P w) callerA (.call (.ref fa) ⟨[.ref a], []⟩) (fun r s' => r = .ok (.ret (.bool true)) ∧ OldK s1.heap s'.heap ∧ s'.os = s1.os ∧ AllBare s'.gens) s1 := by
  have rv := vals_ints hi
  let H : Hp := fun b => if b = a ∧ K.lookup a = none then some (.frz { cls := .type "list", data := .seq vs.toArray } (.lst (ns.map V.int))) else none
  have hH : ∀ b u, H b = some u → b = a ∧ K.lookup a = none ∧ u = .frz { cls := .type "list", data := .seq vs.toArray } (.lst (ns.map V.int)) := fun b u e => by
    by_cases hc : b = a ∧ K.lookup a = none
    · have e' := (if_pos hc).symm.trans e
      exact ⟨hc.1, hc.2, (Option.some.inj e').symm⟩
    · have e' := (if_neg hc).symm.trans e
      cases e'
  have hS : SqL K H a (ns.map V.int) := by
    cases hk : K.lookup a with
    | none => exact .inl (.inr ⟨_, if_pos ⟨rfl, hk⟩⟩)
    | some o =>
      have eo := (KX a o hk).symm.trans ha
      cases eo
      exact .inr ⟨_, vs.toArray, _, hk, rfl, rfl, rfl, by rw [List.size_toArray, hi.length]; exact hl, by simpa using rv⟩
  have hok : HOk P w H s1.heap := fun b u e => by
    obtain ⟨rfl, _, rfl⟩ := hH b u e
    exact ⟨ha, by rw [List.length_map]; exact hl, vs, _, rv, ha⟩
  have noD : ∀ {b : Addr} {o : Obj} {es : Array DictEntry} {ep : Nat}, s1.heap.get? b = some o → o.data = .dict es ep → H b = none := fun {b o es ep} e d => by
    cases q : H b with
    | none => rfl
    | some u =>
      obtain ⟨rfl, _⟩ := hH b u q
      cases ha.symm.trans e
      cases (show Data.seq vs.toArray _ = Data.dict es ep from d)
  have ns' : ∀ {b : Addr} {m : Str → Option Value}, s1.heap.Ns b m → (hidT s1.heap H).Ns b m := fun ⟨o, es, ep, e, d, z⟩ => ⟨o, es, ep, hidT_get e (noD e d), d, z⟩
  have hKb : K.In (hidT s1.heap H) := fun b o e => hidT_get (KX b o e) (by
    cases q : H b with
    | none => rfl
    | some u =>
      obtain ⟨rfl, hk, _⟩ := hH b u q
      rw [hk] at e
      cases e)
  obtain ⟨mc, l1, l2⟩ := hlim
  have e0 : Env0 P w K mg (hidT s1.heap H) callerA [] s1 H := ⟨rfl, ⟨hKb, ns' hns, ⟨mb, ns' hb, hbb⟩, ⟨mc, ns' l1, l2⟩⟩, fun b o e => of_hidT e, Nat.le_of_eq (hidT_size _ _), trivial, (fun b z => nomatch z), hok, .of_eq hg⟩
  refine codeAny_mono (F _ hKb (ns' hns) s1 H (.ref a) (.ref a) _ e0 (hbind s1 (.ref a)) rfl (hsp H hS)) fun r s' h => ?_
  match r, h with
  | .error _, h => exact h.elim
  | .ok .next, h => exact h.elim
  | .ok .brk, h => exact h.elim
  | .ok .cont, h => exact h.elim
  | .ok (.ret u), ⟨v, H', os, bare, un, hok', rvu, q⟩ =>
    have q' : v = .bl true := q
    subst q'
    obtain rfl : u = Value.bool true := rvu
    refine ⟨rfl, OldK.of_keep fun b o e => ?_, os, bare⟩
    cases z : H b with
    | none => exact un.keep b o e z (fun y => nomatch y) (fun y => nomatch y)
    | some y =>
      obtain ⟨rfl, hk, rfl⟩ := hH b y z
      have e2 := (hok' _ _ (un.frzs _ _ _ z)).1
      rw [← Option.some.inj (ha.symm.trans e)]
      exact e2
theorem walk_at {l : PySem.W.OpenLaw} {n : Nat} {q : Program} {loose : List Str} {XP : (Str → Option Value) → Heap → Prop} {YP : World → Heap → Prop} {d : DefRec} {K : Params → PySem.W.Frag} {sp : World → Sp} {x : Str} (hn : l.most = some n) (hn2 : n ≤ sizeLine) (hdf : d.params.defaults = [])
    (hY : ∀ (w : World) (h : Heap), YP w h → (K w.params).In h)
    (F : ∀ (w : World) (mg : Str → Option Value) (fa : Addr) (h : Heap), (K w.params).In h → h.Ns mainGlobals mg → mg d.name = some (.ref fa) →
      ∃ fd : FuncData, (∀ (s : Shared) (u : Value), BindsTo s fd ⟨[u], []⟩ [(x, u)]) ∧ ∀ base : Heap, (K w.params).In base → base.Ns mainGlobals mg → LawOk l.prog w (K w.params) mg base fa fd x (sp w))
    (hsp : ∀ (w : World) (H : Hp) (a : Addr) (ns : List Int), ns.length ≤ n → SqL (K w.params) H a (ns.map V.int) → sp w [.ref a] H (fun v _ => v = .bl true) E0) :
    PySem.W.WalkO q loose XP YP l.row.toRowW d [] (fun f vs => PySem.call f vs) := by
  refine Att.attach_call hn hdf fun w s0 s1 mg mb fa o pm cd doc a vs ns G Y ho hd hcd hmg hobj hints hlen hg => ?_
  obtain ⟨fd, hb, hF⟩ := F w mg fa _ (hY w _ Y) G.T.g hmg
  exact law_at (hY w _ Y) G.T.g G.T.b G.T.builtins G.T.nolimit hg hobj hints (Nat.le_trans hlen hn2) hF hb fun H hS => hsp w H a ns hlen hS
end Du

set_option Elab.async false
set_option linter.all false
set_option maxRecDepth 100000
set_option maxHeartbeats 1000000
namespace Du
open PySem PySem.W PySem.Calls PyProof.Rows PySem.HandSPX
open L2 (defArgs defBody defScope inClass)
/-- what the written part says of an error class over ValueError with one field -/
structure ErrC (P : Program) (K : Frag) (mg : Str → Option Value) (x fld qual : Str) (st : Stmt) (C fI : Addr) : Prop where
  gC : mg x = some (.ref C)
  cls : ∃ nm q N bs bm sn sub ab col dd k0 k1 k2 k3 k5, K.lookup C = some (excClassObj nm q C N bs bm true sn sub ab col dd k0 k1 k2 k3 k5 "ValueError.__new__") ∧ refsVE bm = true
  sa : findIn K (.ref C) "__setattr__" = some (some (.builtin "object.__setattr__"))
  ga : findIn K (.ref C) "__getattribute__" = some (some (.builtin "BaseException.__getattribute__"))
  gg : findIn K (.ref C) "__getattr__" = some none
  noN : findIn K (.ref C) fld = some none
  iC : findIn K (.ref C) "__init__" = some (some (.ref fI))
  tC : typeIn K (.ref fI) = some (.type "function")
  kC : keepIn K (.ref C) = true
  exC : subIn K (.ref C) (.type "BaseException") = some true
  veC : subIn K (.ref C) (.type "ValueError") = some true
  tyC : typeIn K (.ref C) = some (.type "type")
  hdC : hasDictIn K C = true
  mro : mroIn K C (.ref C) = some true
  sup : ks_superIn K C C "__init__" = some (some (.builtin "ValueError.__init__"))
  any : nsIn K cStatics "thirdparty.any" = some none
  top : (P.main.scope.names.lookup ("super" : Str)).isSome = false
  mS : mg "super" = none
  fn : ∃ (oc : Value) (od : Option Addr) (doc pm : Value) (an : Option Addr) (cda cc : Addr) (ct : Value) (osl : Array (Option Value)) (ccl cl : Value) (cdd cld : Option Addr) (ccs csl : Array (Option Value)) (vs : Array Value) (file : Str) (tf : Tok),
    K.lookup fI = some ⟨oc, od, .func (ksFn "__init__" qual (defArgs st) (defBody st) (defScope st) .none .none doc pm an (.ref cda) ct cc), osl⟩ ∧ codeIn K (.ref cda) qual = true ∧
    K.lookup cda = some ⟨ccl, cdd, .fields vs, ccs⟩ ∧ vs[2]? = some (.str file tf) ∧ ((P.main.file : Str) == file) = true ∧ K.lookup cc = some ⟨cl, cld, .cell (some (.ref C)), csl⟩
/-- what __init__ leaves of a fresh exception at x -/
structure ErrEnd (h h' : Heap) (x C dx : Addr) (fld : Str) (v : Value) : Prop where
  keep : ∀ b o, b ≠ x → h.get? b = some o → h'.get? b = some o
  obj : ∃ t1 : Addr, h'.get? x = some { cls := .ref C, dict := some dx, data := .fields #[.ref t1, .none, .none, .none, .bool false, .none] }
  dbig : h.objs.size ≤ dx
  dne : dx ≠ x
  ns : h'.Ns1 dx (fun y => if y = fld then some v else none)
section
variable {prog : Program} {w : World} {A : Around} {E : Value → Shared → Prop} {h : Heap} {g : Array GenState} {d : Drawn} {t : Nat} {os : OsState}
variable {nm q : Str} {C N : Addr} {bs bm : List Value} {hdct : Bool} {sn : List Str} {sub : List Value} {ab : Bool} {col : Option Bool} {dd : Option Addr} {k0 k1 k2 k3 k5 : Option Value} {B newId i : String} {bmB : List Value}
/-- the bound __init__ of the built-in base, called -/
theorem call_mw (FB : ExcBaseFacts B newId i bmB) {u e t0 : Addr} {rest : List Value} {Q : Value → Shared → Prop} (hC : h.get? C = some (excClassObj nm q C N bs bm hdct sn sub ab col dd k0 k1 k2 k3 k5 newId)) (he : h.get? e = some (excO C t0)) (hu : h.get? u = some (kxs_mw i e))
    (hrest : rest.length ≤ sizeLine) (hq : ∀ h' t1, (∀ b o, b ≠ e → h.get? b = some o → h'.get? b = some o) → h'.get? e = some (excO C t1) → Q .none ⟨h', g, d, t, os⟩) : wpAny (model prog w) A (call (.ref u) rest) Q E ⟨h, g, d, t, os⟩ := by
  refine wpAny_call (codeAny_of_tree ?_)
  show wpAny _ A.in1 (callAny (.ref u) ⟨rest, []⟩) _ _ _
  simp only [callAny]
  refine wpAny_bind (wpAny_load hu (KFB.if_so (show (Value.type "method-wrapper" == Value.type "method" || Value.type "method-wrapper" == Value.type "builtin_function_or_method" || Value.type "method-wrapper" == Value.type "method-wrapper") = true by decide) (wpAny_bind (check_bound_init FB.toExcCallFacts hC he rfl (wpAny_bind (wpAny_pure (wpAny_pure ⟨plainId_quiet FB.init.plain _, codeAny_builtin FB.initEntry ?_⟩)))))))
  exact exc_init_tree (cls := .ref C) (t0 := t0) (dv := none) (c2 := .none) (c3 := .none) (b4 := .bool false) he hrest fun h' k e' _ => hq h' _ k e'
end
abbrev sNoTask : Stmt := inClass (topS 3) 0
section
variable {prog : Program} {w : World} {A : Around} {E : Value → Shared → Prop} {R : Result → Shared → Prop} {s : Shared} {K : Frag} {mg mb : Str → Option Value} {C fI : Addr} {nm qual : Str}
theorem init_NoTask (T : ErrC prog K mg nm "part" qual sNoTask C fI) {x t0 : Addr} {v : Value} (X : K.In s.heap) (hlim : s.heap.NoLimit) (G : s.heap.Ns mainGlobals mg) (Bn : s.heap.Ns builtinsNs mb) (hbb : ∀ y : Str, y ≠ "__name__" → mb y = bootBuiltins y)
    (hx : s.heap.get? x = some (excO C t0)) (hnx : K.lookup x = none) (hroom : A.depth < recursionLimit) (hq : ∀ h' tk dx, ErrEnd s.heap h' x C dx "part" v → R (.ok (.ret .none)) { s with heap := h', toks := tk }) : codeAny (model prog w) A (.call (.ref fI) ⟨[.ref x, v], []⟩) R s := by
  obtain ⟨oc, od, doc, pm, an, cda, cc, ct, osl, ccl, cl, cdd, cld, ccs, csl, vs, file, tf, lk, hcd, hcode, hvs, hfile, hcell⟩ := T.fn
  obtain ⟨nm', q', N', bs, bm, sn, sub, ab, col, dd, k0, k1, k2, k3, k5, hC, hbm⟩ := T.cls
  have hcl : clsIn K C = some { name := nm', bases := bs, mro := .ref C :: bm, ns := N', qualname := q', hasDict := true, slotNames := sn, subclasses := sub, abstract := ab, collection := col, hasDel := false } := by unfold clsIn; rw [hC] <;> rfl
  have nocell : ∀ y ∈ (defScope sNoTask).names, y.2 ≠ .cell := by decide +kernel
  refine ks_codeAny_call_defAt (binds := [(("self" : Str), Value.ref x), ("part", v)]) hroom (X _ _ lk) rfl hlim (codeRec_of X hcd) rfl (BindsTo.of_eq rfl) nocell (fun y hy => ?_) (fun h1 hn k => ?_)
  · rcases List.mem_cons.mp hy with rfl | hy
    · rfl
    · rw [List.mem_singleton.mp hy]
      rfl
  have X1 : K.In h1 := X.keeps k
  have hx1 := k _ _ hx
  have I1 : InstAt h1 x (excO C t0) C none := ⟨hx1, rfl, rfl, trivial⟩
  obtain ⟨oD, hD1, cdD, hD2⟩ : ∃ oD, h1.get? C = some oD ∧ ∃ cd, oD.data = .cls cd := ⟨_, X1 _ _ hC, _, rfl⟩
  refine ks_wpAt_execs_cons (ks_wpAt_Expr_any (ks_wpAt_MethodCall ?_))
  refine ks_wpAt_super_base rfl rfl (by decide) rfl (X1 _ _ lk) rfl rfl rfl (X1 _ _ hcode) rfl hvs hfile T.top ?_
  refine ks_loadName_global rfl rfl (loadGlobal_builtin (G.keeps k) T.mS (Bn.keeps k) ((hbb _ (by decide)).trans PyProof.Rows.Boot.«super») ⟨rfl, ?_⟩)
  refine wpAny_loadName_free rfl rfl rfl ⟨_, X1 _ _ hcell, rfl⟩ ?_
  refine wpAny_loadName_local rfl rfl hn rfl ?_
  refine ks_wpAny_isType_cls hD1 hD2 ⟨rfl, ?_⟩
  refine ks_wpAny_call_super hD1 hD2 hx1 rfl (fun c e => by cases e) (looks_mroIn X1 T.mro) (fun h2 hso k2 => ?_)
  have X2 : K.In h2 := X1.keeps k2
  have hx2 := k2 _ _ hx1
  have I2 : InstAt h2 x (excO C t0) C none := ⟨hx2, rfl, rfl, trivial⟩
  have hm := T.sup
  unfold ks_superIn at hm
  rw [hcl] at hm
  have hmro : W.Looks (model prog w) h2 (mroOf (.ref C)) (.ref C :: bm) := (looks_clsIn X2 hcl).andThen .now
  refine kxs_getMethod kxs_ValueError hso (looks_opaque X2 T.any) hmro rfl X2 hm (I2.type.andThen (looks_subIn X2 T.veC)) (ks_ne X2 I2 hcl) (by decide) ?_
  have k3 : ∀ b o, h2.get? b = some o → (h2.push (kxs_mw "ValueError.__init__" x)).get? b = some o := fun b o e => Heap.get?_push_of_some _ e
  refine kxs_callWith (i := "ValueError.__init__") (x := x) rfl (evalArgs_plain (args_cons (Calls.Constant_str (args_nil ⟨Heap.get?_push_at rfl rfl, ?_⟩))))
  refine call_mw F.excBase_ValueError (k3 _ _ (X2 _ _ hC)) (k3 _ _ hx2) (Heap.get?_push_at rfl rfl) (by show 1 ≤ sizeLine; decide) fun h4 t1 k4 hx4 => ?_
  -- the field
  have kx : ∀ b o, b ≠ x → h1.get? b = some o → h4.get? b = some o := fun b o hb e => k4 b o hb (k3 b o (k2 b o e))
  have X4 : K.In h4 := fun b o e => kx b o (fun z => by rw [z, hnx] at e; cases e) (X1 b o e)
  have hL : s.heap.objs.size ≠ x := Nat.ne_of_gt (Heap.lt_size hx)
  obtain ⟨oL, esL, epL, eL, rL⟩ := id hn
  have hn4 : h4.Ns s.heap.objs.size _ := ⟨oL, esL, epL, kx _ _ hL eL, rL⟩
  refine ks_wpAt_execs_cons (ks_wpAt_Assign_Attr (wpAt_of_wpAny (wpAny_Name (wpAny_loadName_local rfl rfl hn4 rfl (wpAny_Name (wpAny_loadName_local rfl rfl hn4 rfl ?_) (by decide))) (by decide))))
  refine set_plain X4 (ox := excO C t1) (od := none) ⟨hx4, rfl, rfl, trivial⟩ T.sa ?_
  refine exc_osa X4 hx4 hcl (show refsVE (.ref C :: bm) = true from hbm) rfl T.noN (fun h5 tk5 dx k5 dn dne hx5 hn5 => ?_)
  refine wpAt_of_wpAny (wpAny_execs_nil (hq h5 tk5 dx ⟨fun b o hb e => k5 b o hb (kx b o hb (k b o e)), ⟨t1, hx5⟩, ?_, dne, hn5⟩))
  have z : s.heap.objs.size < h4.objs.size := hn4.lt
  have dn' : h4.objs.size ≤ dx := dn
  omega
/-- the error made -/
structure ErrMade (h h' : Heap) (e C d : Addr) (fld : Str) (v : Value) : Prop where
  keep : ∀ b o, h.get? b = some o → h'.get? b = some o
  new : h.objs.size ≤ e
  obj : ∃ oe vs, h'.get? e = some oe ∧ oe.cls = .ref C ∧ oe.dict = some d ∧ oe.data = .fields vs ∧ vs[1]? = some .none ∧ vs[2]? = some .none
  dbig : h.objs.size ≤ d
  dne : d ≠ e
  ns : h'.Ns1 d (fun y => if y = fld then some v else none)
theorem made_NoTask (T : ErrC prog K mg nm "part" qual sNoTask C fI) {v : Value} (X : K.In s.heap) (hlim : s.heap.NoLimit) (G : s.heap.Ns mainGlobals mg) (Bn : s.heap.Ns builtinsNs mb) (hbb : ∀ y : Str, y ≠ "__name__" → mb y = bootBuiltins y) (hroom : A.depth + 1 < recursionLimit)
    (hq : ∀ h' tk e d, ErrMade s.heap h' e C d "part" v → R (.ok (.ret (.ref e))) { s with heap := h', toks := tk }) : codeAny (model prog w) A (.call (.ref C) ⟨[v], []⟩) R s := by
  obtain ⟨nm', q', N', bs, bm, sn, sub, ab, col, dd, k0, k1, k2, k3, k5, hC, hbm⟩ := T.cls
  obtain ⟨hp, g, dr, tk, os⟩ := s
  have k : ∀ b o, hp.get? b = some o → ((hp.push (kdv_tup [v])).push (excO C hp.objs.size)).get? b = some o := fun b o e => Heap.get?_push_of_some _ (Heap.get?_push_of_some _ e)
  have hget : ((hp.push (kdv_tup [v])).push (excO C hp.objs.size)).get? (hp.objs.size + 1) = some (excO C hp.objs.size) := by heap_get
  have hnx : K.lookup (hp.objs.size + 1) = none := by
    cases e : K.lookup (hp.objs.size + 1) with
    | none => rfl
    | some o => exact absurd (Nat.lt_of_succ_lt (Heap.lt_size (show hp.get? (hp.objs.size + 1) = some o from X _ _ e))) (Nat.lt_irrefl _)
  refine call_own F.excBase_ValueError (fun X => refsVE_contains X bm hbm) (X _ _ hC) (looks_findIn X T.iC) (fun self => bind_fn X self T.tC) (by show 1 ≤ sizeLine; decide) ?_
  refine init_NoTask (s := ⟨(hp.push (kdv_tup [v])).push (excO C hp.objs.size), g, dr, tk, os⟩) T (X.keeps k) (hlim.keeps k) (G.keeps k) (Bn.keeps k) hbb hget hnx hroom fun h' tk' dx m => ?_
  obtain ⟨k', ⟨t1, hx⟩, dn, dne, hns⟩ := m
  have z : hp.objs.size + 1 + 1 ≤ dx := by
    have q := dn
    rw [Heap.size_push, Heap.size_push] at q
    exact q
  exact ⟨rfl, hq h' tk' (hp.objs.size + 1) dx ⟨fun b o e => k' b o (Nat.ne_of_lt (Nat.lt_succ_of_lt (Heap.lt_size e))) (k b o e), Nat.le_succ _, ⟨_, _, hx, rfl, rfl, rfl, rfl, rfl⟩, Nat.le_trans (Nat.le_trans (Nat.le_succ _) (Nat.le_succ _)) z, dne, hns⟩⟩
end
end Du

set_option Elab.async false
set_option linter.all false
set_option maxRecDepth 100000
set_option maxHeartbeats 1000000
namespace Du
open PySem PySem.Spec PyProof.Rows L2
open L2N (Zn)
/-- an object's classes as a tuple: how a clause's match is seen -/
def Mat (K : PySem.W.Frag) (cs : List Value) : Prop := ∀ {M : Model} {h : Heap} {cls : Value} {tp e : Addr}, K.In h → PySem.W.Looks M h (typeOf (.ref e)) cls → h.get? tp = some { cls := .type "tuple", data := .seq cs.toArray } → PySem.W.exmAny K cls cs = some true → PySem.W.Looks M h (excMatches (.ref e) (.ref tp)) true
theorem mat2 {K : PySem.W.Frag} {c1 c2 : Value} : Mat K [c1, c2] := fun X L hp hx => PySem.W.exm_tup2 X L hp hx
theorem mat3 {K : PySem.W.Frag} {c1 c2 c3 : Value} : Mat K [c1, c2, c3] := fun X L hp hx => PySem.W.exm_tup3 X L hp hx
/-- the clause's tuple, laid where the error is handled -/
def Lays (X : Cx) (te : Expr) (cs : List Value) : Prop := ∀ (a : Addr) (oe : Obj) (pn : List (Addr × Obj)) (σ : L2.St) (H : Hp) (s : Shared) (Q : Value → Shared → Prop) (E : Value → Shared → Prop), Inv (X.suite a ((a, oe) :: pn)) [] σ H s →
  (∀ tp h', h'.get? tp = some { cls := .type "tuple", data := .seq cs.toArray } → (∀ b o, s.heap.get? b = some o → h'.get? b = some o) → Q (.ref tp) { s with heap := h' }) → wpAny (model X.prog X.w) (X.A.mark (some (.ref a))) (eval te X.env) Q E s
theorem name_at {X : Cx} {x : Str} {c : Value} {np : Pos} (hc : Names X x c) {a : Addr} {oe : Obj} {pn : List (Addr × Obj)} {σ : L2.St} {H : Hp} {s : Shared} {Q : Value → Shared → Prop} {E : Value → Shared → Prop} (S : Inv (X.suite a ((a, oe) :: pn)) [] σ H s) (q : Q c s) :
    wpAny (model X.prog X.w) (X.A.mark (some (.ref a))) (eval (.Name x np) X.env) Q E s := by
  obtain ⟨hg, hd, hm | ⟨hm, hv, hn⟩⟩ := hc
  · exact ld_glob (X := X.suite a ((a, oe) :: pn)) S hg hm q hd
  · exact ld_blt (X := X.suite a ((a, oe) :: pn)) S hg hm hv q hn hd
theorem lays2 {X : Cx} {x1 x2 : Str} {c1 c2 : Value} {n1 n2 tp : Pos} {kk : Nat} (h1 : Names X x1 c1) (h2 : Names X x2 c2) : Lays X (.Tuple [.Name x1 n1, .Name x2 n2] kk tp) [c1, c2] := fun a oe pn σ H s Q E S q =>
  wpAny_Tuple_spliced (args_cons (name_at h1 S (args_cons (name_at h2 S (args_nil ⟨by show 2 ≤ sizeLine; decide, q _ _ (Heap.get?_push_size _ rfl) fun b o e => Heap.get?_push_of_some _ e⟩)))))
theorem lays3 {X : Cx} {x1 x2 x3 : Str} {c1 c2 c3 : Value} {n1 n2 n3 tp : Pos} {kk : Nat} (h1 : Names X x1 c1) (h2 : Names X x2 c2) (h3 : Names X x3 c3) : Lays X (.Tuple [.Name x1 n1, .Name x2 n2, .Name x3 n3] kk tp) [c1, c2, c3] := fun a oe pn σ H s Q E S q =>
  wpAny_Tuple_spliced (args_cons (name_at h1 S (args_cons (name_at h2 S (args_cons (name_at h3 S (args_nil ⟨by show 3 ≤ sizeLine; decide, q _ _ (Heap.get?_push_size _ rfl) fun b o e => Heap.get?_push_of_some _ e⟩)))))))
theorem flying_push {B h h' : Heap} {l : List Env} {a : Addr} {Z : Obj → Prop} (k : ∀ b o, h.get? b = some o → h'.get? b = some o) (f : HandSPX.FlyingZ B l a Z h) : HandSPX.FlyingZ B l a Z h' := by
  obtain ⟨f1, f2, f3, oe, vs, T, oT, ts, t1, t2, t3, t4, t5, t6, t7, t8, t9⟩ := f
  exact ⟨fun b o e => k b o (f1 b o e), f2, Heap.FunFrames.of_keeps (fun b o e _ => ⟨o, k b o e, rfl⟩) f3, oe, vs, T, oT, ts, k _ _ t1, t2, t3, t4, t5, t6, k _ _ t7, t8, t9⟩
/-- what 'except (..) as n' wishes of an exception of the body, each of which it takes -/
def wTup (K : PySem.W.Frag) (cs : List Value) (i : Nat) (ts : Addr → Value → Option Addr → TS) (D : Ends) : WX := fun cls d σ H =>
  PySem.W.exmAny K cls cs = some true ∧ ∀ a, H a = none → ts a cls d { nx := fun σ' H' => D.nx (σ'.set i none) H', rt := D.rt, bk := fun σ' H' => D.bk (σ'.set i none) H', ct := fun σ' H' => D.ct (σ'.set i none) H' } (σ.set i (some (.ref a))) H
theorem ps_try_tup {X : Cx} {n : Str} {i : Nat} {te : Expr} {cs : List Value} {body suite : List Stmt} {b0 : Stmt} {pos pos' : Pos} {tb : WX → TS} {ts : Addr → Value → Option Addr → TS} (hs : X.stack = X.env :: X.outer) (hf : X.env.frame = some X.env.locals) (hN : X.N.Nodup) (hi : X.N[i]? = some n)
    (hln : X.env.kindOf n = some .local) (hl : Lays X te cs) (hm : Mat X.K cs)
    (hb : ∀ (W : WX) (pn : List (Addr × Obj)) (xe : Value → Shared → Prop), L2N.Takes (X.tr pn xe) W → PassesOwn (model X.prog X.w) X.A X.env xe → PSs (X.tr pn xe) body (tb W))
    (hsu : ∀ (a : Addr) (oe : Obj) (cls : Value) (d : Option Addr) (pn : List (Addr × Obj)), Zn cls d oe → (∃ vs, oe.data = .fields vs) → PSs (X.suite a ((a, oe) :: pn)) (b0 :: suite) (ts a cls d)) :
    PS X (.Try body [.ExceptHandler (some te) (some n) (b0 :: suite) pos'] [] [] pos) (fun D σ H => tb (wTup X.K cs i ts D) D σ H) := by
  refine ⟨fun pins s σ H D I h => ?_⟩
  have ok := I.ok
  refine wpAny_Try_except (wpAny_mono ((hb (wTup X.K cs i ts D) (X.pn ++ pins) (fun e s1 => wpAny (model X.prog X.w) X.A (noteFrame e X.env) (fun _ s2 => wpAny (model X.prog X.w) X.A (setFlight e none) (fun _ s3 =>
    wpAny (model X.prog X.w) X.A (handleBy e X.env [.ExceptHandler (some te) (some n) (b0 :: suite) pos']) (SP X pins D) X.xe s3) X.xe s2) X.xe s1) (fun u s' xx => ?_) PassesOwn.looking).run [] s σ H D (I.toTry _) h) (fun f s1 hsp => ?_) (fun _ _ he => he))
  · obtain ⟨a, B, sI, pins', σ', H', cls, d, rfl, J', nb, up, sky, na, os, ag, hyes, go⟩ := xx
    have J : Inv X pins σ' H' sI := J'.ofTry ok
    have hfr : X.A.frames = some (X.env :: X.outer) := by rw [ok.frames, hs]
    show wpAny (model X.prog X.w) X.A (noteFrame (.ref a) X.env) _ _ _
    refine L2N.Sky.land Zn.steady hfr hf (by rw [← hs]; exact sky) fun h3 fl3 up3 => ?_
    obtain ⟨oe3, vs3, he3, hz3, hd3⟩ := fl3.there
    have nfr : a ∉ frs (X.env :: X.outer) := fun m => by
      obtain ⟨_, o', e', hnf⟩ := fl3.2.2.1.mem m
      cases he3.symm.trans e'
      exact hnf _ hd3
    have nL : a ≠ X.env.locals := fun z => nfr (List.mem_filterMap.mpr ⟨X.env, List.mem_cons_self, by rw [hf, z]⟩)
    have nF : a ∉ X.fs := fun m => by
      obtain ⟨e, he, q⟩ := List.mem_filterMap.mp m
      exact nfr (List.mem_filterMap.mpr ⟨e, List.mem_cons_of_mem _ he, q⟩)
    have J3 : Inv X pins σ' H' { s' with heap := h3 } := J.landed nb fl3.1 (up.trans up3) os ag
    refine wpAny_handleBy_cons (codeAny_handlers_test ?_) (by intro q; cases q)
    refine hl a oe3 (X.pn ++ pins) σ' H' _ _ _ (J3.suite he3 hd3 na nL nF) fun tp h4 ht k4 => ?_
    have fl4 := flying_push k4 fl3
    have up4 : h3.UpToSlots h4 := Heap.UpToSlots.of_keeps k4
    have LT : PySem.W.Looks (model X.prog X.w) h4 (typeOf (.ref a)) cls := fun A Q E s k q => wpAny_typeOf_ref (k _ _ (k4 _ _ he3)) (by rw [hz3.1]; exact q)
    refine (hm (J3.kIn.keeps k4) LT ht hyes).here ?_
    show codeAny (model X.prog X.w) (X.A.mark (some (.ref a))) (.handlers (.ref a) [.ExceptHandler none (some n) (b0 :: suite) pos'] X.env) _ _
    refine codeAny_handlers_suite_as (HandSPX.lands_againZ (s := { s' with heap := h4 }) fl4 fun h5 fl5 up5 => ?_)
    have J5 : Inv X pins σ' H' { s' with heap := h5 } := J.landed nb fl5.1 (((up.trans up3).trans up4).trans up5) os ag
    obtain ⟨oe5, vs5, he5, hz5, hd5⟩ := fl5.there
    refine store_ok (X := X.suite a ((a, oe5) :: (X.pn ++ pins))) (v := .ref a) (J5.suite he5 hd5 na nL nF) hN hi (.inl hln) rfl (fun s6 S6 => ?_) (.inr hln)
    refine wpAny_mono ((hsu a oe5 cls d (X.pn ++ pins) hz5 ⟨_, hd5⟩).run [] s6 _ H' _ S6 (go a na)) (fun f s7 hsp => ?_) (fun _ _ z => False.elim z)
    match f, hsp with
    | .next, ⟨σ6, H6, S7, q6⟩ => exact gone_ok (S7.unsuite ok) hN hi hln fun s8 J8 => ⟨_, _, J8, q6⟩
    | .brk, ⟨σ6, H6, S7, q6⟩ => exact gone_ok (S7.unsuite ok) hN hi hln fun s8 J8 => ⟨_, _, J8, q6⟩
    | .cont, ⟨σ6, H6, S7, q6⟩ => exact gone_ok (S7.unsuite ok) hN hi hln fun s8 J8 => ⟨_, _, J8, q6⟩
    | .ret u, ⟨v6, σ6, H6, S7, r6, q6⟩ => exact gone_ok (S7.unsuite ok) hN hi hln fun s8 J8 => ⟨_, _, _, J8, r6, q6⟩
  · match f, hsp with
    | .next, ⟨σ', H', J', q⟩ => exact wpAny_execs_nil ⟨σ', H', J'.ofTry ok, q⟩
    | .brk, ⟨σ', H', J', q⟩ => exact ⟨σ', H', J'.ofTry ok, q⟩
    | .cont, ⟨σ', H', J', q⟩ => exact ⟨σ', H', J'.ofTry ok, q⟩
    | .ret u, ⟨v, σ', H', J', r, q⟩ => exact ⟨v, σ', H', J'.ofTry ok, r, q⟩
end Du

set_option Elab.async false
set_option linter.all false
set_option maxRecDepth 100000
set_option maxHeartbeats 1000000
namespace Du
open PySem PySem.Spec PyProof.Rows L2
open L2N (Zn)
/-- an error class with one field, by its making -/
structure Err (P : Program) (w : World) (K : PySem.W.Frag) (mg : Str → Option Value) (x fld : Str) (C : Addr) : Prop where
  gC : mg x = some (.ref C)
  kC : PySem.W.keepIn K (.ref C) = true
  exC : PySem.W.subIn K (.ref C) (.type "BaseException") = some true
  tyC : PySem.W.typeIn K (.ref C) = some (.type "type")
  ga : PySem.W.findIn K (.ref C) "__getattribute__" = some (some (.builtin "BaseException.__getattribute__"))
  gg : PySem.W.findIn K (.ref C) "__getattr__" = some none
  noN : PySem.W.findIn K (.ref C) fld = some none
  hdC : PySem.W.hasDictIn K C = true
  made : ∀ {A : Around} {R : Result → Shared → Prop} {s : Shared} {mb : Str → Option Value} {v : Value}, K.In s.heap → s.heap.NoLimit → s.heap.Ns mainGlobals mg → s.heap.Ns builtinsNs mb → (∀ y : Str, y ≠ "__name__" → mb y = bootBuiltins y) → A.depth + 1 < recursionLimit →
    (∀ h' tk e d, ErrMade s.heap h' e C d fld v → R (.ok (.ret (.ref e))) { s with heap := h', toks := tk }) → codeAny (model P w) A (.call (.ref C) ⟨[v], []⟩) R s
theorem relO_fld {v : V} {u : Value} {fld : Str} (r : RelV v u) (f : Str) : RelO (List.lookup f [(fld, v)]) (if f = fld then some u else none) := by
  by_cases h : f = fld
  · subst h
    rw [if_pos rfl, show List.lookup f [(f, v)] = some v by simp [List.lookup]]
    exact r
  · have e : (f == fld) = false := by simpa using h
    rw [if_neg h, show List.lookup f [(fld, v)] = none by simp [List.lookup, e]]
    trivial
def tMkErr (C : Addr) (fld : Str) (ta : TA) : L2.St → Hp → XK → Prop := fun σ H Q => ta σ H fun vs H1 => ∃ v, vs = [v] ∧ ∀ d, H1 d = none → Q (.ref C) (some d) (upd H1 d (.xd [(fld, v)]))
theorem pmk_err {X : Cx} {C : Addr} {x fld : Str} {a : Expr} {ta : TA} {p pos : Pos} {k : Nat} (T : Err X.prog X.w X.K X.mg x fld C) (hr : Room k X.A) (hg : Gl X x) (ha : PA X [a] ta) (hdb : (x == ("__debug__" : Str)) = false := by decide)
    (he : starEach (a :: []) X.env = (false, eval a X.env) :: starEach [] X.env := by rfl) (hpl : (backTo pos (starEach [] X.env)).any (·.1) = false := by rfl) : L2N.PMk X (.Call (.Name x p) [a] [] pos) (tMkErr C fld ta) := by
  intro pins s σ H Q I h
  refine wpAny_Call_Name_kw (ld_glob I hg T.gC (PySem.W.callWith_K (h₀ := X.base) I.ok.mod.kin T.kC (thn (ha.run pos pins s σ H _ I h) fun us s1 hh => ?_) he hpl) hdb)
  obtain ⟨vs, H1, I1, r1, v, rfl, q1⟩ := hh
  obtain ⟨v', rfl, rv⟩ := vals1 r1
  refine ⟨I1.kIn, ?_⟩
  obtain ⟨mb, hb, hbb⟩ := I1.ok.mod.blt
  have hlim := I1.nolimit
  have G := I1.ok.mod.glob.keeps I1.bk
  have B := hb.keeps I1.bk
  show wpAny _ _ (call (.ref C) [v']) _ _ _
  refine wpAny_call (T.made I1.kIn hlim G B hbb (by have := hr.dp; omega) fun h' tk' e d M => ?_)
  obtain ⟨hp, g, dr, tk, os⟩ := s1
  show L2N.MkP X pins σ Q (.ref e) ⟨h', g, dr, tk', os⟩
  obtain ⟨oe, fv, hoe, hc, hd, hdat, h1, h2⟩ := M.obj
  obtain ⟨G', g1, g2⟩ := restrict h' fun b => decide (b ≠ e)
  have gk : ∀ b, b ≠ e → G'.get? b = h'.get? b := fun b hb => g1 b (decide_eq_true hb)
  have ge : G'.get? e = none := g2 e (by simp)
  have old : ∀ b o, hp.get? b = some o → G'.get? b = some o := fun b o q => (gk b (Nat.ne_of_lt (Nat.lt_of_lt_of_le (Heap.lt_size q) M.new))).trans (M.keep b o q)
  have J : Inv X pins σ (upd H1 d (.xd [(fld, v)])) ⟨G', g, dr, tk', os⟩ := I1.laid (t' := tk') old M.dbig ⟨_, M.ns.at (fun o q => (gk d M.dne).trans q), fun f => relO_fld rv f⟩
  refine ⟨e, oe, fv, ⟨G', g, dr, tk', os⟩, _, .ref C, some d, rfl, J, fun b o q => ?_, ge, hoe, ⟨hc, hd, fun vs ev => ?_⟩, hdat, h1, ?_, rfl, I1.bare, raises_own T.exC T.tyC, q1 d (I1.hok.fresh M.dbig)⟩
  · by_cases hb : b = e
    · rw [hb] at q
      cases ge.symm.trans q
    · exact (gk b hb).symm.trans q
  · cases hdat.symm.trans ev
    exact h2
  · rw [upd_ne (Ne.symm M.dne)]
    exact I1.hok.fresh M.new
/-- raise X(e) -/
theorem ps_raiseErr {X : Cx} {C : Addr} {x fld : Str} {a : Expr} {ta : TA} {W : WX} {p pos pos2 : Pos} {k : Nat} (hc : X.calm = true) (T : Err X.prog X.w X.K X.mg x fld C) (hr : Room k X.A) (tk : L2N.Takes X W) (hg : Gl X x) (ha : PA X [a] ta) (hdb : (x == ("__debug__" : Str)) = false := by decide)
    (he : starEach (a :: []) X.env = (false, eval a X.env) :: starEach [] X.env := by rfl) (hpl : (backTo pos (starEach [] X.env)).any (·.1) = false := by rfl) :
    PS X (.Raise (some (.Call (.Name x p) [a] [] pos)) none pos2) (fun _ σ H => tMkErr C fld ta σ H fun cls d H' => W cls d σ H') := L2N.ps_raise hc tk (pmk_err T hr hg ha hdb he hpl)
theorem err_of {P : Program} {w : World} {K : PySem.W.Frag} {mg : Str → Option Value} {x qual : Str} {C fI : Addr} (T : ErrC P K mg x "part" qual sNoTask C fI) : Err P w K mg x "part" C :=
  ⟨T.gC, T.kC, T.exC, T.tyC, T.ga, T.gg, T.noN, T.hdC, fun X l G B hb hr q => made_NoTask T X l G B hb hr q⟩
end Du

set_option Elab.async false
set_option linter.all false
set_option maxRecDepth 100000
set_option maxHeartbeats 1000000
namespace Du
open PySem PySem.Spec PyProof.Rows L2
open L2N (Zn)
open L2H (RoomH Hot1 PinOk cxH inv_startH roomH_of)
/-- what isinstance asks of an error's class -/
structure ErrI (K : PySem.W.Frag) (C : Addr) : Prop where
  ga : PySem.W.findIn K (.ref C) "__getattribute__" = some (some (.builtin "BaseException.__getattribute__"))
  gg : PySem.W.findIn K (.ref C) "__getattr__" = some none
  exC : PySem.W.subIn K (.ref C) (.type "BaseException") = some true
  hdC : PySem.W.hasDictIn K C = true
  ha : PySem.W.findIn K (.ref C) "__class__" = some (some (.builtin "object.__class__"))
  hn : PySem.W.specialIn K (.builtin "object.__class__") "__get__" = some (some (.builtin "getset_descriptor.__get__"))
  ht : PySem.W.takesIn K (.builtin "object.__class__") = some true
  hm : PySem.W.mroIn K C (.type "object") = some true
/-- a pinned error with its dict -/
theorem err_at {X : Cx} {pins : List (Addr × Obj)} {σ : L2.St} {H : Hp} {s : Shared} {a C dd : Addr} {oe : Obj} {fs : List (Str × V)} (hp : (a, oe) ∈ X.pn) (hz : Zn (.ref C) (some dd) oe) (hf : ∃ vs, oe.data = .fields vs) (I : Inv X pins σ H s) (hd : H dd = some (.xd fs)) :
    ∃ (od : Obj) (mA : Str → Option Value), PySem.W.InstAt s.heap a oe C (some od) ∧ (∀ f, RelO (fs.lookup f) (mA f)) ∧ ∀ f, PySem.W.lookIn f od = some (mA f) := by
  obtain ⟨ha, _⟩ := I.pin (a, oe) (List.mem_append_left _ hp)
  obtain ⟨vs, hv⟩ := hf
  obtain ⟨mA, hns, hr⟩ := (show ObjOk X.prog X.w H s.heap dd (.xd fs) from I.hok dd _ hd)
  obtain ⟨od, ho, hl⟩ := lookIn_ns hns
  exact ⟨od, mA, ⟨ha, hz.1, by unfold PySem.W.notCls; rw [hv] <;> rfl, by rw [hz.2.1]; exact ho⟩, hr, hl⟩
/-- isinstance(e, c), isinstance(e, (c, ..)), e a pinned error -/
def rIsX (K : PySem.W.Frag) (C a dd : Addr) : List V → Hp → VK → Prop := fun xs H Q => ∃ fs : List (Str × V), H dd = some (.xd fs) ∧
  ((∃ (c : V) (cv : Value) (b : Bool), xs = [.ref a, c] ∧ ClsV c cv ∧ PySem.W.kitOne K (.ref C) cv = some b ∧ Q (.bl b) H) ∨ (∃ (tp : Addr) (cs : List V) (us : List Value) (b : Bool), xs = [.ref a, .ref tp] ∧ H tp = some (.tup cs) ∧ Paired ClsV cs us ∧ PySem.W.kitAny K (.ref C) us = some b ∧ Q (.bl b) H))
theorem call_isX {X : Cx} {a C dd : Addr} {oe : Obj} (T : ErrI X.K C) (hp : (a, oe) ∈ X.pn) (hz : Zn (.ref C) (some dd) oe) (hf : ∃ vs, oe.data = .fields vs) : CallR X (.builtin "isinstance") (rIsX X.K C a dd) := by
  intro pins s σ H xs us Q I r h
  obtain ⟨fs, hd, h⟩ := h
  obtain ⟨od, mA, J, _, _⟩ := err_at hp hz hf I hd
  have Z := PySem.W.kitx_exc (x := a) (ox := oe) (od := some od) (by obtain ⟨cd, hc, _⟩ := PySem.W.any_some T.hdC; rw [hc]; rfl) T.ga T.gg T.exC T.ha T.hn T.ht T.hm
  rcases h with ⟨c, cv, b, rfl, k, e, q⟩ | ⟨tp, cs, ws, b, rfl, hT, k, e, q⟩
  · obtain ⟨u1, u2, rfl, r1, r2⟩ := vals2 r
    cases (show u1 = Value.ref a from r1)
    cases k.eq r2
    exact PySem.W.kia_one Z I.kIn J e (fun z => nomatch z) fun tk => ⟨.bl b, H, I.tok tk, rfl, q⟩
  · obtain ⟨u1, u2, rfl, r1, r2⟩ := vals2 r
    cases (show u1 = Value.ref a from r1)
    cases (show u2 = Value.ref tp from r2)
    obtain ⟨_, its, rv, ⟨oc, odd, dt, sl⟩, h1, h2, n, h3⟩ := (show ObjOk X.prog X.w H s.heap tp (.tup cs) from I.hok tp _ hT)
    cases ClsV.all k rv
    simp only at h2 h3
    subst h2 h3
    exact PySem.W.kia_tup Z I.kIn J h1 e (fun z => nomatch z) fun tk => ⟨.bl b, H, I.tok tk, rfl, q⟩
/-- e.fld, e a pinned error -/
theorem pe_fldX {X : Cx} {a C dd : Addr} {oe : Obj} {fld : Str} {e : Expr} {te : TE} {pos : Pos} (T : ErrI X.K C) (hno : PySem.W.findIn X.K (.ref C) fld = some none) (hp : (a, oe) ∈ X.pn) (hz : Zn (.ref C) (some dd) oe) (hf : ∃ vs, oe.data = .fields vs) (he : PE X e te)
    (hb : attributeBase e fld X.env (eval e X.env) = eval e X.env := by rfl) : PE X (.Attribute e fld pos) (fun σ H Q => te σ H fun x H1 => x = .ref a ∧ ∃ (fs : List (Str × V)) (v : V), H1 dd = some (.xd fs) ∧ fs.lookup fld = some v ∧ Q v H1) := by
  refine ⟨fun pins s σ H Q I h => attr_of hb (thn (he.run pins s σ H _ I h) fun u s1 hh => ?_)⟩
  obtain ⟨x, H1, I1, rx, rfl, fs, v, hd, hl, q⟩ := hh
  cases (show u = Value.ref a from rx)
  obtain ⟨od, mA, J, hr, hlk⟩ := err_at hp hz hf I1 hd
  obtain ⟨u, hu, ru⟩ := RelO.some_of (v := v) (o := mA fld) (by rw [← hl]; exact hr fld)
  exact HandSPX.exc_get I1.kIn J T.ga T.gg T.exC (PySem.W.findObj_own T.hdC hno rfl (by rw [hlk, hu])) (handed_of ru) ⟨v, H1, I1.tok _, ru, q⟩
/-! a def that is handed the error that is being handled -/
structure FnE (P : Program) (w : World) (K : PySem.W.Frag) (mg : Str → Option Value) (base : Heap) (k : Nat) (f : Addr) (fd : FuncData) (ps : List Str) (sp : Addr × Obj → Sp) : Prop where
  len : ∀ p vs H Q, sp p vs H Q E0 → vs.length = ps.length
  run : ∀ (A : Around) (outer : List Env) (s : Shared) (H : Hp) (args : Args) (us : List Value) (vs : List V) (Q : VK) (p : Addr × Obj), RoomH k A → Hot1 A p → PinOk outer H s p → Env0 P w K mg base A outer s H → BindsTo s fd args (ps.zip us) → Vals vs us → sp p vs H Q E0 →
    codeAny (model P w) A (.call (.ref f) args) (CR CX0 outer P w H s Q E0) s
theorem fnE_of {P : Program} {w : World} {K : PySem.W.Frag} {mg : Str → Option Value} {base : Heap} {k : Nat} {x qual : Str} {st : Stmt} {f : Addr} {fd : FuncData} {N ps : List Str} {sp : Addr × Obj → Sp} (F : Fun K x qual st f fd) (S : FnScope N ps (defScope st)) (len : ∀ p vs H Q, sp p vs H Q E0 → vs.length = ps.length)
    (hbody : ∀ (cdv : Value) (A : Around) (outer : List Env) (s : Shared) (H : Hp) (vs : List V) (Q : VK) (p : Addr × Obj), Hot1 A p → RoomH k (A.deeper (envOfC qual (defScope st) s.heap.objs.size f cdv)) → sp p vs H Q E0 →
      ∃ t, PSs (cxH CX0 P w K mg base N qual (defScope st) f cdv A outer s H E0 p).nox (defBody st) t ∧ t { nx := fun _ H' => Q .non H', rt := Q } (L2.start N vs) H) : FnE P w K mg base (k + 1) f fd ps sp := by
  obtain ⟨oc, od, kV, doc, pm, an, cdv, ct, osl, rfl, lk, hcd⟩ := F.ex
  refine ⟨len, fun A outer s H args us vs Q p hr hot hpin e0 hb r hsp => ?_⟩
  have kept := fun b o e => (e0.bs b o e).1
  have KX : K.In s.heap := e0.mod.kin.keeps kept
  refine codeAny_call_function hr.depth (KX _ _ lk) rfl S.co S.gen rfl (PySem.W.codeRec_of KX hcd) (hb _ _ _ _ (wpAny_newFunctionEnv_cells S.kind (fun y hy => (S.par y.1 (List.of_mem_zip hy).1).imp id fun q => ⟨q, PySem.W.cellsFrom_some _ _ _ (.inl q)⟩) fun env he s1 x => ?_))
  subst he
  obtain ⟨t, ht, hq⟩ := hbody cdv A outer s H vs Q p hot (hr.deeper _) hsp
  have I := inv_startH (CX := CX0) (E := E0) S hpin e0 (len p vs H Q hsp) r x
  refine ⟨(e0.mod.nolimit.keeps kept).keeps x.toInCall.keep, codeAny_func (wpAny_mono (ht.nox.run [] s1 _ H _ I hq) (fun fl s' hs => ?_) fun _ _ z => z)⟩
  match fl, hs with
  | .ret u, ⟨v, σ', H', J, rv, q⟩ => exact ⟨v, H', J.os, J.bare, J.base, J.hok, rv, q⟩
  | .next, ⟨σ', H', J, q⟩ => exact ⟨V.non, H', J.os, J.bare, J.base, J.hok, rfl, q⟩
  | .brk, ⟨_, _, _, q⟩ => exact q.elim
  | .cont, ⟨_, _, _, q⟩ => exact q.elim
/-- f(e), e the error that is being handled -/
theorem pe_callE {X : Cx} {k : Nat} {f : Addr} {fd : FuncData} {ps : List Str} {sp : Addr × Obj → Sp} {x : Str} {q pos : Pos} {e : Expr} {es : List Expr} {t : TA} {p : Addr × Obj} (F : FnE X.prog X.w X.K X.mg X.base k f fd ps sp) (hr : RoomH k X.A) (hot : Hot1 X.A p) (hp : p ∈ X.pn) (hg : Gl X x) (hm : X.mg x = some (.ref f))
    (hk : PySem.W.keepIn X.K (.ref f) = true) (hb : Binds X.K fd ps []) (ha : PA X (e :: es) t) (hdb : (x == ("__debug__" : Str)) = false := by decide) (he : starEach (e :: es) X.env = (false, eval e X.env) :: starEach es X.env := by rfl) (hpl : (backTo pos (starEach es X.env)).any (·.1) = false := by rfl) :
    PE X (.Call (.Name x q) (e :: es) [] pos) (fun σ H Q => t σ H fun vs H1 => sp p vs H1 Q E0) := by
  refine ⟨fun pins s σ H Q I h => wpAny_Call_Name_kw (ld_glob I hg hm (PySem.W.callWith_K (h₀ := X.base) I.ok.mod.kin hk (thn (ha.run pos pins s σ H _ I h) fun us s1 ⟨vs, H1, I1, r, q⟩ => ⟨I1.kIn, ?_⟩) he hpl) hdb)⟩
  have b := hb s1 us I1.kIn (by rw [List.append_nil, ← r.length]; exact F.len _ _ _ _ q)
  rw [List.append_nil] at b
  have P1 := I1.pin p (List.mem_append_left _ hp)
  refine wpAny_call (codeAny_mono (F.run X.A X.stack s1 H1 ⟨us, []⟩ us vs Q p hr hot ⟨P1.1, P1.2.1, fun m => (List.mem_cons.mp (I1.stkSub p.1 m)).elim P1.2.2.1 P1.2.2.2.1, P1.2.2.2.2⟩ I1.env0 b r q) fun z s' hq => ?_)
  match z, hq with
  | .error _, hq => exact hq.elim
  | .ok (.ret u), hq => exact I1.after hq
  | .ok .next, hq => exact hq.elim
  | .ok .brk, hq => exact hq.elim
  | .ok .cont, hq => exact hq.elim
end Du

set_option Elab.async false
set_option linter.all false
set_option maxRecDepth 100000
namespace Du
open PySem L2
/-! things of any kind, known for good -/
/-- neither a purse nor a list of five -/
def Fix (o : HO) : Prop := (∀ i j k : Int, o ≠ .lst [.int i, .int j, .int k]) ∧ ∀ ys : List V, o = .lst ys → ys.length ≠ 5
def Kp (H H' : Hp) : Prop := ∀ a o, H a = some o → Fix o → H' a = some o
def ObT (K : PySem.W.Frag) (H : Hp) (x : V) (t : Value) : Prop := ∃ (a : Addr) (o : HO), x = .ref a ∧ H a = some o ∧ Fix o ∧ ∀ H' : Hp, H' a = some o → TyX K H' (.ref a) t
def Ty2 (K : PySem.W.Frag) (H : Hp) (x : V) (t : Value) : Prop := (∀ H' : Hp, TyX K H' x t) ∨ ObT K H x t
section
variable {K : PySem.W.Frag} {H H' : Hp} {x : V} {t : Value} {p a : Addr} {lo hi : Int} {b : Bool} {xs : List V}
theorem Kp.trans {H H1 H2 : Hp} (a : Kp H H1) (b : Kp H1 H2) : Kp H H2 := fun x o e n => b x o (a x o e n) n
theorem Kp.of_same (s : Same H H') : Kp H H' := fun a o e _ => s a o e
theorem Kp.of_step (hp : Purse H p) (s : Step p H H') : Kp H H' := fun a o e n => by
  obtain ⟨i, j, l, ep, _⟩ := id hp
  exact s.keep a o (ne_of e ep (n.1 i j l)) e
theorem Kp.upd {T : Addr} {ys : List V} {o' : HO} (h : H T = some (.lst ys)) (h5 : ys.length = 5) : Kp H (upd H T o') := fun a o e n => by
  rw [upd_ne (ne_of e h (fun z => n.2 _ z h5))]
  exact e
theorem Fix.tup : Fix (.tup xs) := ⟨(fun _ _ _ z => nomatch z), (fun _ z => nomatch z)⟩
theorem Fix.frz {o : Obj} {u : HO} : Fix (.frz o u) := ⟨(fun _ _ _ z => nomatch z), (fun _ z => nomatch z)⟩
theorem Fix.dK {ks : List (Key × V)} : Fix (.dK ks) := ⟨(fun _ _ _ z => nomatch z), (fun _ z => nomatch z)⟩
theorem Fix.ins {C dx : Addr} {fs : List (Str × V)} : Fix (.ins C dx fs) := ⟨(fun _ _ _ z => nomatch z), (fun _ z => nomatch z)⟩
theorem Ty2.ty (h : Ty2 K H x t) : TyX K H x t := by
  rcases h with h | ⟨a, o, rfl, e, _, k⟩
  · exact h H
  · exact k H e
theorem Ty2.kp (h : Ty2 K H x t) (s : Kp H H') : Ty2 K H' x t := by
  rcases h with h | ⟨a, o, rfl, e, n, k⟩
  · exact .inl h
  · exact .inr ⟨a, o, rfl, s _ _ e n, n, k⟩
theorem sqT_kp (h : SqT K H a xs) (s : Kp H H') : SqT K H' a xs := by
  rcases h with (z | ⟨o, z⟩) | z
  · exact .inl (.inl (s _ _ z .tup))
  · exact .inl (.inr ⟨o, s _ _ z .frz⟩)
  · exact .inr z
theorem HdAt.kp {v : V} {h : Hold} (d : HdAt K H v h) (s : Kp H H') : HdAt K H' v h := by
  obtain ⟨a, e, q⟩ := d
  exact ⟨a, e, sqT_kp q s⟩
theorem HdsAt.kp {t : Addr} {hs : List Hold} (d : HdsAt K H t hs) (s : Kp H H') : HdsAt K H' t hs := by
  obtain ⟨vs, h1, h2, h3⟩ := d
  exact ⟨vs, sqT_kp h1 s, h2, fun i v h e1 e2 => (h3 i v h e1 e2).kp s⟩
def BadN (K : PySem.W.Frag) (H : Hp) (x : V) : Prop := (∃ z : Str, x = .str z ∧ z.length ≤ sizeLine ∧ isNm z = false) ∨ (∃ t, Ty2 K H x t ∧ PySem.W.kitOne K t (.type "str") = some false)
def BadL (K : PySem.W.Frag) (H : Hp) (x : V) (lo hi : Int) : Prop := (∃ i : Int, x = .int i ∧ (decide (lo ≤ i) && decide (i ≤ hi)) = false) ∨ (∃ b : Bool, x = .bl b) ∨ (∃ t, Ty2 K H x t ∧ PySem.W.kitOne K t (.type "int") = some false)
def GoodN (x : V) : Prop := ∃ z : Str, x = .str z ∧ isNm z = true
def GoodL (x : V) (lo hi : Int) : Prop := ∃ i : Int, x = .int i ∧ lo ≤ i ∧ i ≤ hi
def NmV (K : PySem.W.Frag) (H : Hp) (x : V) (b : Bool) : Prop := (b = false ∧ GoodN x) ∨ (b = true ∧ BadN K H x)
def WhV (K : PySem.W.Frag) (H : Hp) (x : V) (lo hi : Int) (b : Bool) : Prop := (b = false ∧ GoodL x lo hi) ∨ (b = true ∧ BadL K H x lo hi)
theorem BadN.kp (h : BadN K H x) (s : Kp H H') : BadN K H' x := h.imp id fun ⟨t, a, b⟩ => ⟨t, a.kp s, b⟩
theorem BadL.kp (h : BadL K H x lo hi) (s : Kp H H') : BadL K H' x lo hi := h.imp id fun h => h.imp id fun ⟨t, a, b⟩ => ⟨t, a.kp s, b⟩
theorem NmV.kp (h : NmV K H x b) (s : Kp H H') : NmV K H' x b := h.imp id fun h => ⟨h.1, h.2.kp s⟩
theorem WhV.kp (h : WhV K H x lo hi b) (s : Kp H H') : WhV K H' x lo hi b := h.imp id fun h => ⟨h.1, h.2.kp s⟩
theorem NmV.good (h : NmV K H x false) : GoodN x := by
  rcases h with h | h
  · exact h.2
  · cases h.1
theorem WhV.good (h : WhV K H x lo hi false) : GoodL x lo hi := by
  rcases h with h | h
  · exact h.2
  · cases h.1
/-- is_name, asked -/
theorem ask_name {Q : VK} {E : XK} (h : NmV K H x b) (q : ∀ H', Same H H' → Q (.bl (!b)) H') : spName K [x] H Q E := by
  refine ⟨x, rfl, ?_⟩
  rcases h with ⟨rfl, z, rfl, hz⟩ | ⟨rfl, ⟨z, rfl, hl, hz⟩ | ⟨t, ht, hk⟩⟩
  · refine .inl ⟨z, rfl, Nat.le_trans (nm_len hz).2 (by decide), fun H' s => ?_⟩
    rw [hz]
    exact q H' s
  · refine .inl ⟨z, rfl, hl, fun H' s => ?_⟩
    rw [hz]
    exact q H' s
  · exact .inr ⟨t, ht.ty, hk, q H (Same.refl _)⟩
theorem ask_whole {Q : VK} {E : XK} (h : WhV K H x lo hi b) (q : Q (.bl (!b)) H) : spWhole K [x, .int lo, .int hi] H Q E := by
  refine ⟨x, lo, hi, rfl, ?_⟩
  rcases h with ⟨rfl, i, rfl, h1, h2⟩ | ⟨rfl, ⟨i, rfl, hz⟩ | ⟨c, rfl⟩ | ⟨t, ht, hk⟩⟩
  · refine .inl ⟨i, rfl, ?_⟩
    rw [decide_eq_true h1, decide_eq_true h2]
    exact q
  · refine .inl ⟨i, rfl, ?_⟩
    rw [hz]
    exact q
  · exact .inr (.inl ⟨c, rfl, q⟩)
  · exact .inr (.inr ⟨t, ht.ty, hk, q⟩)
/-- no hold -/
def BadH (K : PySem.W.Frag) (H : Hp) (v : V) (cost : Int) : Prop := (∃ t, Ty2 K H v t ∧ PySem.W.kitOne K t (.type "tuple") = some false) ∨ (∃ a xs, v = .ref a ∧ SqT K H a xs ∧ xs.length ≠ 3) ∨
  (∃ a x0 x1 x2, v = .ref a ∧ SqT K H a [x0, x1, x2] ∧ (BadN K H x0 ∨ (GoodN x0 ∧ BadL K H x1 0 cost) ∨ (GoodN x0 ∧ ∃ s : Int, x1 = .int s ∧ 0 ≤ s ∧ s ≤ cost ∧ BadL K H x2 1 (cost - s))))
theorem BadH.kp {v : V} {cost : Int} (h : BadH K H v cost) (s : Kp H H') : BadH K H' v cost := by
  rcases h with ⟨t, a, b⟩ | ⟨a, xs, e, q, n⟩ | ⟨a, x0, x1, x2, e, q, h⟩
  · exact .inl ⟨t, a.kp s, b⟩
  · exact .inr (.inl ⟨a, xs, e, sqT_kp q s, n⟩)
  · refine .inr (.inr ⟨a, x0, x1, x2, e, sqT_kp q s, ?_⟩)
    rcases h with h | ⟨g, h⟩ | ⟨g, n, e, h1, h2, h⟩
    · exact .inl (h.kp s)
    · exact .inr (.inl ⟨g, h.kp s⟩)
    · exact .inr (.inr ⟨g, n, e, h1, h2, h.kp s⟩)
/-- a hold or none -/
def ElV (K : PySem.W.Frag) (H : Hp) (cost : Int) (v : V) (r : Bool) : Prop := (∃ h : Hold, HdAt K H v h ∧ h.1.length ≤ sizeLine ∧ r = isHd h cost) ∨ (r = false ∧ BadH K H v cost)
theorem ElV.kp {v : V} {r : Bool} {cost : Int} (h : ElV K H cost v r) (s : Kp H H') : ElV K H' cost v r := by
  rcases h with ⟨h, a, b, c⟩ | ⟨a, b⟩
  · exact .inl ⟨h, a.kp s, b, c⟩
  · exact .inr ⟨a, b.kp s⟩
/-- no row of holds -/
def BadHs (K : PySem.W.Frag) (H : Hp) (x : V) (cost : Int) : Prop := (∃ t, Ty2 K H x t ∧ PySem.W.kitOne K t (.type "tuple") = some false) ∨ (∃ a xs, x = .ref a ∧ SqT K H a xs ∧ 4 < xs.length) ∨
  (∃ (a : Addr) (xs : List V) (rs : List Bool), x = .ref a ∧ SqT K H a xs ∧ xs.length ≤ 4 ∧ rs.length = xs.length ∧ (∀ (i : Nat) v r, xs[i]? = some v → rs[i]? = some r → ElV K H cost v r) ∧ false ∈ rs) ∨
  (∃ (t : Addr) (hs : List Hold), x = .ref t ∧ HdsAt K H t hs ∧ (∀ h ∈ hs, h.1.length ≤ sizeLine) ∧ areHds hs cost = false)
theorem BadHs.kp {cost : Int} (h : BadHs K H x cost) (s : Kp H H') : BadHs K H' x cost := by
  rcases h with ⟨t, a, b⟩ | ⟨a, xs, e, q, n⟩ | ⟨a, xs, rs, e, q, n, l, h, m⟩ | ⟨t, hs, e, q, l, h⟩
  · exact .inl ⟨t, a.kp s, b⟩
  · exact .inr (.inl ⟨a, xs, e, sqT_kp q s, n⟩)
  · exact .inr (.inr (.inl ⟨a, xs, rs, e, sqT_kp q s, n, l, fun i v r e1 e2 => (h i v r e1 e2).kp s, m⟩))
  · exact .inr (.inr (.inr ⟨t, hs, e, q.kp s, l, h⟩))
def GoodHs (K : PySem.W.Frag) (H : Hp) (x : V) (cost : Int) : Prop := ∃ (t : Addr) (hs : List Hold), x = .ref t ∧ HdsAt K H t hs ∧ (∀ h ∈ hs, h.1.length ≤ sizeLine) ∧ areHds hs cost = true
def HoV (K : PySem.W.Frag) (H : Hp) (x : V) (cost : Int) (b : Bool) : Prop := (b = false ∧ GoodHs K H x cost) ∨ (b = true ∧ BadHs K H x cost)
theorem HoV.kp {cost : Int} (h : HoV K H x cost b) (s : Kp H H') : HoV K H' x cost b := h.imp (fun ⟨e, t, hs, e1, q, l, h⟩ => ⟨e, t, hs, e1, q.kp s, l, h⟩) fun h => ⟨h.1, h.2.kp s⟩
/-- a due: None or a number -/
def DuV (K : PySem.W.Frag) (H : Hp) (x : V) (g : Int) (b : Bool) : Prop := (x = .non ∧ b = false) ∨ (x ≠ .non ∧ WhV K H x 1 g b)
theorem DuV.kp {g : Int} (h : DuV K H x g b) (s : Kp H H') : DuV K H' x g b := h.imp id fun h => ⟨h.1, h.2.kp s⟩
end
section
variable {P : Program} {w : World} {K : PySem.W.Frag} {mg : Str → Option Value} {base : Heap}
def spOr (a b : Sp) : Sp := fun vs H Q E => a vs H Q E ∨ b vs H Q E
theorem fnOr {CX : CXT} {k : Nat} {f : Addr} {fd : FuncData} {ps : List Str} {a b : Sp} (x : FnOk P w K mg base CX k f fd ps a) (y : FnOk P w K mg base CX k f fd ps b) : FnOk P w K mg base CX k f fd ps (spOr a b) :=
  ⟨fun vs H Q E h => h.elim (x.len vs H Q E) (y.len vs H Q E), fun A outer s H args us vs Q E hr e0 hb r h => h.elim (x.run A outer s H args us vs Q E hr e0 hb r) (y.run A outer s H args us vs Q E hr e0 hb r)⟩
/-! is_hold of what is none -/
def spHoldB (K : PySem.W.Frag) : Sp := fun vs H Q _ => ∃ (v : V) (cost : Int), vs = [v, .int cost] ∧ BadH K H v cost ∧ ∀ H', Same H H' → Q (.bl false) H'
theorem ok_holdB {f : Addr} {fd : FuncData} (F : Fun K "is_hold" "is_hold" sHold f fd) (mI : mg "isinstance" = none) (mt : mg "tuple" = none) (ml : mg "len" = none)
    (DN : Dn P w K mg base 2 "is_name" ["thing"] (spName K)) (DW : Dn P w K mg base 2 "is_whole" ["thing", "least", "most"] (spWhole K)) :
    FnOk P w K mg base CX0 3 f fd ["thing", "cost"] (spHoldB K) := by
  refine F.ok scHold (fun vs H Q E h => ?_) (fun cdv A outer s H vs Q E hr h => ?_)
  · obtain ⟨v, cost, rfl, _⟩ := h
    rfl
  · obtain ⟨v, cost, rfl, hb, q⟩ := h
    refine ⟨_, (pss_cons (ps_if (PW.pt (pw_or (pt_not (pt_val (pe_callB call_isi (by rfl) mI (by decide +kernel) (pa_cons (pv 0) (pa_cons (pe_bltn (v := .ty "tuple") (by rfl) mt (by decide +kernel) rfl) pa_nil))))) (pw_or1 (pt_cmpR op_ne (pe_callB call_len_seq (by rfl) ml (by decide +kernel) (pa_cons (pv 0) pa_nil)) pe_int (nomark _))))) (pss_one (ps_ret pe_bl)) pss_nil) (pss_cons (ps_asg (pv 0) (pg_tup rfl (pgs_cons (pg_name (i := 2) scHold.nd rfl (.inl rfl)) (pgs_cons (pg_name (i := 3) scHold.nd rfl (.inl rfl)) (pgs_cons (pg_name (i := 4) scHold.nd rfl (.inl rfl)) pgs_nil))))) (pss_one (ps_ret (pe_and (pcall DN hr (by rfl) (pa_cons (pv 2) pa_nil)) (pe_and (pcall DW hr (by rfl) (pa_cons (pv 3) (pa_cons pe_int (pa_cons (pv 1) pa_nil)))) (pe_one (pcall DW hr (by rfl) (pa_cons (pv 4) (pa_cons pe_int (pa_cons (pe_op op_sub (pv 1) (pv 3)) pa_nil))))))))))), ?_⟩
    rcases hb with ⟨t, ht, hk⟩ | ⟨a, xs, rfl, hS, hn⟩ | ⟨a, x0, x1, x2, rfl, hS, h⟩
    · exact ⟨_, rfl, _, _, _, _, false, rfl, .ty "tuple", ht.ty, hk, false, rfl, iteT (q H (Same.refl _))⟩
    · refine ⟨_, rfl, _, _, _, _, true, rfl, .ty "tuple", tyx_tup hS, kit_tt, true, rfl, ?_⟩
      refine ⟨_, rfl, a, _, rfl, .inr hS, rfl, _, rfl, ?_⟩
      have e : (!decide (V.int (xs.length : Nat) = V.int 3)) = true := by
        have : ¬ (V.int (xs.length : Nat) = V.int 3) := fun z => hn (by have := V.int.inj z; omega)
        rw [decide_eq_false this]
        rfl
      rw [e]
      exact iteT (q H (Same.refl _))
    · refine ⟨_, rfl, _, _, _, _, true, rfl, .ty "tuple", tyx_tup hS, kit_tt, true, rfl, ?_⟩
      refine ⟨_, rfl, a, _, rfl, .inr hS, rfl, _, rfl, ?_⟩
      show if (!decide ((V.int (3 : Nat)) = V.int 3)) = true then _ else _
      refine iteNS rfl ?_
      refine ⟨_, rfl, a, _, rfl, hS, rfl, _, _, rfl, _, _, rfl, _, _, rfl, rfl, ?_⟩
      refine ⟨_, rfl, ?_⟩
      unfold tNil
      rcases h with h | ⟨g, h⟩ | ⟨g, n, rfl, h1, h2, h⟩
      · refine ask_name (.inr ⟨rfl, h⟩) fun H1 s1 => ⟨_, rfl, ?_⟩
        exact iteF (q H1 s1)
      · refine ask_name (.inl ⟨rfl, g⟩) fun H1 s1 => ⟨_, rfl, iteT ⟨_, rfl, ?_⟩⟩
        unfold tCons tC
        refine ⟨_, rfl, ?_⟩
        refine ask_whole (.inr ⟨rfl, h.kp (.of_same s1)⟩) ?_
        exact ⟨_, rfl, iteF (q H1 s1)⟩
      · refine ask_name (.inl ⟨rfl, g⟩) fun H1 s1 => ⟨_, rfl, iteT ⟨_, rfl, ?_⟩⟩
        unfold tCons tC
        refine ⟨_, rfl, ?_⟩
        refine ask_whole (.inl ⟨rfl, n, rfl, h1, h2⟩) ?_
        refine ⟨_, rfl, iteT ⟨_, rfl, _, rfl, _, rfl, _, _, rfl, rfl, ?_⟩⟩
        refine ask_whole (.inr ⟨rfl, h.kp (.of_same s1)⟩) ?_
        exact q H1 s1
end
end Du

set_option Elab.async false
set_option linter.all false
set_option maxRecDepth 100000
namespace Du
open PySem L2
section
variable {P : Program} {w : World} {K : PySem.W.Frag} {mg : Str → Option Value} {base : Heap}
/-- is_hold, asked -/
theorem ask_hold {H : Hp} {cost : Int} {v : V} {r : Bool} {Q : VK} {E : XK} (h : ElV K H cost v r) (q : ∀ H', Same H H' → Q (.bl r) H') : spOr (spHold K) (spHoldB K) [v, .int cost] H Q E := by
  rcases h with ⟨h, hd, hl, rfl⟩ | ⟨rfl, hb⟩
  · exact .inl ⟨v, h, cost, rfl, hd, hl, q⟩
  · exact .inr ⟨v, cost, rfl, hb, q⟩
/-! are_holds of what are none -/
def spHoldsB (K : PySem.W.Frag) : Sp := fun vs H Q _ => ∃ (x : V) (cost : Int), vs = [x, .int cost] ∧ ((∃ t, Ty2 K H x t ∧ PySem.W.kitOne K t (.type "tuple") = some false) ∨ (∃ a xs, x = .ref a ∧ SqT K H a xs ∧ 4 < xs.length) ∨
  (∃ (a : Addr) (xs : List V) (rs : List Bool), x = .ref a ∧ SqT K H a xs ∧ xs.length ≤ 4 ∧ rs.length = xs.length ∧ (∀ (i : Nat) v r, xs[i]? = some v → rs[i]? = some r → ElV K H cost v r) ∧ false ∈ rs)) ∧ ∀ H', Same H H' → Q (.bl false) H'
theorem ok_holdsB {f : Addr} {fd : FuncData} (F : Fun K "are_holds" "are_holds" sHolds f fd) (mI : mg "isinstance" = none) (mt : mg "tuple" = none) (ml : mg "len" = none) (ma : mg "all" = none)
    (mM : ∃ t, mg "MOST_HOLDS" = some (.int 4 t)) (DH : Dn P w K mg base 3 "is_hold" ["thing", "cost"] (spOr (spHold K) (spHoldB K))) :
    FnOk P w K mg base CX0 4 f fd ["thing", "cost"] (spHoldsB K) := by
  obtain ⟨tM, mM⟩ := mM
  refine F.ok scHolds (fun vs H Q E h => ?_) (fun cdv A outer s H vs Q E hr h => ?_)
  · obtain ⟨x, cost, rfl, _⟩ := h
    rfl
  · obtain ⟨x, cost, rfl, h, q⟩ := h
    refine ⟨_, (pss_cons (ps_if (PW.pt (pw_or (pt_not (pt_val (pe_callB call_isi (by rfl) mI (by decide +kernel) (pa_cons (pv 0) (pa_cons (pe_bltn (v := .ty "tuple") (by rfl) mt (by decide +kernel) rfl) pa_nil))))) (pw_or1 (pt_cmpR op_gt (pe_callB call_len_seq (by rfl) ml (by decide +kernel) (pa_cons (pv 0) pa_nil)) (pe_glob (v := .int 4) rfl mM ⟨_, rfl⟩) (nomark _))))) (pss_one (ps_ret pe_bl)) pss_nil) (pss_cons (ps_if (pt_not (pt_val (pe_callB (cr_all rfl) (by rfl) ma (by decide +kernel) (pa_cons (pe_lc (own := [("hold", 2)]) (g := gName 2) (tt := tYes) rfl scHolds.nd (pi_tup (pv 0))
        (blkOk_by (N := ["thing", "cost", "hold", "other"]) (sc := defScope sHolds) (by decide +kernel)) (fun _ _ _ _ _ => pg_name (i := 2) scHolds.nd rfl (Or.inl rfl)) (fun _ _ _ _ _ => pts_nil)
        (fun _ _ _ _ _ => pcall DH hr (by rfl) (pa_cons (pv 2) (pa_cons (pv 1) pa_nil)))) pa_nil)))) (pss_one (ps_ret pe_bl)) pss_nil) (pss_one ps_never))), ?_⟩
    rcases h with ⟨t, ht, hk⟩ | ⟨a, xs, rfl, hS, hn⟩ | ⟨a, xs, rs, rfl, hS, hn, hl, hel, hm⟩
    · exact ⟨_, rfl, _, _, _, _, false, rfl, .ty "tuple", ht.ty, hk, false, rfl, iteT (q H (Same.refl _))⟩
    · refine ⟨_, rfl, _, _, _, _, true, rfl, .ty "tuple", tyx_tup hS, kit_tt, true, rfl, ?_⟩
      refine ⟨_, rfl, a, _, rfl, .inr hS, _, _, rfl, rfl, _, rfl, ?_⟩
      rw [decide_eq_true (show (4 : Int) < ((xs.length : Nat) : Int) by omega)]
      exact iteT (q H (Same.refl _))
    · refine ⟨_, rfl, _, _, _, _, true, rfl, .ty "tuple", tyx_tup hS, kit_tt, true, rfl, ?_⟩
      refine ⟨_, rfl, a, _, rfl, .inr hS, _, _, rfl, rfl, _, rfl, ?_⟩
      rw [decide_eq_false (show ¬ (4 : Int) < ((xs.length : Nat) : Int) by omega)]
      refine iteF ?_
      refine ⟨_, rfl, a, rfl, ⟨xs, hS⟩, fun D nD => lc_tup (K := K) (a := a) (xs := xs) (fun i H' => Same H H' ∧ H' D = some (.lst ((rs.take i).map V.bl))) ⟨same_upd nD, upd_same⟩ (fun i H' _ z => hS.ext z.1) ?_ ?_⟩
      · rintro i x H1 hx ⟨s1, e⟩
        have hi : i < rs.length := by
          rw [hl]
          exact (List.getElem?_eq_some_iff.mp hx).1
        have hh : rs[i]? = some rs[i] := List.getElem?_eq_getElem hi
        refine ⟨rfl, _, rfl, _, rfl, ?_⟩
        refine ask_hold ((hel i x _ hx hh).kp (.of_same s1)) fun H2 s2 => ⟨_, s2 _ _ e, ?_, same_upd2 (s1.trans s2) nD, ?_⟩
        · rw [List.length_map, List.length_take]
          exact Nat.lt_of_le_of_lt (Nat.min_le_right _ _) (Nat.lt_of_le_of_lt (hl ▸ hn) (by decide))
        · rw [upd_same, take_map1 _ hh]
      · rintro H1 ⟨s1, e⟩
        rw [← hl, List.take_length] at e
        refine ⟨D, rs, rfl, SqL.of e, _, rfl, ?_⟩
        have ea : rs.all id = false := by
          rw [List.all_eq_false]
          exact ⟨false, hm, by simp⟩
        rw [ea]
        exact iteT (q H1 s1)
/-- are_holds, asked -/
theorem ask_holds {H : Hp} {cost : Int} {x : V} {b : Bool} {Q : VK} {E : XK} (h : HoV K H x cost b) (q : ∀ H', Same H H' → Q (.bl (!b)) H') : spOr (spHolds K) (spHoldsB K) [x, .int cost] H Q E := by
  rcases h with ⟨rfl, t, hs, rfl, hd, hl, ha⟩ | ⟨rfl, h | h | h | ⟨t, hs, rfl, hd, hl, ha⟩⟩
  · refine .inl ⟨t, hs, cost, rfl, hd, hl, fun H' s => ?_⟩
    rw [ha]
    exact q H' s
  · exact .inr ⟨x, cost, rfl, .inl h, q⟩
  · exact .inr ⟨x, cost, rfl, .inr (.inl h), q⟩
  · exact .inr ⟨x, cost, rfl, .inr (.inr h), q⟩
  · refine .inl ⟨t, hs, cost, rfl, hd, hl, fun H' s => ?_⟩
    rw [ha]
    exact q H' s
end
end Du

set_option Elab.async false
set_option linter.all false
set_option maxRecDepth 100000
namespace Du
open PySem L2
abbrev sDInit : Stmt := inClass (topS 32) 0
def taskPart (b0 b1 b2 b3 b4 : Bool) : Option Str := if b0 then some "name" else if b1 then some "cost" else if b2 then some "gap" else if b3 then some "due" else if b4 then some "holds" else none
/-- five arguments of Task -/
structure ArgsV (K : PySem.W.Frag) (H : Hp) (x0 x1 x2 x3 x4 : V) (b0 b1 b2 b3 b4 : Bool) : Prop where
  h0 : NmV K H x0 b0
  h1 : WhV K H x1 1 99 b1
  h2 : WhV K H x2 1 600 b2
  h3 : b2 = false → ∀ g, x2 = .int g → DuV K H x3 g b3
  h4 : b1 = false → ∀ c, x1 = .int c → HoV K H x4 c b4
theorem ArgsV.kp {K : PySem.W.Frag} {H H' : Hp} {x0 x1 x2 x3 x4 : V} {b0 b1 b2 b3 b4 : Bool} (h : ArgsV K H x0 x1 x2 x3 x4 b0 b1 b2 b3 b4) (s : Kp H H') : ArgsV K H' x0 x1 x2 x3 x4 b0 b1 b2 b3 b4 :=
  ⟨h.h0.kp s, h.h1.kp s, h.h2.kp s, fun e g eg => (h.h3 e g eg).kp s, fun e c ec => (h.h4 e c ec).kp s⟩
section
variable {P : Program} {w : World} {K : PySem.W.Frag} {mg : Str → Option Value} {base : Heap}
def spInitG (K : PySem.W.Frag) (C CE : Addr) : Sp := fun vs H Q E => ∃ (x dx : Addr) (x0 x1 x2 x3 x4 : V) (b0 b1 b2 b3 b4 : Bool), vs = [.ref x, x0, x1, x2, x3, x4] ∧ ArgsV K H x0 x1 x2 x3 x4 b0 b1 b2 b3 b4 ∧ H x = some (.ins C dx []) ∧
  (taskPart b0 b1 b2 b3 b4 = none → ∀ H', (∃ fs, H' x = some (.ins C dx fs)) → (∀ b o, H b = some o → b ≠ x → H' b = some o) → Q .non H') ∧
  (∀ p, taskPart b0 b1 b2 b3 b4 = some p → ∀ d H', Same H H' → H' d = some (.xd [("part", .str p)]) → E (.ref CE) (some d) H')
def partV : Option Str → V
  | none => .non
  | some p => .str p
def spWrongTG (K : PySem.W.Frag) : Sp := fun vs H Q _ => ∃ (x0 x1 x2 x3 x4 : V) (b0 b1 b2 b3 b4 : Bool), vs = [x0, x1, x2, x3, x4] ∧ ArgsV K H x0 x1 x2 x3 x4 b0 b1 b2 b3 b4 ∧ ∀ H', Same H H' → Q (partV (taskPart b0 b1 b2 b3 b4)) H'
theorem ok_wrongTG {f : Addr} {fd : FuncData} (F : Fun K "wrong_in_task" "wrong_in_task" sWrongT f fd) (mC : ∃ t, mg "MOST_COST" = some (.int 99 t)) (mG : ∃ t, mg "MOST_GAP" = some (.int 600 t))
    (DN : Dn P w K mg base 2 "is_name" ["thing"] (spName K)) (DW : Dn P w K mg base 2 "is_whole" ["thing", "least", "most"] (spWhole K)) (DH : Dn P w K mg base 4 "are_holds" ["thing", "cost"] (spOr (spHolds K) (spHoldsB K))) :
    FnOk P w K mg base CX0 5 f fd nWrongT (spWrongTG K) := by
  obtain ⟨uC, mC⟩ := mC
  obtain ⟨uG, mG⟩ := mG
  refine F.ok scWrongT (fun vs H Q E h => ?_) (fun cdv A outer s H vs Q E hr h => ?_)
  · obtain ⟨x0, x1, x2, x3, x4, b0, b1, b2, b3, b4, rfl, _⟩ := h
    rfl
  · obtain ⟨x0, x1, x2, x3, x4, b0, b1, b2, b3, b4, rfl, AV, q⟩ := h
    have hr1 : Room 2 _ := hr.mono (by decide)
    refine ⟨_, (pss_cons (ps_if (pt_not (pt_val (pcall DN hr1 (by rfl) (pa_cons (pv 0) pa_nil)))) (pss_one (ps_ret pe_str)) pss_nil) (pss_cons (ps_if (pt_not (pt_val (pcall DW hr1 (by rfl) (pa_cons (pv 1) (pa_cons pe_int (pa_cons (pe_glob (v := .int 99) rfl mC ⟨_, rfl⟩) pa_nil)))))) (pss_one (ps_ret pe_str)) pss_nil) (pss_cons (ps_if (pt_not (pt_val (pcall DW hr1 (by rfl) (pa_cons (pv 2) (pa_cons pe_int (pa_cons (pe_glob (v := .int 600) rfl mG ⟨_, rfl⟩) pa_nil)))))) (pss_one (ps_ret pe_str)) pss_nil) (pss_cons (ps_if (PW.pt (pw_and (pt_cmpR op_notN (pv 3) pe_non (nomark _)) (pw_and1 (pt_not (pt_val (pcall DW hr1 (by rfl) (pa_cons (pv 3) (pa_cons pe_int (pa_cons (pv 2) pa_nil))))))))) (pss_one (ps_ret pe_str)) pss_nil) (pss_cons (ps_if (pt_not (pt_val (pcall DH hr (by rfl) (pa_cons (pv 4) (pa_cons (pv 1) pa_nil))))) (pss_one (ps_ret pe_str)) pss_nil) (pss_one (ps_ret pe_non))))))), ?_⟩
    refine ⟨_, rfl, ?_⟩
    unfold tNil
    refine ask_name AV.h0 fun H1 s1 => ⟨_, rfl, ?_⟩
    have kp1 := Kp.of_same s1
    cases b0 with
    | true => exact iteT (q H1 s1)
    | false =>
    refine iteF ⟨_, rfl, ?_⟩
    unfold tCons tC
    refine ask_whole (AV.h1.kp kp1) ?_
    refine ⟨_, rfl, ?_⟩
    cases b1 with
    | true => exact iteT (q H1 s1)
    | false =>
    refine iteF ⟨_, rfl, ?_⟩
    refine ask_whole (AV.h2.kp kp1) ?_
    refine ⟨_, rfl, ?_⟩
    cases b2 with
    | true => exact iteT (q H1 s1)
    | false =>
    obtain ⟨z, rfl, hz⟩ := AV.h0.good
    obtain ⟨c, rfl, hc1, hc2⟩ := AV.h1.good
    obtain ⟨g, rfl, hg1, hg2⟩ := AV.h2.good
    have h3 := (AV.h3 rfl g rfl).kp kp1
    have h4 := (AV.h4 rfl c rfl).kp kp1
    have fin : ∀ H2, Same H1 H2 → b3 = false → Q (partV (taskPart false false false false b4)) H2 := fun H2 s2 e3 => by
      subst e3
      exact q H2 (s1.trans s2)
    refine iteF ⟨_, rfl, rfl, _, rfl, ?_⟩
    rcases h3 with ⟨rfl, e3⟩ | ⟨hn, hw⟩
    · rw [decide_eq_true rfl]
      refine iteF (iteF ⟨_, rfl, _, rfl, ?_⟩)
      refine ask_holds h4 fun H2 s2 => ⟨_, rfl, ?_⟩
      cases b4 with
      | true => exact iteT (fin H2 s2 e3)
      | false => exact iteF (fin H2 s2 e3)
    · rw [decide_eq_false hn]
      refine iteT ⟨_, rfl, _, rfl, ?_⟩
      refine ask_whole hw ?_
      refine ⟨_, rfl, ?_⟩
      cases b3 with
      | true => exact iteT (q H1 s1)
      | false =>
      refine iteF ⟨_, rfl, _, rfl, ?_⟩
      refine ask_holds h4 fun H2 s2 => ⟨_, rfl, ?_⟩
      cases b4 with
      | true => exact iteT (fin H2 s2 rfl)
      | false => exact iteF (fin H2 s2 rfl)
theorem ok_initG {C CE f : Addr} {fd : FuncData} {kws : List (Str × V)} (F : FunD K "__init__" "Task.__init__" (defArgs sInit) (defBody sInit) (defScope sInit) [] kws f fd) (T : TaskC K mg C) (TE : Err P w K mg "NoTask" "part" CE) (DD : Dn P w K mg base 5 "wrong_in_task" nWrongT (spWrongTG K)) :
    FnOk P w K mg base (L2N.CX P w) 6 f fd ["self", "name", "cost", "gap", "due", "holds"] (spInitG K C CE) := by
  refine F.ok (CX := L2N.CX P w) scInit (fun vs H Q E h => ?_) (fun cdv A outer s H vs Q E hr h => ?_)
  · obtain ⟨x, dx, x0, x1, x2, x3, x4, b0, b1, b2, b3, b4, rfl, _⟩ := h
    rfl
  · obtain ⟨x, dx, x0, x1, x2, x3, x4, b0, b1, b2, b3, b4, rfl, AV, hx, k, e⟩ := h
    have tk := L2N.takes_of (X := cxOf (L2N.CX P w) P w K mg base nInit "Task.__init__" (defScope sInit) f cdv A outer s H E) (E := E) rfl rfl rfl rfl
    refine ⟨_, (pss_cons (ps_set (i := 6) scInit.nd rfl (.inl rfl) (pcall DD hr (by rfl) (pa_cons (pv 1) (pa_cons (pv 2) (pa_cons (pv 3) (pa_cons (pv 4) (pa_cons (pv 5) pa_nil))))))) (pss_cons (ps_if (pt_cmpR op_notN (pv 6) pe_non (nomark _)) (pss_one (ps_raiseErr rfl TE hr tk (by rfl) (pa_cons (pv 6) pa_nil))) pss_nil) (pss_cons (ps_fld (pv 0) (pv 1) rfl) (pss_cons (ps_fld (pv 0) (pv 2) rfl) (pss_cons (ps_fld (pv 0) (pv 3) rfl) (pss_cons (ps_fld (pv 0) (pe_ifExp (pt_cmpR op_isN (pv 4) pe_non (nomark _)) (pv 3) (pv 4)) rfl) (pss_one (ps_fld (pv 0) (pv 5) rfl)))))))), ?_⟩
    refine ⟨_, rfl, _, rfl, _, rfl, _, rfl, _, rfl, x0, x1, x2, x3, x4, b0, b1, b2, b3, b4, rfl, AV, fun H2 s12 => ?_⟩
    refine ⟨_, rfl, rfl, _, rfl, ?_⟩
    cases hp : taskPart b0 b1 b2 b3 b4 with
    | some p => exact iteT ⟨_, rfl, _, rfl, fun d nd => e p hp d _ (same_upd2 s12 (s12.free nd)) upd_same⟩
    | none =>
      refine iteF ?_
      refine ⟨_, rfl, _, rfl, x, C, dx, [], rfl, s12 _ _ hx, T.cl, T.nN, (by show 0 < 1000; decide), ?_⟩
      refine ⟨_, rfl, _, rfl, x, C, dx, _, rfl, upd_same, T.cl, T.nC, (by show 1 < 1000; decide), ?_⟩
      refine ⟨_, rfl, _, rfl, x, C, dx, _, rfl, upd_same, T.cl, T.nG, (by show 2 < 1000; decide), ?_⟩
      refine ⟨_, rfl, rfl, _, rfl, ?_⟩
      by_cases hn : x3 = .non
      · rw [decide_eq_true hn]
        refine iteT ⟨_, rfl, _, rfl, x, C, dx, _, rfl, upd_same, T.cl, T.nD, (by show 3 < 1000; decide), ?_⟩
        refine ⟨_, rfl, _, rfl, x, C, dx, _, rfl, upd_same, T.cl, T.nH, (by show 4 < 1000; decide), ?_⟩
        refine k hp _ ⟨_, upd_same⟩ fun b o eb hb => ?_
        rw [upd_ne hb, upd_ne hb, upd_ne hb, upd_ne hb, upd_ne hb]
        exact s12 _ _ eb
      · rw [decide_eq_false hn]
        refine iteF ⟨_, rfl, _, rfl, x, C, dx, _, rfl, upd_same, T.cl, T.nD, (by show 3 < 1000; decide), ?_⟩
        refine ⟨_, rfl, _, rfl, x, C, dx, _, rfl, upd_same, T.cl, T.nH, (by show 4 < 1000; decide), ?_⟩
        refine k hp _ ⟨_, upd_same⟩ fun b o eb hb => ?_
        rw [upd_ne hb, upd_ne hb, upd_ne hb, upd_ne hb, upd_ne hb]
        exact s12 _ _ eb
end
end Du

set_option Elab.async false
set_option linter.all false
set_option maxRecDepth 100000
namespace Du
open PySem L2
abbrev sWrongD : Stmt := topS 30
structure DoorC (K : PySem.W.Frag) (mg : Str → Option Value) (C : Addr) : Prop where
  cl : Cls K C
  nN : NoAttr K C "name"
  nR : NoAttr K C "room"
  nG : NoAttr K C "gap"
  mg : mg "Door" = some (.ref C)
  kc : PySem.W.findIn K (.ref C) "__class__" = some (some (.builtin "object.__class__"))
  kg : PySem.W.specialIn K (.builtin "object.__class__") "__get__" = some (some (.builtin "getset_descriptor.__get__"))
  kt : PySem.W.takesIn K (.builtin "object.__class__") = some true
  km : PySem.W.mroIn K C (.type "object") = some true
abbrev pD : List Str := ["self", "name", "room", "gap"]
section
variable {P : Program} {w : World} {K : PySem.W.Frag} {mg : Str → Option Value} {base : Heap}
/-! wrong_in_door of a good one -/
abbrev nWrongD : List Str := ["name", "room", "gap"]
theorem scWrongD : FnScope nWrongD nWrongD (defScope sWrongD) := ⟨rfl, rfl, rfl, by decide +kernel, rfl, by decide +kernel, by decide +kernel⟩
def spWrongD : Sp := fun vs H Q _ => ∃ (n : Str) (r g : Int), vs = [.str n, .int r, .int g] ∧ isNm n = true ∧ (1 ≤ r ∧ r ≤ 99) ∧ (1 ≤ g ∧ g ≤ 600) ∧ ∀ H', Same H H' → Q .non H'
theorem ok_wrongD {f : Addr} {fd : FuncData} (F : Fun K "wrong_in_door" "wrong_in_door" sWrongD f fd) (mC : ∃ t, mg "MOST_COST" = some (.int 99 t)) (mG : ∃ t, mg "MOST_GAP" = some (.int 600 t))
    (DN : Dn P w K mg base 2 "is_name" ["thing"] (spName K)) (DW : Dn P w K mg base 2 "is_whole" ["thing", "least", "most"] (spWhole K)) : FnOk P w K mg base CX0 3 f fd nWrongD spWrongD := by
  obtain ⟨uC, mC⟩ := mC
  obtain ⟨uG, mG⟩ := mG
  refine F.ok scWrongD (fun vs H Q E h => ?_) (fun cdv A outer s H vs Q E hr h => ?_)
  · obtain ⟨n, r, g, rfl, _⟩ := h
    rfl
  · obtain ⟨n, r, g, rfl, hn, hr1, hg1, k⟩ := h
    refine ⟨_, (pss_cons (ps_if (pt_not (pt_val (pcall DN hr (by rfl) (pa_cons (pv 0) pa_nil)))) pss_never pss_nil) (pss_cons (ps_if (pt_not (pt_val (pcall DW hr (by rfl) (pa_cons (pv 1) (pa_cons pe_int (pa_cons (pe_glob (v := .int 99) rfl mC ⟨_, rfl⟩) pa_nil)))))) pss_never pss_nil) (pss_cons (ps_if (pt_not (pt_val (pcall DW hr (by rfl) (pa_cons (pv 2) (pa_cons pe_int (pa_cons (pe_glob (v := .int 600) rfl mG ⟨_, rfl⟩) pa_nil)))))) pss_never pss_nil) (pss_one (ps_ret pe_non))))), ?_⟩
    refine ⟨_, rfl, ?_⟩
    unfold tNil
    refine ask_name (.inl ⟨rfl, n, rfl, hn⟩) fun H1 s1 => ⟨_, rfl, iteF ⟨_, rfl, ?_⟩⟩
    unfold tCons tC
    refine ask_whole (.inl ⟨rfl, r, rfl, hr1.1, hr1.2⟩) ?_
    refine ⟨_, rfl, iteF ⟨_, rfl, ?_⟩⟩
    refine ask_whole (.inl ⟨rfl, g, rfl, hg1.1, hg1.2⟩) ?_
    exact ⟨_, rfl, iteF (k H1 s1)⟩
abbrev nDInit : List Str := ["self", "name", "room", "gap", "part"]
theorem scDInit : FnScope nDInit pD (defScope sDInit) := ⟨rfl, rfl, rfl, by decide +kernel, rfl, by decide +kernel, by decide +kernel⟩
/-- a good door's __init__ -/
def spDInit (C : Addr) : Sp := fun vs H Q _ => ∃ (x dx : Addr) (n : Str) (r g : Int), vs = [.ref x, .str n, .int r, .int g] ∧ isNm n = true ∧ (1 ≤ r ∧ r ≤ 99) ∧ (1 ≤ g ∧ g ≤ 600) ∧ H x = some (.ins C dx []) ∧
  ∀ H', (∃ fs, H' x = some (.ins C dx fs)) → (∀ b o, H b = some o → b ≠ x → H' b = some o) → Q .non H'
theorem ok_dinit {C f : Addr} {fd : FuncData} (F : Fun K "__init__" "Door.__init__" sDInit f fd) (T : DoorC K mg C) (DD : Dn P w K mg base 3 "wrong_in_door" nWrongD spWrongD) : FnOk P w K mg base CX0 4 f fd pD (spDInit C) := by
  refine F.ok scDInit (fun vs H Q E h => ?_) (fun cdv A outer s H vs Q E hr h => ?_)
  · obtain ⟨x, dx, n, r, g, rfl, _⟩ := h
    rfl
  · obtain ⟨x, dx, n, r, g, rfl, hn, hr1, hg1, hx, k⟩ := h
    refine ⟨_, (pss_cons (ps_set (i := 4) scDInit.nd rfl (.inl rfl) (pcall DD hr (by rfl) (pa_cons (pv 1) (pa_cons (pv 2) (pa_cons (pv 3) pa_nil))))) (pss_cons (ps_if (pt_cmpR op_notN (pv 4) pe_non (nomark _)) pss_never pss_nil) (pss_cons (ps_fld (pv 0) (pv 1) rfl) (pss_cons (ps_fld (pv 0) (pv 2) rfl) (pss_one (ps_fld (pv 0) (pv 3) rfl)))))), ?_⟩
    refine ⟨_, rfl, _, rfl, _, rfl, n, r, g, rfl, hn, hr1, hg1, fun H1 s1 => ?_⟩
    refine ⟨_, rfl, rfl, _, rfl, ?_⟩
    refine iteF ?_
    refine ⟨_, rfl, _, rfl, x, C, dx, [], rfl, s1 _ _ hx, T.cl, T.nN, (by show 0 < 1000; decide), ?_⟩
    refine ⟨_, rfl, _, rfl, x, C, dx, _, rfl, upd_same, T.cl, T.nR, (by show 1 < 1000; decide), ?_⟩
    refine ⟨_, rfl, _, rfl, x, C, dx, _, rfl, upd_same, T.cl, T.nG, (by show 2 < 1000; decide), ?_⟩
    refine k _ ⟨_, upd_same⟩ fun b o eb hb => ?_
    rw [upd_ne hb, upd_ne hb, upd_ne hb]
    exact s1 _ _ eb
end
end Du

set_option Elab.async false
set_option linter.all false
set_option maxRecDepth 100000
namespace Du
open PySem L2
abbrev sOddN : Stmt := topS 40
abbrev sOddW : Stmt := topS 41
abbrev sOddH : Stmt := topS 42
theorem passN {X : Cx} : Passes (L2N.CX X.prog X.w) X E0 := fun _ _ _ _ _ _ _ h => by
  obtain ⟨_, _, _, _, _, _, _, _, _, _, _, _, z⟩ := h
  exact z.elim
/-- the class Task and its making -/
structure TaskM (P : Program) (w : World) (K : PySem.W.Frag) (mg : Str → Option Value) (base : Heap) (C CE : Addr) : Prop where
  c : TaskC K mg C
  kS : PySem.W.kitOne K (.ref C) (.type "str") = some false
  kI : PySem.W.kitOne K (.ref C) (.type "int") = some false
  kT : PySem.W.kitOne K (.ref C) (.type "tuple") = some false
  ex : ∃ (e0 f : Addr) (fd : FuncData), FunI K e0 f fd ∧ Mk K C f ∧ FnOk P w K mg base (L2N.CX P w) 6 f fd pInit (spInitG K C CE) ∧ ∀ H : Hp, SqT K H e0 []
section
variable {P : Program} {w : World} {K : PySem.W.Frag} {mg : Str → Option Value} {base : Heap}
structure DoorM (P : Program) (w : World) (K : PySem.W.Frag) (mg : Str → Option Value) (base : Heap) (C : Addr) : Prop where
  c : DoorC K mg C
  kS : PySem.W.kitOne K (.ref C) (.type "str") = some false
  ex : ∃ (f : Addr) (fd : FuncData), Binds K fd pD [] ∧ Mk K C f ∧ FnOk P w K mg base CX0 4 f fd pD (spDInit C)
theorem doorSp {C : Addr} {H : Hp} {n : Str} {r g : Int} {Q : Addr → Hp → Prop} (hn : isNm n = true) (hr : 1 ≤ r ∧ r ≤ 99) (hg : 1 ≤ g ∧ g ≤ 600) (k : ∀ x H', Same H H' → H x = none → (∃ dx fs, H' x = some (.ins C dx fs)) → Q x H') :
    ∀ x dx, H x = none → H dx = none → dx ≠ x → spDInit C [.ref x, .str n, .int r, .int g] (upd (upd H dx (.own x)) x (.ins C dx [])) (fun u H3 => u = .non ∧ Q x H3) E0 := by
  intro x dx nx ndx hne
  have s1 : Same H (upd (upd H dx (.own x)) x (.ins C dx [])) := same_upd2 (same_upd ndx) nx
  exact ⟨x, dx, n, r, g, rfl, hn, hr, hg, upd_same, fun H' hi keep => ⟨rfl, k x H' (fun b o e => keep b o (s1 b o e) (ne_of_none e nx)) nx ⟨dx, hi⟩⟩⟩
theorem taskSp {C CE : Addr} {H : Hp} {x0 x1 x2 x3 x4 : V} {b0 b1 b2 b3 b4 : Bool} {Q : Addr → Hp → Prop} {E : XK} (AV : ArgsV K H x0 x1 x2 x3 x4 b0 b1 b2 b3 b4)
    (k : taskPart b0 b1 b2 b3 b4 = none → ∀ x H', Same H H' → H x = none → (∃ dx fs, H' x = some (.ins C dx fs)) → Q x H') (e : ∀ p, taskPart b0 b1 b2 b3 b4 = some p → ∀ d H', Same H H' → H' d = some (.xd [("part", .str p)]) → E (.ref CE) (some d) H') :
    ∀ x dx, H x = none → H dx = none → dx ≠ x → spInitG K C CE [.ref x, x0, x1, x2, x3, x4] (upd (upd H dx (.own x)) x (.ins C dx [])) (fun u H3 => u = .non ∧ Q x H3) E := by
  intro x dx nx ndx hne
  have s1 : Same H (upd (upd H dx (.own x)) x (.ins C dx [])) := same_upd2 (same_upd ndx) nx
  exact ⟨x, dx, x0, x1, x2, x3, x4, b0, b1, b2, b3, b4, rfl, AV.kp (.of_same s1), upd_same, fun hp H' hi keep => ⟨rfl, k hp x H' (fun b o e => keep b o (s1 b o e) (ne_of_none e nx)) nx ⟨dx, hi⟩⟩, fun p hp d H' s2 hd => e p hp d H' (s1.trans s2) hd⟩
/-! things -/
theorem fixL {xs : List V} (h3 : xs.length ≠ 3) (h5 : xs.length ≠ 5) : Fix (.lst xs) := ⟨fun i j k z => by cases z; exact h3 rfl, fun ys z => by cases z; exact h5⟩
theorem fixS {z : Str} {r : List V} (h : r.length ≠ 4) : Fix (.lst (.str z :: r)) := ⟨(fun i j k z => nomatch z), fun ys z => by cases z; exact fun q => h (Nat.succ.inj q)⟩
variable {H : Hp} {a : Addr} {xs : List V} {c hi lo : Int} {v x0 x1 x2 : V}
theorem ob_tup (e : H a = some (.tup xs)) : Ty2 K H (.ref a) (.type "tuple") := .inr ⟨a, _, rfl, e, .tup, fun _ e => .base (.tup e)⟩
theorem ob_dict {ks : List (Key × V)} (e : H a = some (.dK ks)) : Ty2 K H (.ref a) (.type "dict") := .inr ⟨a, _, rfl, e, .dK, fun _ e => .base (.dK e)⟩
theorem ob_lst (e : H a = some (.lst xs)) (n : Fix (.lst xs)) : Ty2 K H (.ref a) (.type "list") := .inr ⟨a, _, rfl, e, n, fun _ e => .base (.lst e)⟩
theorem ob_door {C : Addr} (T : DoorC K mg C) (e : ∃ dx fs, H a = some (.ins C dx fs)) : Ty2 K H (.ref a) (.ref C) := by
  obtain ⟨dx, fs, e⟩ := e
  exact .inr ⟨a, _, rfl, e, .ins, fun _ e => .base (.ins e T.cl T.kc T.kg T.kt T.km)⟩
theorem ob_task {C : Addr} (T : TaskC K mg C) (e : ∃ dx fs, H a = some (.ins C dx fs)) : Ty2 K H (.ref a) (.ref C) := by
  obtain ⟨dx, fs, e⟩ := e
  exact .inr ⟨a, _, rfl, e, .ins, fun _ e => .base (.ins e T.cl T.kc T.kg T.kt T.km)⟩
theorem bn_str {z : Str} (h : z.length ≤ 1000) (e : isNm z = false) : BadN K H (.str z) := .inl ⟨z, rfl, Nat.le_trans h (by decide), e⟩
theorem bn_ty {t : String} (h : Ty2 K H v (.type t)) (k : L2.kitB t "str" = some false) : BadN K H v := .inr ⟨_, h, kit_ty k⟩
theorem bl_ty {t : String} (h : Ty2 K H v (.type t)) (k : L2.kitB t "int" = some false) : BadL K H v lo hi := .inr (.inr ⟨_, h, kit_ty k⟩)
theorem hh_ty {t : String} (h : Ty2 K H v (.type t)) (k : L2.kitB t "tuple" = some false) : BadH K H v c := .inl ⟨_, h, kit_ty k⟩
theorem bs_ty {t : String} (h : Ty2 K H v (.type t)) (k : L2.kitB t "tuple" = some false) : BadHs K H v c := .inl ⟨_, h, kit_ty k⟩
theorem y_non : Ty2 K H .non (.type "NoneType") := .inl fun _ => .base .non
theorem y_int {i : Int} : Ty2 K H (.int i) (.type "int") := .inl fun _ => .base (.int i)
theorem y_bl {i : Bool} : Ty2 K H (.bl i) (.type "bool") := .inl fun _ => .base (.bl i)
theorem y_str {i : Str} : Ty2 K H (.str i) (.type "str") := .inl fun _ => .base (.str i)
theorem bl_int {i : Int} (h : i < lo ∨ hi < i) : BadL K H (.int i) lo hi := .inl ⟨i, rfl, by
  rcases h with h | h
  · rw [decide_eq_false (by omega : ¬ lo ≤ i)]; rfl
  · rw [decide_eq_false (by omega : ¬ i ≤ hi)]; simp⟩
theorem bl_bl {i : Bool} : BadL K H (.bl i) lo hi := .inr (.inl ⟨i, rfl⟩)
theorem isNm_a : isNm "a" = true := by decide +kernel
theorem isNm_b : isNm "b" = true := by decide +kernel
theorem gn_a : GoodN (.str "a") := ⟨_, rfl, isNm_a⟩
theorem gn_b : GoodN (.str "b") := ⟨_, rfl, isNm_b⟩
theorem hh_len (e : H a = some (.tup xs)) (n : xs.length ≠ 3) : BadH K H (.ref a) c := .inr (.inl ⟨a, xs, rfl, SqT.of e, n⟩)
theorem hh_n (e : H a = some (.tup [x0, x1, x2])) (h : BadN K H x0) : BadH K H (.ref a) c := .inr (.inr ⟨a, _, _, _, rfl, SqT.of e, .inl h⟩)
theorem hh_s (e : H a = some (.tup [x0, x1, x2])) (g : GoodN x0) (h : BadL K H x1 0 c) : BadH K H (.ref a) c := .inr (.inr ⟨a, _, _, _, rfl, SqT.of e, .inr (.inl ⟨g, h⟩)⟩)
theorem hh_l {s : Int} (e : H a = some (.tup [x0, .int s, x2])) (g : GoodN x0) (h1 : 0 ≤ s) (h2 : s ≤ c) (h : BadL K H x2 1 (c - s)) : BadH K H (.ref a) c := .inr (.inr ⟨a, _, _, _, rfl, SqT.of e, .inr (.inr ⟨g, s, rfl, h1, h2, h⟩)⟩)
theorem bs_1 (e : H a = some (.tup [v])) (h : BadH K H v c) : BadHs K H (.ref a) c := .inr (.inr (.inl ⟨a, [v], [false], rfl, SqT.of e, by simp, rfl, fun i u r e1 e2 => by
  cases i with
  | zero => cases e1; cases e2; exact .inr ⟨rfl, h⟩
  | succ i => simp at e1, by simp⟩))
theorem bs_2 {u : Addr} {z : Str} {i j : Int} (e : H a = some (.tup [.ref u, v])) (eu : H u = some (.tup [.str z, .int i, .int j])) (hz : z.length ≤ 1000) (h : BadH K H v c) : BadHs K H (.ref a) c := .inr (.inr (.inl ⟨a, [.ref u, v], [isHd (z, i, j) c, false], rfl, SqT.of e, by show 2 ≤ 4; decide, rfl, fun k y r e1 e2 => by
  match k, e1, e2 with
  | 0, e1, e2 => cases e1; cases e2; exact .inl ⟨(z, i, j), ⟨u, rfl, SqT.of eu⟩, Nat.le_trans hz (by decide), rfl⟩
  | 1, e1, e2 => cases e1; cases e2; exact .inr ⟨rfl, h⟩
  | k + 2, e1, e2 => simp at e1, by simp⟩))
theorem bs_3 {z : Str} {i j : Int} (e : H a = some (.tup [.str z, .int i, .int j])) : BadHs K H (.ref a) c := .inr (.inr (.inl ⟨a, [.str z, .int i, .int j], [false, false, false], rfl, SqT.of e, by show 3 ≤ 4; decide, rfl, fun k y r e1 e2 => by
  match k, e1, e2 with
  | 0, e1, e2 => cases e1; cases e2; exact .inr ⟨rfl, hh_ty y_str (by decide +kernel)⟩
  | 1, e1, e2 => cases e1; cases e2; exact .inr ⟨rfl, hh_ty y_int (by decide +kernel)⟩
  | 2, e1, e2 => cases e1; cases e2; exact .inr ⟨rfl, hh_ty y_int (by decide +kernel)⟩
  | k + 3, e1, e2 => simp at e1, by simp⟩))
theorem bs_5 (e : H a = some (.tup xs)) (n : 4 < xs.length) : BadHs K H (.ref a) c := .inr (.inl ⟨a, xs, rfl, SqT.of e, n⟩)
theorem hds2 {u u' : Addr} {h h' : Hold} (e : H a = some (.tup [.ref u, .ref u'])) (eu : H u = some (.tup [.str h.1, .int h.2.1, .int h.2.2])) (ev : H u' = some (.tup [.str h'.1, .int h'.2.1, .int h'.2.2])) : HdsAt K H a [h, h'] := ⟨_, SqT.of e, rfl, fun i x y e1 e2 => by
  match i, e1, e2 with
  | 0, e1, e2 => cases e1; cases e2; exact ⟨u, rfl, SqT.of eu⟩
  | 1, e1, e2 => cases e1; cases e2; exact ⟨u', rfl, SqT.of ev⟩
  | i + 2, e1, e2 => simp at e1⟩
/-- two of a wrong order -/
theorem bs_o {u u' : Addr} (h h' : Hold) (e : H a = some (.tup [.ref u, .ref u'])) (eu : H u = some (.tup [.str h.1, .int h.2.1, .int h.2.2])) (ev : H u' = some (.tup [.str h'.1, .int h'.2.1, .int h'.2.2])) (l : h.1.length ≤ 1000) (l' : h'.1.length ≤ 1000) (n : ahead h h' = false) : BadHs K H (.ref a) c :=
  .inr (.inr (.inr ⟨a, [h, h'], rfl, hds2 e eu ev, fun g hg => by
    simp only [List.mem_cons, List.not_mem_nil, or_false] at hg
    rcases hg with rfl | rfl
    · exact Nat.le_trans l (by decide)
    · exact Nat.le_trans l' (by decide), by
    unfold areHds
    have z : (List.zip [h, h'] (List.drop 1 [h, h'])).all (fun p => ahead p.1 p.2) = false := by
      show (ahead h h' && true) = false
      rw [n]
      rfl
    rw [z]
    simp⟩))
theorem ahead_eq {z : Str} {i j i' j' : Int} (h : ¬ i + j ≤ i') : ahead (z, i, j) (z, i', j') = false := by
  unfold ahead
  rw [if_pos rfl]
  exact decide_eq_false h
theorem ahead_ba {i j i' j' : Int} : ahead ("b", i, j) ("a", i', j') = false := by
  unfold ahead
  rw [if_neg (show ¬ (("b" : Str) = "a") by decide +kernel)]
  exact decide_eq_false (show ¬ (("b" : Str).cps.toList < ("a" : Str).cps.toList) by decide +kernel)
theorem args_a {e0 : Addr} (hE : ∀ H : Hp, SqT K H e0 []) : ArgsV K H (.str "a") (.int 1) (.int 1) .non (.ref e0) false false false false false :=
  ⟨.inl ⟨rfl, gn_a⟩, .inl ⟨rfl, 1, rfl, by decide, by decide⟩, .inl ⟨rfl, 1, rfl, by decide, by decide⟩, fun _ g _ => .inl ⟨rfl, rfl⟩, fun _ c _ => .inl ⟨rfl, e0, [], rfl, ⟨[], hE _, rfl, fun i u g e1 _ => by simp at e1⟩, fun h hh => (nomatch hh), by simp [areHds]⟩⟩
theorem t30 : (1000 : Int) < 10 ^ (30 : Int).toNat := by decide +kernel

/-! _law_odd_names -/
theorem scOddN : FnScope ["_law_some"] [] (defScope sOddN) := ⟨rfl, rfl, rfl, by decide +kernel, rfl, by decide +kernel, by decide +kernel⟩
def spOddN (K : PySem.W.Frag) : Sp := fun vs H Q _ => vs = [] ∧ ∀ l xs H', Same H H' → H l = none → H' l = some (.lst xs) → xs.length = 22 → (∀ x ∈ xs, BadN K H' x) → Q (.ref l) H'
set_option maxHeartbeats 4000000 in
theorem ok_OddN {C CT CE f : Addr} {fd : FuncData} (F : Fun K "_law_odd_names" "_law_odd_names" sOddN f fd) (DM : DoorM P w K mg base C) (TM : TaskM P w K mg base CT CE) (mL : mg "list" = none) : FnOk P w K mg base CX0 8 f fd [] (spOddN K) := by
  obtain ⟨TD, kDS, fi, fdi, kd, MI, GI⟩ := DM
  obtain ⟨TT, kTS, kTI, kTT, e0, fj, fdj, FJ, MJ, GJ, hE⟩ := TM
  obtain ⟨ds, vds, k0⟩ := kb0 FJ
  refine F.ok scOddN (fun vs H Q E h => ?_) (fun cdv A outer s H vs Q E hr h => ?_)
  · obtain ⟨rfl, _⟩ := h
    rfl
  · obtain ⟨rfl, q⟩ := h
    have hr3 : Room 5 _ := hr.mono (by decide)
    have hr5 : Room 7 _ := hr.mono (by decide)
    refine ⟨_, (pss_cons (ps_set (i := 0) scOddN.nd rfl (.inl rfl) (pe_lst (pa_cons pe_str (pa_cons pe_str (pa_cons pe_str (pa_cons pe_str (pa_cons pe_str (pa_cons pe_str (pa_cons pe_str (pa_cons pe_str (pa_cons pe_str (pa_cons pe_str (pa_cons pe_int (pa_cons pe_int (pa_cons pe_non (pa_cons pe_bl (pa_cons (pe_tup pa_nil) (pa_cons (pe_lst pa_nil) (pa_cons pe_dnewK pa_nil))))))))))))))))))) (pss_one (ps_ret (pe_op op_cat (pv 0) (pe_lst (pa_cons (pe_tup (pa_cons pe_str pa_nil)) (pa_cons (pe_lst (pa_cons pe_str pa_nil)) (pa_cons (pe_tup (pa_cons (pe_lst pa_nil) pa_nil)) (pa_cons (pe_make MI GI hr3 (by rfl) TD.mg kd .nil pass0 (pa_cons pe_str (pa_cons pe_int (pa_cons pe_int pa_nil)))) (pa_cons (pe_make MJ GJ hr5 (by rfl) TT.mg k0 vds passN (pa_cons pe_str (pa_cons pe_int (pa_cons pe_int pa_nil)))) pa_nil)))))))))), ?_⟩
    refine ⟨(by show 0 ≤ sizeLine; decide), fun q1_14 n_q1_14 => ?_⟩
    have s_q1_14 := same_upd (o := .tup []) n_q1_14
    refine ⟨(by show 0 ≤ sizeLine; decide), fun q1_15 n_q1_15 => ?_⟩
    have s_q1_15 := same_upd (o := .lst []) n_q1_15
    refine fun q1_16 n_q1_16 => ?_
    have s_q1_16 := same_upd (o := .dK []) n_q1_16
    refine ⟨(by show 17 ≤ sizeLine; decide), fun a4 n_a4 => ?_⟩
    have s_a4 := same_upd (o := .lst [.str "", .str "A", .str "ab1", .str "abcdefghi", .str " a", .str "a ", .str "a b", .str "a\n", .str "a-b", .str "task a", .int 0, .int 1, .non, .bl true, .ref q1_14, .ref q1_15, .ref q1_16]) n_a4
    refine ⟨_, rfl, ?_⟩
    refine ⟨(by show 1 ≤ sizeLine; decide), fun q2_0 n_q2_0 => ?_⟩
    have s_q2_0 := same_upd (o := .tup [.str "a"]) n_q2_0
    refine ⟨(by show 1 ≤ sizeLine; decide), fun q2_1 n_q2_1 => ?_⟩
    have s_q2_1 := same_upd (o := .lst [.str "a"]) n_q2_1
    refine ⟨(by show 0 ≤ sizeLine; decide), fun q2_2_0 n_q2_2_0 => ?_⟩
    have s_q2_2_0 := same_upd (o := .lst []) n_q2_2_0
    refine ⟨(by show 1 ≤ sizeLine; decide), fun q2_2 n_q2_2 => ?_⟩
    have s_q2_2 := same_upd (o := .tup [.ref q2_2_0]) n_q2_2
    try dsimp only [tCons, tMake, tC, tNil]
    refine doorSp isNm_a (by decide) (by decide) (fun x9 H9 s_x9 n_x9 t_x9 => ?_)
    try dsimp only [tCons, tMake, tC, tNil]
    refine taskSp (args_a hE) (fun _ x10 H10 s_x10 n_x10 t_x10 => ?_) (fun p hp => nomatch hp)
    refine ⟨(by show 5 ≤ sizeLine; decide), fun a11 n_a11 => ?_⟩
    have s_a11 := same_upd (o := .lst [.ref q2_0, .ref q2_1, .ref q2_2, .ref x9, .ref x10]) n_a11
    have f_1 := ((((((s_q2_0.trans s_q2_1).trans s_q2_2_0).trans s_q2_2).trans s_x9).trans s_x10).trans s_a11) _ _ upd_same
    refine ⟨a4, a11, ?x1, ?z1, rfl, rfl, ?f1, ?g1, ?l1, ?r1⟩
    case f1 => exact f_1
    case g1 => exact upd_same
    case l1 =>
      simp only [List.length_append, List.length_cons, List.length_nil]
      decide
    refine fun a12 n_a12 => ?_
    have s_a12 := same_upd (o := .lst ([.str "", .str "A", .str "ab1", .str "abcdefghi", .str " a", .str "a ", .str "a b", .str "a\n", .str "a-b", .str "task a", .int 0, .int 1, .non, .bl true, .ref q1_14, .ref q1_15, .ref q1_16] ++ [.ref q2_0, .ref q2_1, .ref q2_2, .ref x9, .ref x10])) n_a12
    have c_a11 := s_a12
    have c_x10 := s_a11.trans c_a11
    have c_x9 := s_x10.trans c_x10
    have c_q2_2 := s_x9.trans c_x9
    have c_q2_2_0 := s_q2_2.trans c_q2_2
    have c_q2_1 := s_q2_2_0.trans c_q2_2_0
    have c_q2_0 := s_q2_1.trans c_q2_1
    have c_a4 := s_q2_0.trans c_q2_0
    have c_q1_16 := s_a4.trans c_a4
    have c_q1_15 := s_q1_16.trans c_q1_16
    have c_q1_14 := s_q1_15.trans c_q1_15
    have bb := s_q1_14.trans c_q1_14
    refine q a12 _ _ bb ?_ upd_same rfl fun x hx => ?_
    · exact ((((((((((s_q1_14.trans s_q1_15).trans s_q1_16).trans s_a4).trans s_q2_0).trans s_q2_1).trans s_q2_2_0).trans s_q2_2).trans s_x9).trans s_x10).trans s_a11).free n_a12
    simp only [List.cons_append, List.nil_append, List.append_assoc, List.mem_cons, List.not_mem_nil, or_false] at hx
    rcases hx with rfl | rfl | rfl | rfl | rfl | rfl | rfl | rfl | rfl | rfl | rfl | rfl | rfl | rfl | rfl | rfl | rfl | rfl | rfl | rfl | rfl | rfl
    · exact bn_str (by decide +kernel) (by decide +kernel)
    · exact bn_str (by decide +kernel) (by decide +kernel)
    · exact bn_str (by decide +kernel) (by decide +kernel)
    · exact bn_str (by decide +kernel) (by decide +kernel)
    · exact bn_str (by decide +kernel) (by decide +kernel)
    · exact bn_str (by decide +kernel) (by decide +kernel)
    · exact bn_str (by decide +kernel) (by decide +kernel)
    · exact bn_str (by decide +kernel) (by decide +kernel)
    · exact bn_str (by decide +kernel) (by decide +kernel)
    · exact bn_str (by decide +kernel) (by decide +kernel)
    · exact bn_ty y_int (by decide +kernel)
    · exact bn_ty y_int (by decide +kernel)
    · exact bn_ty y_non (by decide +kernel)
    · exact bn_ty y_bl (by decide +kernel)
    · exact bn_ty (ob_tup (c_q1_14 _ _ upd_same)) (by decide +kernel)
    · exact bn_ty (ob_lst (c_q1_15 _ _ upd_same) (fixL (by simp) (by simp))) (by decide +kernel)
    · exact bn_ty (ob_dict (c_q1_16 _ _ upd_same)) (by decide +kernel)
    · exact bn_ty (ob_tup (c_q2_0 _ _ upd_same)) (by decide +kernel)
    · exact bn_ty (ob_lst (c_q2_1 _ _ upd_same) (fixL (by simp) (by simp))) (by decide +kernel)
    · exact bn_ty (ob_tup (c_q2_2 _ _ upd_same)) (by decide +kernel)
    · exact .inr ⟨_, (ob_door TD t_x9).kp (.of_same c_x9), kDS⟩
    · exact .inr ⟨_, (ob_task TT t_x10).kp (.of_same c_x10), kTS⟩
/-! _law_odd_numbers -/
theorem scOddW : FnScope ["_law_top", "_law_some"] ["_law_top"] (defScope sOddW) := ⟨rfl, rfl, rfl, by decide +kernel, rfl, by decide +kernel, by decide +kernel⟩
def spOddW (K : PySem.W.Frag) : Sp := fun vs H Q _ => ∃ top : Int, vs = [.int top] ∧ 1 ≤ top ∧ top ≤ 1000 ∧ ∀ l xs H', Same H H' → H l = none → H' l = some (.lst xs) → xs.length = 17 → (∀ x ∈ xs, x ≠ .non ∧ BadL K H' x 1 top) → Q (.ref l) H'
set_option maxHeartbeats 4000000 in
theorem ok_OddW {C CT CE f : Addr} {fd : FuncData} (F : Fun K "_law_odd_numbers" "_law_odd_numbers" sOddW f fd) (DM : DoorM P w K mg base C) (TM : TaskM P w K mg base CT CE) (mL : mg "list" = none) : FnOk P w K mg base CX0 8 f fd ["_law_top"] (spOddW K) := by
  obtain ⟨TD, kDS, fi, fdi, kd, MI, GI⟩ := DM
  obtain ⟨TT, kTS, kTI, kTT, e0, fj, fdj, FJ, MJ, GJ, hE⟩ := TM
  obtain ⟨ds, vds, k0⟩ := kb0 FJ
  refine F.ok scOddW (fun vs H Q E h => ?_) (fun cdv A outer s H vs Q E hr h => ?_)
  · obtain ⟨top, rfl, _⟩ := h
    rfl
  · obtain ⟨top, rfl, ht1, ht2, q⟩ := h
    have hr3 : Room 5 _ := hr.mono (by decide)
    have hr5 : Room 7 _ := hr.mono (by decide)
    refine ⟨_, (pss_cons (ps_set (i := 1) scOddW.nd rfl (.inl rfl) (pe_lst (pa_cons pe_int (pa_cons (pe_op op_sub pe_int pe_int) (pa_cons (pe_op op_add (pv 0) pe_int) (pa_cons (pe_op op_pow pe_int pe_int) (pa_cons (pe_op op_sub pe_int (pe_op op_pow pe_int pe_int)) (pa_cons pe_bl (pa_cons pe_bl (pa_cons pe_str (pa_cons pe_str (pa_cons (pe_tup pa_nil) (pa_cons (pe_tup (pa_cons pe_int pa_nil)) (pa_cons (pe_tup (pa_cons pe_int (pa_cons pe_int pa_nil))) (pa_cons (pe_lst pa_nil) (pa_cons (pe_lst (pa_cons pe_int pa_nil)) (pa_cons pe_dnewK (pa_cons (pe_tup (pa_cons (pe_lst pa_nil) pa_nil)) pa_nil)))))))))))))))))) (pss_one (ps_ret (pe_op op_cat (pv 1) (pe_lst (pa_cons (pe_make MJ GJ hr5 (by rfl) TT.mg k0 vds passN (pa_cons pe_str (pa_cons pe_int (pa_cons pe_int pa_nil)))) pa_nil)))))), ?_⟩
    refine ⟨_, _, rfl, rfl, _, rfl, _, _, rfl, rfl, _, _, rfl, rfl, ⟨by decide, by decide, by decide⟩, _, _, rfl, rfl, ⟨by decide, by decide, by decide⟩, _, _, rfl, rfl, (by show 0 ≤ sizeLine; decide), fun q1_9 n_q1_9 => ?_⟩
    have s_q1_9 := same_upd (o := .tup []) n_q1_9
    refine ⟨(by show 1 ≤ sizeLine; decide), fun q1_10 n_q1_10 => ?_⟩
    have s_q1_10 := same_upd (o := .tup [.int 1]) n_q1_10
    refine ⟨(by show 2 ≤ sizeLine; decide), fun q1_11 n_q1_11 => ?_⟩
    have s_q1_11 := same_upd (o := .tup [.int 1, .int 1]) n_q1_11
    refine ⟨(by show 0 ≤ sizeLine; decide), fun q1_12 n_q1_12 => ?_⟩
    have s_q1_12 := same_upd (o := .lst []) n_q1_12
    refine ⟨(by show 1 ≤ sizeLine; decide), fun q1_13 n_q1_13 => ?_⟩
    have s_q1_13 := same_upd (o := .lst [.int 1]) n_q1_13
    refine fun q1_14 n_q1_14 => ?_
    have s_q1_14 := same_upd (o := .dK []) n_q1_14
    refine ⟨(by show 0 ≤ sizeLine; decide), fun q1_15_0 n_q1_15_0 => ?_⟩
    have s_q1_15_0 := same_upd (o := .lst []) n_q1_15_0
    refine ⟨(by show 1 ≤ sizeLine; decide), fun q1_15 n_q1_15 => ?_⟩
    have s_q1_15 := same_upd (o := .tup [.ref q1_15_0]) n_q1_15
    refine ⟨(by show 16 ≤ sizeLine; decide), fun a9 n_a9 => ?_⟩
    have s_a9 := same_upd (o := .lst [.int 0, .int (0 - 1), .int (top + 1), .int (10 ^ (30 : Int).toNat), .int (0 - (10 ^ (30 : Int).toNat)), .bl true, .bl false, .str "1", .str "", .ref q1_9, .ref q1_10, .ref q1_11, .ref q1_12, .ref q1_13, .ref q1_14, .ref q1_15]) n_a9
    refine ⟨_, rfl, ?_⟩
    try dsimp only [tCons, tMake, tC, tNil]
    refine taskSp (args_a hE) (fun _ x10 H10 s_x10 n_x10 t_x10 => ?_) (fun p hp => nomatch hp)
    refine ⟨(by show 1 ≤ sizeLine; decide), fun a11 n_a11 => ?_⟩
    have s_a11 := same_upd (o := .lst [.ref x10]) n_a11
    have f_1 := (s_x10.trans s_a11) _ _ upd_same
    refine ⟨a9, a11, ?x1, ?z1, rfl, rfl, ?f1, ?g1, ?l1, ?r1⟩
    case f1 => exact f_1
    case g1 => exact upd_same
    case l1 =>
      simp only [List.length_append, List.length_cons, List.length_nil]
      decide
    refine fun a12 n_a12 => ?_
    have s_a12 := same_upd (o := .lst ([.int 0, .int (0 - 1), .int (top + 1), .int (10 ^ (30 : Int).toNat), .int (0 - (10 ^ (30 : Int).toNat)), .bl true, .bl false, .str "1", .str "", .ref q1_9, .ref q1_10, .ref q1_11, .ref q1_12, .ref q1_13, .ref q1_14, .ref q1_15] ++ [.ref x10])) n_a12
    have c_a11 := s_a12
    have c_x10 := s_a11.trans c_a11
    have c_a9 := s_x10.trans c_x10
    have c_q1_15 := s_a9.trans c_a9
    have c_q1_15_0 := s_q1_15.trans c_q1_15
    have c_q1_14 := s_q1_15_0.trans c_q1_15_0
    have c_q1_13 := s_q1_14.trans c_q1_14
    have c_q1_12 := s_q1_13.trans c_q1_13
    have c_q1_11 := s_q1_12.trans c_q1_12
    have c_q1_10 := s_q1_11.trans c_q1_11
    have c_q1_9 := s_q1_10.trans c_q1_10
    have bb := s_q1_9.trans c_q1_9
    refine q a12 _ _ bb ?_ upd_same rfl fun x hx => ?_
    · exact ((((((((((s_q1_9.trans s_q1_10).trans s_q1_11).trans s_q1_12).trans s_q1_13).trans s_q1_14).trans s_q1_15_0).trans s_q1_15).trans s_a9).trans s_x10).trans s_a11).free n_a12
    simp only [List.cons_append, List.nil_append, List.append_assoc, List.mem_cons, List.not_mem_nil, or_false] at hx
    rcases hx with rfl | rfl | rfl | rfl | rfl | rfl | rfl | rfl | rfl | rfl | rfl | rfl | rfl | rfl | rfl | rfl | rfl
    · exact ⟨(fun z => nomatch z), bl_int (by omega)⟩
    · exact ⟨(fun z => nomatch z), bl_int (by omega)⟩
    · exact ⟨(fun z => nomatch z), bl_int (by omega)⟩
    · exact ⟨(fun z => nomatch z), bl_int (.inr (by have := t30; omega))⟩
    · exact ⟨(fun z => nomatch z), bl_int (.inl (by have := t30; omega))⟩
    · exact ⟨(fun z => nomatch z), bl_bl⟩
    · exact ⟨(fun z => nomatch z), bl_bl⟩
    · exact ⟨(fun z => nomatch z), bl_ty y_str (by decide +kernel)⟩
    · exact ⟨(fun z => nomatch z), bl_ty y_str (by decide +kernel)⟩
    · exact ⟨(fun z => nomatch z), bl_ty (ob_tup (c_q1_9 _ _ upd_same)) (by decide +kernel)⟩
    · exact ⟨(fun z => nomatch z), bl_ty (ob_tup (c_q1_10 _ _ upd_same)) (by decide +kernel)⟩
    · exact ⟨(fun z => nomatch z), bl_ty (ob_tup (c_q1_11 _ _ upd_same)) (by decide +kernel)⟩
    · exact ⟨(fun z => nomatch z), bl_ty (ob_lst (c_q1_12 _ _ upd_same) (fixL (by simp) (by simp))) (by decide +kernel)⟩
    · exact ⟨(fun z => nomatch z), bl_ty (ob_lst (c_q1_13 _ _ upd_same) (fixL (by simp) (by simp))) (by decide +kernel)⟩
    · exact ⟨(fun z => nomatch z), bl_ty (ob_dict (c_q1_14 _ _ upd_same)) (by decide +kernel)⟩
    · exact ⟨(fun z => nomatch z), bl_ty (ob_tup (c_q1_15 _ _ upd_same)) (by decide +kernel)⟩
    · exact ⟨(fun z => nomatch z), .inr (.inr ⟨_, (ob_task TT t_x10).kp (.of_same c_x10), kTI⟩)⟩
def spOddH (K : PySem.W.Frag) : Sp := fun vs H Q _ => ∃ price : Int, vs = [.int price] ∧ 1 ≤ price ∧ price ≤ 1000 ∧ ∀ l xs H', Same H H' → H l = none → H' l = some (.lst xs) → xs.length = 46 → (∀ x ∈ xs, BadHs K H' x price) → Q (.ref l) H'
end
end Du

set_option Elab.async false
set_option linter.all false
set_option maxRecDepth 100000
namespace Du
open PySem L2
section
variable {P : Program} {w : World} {K : PySem.W.Frag} {mg : Str → Option Value} {base : Heap}
/-! _law_odd_holds -/
theorem scOddH : FnScope ["_law_price", "_law_one", "_law_some"] ["_law_price"] (defScope sOddH) := ⟨rfl, rfl, rfl, by decide +kernel, rfl, by decide +kernel, by decide +kernel⟩

set_option maxHeartbeats 4000000 in
theorem ok_OddH {C CT CE f : Addr} {fd : FuncData} (F : Fun K "_law_odd_holds" "_law_odd_holds" sOddH f fd) (DM : DoorM P w K mg base C) (TM : TaskM P w K mg base CT CE) (mL : mg "list" = none) : FnOk P w K mg base CX0 8 f fd ["_law_price"] (spOddH K) := by
  obtain ⟨TD, kDS, fi, fdi, kd, MI, GI⟩ := DM
  obtain ⟨TT, kTS, kTI, kTT, e0, fj, fdj, FJ, MJ, GJ, hE⟩ := TM
  obtain ⟨ds, vds, k0⟩ := kb0 FJ
  refine F.ok scOddH (fun vs H Q E h => ?_) (fun cdv A outer s H vs Q E hr h => ?_)
  · obtain ⟨price, rfl, _⟩ := h
    rfl
  · obtain ⟨price, rfl, ht1, ht2, q⟩ := h
    have hr3 : Room 5 _ := hr.mono (by decide)
    have hr5 : Room 7 _ := hr.mono (by decide)
    refine ⟨_, (pss_cons (ps_set (i := 1) scOddH.nd rfl (.inl rfl) (pe_tup (pa_cons pe_str (pa_cons pe_int (pa_cons pe_int pa_nil))))) (pss_cons (ps_set (i := 2) scOddH.nd rfl (.inl rfl) (pe_lst (pa_cons pe_non (pa_cons pe_int (pa_cons pe_bl (pa_cons pe_str (pa_cons pe_str (pa_cons (pe_lst pa_nil) (pa_cons pe_dnewK (pa_cons (pe_lst (pa_cons (pv 1) pa_nil)) (pa_cons (pe_tup (pa_cons (pv 1) (pa_cons (pv 1) pa_nil))) (pa_cons (pe_tup (pa_cons (pe_callTy call_list_of (by rfl) mL (by decide +kernel) (pa_cons (pv 1) pa_nil)) pa_nil)) (pa_cons (pe_tup (pa_cons (pe_tup (pa_cons pe_str (pa_cons pe_int pa_nil))) pa_nil)) (pa_cons (pe_tup (pa_cons (pe_tup (pa_cons pe_str (pa_cons pe_int (pa_cons pe_int (pa_cons pe_int pa_nil))))) pa_nil)) (pa_cons (pe_tup (pa_cons (pe_tup pa_nil) pa_nil)) pa_nil))))))))))))))) (pss_cons (ps_set (i := 2) scOddH.nd rfl (.inl rfl) (pe_op op_cat (pv 2) (pe_lst (pa_cons (pe_tup (pa_cons (pe_tup (pa_cons pe_str (pa_cons pe_int (pa_cons pe_int pa_nil)))) pa_nil)) (pa_cons (pe_tup (pa_cons (pe_tup (pa_cons pe_str (pa_cons pe_int (pa_cons pe_int pa_nil)))) pa_nil)) (pa_cons (pe_tup (pa_cons (pe_tup (pa_cons pe_int (pa_cons pe_int (pa_cons pe_int pa_nil)))) pa_nil)) (pa_cons (pe_tup (pa_cons (pe_tup (pa_cons pe_non (pa_cons pe_int (pa_cons pe_int pa_nil)))) pa_nil)) (pa_cons (pe_tup (pa_cons (pe_tup (pa_cons (pe_lst pa_nil) (pa_cons pe_int (pa_cons pe_int pa_nil)))) pa_nil)) (pa_cons (pe_tup (pa_cons (pe_tup (pa_cons pe_dnewK (pa_cons pe_int (pa_cons pe_int pa_nil)))) pa_nil)) pa_nil))))))))) (pss_cons (ps_set (i := 2) scOddH.nd rfl (.inl rfl) (pe_op op_cat (pv 2) (pe_lst (pa_cons (pe_tup (pa_cons (pe_tup (pa_cons pe_str (pa_cons (pe_op op_sub pe_int pe_int) (pa_cons pe_int pa_nil)))) pa_nil)) (pa_cons (pe_tup (pa_cons (pe_tup (pa_cons pe_str (pa_cons pe_int (pa_cons pe_int pa_nil)))) pa_nil)) (pa_cons (pe_tup (pa_cons (pe_tup (pa_cons pe_str (pa_cons pe_int (pa_cons (pe_op op_sub pe_int pe_int) pa_nil)))) pa_nil)) (pa_cons (pe_tup (pa_cons (pe_tup (pa_cons pe_str (pa_cons pe_int (pa_cons (pe_op op_add (pv 0) pe_int) pa_nil)))) pa_nil)) (pa_cons (pe_tup (pa_cons (pe_tup (pa_cons pe_str (pa_cons (pv 0) (pa_cons pe_int pa_nil)))) pa_nil)) pa_nil)))))))) (pss_cons (ps_set (i := 2) scOddH.nd rfl (.inl rfl) (pe_op op_cat (pv 2) (pe_lst (pa_cons (pe_tup (pa_cons (pe_tup (pa_cons pe_str (pa_cons pe_bl (pa_cons pe_int pa_nil)))) pa_nil)) (pa_cons (pe_tup (pa_cons (pe_tup (pa_cons pe_str (pa_cons pe_bl (pa_cons pe_int pa_nil)))) pa_nil)) (pa_cons (pe_tup (pa_cons (pe_tup (pa_cons pe_str (pa_cons pe_int (pa_cons pe_bl pa_nil)))) pa_nil)) (pa_cons (pe_tup (pa_cons (pe_tup (pa_cons pe_str (pa_cons pe_str (pa_cons pe_int pa_nil)))) pa_nil)) (pa_cons (pe_tup (pa_cons (pe_tup (pa_cons pe_str (pa_cons pe_int (pa_cons pe_non pa_nil)))) pa_nil)) pa_nil)))))))) (pss_cons (ps_set (i := 2) scOddH.nd rfl (.inl rfl) (pe_op op_cat (pv 2) (pe_lst (pa_cons (pe_tup (pa_cons (pe_tup (pa_cons pe_str (pa_cons (pe_lst pa_nil) (pa_cons pe_int pa_nil)))) pa_nil)) (pa_cons (pe_tup (pa_cons (pe_tup (pa_cons pe_str (pa_cons pe_int (pa_cons pe_dnewK pa_nil)))) pa_nil)) (pa_cons (pe_tup (pa_cons (pe_tup (pa_cons pe_str (pa_cons pe_int (pa_cons pe_int pa_nil)))) (pa_cons (pv 1) pa_nil))) (pa_cons (pe_tup (pa_cons (pe_tup (pa_cons pe_str (pa_cons pe_int (pa_cons (pv 0) pa_nil)))) (pa_cons (pe_tup (pa_cons pe_str (pa_cons (pe_op op_sub (pv 0) pe_int) (pa_cons pe_int pa_nil)))) pa_nil))) pa_nil))))))) (pss_cons (ps_set (i := 2) scOddH.nd rfl (.inl rfl) (pe_op op_cat (pv 2) (pe_lst (pa_cons (pe_tup (pa_cons (pv 1) (pa_cons (pe_tup (pa_cons pe_str (pa_cons pe_int (pa_cons pe_int pa_nil)))) pa_nil))) (pa_cons (pe_tup (pa_cons pe_non pa_nil)) (pa_cons (pe_tup (pa_cons pe_str pa_nil)) (pa_cons (pe_tup (pa_cons pe_int pa_nil)) (pa_cons (pe_tup (pa_cons (pe_lst pa_nil) pa_nil)) (pa_cons (pe_tup (pa_cons (pv 1) (pa_cons pe_non pa_nil))) (pa_cons (pe_tup (pa_cons (pv 1) (pa_cons (pe_tup (pa_cons pe_str (pa_cons pe_int pa_nil))) pa_nil))) (pa_cons (pe_tup (pa_cons pe_str (pa_cons pe_int (pa_cons pe_int pa_nil)))) pa_nil))))))))))) (pss_cons (ps_expr (pe_bm PySem.F.plainAttrs_list PySem.F.slot_list_append PySem.F.type_list_append mt_append (pv 2) (pa_cons (pe_tup (pa_cons (pv 1) (pa_cons (pe_tup (pa_cons pe_str (pa_cons pe_int (pa_cons pe_int pa_nil)))) (pa_cons (pe_tup (pa_cons pe_str (pa_cons pe_int (pa_cons pe_int pa_nil)))) (pa_cons (pe_tup (pa_cons pe_str (pa_cons pe_int (pa_cons pe_int pa_nil)))) (pa_cons (pe_tup (pa_cons pe_str (pa_cons pe_int (pa_cons pe_int pa_nil)))) pa_nil)))))) pa_nil))) (pss_one (ps_ret (pe_op op_cat (pv 2) (pe_lst (pa_cons (pe_tup (pa_cons (pe_tup (pa_cons pe_str (pa_cons pe_int (pa_cons pe_int pa_nil)))) pa_nil)) (pa_cons (pe_tup (pa_cons (pe_tup (pa_cons pe_str (pa_cons (pe_op op_pow pe_int pe_int) (pa_cons pe_int pa_nil)))) pa_nil)) (pa_cons (pe_tup (pa_cons (pv 1) (pa_cons (pe_tup (pa_cons pe_str (pa_cons (pv 0) (pa_cons pe_int pa_nil)))) pa_nil))) (pa_cons (pe_tup (pa_cons (pe_make MJ GJ hr5 (by rfl) TT.mg k0 vds passN (pa_cons pe_str (pa_cons pe_int (pa_cons pe_int pa_nil)))) pa_nil)) pa_nil)))))))))))))))), ?_⟩
    refine ⟨(by show 3 ≤ sizeLine; decide), fun a1 n_a1 => ?_⟩
    have s_a1 := same_upd (o := .tup [.str "a", .int 0, .int 1]) n_a1
    refine ⟨(by show 0 ≤ sizeLine; decide), fun q2_5 n_q2_5 => ?_⟩
    have s_q2_5 := same_upd (o := .lst []) n_q2_5
    refine fun q2_6 n_q2_6 => ?_
    have s_q2_6 := same_upd (o := .dK []) n_q2_6
    refine ⟨_, rfl, (by show 1 ≤ sizeLine; decide), fun q2_7 n_q2_7 => ?_⟩
    have s_q2_7 := same_upd (o := .lst [.ref a1]) n_q2_7
    refine ⟨_, rfl, _, rfl, (by show 2 ≤ sizeLine; decide), fun q2_8 n_q2_8 => ?_⟩
    have s_q2_8 := same_upd (o := .tup [.ref a1, .ref a1]) n_q2_8
    refine ⟨_, rfl, a1, _, rfl, .inr (SqT.of ((((s_q2_5.trans s_q2_6).trans s_q2_7).trans s_q2_8) _ _ upd_same)), fun q2_9_0 n_q2_9_0 => ?_⟩
    have s_q2_9_0 := same_upd (o := .lst [.str "a", .int 0, .int 1]) n_q2_9_0
    refine ⟨(by show 1 ≤ sizeLine; decide), fun q2_9 n_q2_9 => ?_⟩
    have s_q2_9 := same_upd (o := .tup [.ref q2_9_0]) n_q2_9
    refine ⟨(by show 2 ≤ sizeLine; decide), fun q2_10_0 n_q2_10_0 => ?_⟩
    have s_q2_10_0 := same_upd (o := .tup [.str "a", .int 0]) n_q2_10_0
    refine ⟨(by show 1 ≤ sizeLine; decide), fun q2_10 n_q2_10 => ?_⟩
    have s_q2_10 := same_upd (o := .tup [.ref q2_10_0]) n_q2_10
    refine ⟨(by show 4 ≤ sizeLine; decide), fun q2_11_0 n_q2_11_0 => ?_⟩
    have s_q2_11_0 := same_upd (o := .tup [.str "a", .int 0, .int 1, .int 1]) n_q2_11_0
    refine ⟨(by show 1 ≤ sizeLine; decide), fun q2_11 n_q2_11 => ?_⟩
    have s_q2_11 := same_upd (o := .tup [.ref q2_11_0]) n_q2_11
    refine ⟨(by show 0 ≤ sizeLine; decide), fun q2_12_0 n_q2_12_0 => ?_⟩
    have s_q2_12_0 := same_upd (o := .tup []) n_q2_12_0
    refine ⟨(by show 1 ≤ sizeLine; decide), fun q2_12 n_q2_12 => ?_⟩
    have s_q2_12 := same_upd (o := .tup [.ref q2_12_0]) n_q2_12
    refine ⟨(by show 13 ≤ sizeLine; decide), fun a14 n_a14 => ?_⟩
    have s_a14 := same_upd (o := .lst [.non, .int 0, .bl true, .str "", .str "abc", .ref q2_5, .ref q2_6, .ref q2_7, .ref q2_8, .ref q2_9, .ref q2_10, .ref q2_11, .ref q2_12]) n_a14
    refine ⟨_, rfl, ?_⟩
    refine ⟨(by show 3 ≤ sizeLine; decide), fun q3_0_0 n_q3_0_0 => ?_⟩
    have s_q3_0_0 := same_upd (o := .tup [.str "A", .int 0, .int 1]) n_q3_0_0
    refine ⟨(by show 1 ≤ sizeLine; decide), fun q3_0 n_q3_0 => ?_⟩
    have s_q3_0 := same_upd (o := .tup [.ref q3_0_0]) n_q3_0
    refine ⟨(by show 3 ≤ sizeLine; decide), fun q3_1_0 n_q3_1_0 => ?_⟩
    have s_q3_1_0 := same_upd (o := .tup [.str "", .int 0, .int 1]) n_q3_1_0
    refine ⟨(by show 1 ≤ sizeLine; decide), fun q3_1 n_q3_1 => ?_⟩
    have s_q3_1 := same_upd (o := .tup [.ref q3_1_0]) n_q3_1
    refine ⟨(by show 3 ≤ sizeLine; decide), fun q3_2_0 n_q3_2_0 => ?_⟩
    have s_q3_2_0 := same_upd (o := .tup [.int 1, .int 0, .int 1]) n_q3_2_0
    refine ⟨(by show 1 ≤ sizeLine; decide), fun q3_2 n_q3_2 => ?_⟩
    have s_q3_2 := same_upd (o := .tup [.ref q3_2_0]) n_q3_2
    refine ⟨(by show 3 ≤ sizeLine; decide), fun q3_3_0 n_q3_3_0 => ?_⟩
    have s_q3_3_0 := same_upd (o := .tup [.non, .int 0, .int 1]) n_q3_3_0
    refine ⟨(by show 1 ≤ sizeLine; decide), fun q3_3 n_q3_3 => ?_⟩
    have s_q3_3 := same_upd (o := .tup [.ref q3_3_0]) n_q3_3
    refine ⟨(by show 0 ≤ sizeLine; decide), fun q3_4_0_0 n_q3_4_0_0 => ?_⟩
    have s_q3_4_0_0 := same_upd (o := .lst []) n_q3_4_0_0
    refine ⟨(by show 3 ≤ sizeLine; decide), fun q3_4_0 n_q3_4_0 => ?_⟩
    have s_q3_4_0 := same_upd (o := .tup [.ref q3_4_0_0, .int 0, .int 1]) n_q3_4_0
    refine ⟨(by show 1 ≤ sizeLine; decide), fun q3_4 n_q3_4 => ?_⟩
    have s_q3_4 := same_upd (o := .tup [.ref q3_4_0]) n_q3_4
    refine fun q3_5_0_0 n_q3_5_0_0 => ?_
    have s_q3_5_0_0 := same_upd (o := .dK []) n_q3_5_0_0
    refine ⟨(by show 3 ≤ sizeLine; decide), fun q3_5_0 n_q3_5_0 => ?_⟩
    have s_q3_5_0 := same_upd (o := .tup [.ref q3_5_0_0, .int 0, .int 1]) n_q3_5_0
    refine ⟨(by show 1 ≤ sizeLine; decide), fun q3_5 n_q3_5 => ?_⟩
    have s_q3_5 := same_upd (o := .tup [.ref q3_5_0]) n_q3_5
    refine ⟨(by show 6 ≤ sizeLine; decide), fun a29 n_a29 => ?_⟩
    have s_a29 := same_upd (o := .lst [.ref q3_0, .ref q3_1, .ref q3_2, .ref q3_3, .ref q3_4, .ref q3_5]) n_a29
    have f_1 := ((((((((((((((s_q3_0_0.trans s_q3_0).trans s_q3_1_0).trans s_q3_1).trans s_q3_2_0).trans s_q3_2).trans s_q3_3_0).trans s_q3_3).trans s_q3_4_0_0).trans s_q3_4_0).trans s_q3_4).trans s_q3_5_0_0).trans s_q3_5_0).trans s_q3_5).trans s_a29) _ _ upd_same
    refine ⟨a14, a29, ?x1, ?z1, rfl, rfl, ?f1, ?g1, ?l1, ?r1⟩
    case f1 => exact f_1
    case g1 => exact upd_same
    case l1 =>
      simp only [List.length_append, List.length_cons, List.length_nil]
      decide
    refine fun a30 n_a30 => ?_
    have s_a30 := same_upd (o := .lst ([.non, .int 0, .bl true, .str "", .str "abc", .ref q2_5, .ref q2_6, .ref q2_7, .ref q2_8, .ref q2_9, .ref q2_10, .ref q2_11, .ref q2_12] ++ [.ref q3_0, .ref q3_1, .ref q3_2, .ref q3_3, .ref q3_4, .ref q3_5])) n_a30
    refine ⟨_, rfl, ?_⟩
    refine ⟨_, _, rfl, rfl, (by show 3 ≤ sizeLine; decide), fun q4_0_0 n_q4_0_0 => ?_⟩
    have s_q4_0_0 := same_upd (o := .tup [.str "a", .int (0 - 1), .int 1]) n_q4_0_0
    refine ⟨(by show 1 ≤ sizeLine; decide), fun q4_0 n_q4_0 => ?_⟩
    have s_q4_0 := same_upd (o := .tup [.ref q4_0_0]) n_q4_0
    refine ⟨(by show 3 ≤ sizeLine; decide), fun q4_1_0 n_q4_1_0 => ?_⟩
    have s_q4_1_0 := same_upd (o := .tup [.str "a", .int 0, .int 0]) n_q4_1_0
    refine ⟨(by show 1 ≤ sizeLine; decide), fun q4_1 n_q4_1 => ?_⟩
    have s_q4_1 := same_upd (o := .tup [.ref q4_1_0]) n_q4_1
    refine ⟨_, _, rfl, rfl, (by show 3 ≤ sizeLine; decide), fun q4_2_0 n_q4_2_0 => ?_⟩
    have s_q4_2_0 := same_upd (o := .tup [.str "a", .int 0, .int (0 - 1)]) n_q4_2_0
    refine ⟨(by show 1 ≤ sizeLine; decide), fun q4_2 n_q4_2 => ?_⟩
    have s_q4_2 := same_upd (o := .tup [.ref q4_2_0]) n_q4_2
    refine ⟨_, rfl, _, _, rfl, rfl, (by show 3 ≤ sizeLine; decide), fun q4_3_0 n_q4_3_0 => ?_⟩
    have s_q4_3_0 := same_upd (o := .tup [.str "a", .int 0, .int (price + 1)]) n_q4_3_0
    refine ⟨(by show 1 ≤ sizeLine; decide), fun q4_3 n_q4_3 => ?_⟩
    have s_q4_3 := same_upd (o := .tup [.ref q4_3_0]) n_q4_3
    refine ⟨_, rfl, (by show 3 ≤ sizeLine; decide), fun q4_4_0 n_q4_4_0 => ?_⟩
    have s_q4_4_0 := same_upd (o := .tup [.str "a", .int price, .int 1]) n_q4_4_0
    refine ⟨(by show 1 ≤ sizeLine; decide), fun q4_4 n_q4_4 => ?_⟩
    have s_q4_4 := same_upd (o := .tup [.ref q4_4_0]) n_q4_4
    refine ⟨(by show 5 ≤ sizeLine; decide), fun a41 n_a41 => ?_⟩
    have s_a41 := same_upd (o := .lst [.ref q4_0, .ref q4_1, .ref q4_2, .ref q4_3, .ref q4_4]) n_a41
    have f_2 := ((((((((((s_q4_0_0.trans s_q4_0).trans s_q4_1_0).trans s_q4_1).trans s_q4_2_0).trans s_q4_2).trans s_q4_3_0).trans s_q4_3).trans s_q4_4_0).trans s_q4_4).trans s_a41) _ _ upd_same
    refine ⟨a30, a41, ?x2, ?z2, rfl, rfl, ?f2, ?g2, ?l2, ?r2⟩
    case f2 => exact f_2
    case g2 => exact upd_same
    case l2 =>
      simp only [List.length_append, List.length_cons, List.length_nil]
      decide
    refine fun a42 n_a42 => ?_
    have s_a42 := same_upd (o := .lst (([.non, .int 0, .bl true, .str "", .str "abc", .ref q2_5, .ref q2_6, .ref q2_7, .ref q2_8, .ref q2_9, .ref q2_10, .ref q2_11, .ref q2_12] ++ [.ref q3_0, .ref q3_1, .ref q3_2, .ref q3_3, .ref q3_4, .ref q3_5]) ++ [.ref q4_0, .ref q4_1, .ref q4_2, .ref q4_3, .ref q4_4])) n_a42
    refine ⟨_, rfl, ?_⟩
    refine ⟨(by show 3 ≤ sizeLine; decide), fun q5_0_0 n_q5_0_0 => ?_⟩
    have s_q5_0_0 := same_upd (o := .tup [.str "a", .bl true, .int 1]) n_q5_0_0
    refine ⟨(by show 1 ≤ sizeLine; decide), fun q5_0 n_q5_0 => ?_⟩
    have s_q5_0 := same_upd (o := .tup [.ref q5_0_0]) n_q5_0
    refine ⟨(by show 3 ≤ sizeLine; decide), fun q5_1_0 n_q5_1_0 => ?_⟩
    have s_q5_1_0 := same_upd (o := .tup [.str "a", .bl false, .int 1]) n_q5_1_0
    refine ⟨(by show 1 ≤ sizeLine; decide), fun q5_1 n_q5_1 => ?_⟩
    have s_q5_1 := same_upd (o := .tup [.ref q5_1_0]) n_q5_1
    refine ⟨(by show 3 ≤ sizeLine; decide), fun q5_2_0 n_q5_2_0 => ?_⟩
    have s_q5_2_0 := same_upd (o := .tup [.str "a", .int 0, .bl true]) n_q5_2_0
    refine ⟨(by show 1 ≤ sizeLine; decide), fun q5_2 n_q5_2 => ?_⟩
    have s_q5_2 := same_upd (o := .tup [.ref q5_2_0]) n_q5_2
    refine ⟨(by show 3 ≤ sizeLine; decide), fun q5_3_0 n_q5_3_0 => ?_⟩
    have s_q5_3_0 := same_upd (o := .tup [.str "a", .str "0", .int 1]) n_q5_3_0
    refine ⟨(by show 1 ≤ sizeLine; decide), fun q5_3 n_q5_3 => ?_⟩
    have s_q5_3 := same_upd (o := .tup [.ref q5_3_0]) n_q5_3
    refine ⟨(by show 3 ≤ sizeLine; decide), fun q5_4_0 n_q5_4_0 => ?_⟩
    have s_q5_4_0 := same_upd (o := .tup [.str "a", .int 0, .non]) n_q5_4_0
    refine ⟨(by show 1 ≤ sizeLine; decide), fun q5_4 n_q5_4 => ?_⟩
    have s_q5_4 := same_upd (o := .tup [.ref q5_4_0]) n_q5_4
    refine ⟨(by show 5 ≤ sizeLine; decide), fun a53 n_a53 => ?_⟩
    have s_a53 := same_upd (o := .lst [.ref q5_0, .ref q5_1, .ref q5_2, .ref q5_3, .ref q5_4]) n_a53
    have f_3 := ((((((((((s_q5_0_0.trans s_q5_0).trans s_q5_1_0).trans s_q5_1).trans s_q5_2_0).trans s_q5_2).trans s_q5_3_0).trans s_q5_3).trans s_q5_4_0).trans s_q5_4).trans s_a53) _ _ upd_same
    refine ⟨a42, a53, ?x3, ?z3, rfl, rfl, ?f3, ?g3, ?l3, ?r3⟩
    case f3 => exact f_3
    case g3 => exact upd_same
    case l3 =>
      simp only [List.length_append, List.length_cons, List.length_nil]
      decide
    refine fun a54 n_a54 => ?_
    have s_a54 := same_upd (o := .lst ((([.non, .int 0, .bl true, .str "", .str "abc", .ref q2_5, .ref q2_6, .ref q2_7, .ref q2_8, .ref q2_9, .ref q2_10, .ref q2_11, .ref q2_12] ++ [.ref q3_0, .ref q3_1, .ref q3_2, .ref q3_3, .ref q3_4, .ref q3_5]) ++ [.ref q4_0, .ref q4_1, .ref q4_2, .ref q4_3, .ref q4_4]) ++ [.ref q5_0, .ref q5_1, .ref q5_2, .ref q5_3, .ref q5_4])) n_a54
    refine ⟨_, rfl, ?_⟩
    refine ⟨(by show 0 ≤ sizeLine; decide), fun q6_0_0_1 n_q6_0_0_1 => ?_⟩
    have s_q6_0_0_1 := same_upd (o := .lst []) n_q6_0_0_1
    refine ⟨(by show 3 ≤ sizeLine; decide), fun q6_0_0 n_q6_0_0 => ?_⟩
    have s_q6_0_0 := same_upd (o := .tup [.str "a", .ref q6_0_0_1, .int 1]) n_q6_0_0
    refine ⟨(by show 1 ≤ sizeLine; decide), fun q6_0 n_q6_0 => ?_⟩
    have s_q6_0 := same_upd (o := .tup [.ref q6_0_0]) n_q6_0
    refine fun q6_1_0_2 n_q6_1_0_2 => ?_
    have s_q6_1_0_2 := same_upd (o := .dK []) n_q6_1_0_2
    refine ⟨(by show 3 ≤ sizeLine; decide), fun q6_1_0 n_q6_1_0 => ?_⟩
    have s_q6_1_0 := same_upd (o := .tup [.str "a", .int 0, .ref q6_1_0_2]) n_q6_1_0
    refine ⟨(by show 1 ≤ sizeLine; decide), fun q6_1 n_q6_1 => ?_⟩
    have s_q6_1 := same_upd (o := .tup [.ref q6_1_0]) n_q6_1
    refine ⟨(by show 3 ≤ sizeLine; decide), fun q6_2_0 n_q6_2_0 => ?_⟩
    have s_q6_2_0 := same_upd (o := .tup [.str "b", .int 0, .int 1]) n_q6_2_0
    refine ⟨_, rfl, (by show 2 ≤ sizeLine; decide), fun q6_2 n_q6_2 => ?_⟩
    have s_q6_2 := same_upd (o := .tup [.ref q6_2_0, .ref a1]) n_q6_2
    refine ⟨_, rfl, (by show 3 ≤ sizeLine; decide), fun q6_3_0 n_q6_3_0 => ?_⟩
    have s_q6_3_0 := same_upd (o := .tup [.str "a", .int 0, .int price]) n_q6_3_0
    refine ⟨_, rfl, _, _, rfl, rfl, (by show 3 ≤ sizeLine; decide), fun q6_3_1 n_q6_3_1 => ?_⟩
    have s_q6_3_1 := same_upd (o := .tup [.str "a", .int (price - 1), .int 1]) n_q6_3_1
    refine ⟨(by show 2 ≤ sizeLine; decide), fun q6_3 n_q6_3 => ?_⟩
    have s_q6_3 := same_upd (o := .tup [.ref q6_3_0, .ref q6_3_1]) n_q6_3
    refine ⟨(by show 4 ≤ sizeLine; decide), fun a66 n_a66 => ?_⟩
    have s_a66 := same_upd (o := .lst [.ref q6_0, .ref q6_1, .ref q6_2, .ref q6_3]) n_a66
    have f_4 := (((((((((((s_q6_0_0_1.trans s_q6_0_0).trans s_q6_0).trans s_q6_1_0_2).trans s_q6_1_0).trans s_q6_1).trans s_q6_2_0).trans s_q6_2).trans s_q6_3_0).trans s_q6_3_1).trans s_q6_3).trans s_a66) _ _ upd_same
    refine ⟨a54, a66, ?x4, ?z4, rfl, rfl, ?f4, ?g4, ?l4, ?r4⟩
    case f4 => exact f_4
    case g4 => exact upd_same
    case l4 =>
      simp only [List.length_append, List.length_cons, List.length_nil]
      decide
    refine fun a67 n_a67 => ?_
    have s_a67 := same_upd (o := .lst (((([.non, .int 0, .bl true, .str "", .str "abc", .ref q2_5, .ref q2_6, .ref q2_7, .ref q2_8, .ref q2_9, .ref q2_10, .ref q2_11, .ref q2_12] ++ [.ref q3_0, .ref q3_1, .ref q3_2, .ref q3_3, .ref q3_4, .ref q3_5]) ++ [.ref q4_0, .ref q4_1, .ref q4_2, .ref q4_3, .ref q4_4]) ++ [.ref q5_0, .ref q5_1, .ref q5_2, .ref q5_3, .ref q5_4]) ++ [.ref q6_0, .ref q6_1, .ref q6_2, .ref q6_3])) n_a67
    refine ⟨_, rfl, ?_⟩
    refine ⟨_, rfl, (by show 3 ≤ sizeLine; decide), fun q7_0_1 n_q7_0_1 => ?_⟩
    have s_q7_0_1 := same_upd (o := .tup [.str "a", .int 0, .int 2]) n_q7_0_1
    refine ⟨(by show 2 ≤ sizeLine; decide), fun q7_0 n_q7_0 => ?_⟩
    have s_q7_0 := same_upd (o := .tup [.ref a1, .ref q7_0_1]) n_q7_0
    refine ⟨(by show 1 ≤ sizeLine; decide), fun q7_1 n_q7_1 => ?_⟩
    have s_q7_1 := same_upd (o := .tup [.non]) n_q7_1
    refine ⟨(by show 1 ≤ sizeLine; decide), fun q7_2 n_q7_2 => ?_⟩
    have s_q7_2 := same_upd (o := .tup [.str "abc"]) n_q7_2
    refine ⟨(by show 1 ≤ sizeLine; decide), fun q7_3 n_q7_3 => ?_⟩
    have s_q7_3 := same_upd (o := .tup [.int 0]) n_q7_3
    refine ⟨(by show 0 ≤ sizeLine; decide), fun q7_4_0 n_q7_4_0 => ?_⟩
    have s_q7_4_0 := same_upd (o := .lst []) n_q7_4_0
    refine ⟨(by show 1 ≤ sizeLine; decide), fun q7_4 n_q7_4 => ?_⟩
    have s_q7_4 := same_upd (o := .tup [.ref q7_4_0]) n_q7_4
    refine ⟨_, rfl, (by show 2 ≤ sizeLine; decide), fun q7_5 n_q7_5 => ?_⟩
    have s_q7_5 := same_upd (o := .tup [.ref a1, .non]) n_q7_5
    refine ⟨_, rfl, (by show 2 ≤ sizeLine; decide), fun q7_6_1 n_q7_6_1 => ?_⟩
    have s_q7_6_1 := same_upd (o := .tup [.str "b", .int 0]) n_q7_6_1
    refine ⟨(by show 2 ≤ sizeLine; decide), fun q7_6 n_q7_6 => ?_⟩
    have s_q7_6 := same_upd (o := .tup [.ref a1, .ref q7_6_1]) n_q7_6
    refine ⟨(by show 3 ≤ sizeLine; decide), fun q7_7 n_q7_7 => ?_⟩
    have s_q7_7 := same_upd (o := .tup [.str "a", .int 0, .int 1]) n_q7_7
    refine ⟨(by show 8 ≤ sizeLine; decide), fun a79 n_a79 => ?_⟩
    have s_a79 := same_upd (o := .lst [.ref q7_0, .ref q7_1, .ref q7_2, .ref q7_3, .ref q7_4, .ref q7_5, .ref q7_6, .ref q7_7]) n_a79
    have f_5 := (((((((((((s_q7_0_1.trans s_q7_0).trans s_q7_1).trans s_q7_2).trans s_q7_3).trans s_q7_4_0).trans s_q7_4).trans s_q7_5).trans s_q7_6_1).trans s_q7_6).trans s_q7_7).trans s_a79) _ _ upd_same
    refine ⟨a67, a79, ?x5, ?z5, rfl, rfl, ?f5, ?g5, ?l5, ?r5⟩
    case f5 => exact f_5
    case g5 => exact upd_same
    case l5 =>
      simp only [List.length_append, List.length_cons, List.length_nil]
      decide
    refine fun a80 n_a80 => ?_
    have s_a80 := same_upd (o := .lst ((((([.non, .int 0, .bl true, .str "", .str "abc", .ref q2_5, .ref q2_6, .ref q2_7, .ref q2_8, .ref q2_9, .ref q2_10, .ref q2_11, .ref q2_12] ++ [.ref q3_0, .ref q3_1, .ref q3_2, .ref q3_3, .ref q3_4, .ref q3_5]) ++ [.ref q4_0, .ref q4_1, .ref q4_2, .ref q4_3, .ref q4_4]) ++ [.ref q5_0, .ref q5_1, .ref q5_2, .ref q5_3, .ref q5_4]) ++ [.ref q6_0, .ref q6_1, .ref q6_2, .ref q6_3]) ++ [.ref q7_0, .ref q7_1, .ref q7_2, .ref q7_3, .ref q7_4, .ref q7_5, .ref q7_6, .ref q7_7])) n_a80
    refine ⟨_, rfl, .inl ⟨rfl, _, SqL.of upd_same⟩, _, rfl, (by show 3 ≤ sizeLine; decide), fun q8_1 n_q8_1 => ?_⟩
    have s_q8_1 := same_upd (o := .tup [.str "b", .int 0, .int 1]) n_q8_1
    refine ⟨(by show 3 ≤ sizeLine; decide), fun q8_2 n_q8_2 => ?_⟩
    have s_q8_2 := same_upd (o := .tup [.str "c", .int 0, .int 1]) n_q8_2
    refine ⟨(by show 3 ≤ sizeLine; decide), fun q8_3 n_q8_3 => ?_⟩
    have s_q8_3 := same_upd (o := .tup [.str "d", .int 0, .int 1]) n_q8_3
    refine ⟨(by show 3 ≤ sizeLine; decide), fun q8_4 n_q8_4 => ?_⟩
    have s_q8_4 := same_upd (o := .tup [.str "e", .int 0, .int 1]) n_q8_4
    refine ⟨(by show 5 ≤ sizeLine; decide), fun q8 n_q8 => ?_⟩
    have s_q8 := same_upd (o := .tup [.ref a1, .ref q8_1, .ref q8_2, .ref q8_3, .ref q8_4]) n_q8
    have eApp := ((((s_q8_1.trans s_q8_2).trans s_q8_3).trans s_q8_4).trans s_q8) _ _ upd_same
    refine ⟨a80, ?x0, _, rfl, rfl, ?f0, ?l0, ?r0⟩
    case f0 => exact eApp
    case l0 =>
      simp only [List.length_append, List.length_cons, List.length_nil]
      decide
    have kApp : ∀ b o, _ → o ≠ HO.lst ((((([.non, .int 0, .bl true, .str "", .str "abc", .ref q2_5, .ref q2_6, .ref q2_7, .ref q2_8, .ref q2_9, .ref q2_10, .ref q2_11, .ref q2_12] ++ [.ref q3_0, .ref q3_1, .ref q3_2, .ref q3_3, .ref q3_4, .ref q3_5]) ++ [.ref q4_0, .ref q4_1, .ref q4_2, .ref q4_3, .ref q4_4]) ++ [.ref q5_0, .ref q5_1, .ref q5_2, .ref q5_3, .ref q5_4]) ++ [.ref q6_0, .ref q6_1, .ref q6_2, .ref q6_3]) ++ [.ref q7_0, .ref q7_1, .ref q7_2, .ref q7_3, .ref q7_4, .ref q7_5, .ref q7_6, .ref q7_7]) → (upd _ a80 (.lst (((((([.non, .int 0, .bl true, .str "", .str "abc", .ref q2_5, .ref q2_6, .ref q2_7, .ref q2_8, .ref q2_9, .ref q2_10, .ref q2_11, .ref q2_12] ++ [.ref q3_0, .ref q3_1, .ref q3_2, .ref q3_3, .ref q3_4, .ref q3_5]) ++ [.ref q4_0, .ref q4_1, .ref q4_2, .ref q4_3, .ref q4_4]) ++ [.ref q5_0, .ref q5_1, .ref q5_2, .ref q5_3, .ref q5_4]) ++ [.ref q6_0, .ref q6_1, .ref q6_2, .ref q6_3]) ++ [.ref q7_0, .ref q7_1, .ref q7_2, .ref q7_3, .ref q7_4, .ref q7_5, .ref q7_6, .ref q7_7]) ++ [.ref q8]))) b = some o := fun b o e n => by rw [upd_ne (ne_of e eApp n)]; exact e
    refine ⟨_, rfl, ?_⟩
    refine ⟨(by show 3 ≤ sizeLine; decide), fun q9_0_0 n_q9_0_0 => ?_⟩
    have s_q9_0_0 := same_upd (o := .tup [.str "abcdefghi", .int 0, .int 1]) n_q9_0_0
    refine ⟨(by show 1 ≤ sizeLine; decide), fun q9_0 n_q9_0 => ?_⟩
    have s_q9_0 := same_upd (o := .tup [.ref q9_0_0]) n_q9_0
    refine ⟨_, _, rfl, rfl, ⟨by decide, by decide, by decide⟩, (by show 3 ≤ sizeLine; decide), fun q9_1_0 n_q9_1_0 => ?_⟩
    have s_q9_1_0 := same_upd (o := .tup [.str "a", .int (10 ^ (30 : Int).toNat), .int 1]) n_q9_1_0
    refine ⟨(by show 1 ≤ sizeLine; decide), fun q9_1 n_q9_1 => ?_⟩
    have s_q9_1 := same_upd (o := .tup [.ref q9_1_0]) n_q9_1
    refine ⟨_, rfl, _, rfl, (by show 3 ≤ sizeLine; decide), fun q9_2_1 n_q9_2_1 => ?_⟩
    have s_q9_2_1 := same_upd (o := .tup [.str "b", .int price, .int 1]) n_q9_2_1
    refine ⟨(by show 2 ≤ sizeLine; decide), fun q9_2 n_q9_2 => ?_⟩
    have s_q9_2 := same_upd (o := .tup [.ref a1, .ref q9_2_1]) n_q9_2
    try dsimp only [tCons, tMake, tC, tNil]
    refine taskSp (args_a hE) (fun _ x92 H92 s_x92 n_x92 t_x92 => ?_) (fun p hp => nomatch hp)
    refine ⟨(by show 1 ≤ sizeLine; decide), fun q9_3 n_q9_3 => ?_⟩
    have s_q9_3 := same_upd (o := .tup [.ref x92]) n_q9_3
    refine ⟨(by show 4 ≤ sizeLine; decide), fun a94 n_a94 => ?_⟩
    have s_a94 := same_upd (o := .lst [.ref q9_0, .ref q9_1, .ref q9_2, .ref q9_3]) n_a94
    have f_6 := ((((((((s_q9_0_0.trans s_q9_0).trans s_q9_1_0).trans s_q9_1).trans s_q9_2_1).trans s_q9_2).trans s_x92).trans s_q9_3).trans s_a94) _ _ upd_same
    refine ⟨a80, a94, ?x6, ?z6, rfl, rfl, ?f6, ?g6, ?l6, ?r6⟩
    case f6 => exact f_6
    case g6 => exact upd_same
    case l6 =>
      simp only [List.length_append, List.length_cons, List.length_nil]
      decide
    refine fun a95 n_a95 => ?_
    have s_a95 := same_upd (o := .lst ((((((([.non, .int 0, .bl true, .str "", .str "abc", .ref q2_5, .ref q2_6, .ref q2_7, .ref q2_8, .ref q2_9, .ref q2_10, .ref q2_11, .ref q2_12] ++ [.ref q3_0, .ref q3_1, .ref q3_2, .ref q3_3, .ref q3_4, .ref q3_5]) ++ [.ref q4_0, .ref q4_1, .ref q4_2, .ref q4_3, .ref q4_4]) ++ [.ref q5_0, .ref q5_1, .ref q5_2, .ref q5_3, .ref q5_4]) ++ [.ref q6_0, .ref q6_1, .ref q6_2, .ref q6_3]) ++ [.ref q7_0, .ref q7_1, .ref q7_2, .ref q7_3, .ref q7_4, .ref q7_5, .ref q7_6, .ref q7_7]) ++ [.ref q8]) ++ [.ref q9_0, .ref q9_1, .ref q9_2, .ref q9_3])) n_a95
    have c_a94 := s_a95
    have c_q9_3 := s_a94.trans c_a94
    have c_x92 := s_q9_3.trans c_q9_3
    have c_q9_2 := s_x92.trans c_x92
    have c_q9_2_1 := s_q9_2.trans c_q9_2
    have c_q9_1 := s_q9_2_1.trans c_q9_2_1
    have c_q9_1_0 := s_q9_1.trans c_q9_1
    have c_q9_0 := s_q9_1_0.trans c_q9_1_0
    have c_q9_0_0 := s_q9_0.trans c_q9_0
    have c_APP := s_q9_0_0.trans c_q9_0_0
    have c_q8_4 := s_q8
    have c_q8_3 := s_q8_4.trans c_q8_4
    have c_q8_2 := s_q8_3.trans c_q8_3
    have c_q8_1 := s_q8_2.trans c_q8_2
    have c_a80 := s_q8_1.trans c_q8_1
    have c_a79 := s_a80.trans c_a80
    have c_q7_7 := s_a79.trans c_a79
    have c_q7_6 := s_q7_7.trans c_q7_7
    have c_q7_6_1 := s_q7_6.trans c_q7_6
    have c_q7_5 := s_q7_6_1.trans c_q7_6_1
    have c_q7_4 := s_q7_5.trans c_q7_5
    have c_q7_4_0 := s_q7_4.trans c_q7_4
    have c_q7_3 := s_q7_4_0.trans c_q7_4_0
    have c_q7_2 := s_q7_3.trans c_q7_3
    have c_q7_1 := s_q7_2.trans c_q7_2
    have c_q7_0 := s_q7_1.trans c_q7_1
    have c_q7_0_1 := s_q7_0.trans c_q7_0
    have c_a67 := s_q7_0_1.trans c_q7_0_1
    have c_a66 := s_a67.trans c_a67
    have c_q6_3 := s_a66.trans c_a66
    have c_q6_3_1 := s_q6_3.trans c_q6_3
    have c_q6_3_0 := s_q6_3_1.trans c_q6_3_1
    have c_q6_2 := s_q6_3_0.trans c_q6_3_0
    have c_q6_2_0 := s_q6_2.trans c_q6_2
    have c_q6_1 := s_q6_2_0.trans c_q6_2_0
    have c_q6_1_0 := s_q6_1.trans c_q6_1
    have c_q6_1_0_2 := s_q6_1_0.trans c_q6_1_0
    have c_q6_0 := s_q6_1_0_2.trans c_q6_1_0_2
    have c_q6_0_0 := s_q6_0.trans c_q6_0
    have c_q6_0_0_1 := s_q6_0_0.trans c_q6_0_0
    have c_a54 := s_q6_0_0_1.trans c_q6_0_0_1
    have c_a53 := s_a54.trans c_a54
    have c_q5_4 := s_a53.trans c_a53
    have c_q5_4_0 := s_q5_4.trans c_q5_4
    have c_q5_3 := s_q5_4_0.trans c_q5_4_0
    have c_q5_3_0 := s_q5_3.trans c_q5_3
    have c_q5_2 := s_q5_3_0.trans c_q5_3_0
    have c_q5_2_0 := s_q5_2.trans c_q5_2
    have c_q5_1 := s_q5_2_0.trans c_q5_2_0
    have c_q5_1_0 := s_q5_1.trans c_q5_1
    have c_q5_0 := s_q5_1_0.trans c_q5_1_0
    have c_q5_0_0 := s_q5_0.trans c_q5_0
    have c_a42 := s_q5_0_0.trans c_q5_0_0
    have c_a41 := s_a42.trans c_a42
    have c_q4_4 := s_a41.trans c_a41
    have c_q4_4_0 := s_q4_4.trans c_q4_4
    have c_q4_3 := s_q4_4_0.trans c_q4_4_0
    have c_q4_3_0 := s_q4_3.trans c_q4_3
    have c_q4_2 := s_q4_3_0.trans c_q4_3_0
    have c_q4_2_0 := s_q4_2.trans c_q4_2
    have c_q4_1 := s_q4_2_0.trans c_q4_2_0
    have c_q4_1_0 := s_q4_1.trans c_q4_1
    have c_q4_0 := s_q4_1_0.trans c_q4_1_0
    have c_q4_0_0 := s_q4_0.trans c_q4_0
    have c_a30 := s_q4_0_0.trans c_q4_0_0
    have c_a29 := s_a30.trans c_a30
    have c_q3_5 := s_a29.trans c_a29
    have c_q3_5_0 := s_q3_5.trans c_q3_5
    have c_q3_5_0_0 := s_q3_5_0.trans c_q3_5_0
    have c_q3_4 := s_q3_5_0_0.trans c_q3_5_0_0
    have c_q3_4_0 := s_q3_4.trans c_q3_4
    have c_q3_4_0_0 := s_q3_4_0.trans c_q3_4_0
    have c_q3_3 := s_q3_4_0_0.trans c_q3_4_0_0
    have c_q3_3_0 := s_q3_3.trans c_q3_3
    have c_q3_2 := s_q3_3_0.trans c_q3_3_0
    have c_q3_2_0 := s_q3_2.trans c_q3_2
    have c_q3_1 := s_q3_2_0.trans c_q3_2_0
    have c_q3_1_0 := s_q3_1.trans c_q3_1
    have c_q3_0 := s_q3_1_0.trans c_q3_1_0
    have c_q3_0_0 := s_q3_0.trans c_q3_0
    have c_a14 := s_q3_0_0.trans c_q3_0_0
    have c_q2_12 := s_a14.trans c_a14
    have c_q2_12_0 := s_q2_12.trans c_q2_12
    have c_q2_11 := s_q2_12_0.trans c_q2_12_0
    have c_q2_11_0 := s_q2_11.trans c_q2_11
    have c_q2_10 := s_q2_11_0.trans c_q2_11_0
    have c_q2_10_0 := s_q2_10.trans c_q2_10
    have c_q2_9 := s_q2_10_0.trans c_q2_10_0
    have c_q2_9_0 := s_q2_9.trans c_q2_9
    have c_q2_8 := s_q2_9_0.trans c_q2_9_0
    have c_q2_7 := s_q2_8.trans c_q2_8
    have c_q2_6 := s_q2_7.trans c_q2_7
    have c_q2_5 := s_q2_6.trans c_q2_6
    have c_a1 := s_q2_5.trans c_q2_5
    have b1 := s_a1.trans c_a1
    have nApp := ((((((((((((((((((((((((((((((((((((((((((((((((((((((((((((((((((((((((((((((s_a1.trans s_q2_5).trans s_q2_6).trans s_q2_7).trans s_q2_8).trans s_q2_9_0).trans s_q2_9).trans s_q2_10_0).trans s_q2_10).trans s_q2_11_0).trans s_q2_11).trans s_q2_12_0).trans s_q2_12).trans s_a14).trans s_q3_0_0).trans s_q3_0).trans s_q3_1_0).trans s_q3_1).trans s_q3_2_0).trans s_q3_2).trans s_q3_3_0).trans s_q3_3).trans s_q3_4_0_0).trans s_q3_4_0).trans s_q3_4).trans s_q3_5_0_0).trans s_q3_5_0).trans s_q3_5).trans s_a29).trans s_a30).trans s_q4_0_0).trans s_q4_0).trans s_q4_1_0).trans s_q4_1).trans s_q4_2_0).trans s_q4_2).trans s_q4_3_0).trans s_q4_3).trans s_q4_4_0).trans s_q4_4).trans s_a41).trans s_a42).trans s_q5_0_0).trans s_q5_0).trans s_q5_1_0).trans s_q5_1).trans s_q5_2_0).trans s_q5_2).trans s_q5_3_0).trans s_q5_3).trans s_q5_4_0).trans s_q5_4).trans s_a53).trans s_a54).trans s_q6_0_0_1).trans s_q6_0_0).trans s_q6_0).trans s_q6_1_0_2).trans s_q6_1_0).trans s_q6_1).trans s_q6_2_0).trans s_q6_2).trans s_q6_3_0).trans s_q6_3_1).trans s_q6_3).trans s_a66).trans s_a67).trans s_q7_0_1).trans s_q7_0).trans s_q7_1).trans s_q7_2).trans s_q7_3).trans s_q7_4_0).trans s_q7_4).trans s_q7_5).trans s_q7_6_1).trans s_q7_6).trans s_q7_7).trans s_a79).free n_a80
    have bb := (same_upd2 b1 nApp).trans c_APP
    refine q a95 _ _ bb ?_ upd_same rfl fun x hx => ?_
    · exact ((((((((((same_upd2 b1 nApp).trans s_q9_0_0).trans s_q9_0).trans s_q9_1_0).trans s_q9_1).trans s_q9_2_1).trans s_q9_2).trans s_x92).trans s_q9_3).trans s_a94).free n_a95
    simp only [List.cons_append, List.nil_append, List.append_assoc, List.mem_cons, List.not_mem_nil, or_false] at hx
    rcases hx with rfl | rfl | rfl | rfl | rfl | rfl | rfl | rfl | rfl | rfl | rfl | rfl | rfl | rfl | rfl | rfl | rfl | rfl | rfl | rfl | rfl | rfl | rfl | rfl | rfl | rfl | rfl | rfl | rfl | rfl | rfl | rfl | rfl | rfl | rfl | rfl | rfl | rfl | rfl | rfl | rfl | rfl | rfl | rfl | rfl | rfl
    · exact bs_ty y_non (by decide +kernel)
    · exact bs_ty y_int (by decide +kernel)
    · exact bs_ty y_bl (by decide +kernel)
    · exact bs_ty y_str (by decide +kernel)
    · exact bs_ty y_str (by decide +kernel)
    · exact bs_ty (ob_lst (c_APP _ _ (kApp _ _ (c_q2_5 _ _ upd_same) (by simp))) (fixL (by simp) (by simp))) (by decide +kernel)
    · exact bs_ty (ob_dict (c_APP _ _ (kApp _ _ (c_q2_6 _ _ upd_same) (by simp)))) (by decide +kernel)
    · exact bs_ty (ob_lst (c_APP _ _ (kApp _ _ (c_q2_7 _ _ upd_same) (by simp))) (fixL (by simp) (by simp))) (by decide +kernel)
    · exact bs_o ("a", 0, 1) ("a", 0, 1) (c_APP _ _ (kApp _ _ (c_q2_8 _ _ upd_same) (by simp))) (c_APP _ _ (kApp _ _ (c_a1 _ _ upd_same) (by simp))) (c_APP _ _ (kApp _ _ (c_a1 _ _ upd_same) (by simp))) (show Str.length "a" ≤ 1000 by decide +kernel) (show Str.length "a" ≤ 1000 by decide +kernel) (ahead_eq (by omega))
    · exact bs_1 (c_APP _ _ (kApp _ _ (c_q2_9 _ _ upd_same) (by simp))) (hh_ty (ob_lst (c_APP _ _ (kApp _ _ (c_q2_9_0 _ _ upd_same) (by simp))) (fixS (by decide))) (by decide +kernel))
    · exact bs_1 (c_APP _ _ (kApp _ _ (c_q2_10 _ _ upd_same) (by simp))) (hh_len (c_APP _ _ (kApp _ _ (c_q2_10_0 _ _ upd_same) (by simp))) (by decide))
    · exact bs_1 (c_APP _ _ (kApp _ _ (c_q2_11 _ _ upd_same) (by simp))) (hh_len (c_APP _ _ (kApp _ _ (c_q2_11_0 _ _ upd_same) (by simp))) (by decide))
    · exact bs_1 (c_APP _ _ (kApp _ _ (c_q2_12 _ _ upd_same) (by simp))) (hh_len (c_APP _ _ (kApp _ _ (c_q2_12_0 _ _ upd_same) (by simp))) (by decide))
    · exact bs_1 (c_APP _ _ (kApp _ _ (c_q3_0 _ _ upd_same) (by simp))) (hh_n (c_APP _ _ (kApp _ _ (c_q3_0_0 _ _ upd_same) (by simp))) (bn_str (by decide +kernel) (by decide +kernel)))
    · exact bs_1 (c_APP _ _ (kApp _ _ (c_q3_1 _ _ upd_same) (by simp))) (hh_n (c_APP _ _ (kApp _ _ (c_q3_1_0 _ _ upd_same) (by simp))) (bn_str (by decide +kernel) (by decide +kernel)))
    · exact bs_1 (c_APP _ _ (kApp _ _ (c_q3_2 _ _ upd_same) (by simp))) (hh_n (c_APP _ _ (kApp _ _ (c_q3_2_0 _ _ upd_same) (by simp))) (bn_ty y_int (by decide +kernel)))
    · exact bs_1 (c_APP _ _ (kApp _ _ (c_q3_3 _ _ upd_same) (by simp))) (hh_n (c_APP _ _ (kApp _ _ (c_q3_3_0 _ _ upd_same) (by simp))) (bn_ty y_non (by decide +kernel)))
    · exact bs_1 (c_APP _ _ (kApp _ _ (c_q3_4 _ _ upd_same) (by simp))) (hh_n (c_APP _ _ (kApp _ _ (c_q3_4_0 _ _ upd_same) (by simp))) (bn_ty (ob_lst (c_APP _ _ (kApp _ _ (c_q3_4_0_0 _ _ upd_same) (by simp))) (fixL (by simp) (by simp))) (by decide +kernel)))
    · exact bs_1 (c_APP _ _ (kApp _ _ (c_q3_5 _ _ upd_same) (by simp))) (hh_n (c_APP _ _ (kApp _ _ (c_q3_5_0 _ _ upd_same) (by simp))) (bn_ty (ob_dict (c_APP _ _ (kApp _ _ (c_q3_5_0_0 _ _ upd_same) (by simp)))) (by decide +kernel)))
    · exact bs_1 (c_APP _ _ (kApp _ _ (c_q4_0 _ _ upd_same) (by simp))) (hh_s (c_APP _ _ (kApp _ _ (c_q4_0_0 _ _ upd_same) (by simp))) gn_a (bl_int (by omega)))
    · exact bs_1 (c_APP _ _ (kApp _ _ (c_q4_1 _ _ upd_same) (by simp))) (hh_l (c_APP _ _ (kApp _ _ (c_q4_1_0 _ _ upd_same) (by simp))) gn_a (by omega) (by omega) (bl_int (by omega)))
    · exact bs_1 (c_APP _ _ (kApp _ _ (c_q4_2 _ _ upd_same) (by simp))) (hh_l (c_APP _ _ (kApp _ _ (c_q4_2_0 _ _ upd_same) (by simp))) gn_a (by omega) (by omega) (bl_int (by omega)))
    · exact bs_1 (c_APP _ _ (kApp _ _ (c_q4_3 _ _ upd_same) (by simp))) (hh_l (c_APP _ _ (kApp _ _ (c_q4_3_0 _ _ upd_same) (by simp))) gn_a (by omega) (by omega) (bl_int (by omega)))
    · exact bs_1 (c_APP _ _ (kApp _ _ (c_q4_4 _ _ upd_same) (by simp))) (hh_l (c_APP _ _ (kApp _ _ (c_q4_4_0 _ _ upd_same) (by simp))) gn_a (by omega) (by omega) (bl_int (by omega)))
    · exact bs_1 (c_APP _ _ (kApp _ _ (c_q5_0 _ _ upd_same) (by simp))) (hh_s (c_APP _ _ (kApp _ _ (c_q5_0_0 _ _ upd_same) (by simp))) gn_a (bl_bl))
    · exact bs_1 (c_APP _ _ (kApp _ _ (c_q5_1 _ _ upd_same) (by simp))) (hh_s (c_APP _ _ (kApp _ _ (c_q5_1_0 _ _ upd_same) (by simp))) gn_a (bl_bl))
    · exact bs_1 (c_APP _ _ (kApp _ _ (c_q5_2 _ _ upd_same) (by simp))) (hh_l (c_APP _ _ (kApp _ _ (c_q5_2_0 _ _ upd_same) (by simp))) gn_a (by omega) (by omega) (bl_bl))
    · exact bs_1 (c_APP _ _ (kApp _ _ (c_q5_3 _ _ upd_same) (by simp))) (hh_s (c_APP _ _ (kApp _ _ (c_q5_3_0 _ _ upd_same) (by simp))) gn_a (bl_ty y_str (by decide +kernel)))
    · exact bs_1 (c_APP _ _ (kApp _ _ (c_q5_4 _ _ upd_same) (by simp))) (hh_l (c_APP _ _ (kApp _ _ (c_q5_4_0 _ _ upd_same) (by simp))) gn_a (by omega) (by omega) (bl_ty y_non (by decide +kernel)))
    · exact bs_1 (c_APP _ _ (kApp _ _ (c_q6_0 _ _ upd_same) (by simp))) (hh_s (c_APP _ _ (kApp _ _ (c_q6_0_0 _ _ upd_same) (by simp))) gn_a (bl_ty (ob_lst (c_APP _ _ (kApp _ _ (c_q6_0_0_1 _ _ upd_same) (by simp))) (fixL (by simp) (by simp))) (by decide +kernel)))
    · exact bs_1 (c_APP _ _ (kApp _ _ (c_q6_1 _ _ upd_same) (by simp))) (hh_l (c_APP _ _ (kApp _ _ (c_q6_1_0 _ _ upd_same) (by simp))) gn_a (by omega) (by omega) (bl_ty (ob_dict (c_APP _ _ (kApp _ _ (c_q6_1_0_2 _ _ upd_same) (by simp)))) (by decide +kernel)))
    · exact bs_o ("b", 0, 1) ("a", 0, 1) (c_APP _ _ (kApp _ _ (c_q6_2 _ _ upd_same) (by simp))) (c_APP _ _ (kApp _ _ (c_q6_2_0 _ _ upd_same) (by simp))) (c_APP _ _ (kApp _ _ (c_a1 _ _ upd_same) (by simp))) (show Str.length "b" ≤ 1000 by decide +kernel) (show Str.length "a" ≤ 1000 by decide +kernel) ahead_ba
    · exact bs_o ("a", 0, price) ("a", price - 1, 1) (c_APP _ _ (kApp _ _ (c_q6_3 _ _ upd_same) (by simp))) (c_APP _ _ (kApp _ _ (c_q6_3_0 _ _ upd_same) (by simp))) (c_APP _ _ (kApp _ _ (c_q6_3_1 _ _ upd_same) (by simp))) (show Str.length "a" ≤ 1000 by decide +kernel) (show Str.length "a" ≤ 1000 by decide +kernel) (ahead_eq (by omega))
    · exact bs_o ("a", 0, 1) ("a", 0, 2) (c_APP _ _ (kApp _ _ (c_q7_0 _ _ upd_same) (by simp))) (c_APP _ _ (kApp _ _ (c_a1 _ _ upd_same) (by simp))) (c_APP _ _ (kApp _ _ (c_q7_0_1 _ _ upd_same) (by simp))) (show Str.length "a" ≤ 1000 by decide +kernel) (show Str.length "a" ≤ 1000 by decide +kernel) (ahead_eq (by omega))
    · exact bs_1 (c_APP _ _ (kApp _ _ (c_q7_1 _ _ upd_same) (by simp))) (hh_ty y_non (by decide +kernel))
    · exact bs_1 (c_APP _ _ (kApp _ _ (c_q7_2 _ _ upd_same) (by simp))) (hh_ty y_str (by decide +kernel))
    · exact bs_1 (c_APP _ _ (kApp _ _ (c_q7_3 _ _ upd_same) (by simp))) (hh_ty y_int (by decide +kernel))
    · exact bs_1 (c_APP _ _ (kApp _ _ (c_q7_4 _ _ upd_same) (by simp))) (hh_ty (ob_lst (c_APP _ _ (kApp _ _ (c_q7_4_0 _ _ upd_same) (by simp))) (fixL (by simp) (by simp))) (by decide +kernel))
    · exact bs_2 (c_APP _ _ (kApp _ _ (c_q7_5 _ _ upd_same) (by simp))) (c_APP _ _ (kApp _ _ (c_a1 _ _ upd_same) (by simp))) (by decide +kernel) (hh_ty y_non (by decide +kernel))
    · exact bs_2 (c_APP _ _ (kApp _ _ (c_q7_6 _ _ upd_same) (by simp))) (c_APP _ _ (kApp _ _ (c_a1 _ _ upd_same) (by simp))) (by decide +kernel) (hh_len (c_APP _ _ (kApp _ _ (c_q7_6_1 _ _ upd_same) (by simp))) (by decide))
    · exact bs_3 (c_APP _ _ (kApp _ _ (c_q7_7 _ _ upd_same) (by simp)))
    · exact bs_5 (c_APP _ _ (kApp _ _ upd_same (by simp))) (by simp)
    · exact bs_1 (c_q9_0 _ _ upd_same) (hh_n (c_q9_0_0 _ _ upd_same) (bn_str (by decide +kernel) (by decide +kernel)))
    · exact bs_1 (c_q9_1 _ _ upd_same) (hh_s (c_q9_1_0 _ _ upd_same) gn_a (bl_int (.inr (by have := t30; omega))))
    · exact bs_2 (c_q9_2 _ _ upd_same) (c_APP _ _ (kApp _ _ (c_a1 _ _ upd_same) (by simp))) (by decide +kernel) (hh_l (c_q9_2_1 _ _ upd_same) gn_b (by omega) (by omega) (bl_int (by omega)))
    · exact bs_1 (c_q9_3 _ _ upd_same) (.inl ⟨_, (ob_task TT t_x92).kp (.of_same c_x92), kTT⟩)
end
end Du

set_option Elab.async false
set_option linter.all false
set_option maxRecDepth 100000
namespace Du
open PySem L2
abbrev sDrawn : Stmt := topS 39
theorem at_some {xs : List V} {r : Int} (h0 : 0 ≤ r) (h1 : r < (xs.length : Int)) : ∃ v, atI xs r = some v ∧ v ∈ xs := by
  have hl : r.toNat < xs.length := by omega
  exact ⟨xs[r.toNat], at_of (j := r.toNat) (by omega) (List.getElem?_eq_getElem hl), List.getElem_mem hl⟩
def cutL (ws : List Str) (lo hi : Option Int) : List Str := (ws.drop (HT.sIx ws.length 0 lo)).take (HT.sIx ws.length ws.length hi - HT.sIx ws.length 0 lo)
theorem cutV_map (ws : List Str) (lo hi : Option Int) : cutV (ws.map V.str) lo hi = (cutL ws lo hi).map V.str := by
  unfold cutV cutL
  rw [List.length_map, List.map_take, List.map_drop]
theorem cutL_sub (ws : List Str) (lo hi : Option Int) : (cutL ws lo hi).Sublist ws := (List.take_sublist _ _).trans (List.drop_sublist _ _)
theorem sqL_step {K : PySem.W.Frag} {p a : Addr} {H H' : Hp} {xs : List V} (s : Step p H H') (ha : a ≠ p) (h : H a = some (.lst xs)) : SqL K H' a xs := SqL.of (s.keep a _ ha h)
section
variable {P : Program} {w : World} {K : PySem.W.Frag} {mg : Str → Option Value} {base : Heap}
abbrev nDrawn : List Str := ["_law_purse_here", "_law_words_here", "_law_price", "_law_pause", "_law_term"]
theorem scDrawn : FnScope nDrawn ["_law_purse_here"] (defScope sDrawn) := ⟨rfl, rfl, rfl, by decide +kernel, rfl, by decide +kernel, by decide +kernel⟩
/-- the row of a task's arguments at d -/
structure DrawnAt (K : PySem.W.Frag) (H : Hp) (d t : Addr) (v : TaskV) (od : Option Int) : Prop where
  row : H d = some (.lst [.str v.name, .int v.cost, .int v.gap, dueV od, .ref t])
  due : v.due = od.getD v.gap
  hds : HdsAt K H t v.holds
  ok : v.ok
  nm : ∀ h ∈ v.holds, isNm h.1 = true
theorem DrawnAt.same {H H' : Hp} {d t : Addr} {v : TaskV} {od : Option Int} (x : DrawnAt K H d t v od) (s : Same H H') : DrawnAt K H' d t v od := ⟨s _ _ x.row, x.due, x.hds.same s, x.ok, x.nm⟩
theorem DrawnAt.step {p : Addr} {H H' : Hp} {d t : Addr} {v : TaskV} {od : Option Int} (x : DrawnAt K H d t v od) (hp : Purse H p) (s : Step p H H') : DrawnAt K H' d t v od := by
  obtain ⟨a, b, c, e, _⟩ := id hp
  exact ⟨s.keep d _ (ne_of x.row e (by intro z; cases z)) x.row, x.due, x.hds.step hp s, x.ok, x.nm⟩
def spDrawn (K : PySem.W.Frag) : Sp := fun vs H Q _ => ∃ p : Addr, vs = [.ref p] ∧ Purse H p ∧ ∀ (d t : Addr) (v : TaskV) (od : Option Int) H', Step p H H' → H d = none → DrawnAt K H' d t v od → Q (.ref d) H'
set_option maxHeartbeats 1000000 in
theorem ok_drawn {f : Addr} {fd : FuncData} (F : Fun K "_law_drawn" "_law_drawn" sDrawn f fd) (DT : Dn P w K mg base 3 "_law_take" ["_law_purse_here", "_law_many"] spTake)
    (DWd : Dn P w K mg base 4 "_law_words" ["_law_purse_here", "_law_many"] spWords) (DH : Dn P w K mg base 4 "_law_holds" ["_law_purse_here", "_law_price", "_law_tools"] (spHoldsL K)) :
    FnOk P w K mg base CX0 5 f fd ["_law_purse_here"] (spDrawn K) := by
  refine F.ok scDrawn (fun vs H Q E h => ?_) (fun cdv A outer s H vs Q E hr h => ?_)
  · obtain ⟨p, rfl, _⟩ := h
    rfl
  · obtain ⟨p, rfl, hp, q⟩ := h
    have hr1 : Room 3 _ := hr.mono (by decide)
    refine ⟨_, (pss_cons (ps_set (i := 1) scDrawn.nd rfl (.inl rfl) (pcall DWd hr (by rfl) (pa_cons (pv 0) (pa_cons pe_int pa_nil)))) (pss_cons (ps_set (i := 2) scDrawn.nd rfl (.inl rfl) (pe_ix ix_list (pe_lst (pa_cons pe_int (pa_cons pe_int (pa_cons pe_int (pa_cons (pe_op op_add pe_int (pcall DT hr1 (by rfl) (pa_cons (pv 0) (pa_cons pe_int pa_nil)))) (pa_cons (pe_op op_add pe_int (pcall DT hr1 (by rfl) (pa_cons (pv 0) (pa_cons pe_int pa_nil)))) pa_nil)))))) (pcall DT hr1 (by rfl) (pa_cons (pv 0) (pa_cons pe_int pa_nil))) (fun _ _ => rfl))) (pss_cons (ps_set (i := 3) scDrawn.nd rfl (.inl rfl) (pe_ix ix_list (pe_lst (pa_cons (pe_op op_add pe_int (pcall DT hr1 (by rfl) (pa_cons (pv 0) (pa_cons pe_int pa_nil)))) (pa_cons (pe_op op_add pe_int (pcall DT hr1 (by rfl) (pa_cons (pv 0) (pa_cons pe_int pa_nil)))) (pa_cons pe_int (pa_cons pe_int pa_nil))))) (pcall DT hr1 (by rfl) (pa_cons (pv 0) (pa_cons pe_int pa_nil))) (fun _ _ => rfl))) (pss_cons (ps_set (i := 4) scDrawn.nd rfl (.inl rfl) (pe_ix ix_list (pe_lst (pa_cons pe_non (pa_cons (pv 3) (pa_cons pe_int (pa_cons (pe_op op_add pe_int (pcall DT hr1 (by rfl) (pa_cons (pv 0) (pa_cons (pv 3) pa_nil)))) pa_nil))))) (pcall DT hr1 (by rfl) (pa_cons (pv 0) (pa_cons pe_int pa_nil))) (fun _ _ => rfl))) (pss_one (ps_ret (pe_lst (pa_cons (pe_ix ix_list (pv 1) pe_int (fun _ _ => rfl)) (pa_cons (pv 2) (pa_cons (pv 3) (pa_cons (pv 4) (pa_cons (pcall DH hr (by rfl) (pa_cons (pv 0) (pa_cons (pv 2) (pa_cons (pe_slice sl_list (pv 1) po_none (po_some (pcall DT hr1 (by rfl) (pa_cons (pv 0) (pa_cons pe_int pa_nil))))) pa_nil)))) pa_nil)))))))))))), ?_⟩
    -- the words
    refine ⟨_, rfl, p, 4, rfl, by decide, hp, fun l ws H1 s1 nl el hwl hnd hnm => ?_⟩
    have hl : l ≠ p := hp.ne nl
    -- the price
    refine ⟨_, rfl, p, 6, rfl, by decide, by decide, s1.purse, fun a1 H2 a10 a11 s2 => ⟨_, _, rfl, rfl, ?_⟩⟩
    refine ⟨_, rfl, p, 99, rfl, by decide, by decide, s2.purse, fun a2 H3 a20 a21 s3 => ⟨_, _, rfl, rfl, ?_⟩⟩
    refine ⟨(by show 5 ≤ sizeLine; decide), fun L1 nL1 => ?_⟩
    have s4 := Step.new (o := .lst [.int 1, .int 2, .int 99, .int (1 + a1), .int (1 + a2)]) s3.purse nL1
    refine ⟨_, rfl, p, 5, rfl, by decide, by decide, s4.purse, fun r1 H4 r10 r11 s5 => ?_⟩
    obtain ⟨pr, hpr, hmem⟩ := at_some (xs := [.int 1, .int 2, .int 99, .int (1 + a1), .int (1 + a2)]) r10 r11
    obtain ⟨price, rfl, hp1, hp99⟩ : ∃ c : Int, pr = .int c ∧ 1 ≤ c ∧ c ≤ 99 := by
      simp at hmem
      rcases hmem with rfl | rfl | rfl | rfl | rfl <;> exact ⟨_, rfl, by omega, by omega⟩
    refine ⟨L1, _, _, _, rfl, rfl, sqL_step s5 (s3.purse.ne nL1) upd_same, hpr, ?_⟩
    have t1 := (((s1.trans s2).trans s3).trans s4).trans s5
    -- the pause
    refine ⟨_, rfl, p, 12, rfl, by decide, by decide, s5.purse, fun b1 H5 b10 b11 s6 => ⟨_, _, rfl, rfl, ?_⟩⟩
    refine ⟨_, rfl, p, 600, rfl, by decide, by decide, s6.purse, fun b2 H6 b20 b21 s7 => ⟨_, _, rfl, rfl, ?_⟩⟩
    refine ⟨(by show 4 ≤ sizeLine; decide), fun L2' nL2 => ?_⟩
    have s8 := Step.new (o := .lst [.int (1 + b1), .int (1 + b2), .int 600, .int 1]) s7.purse nL2
    refine ⟨_, rfl, p, 4, rfl, by decide, by decide, s8.purse, fun r2 H7 r20 r21 s9 => ?_⟩
    obtain ⟨pa, hpa, hmem2⟩ := at_some (xs := [.int (1 + b1), .int (1 + b2), .int 600, .int 1]) r20 r21
    obtain ⟨pause, rfl, hg1, hg600⟩ : ∃ c : Int, pa = .int c ∧ 1 ≤ c ∧ c ≤ 600 := by
      simp at hmem2
      rcases hmem2 with rfl | rfl | rfl | rfl <;> exact ⟨_, rfl, by omega, by omega⟩
    refine ⟨L2', _, _, _, rfl, rfl, sqL_step s9 (s7.purse.ne nL2) upd_same, hpa, ?_⟩
    have t2 := (((t1.trans s6).trans s7).trans s8).trans s9
    -- the term
    refine ⟨_, rfl, _, rfl, _, rfl, p, pause, rfl, by omega, by omega, s9.purse, fun c1 H8 c10 c11 s10 => ⟨_, _, rfl, rfl, ?_⟩⟩
    refine ⟨(by show 4 ≤ sizeLine; decide), fun L3 nL3 => ?_⟩
    have s11 := Step.new (o := .lst [.non, .int pause, .int 1, .int (1 + c1)]) s10.purse nL3
    refine ⟨_, rfl, p, 4, rfl, by decide, by decide, s11.purse, fun r3 H9 r30 r31 s12 => ?_⟩
    obtain ⟨te, hte, hmem3⟩ := at_some (xs := [.non, .int pause, .int 1, .int (1 + c1)]) r30 r31
    obtain ⟨od, rfl, hd1, hd2⟩ : ∃ od : Option Int, te = dueV od ∧ 1 ≤ od.getD pause ∧ od.getD pause ≤ pause := by
      simp at hmem3
      rcases hmem3 with rfl | rfl | rfl | rfl
      · exact ⟨none, rfl, hg1, Int.le_refl _⟩
      · exact ⟨some pause, rfl, hg1, Int.le_refl _⟩
      · exact ⟨some 1, rfl, Int.le_refl _, hg1⟩
      · exact ⟨some (1 + c1), rfl, by show 1 ≤ 1 + c1; omega, by show 1 + c1 ≤ pause; omega⟩
    refine ⟨L3, _, _, _, rfl, rfl, sqL_step s12 (s10.purse.ne nL3) upd_same, hte, ?_⟩
    have t3 := ((t2.trans s10).trans s11).trans s12
    have stepsL : Step p H1 H9 := ((((((((((s2.trans s3).trans s4).trans s5).trans s6).trans s7).trans s8).trans s9).trans s10).trans s11).trans s12)
    have el9 : H9 l = some (.lst (ws.map V.str)) := stepsL.keep l _ hl el
    -- the row
    have hw0 : 0 < ws.length := by omega
    have ew : (ws.map V.str)[0]? = some (V.str ws[0]) := by
      rw [List.getElem?_map, List.getElem?_eq_getElem hw0]
      rfl
    refine ⟨_, rfl, l, _, _, _, rfl, rfl, SqL.of el9, at_of (j := 0) rfl ew, _, rfl, _, rfl, _, rfl, _, rfl, _, rfl, _, rfl, _, rfl, p, 4, rfl, by decide, by decide, s12.purse, fun g2 H11 _ _ s14 => ⟨_, rfl, l, _, rfl, SqL.of (s14.keep l _ hl el9), fun L4 nL4 => ?_⟩⟩
    have t4 := t3.trans s14
    have s15 := Step.new (o := .lst (cutV (ws.map V.str) none (some g2))) t4.purse nL4
    refine ⟨p, L4, price, cutL ws none (some g2), rfl, hp1, hp99, s15.purse, ?_, ?_, ?_, ?_, fun t hs H12 s16 hh gd _ => ?_⟩
    · rw [← cutV_map]
      exact SqL.of upd_same
    · exact Nat.lt_of_le_of_lt (cutL_sub _ _ _).length_le (by omega)
    · exact (cutL_sub _ _ _).nodup hnd
    · exact fun z hz => hnm z ((cutL_sub _ _ _).mem hz)
    · refine ⟨(by show 5 ≤ sizeLine; decide), fun d nd => ?_⟩
      have s17 := Step.new (o := .lst [.str ws[0], .int price, .int pause, dueV od, .ref t]) s16.purse nd
      have t5 := ((t4.trans s15).trans s16)
      refine q d t ⟨ws[0], price, pause, od.getD pause, hs⟩ od _ (t5.trans s17) (t5.free nd) ⟨upd_same, rfl, hh.step s16.purse s17, ?_, gd.nm⟩
      refine ⟨hnm _ (List.getElem_mem hw0), ⟨hp1, hp99⟩, ⟨hg1, hg600⟩, ⟨hd1, hd2⟩, gd.ok, fun h hh => ?_⟩
      exact Nat.le_trans (nm_len (gd.nm h hh)).2 (by decide)
end
end Du

set_option Elab.async false
set_option linter.all false
set_option maxRecDepth 100000
namespace Du
open PySem L2
open L2N (Zn)
open L2H (RoomH Hot1 PinOk cxH roomH_of)
abbrev sSort : Stmt := topS 43
abbrev sTold : Stmt := topS 44
/-- the error classes that the law asks for -/
structure ErrS (K : PySem.W.Frag) (mg : Str → Option Value) (CE cB cD cC cN cX cG cW cZ cR cP cM cO cL cF : Addr) : Prop where
  gcD : mg "NoDoor" = some (.ref cD)
  kcD : PySem.W.kitOne K (.ref CE) (.ref cD) = some false
  gcC : mg "NoCrew" = some (.ref cC)
  kcC : PySem.W.kitOne K (.ref CE) (.ref cC) = some false
  gcN : mg "NoNumber" = some (.ref cN)
  kcN : PySem.W.kitOne K (.ref CE) (.ref cN) = some false
  gcX : mg "NoText" = some (.ref cX)
  kcX : PySem.W.kitOne K (.ref CE) (.ref cX) = some false
  gcG : mg "NoComings" = some (.ref cG)
  kcG : PySem.W.kitOne K (.ref CE) (.ref cG) = some false
  gcW : mg "NoWorks" = some (.ref cW)
  kcW : PySem.W.kitOne K (.ref CE) (.ref cW) = some false
  gcZ : mg "NoDeeds" = some (.ref cZ)
  kcZ : PySem.W.kitOne K (.ref CE) (.ref cZ) = some false
  gcR : mg "NoRun" = some (.ref cR)
  kcR : PySem.W.kitOne K (.ref CE) (.ref cR) = some false
  gcP : mg "NoPlain" = some (.ref cP)
  kcP : PySem.W.kitOne K (.ref CE) (.ref cP) = some false
  gcM : mg "NoMember" = some (.ref cM)
  kcM : PySem.W.kitOne K (.ref CE) (.ref cM) = some false
  gcO : mg "NoRow" = some (.ref cO)
  kcO : PySem.W.kitOne K (.ref CE) (.ref cO) = some false
  gcL : mg "LostError" = some (.ref cL)
  kcL : PySem.W.kitOne K (.ref CE) (.ref cL) = some false
  gcF : mg "FullError" = some (.ref cF)
  kcF : PySem.W.kitOne K (.ref CE) (.ref cF) = some false
  gB : mg "TimeError" = some (.ref cB)
  gT : mg "NoTask" = some (.ref CE)
  zK : mg "LookupError" = none
  zA : mg "ArithmeticError" = none
  zV : mg "ValueError" = none
  zI : mg "isinstance" = none
  ei : ErrI K CE
  kK : PySem.W.kitOne K (.ref CE) (.type "LookupError") = some false
  kA : PySem.W.kitOne K (.ref CE) (.type "ArithmeticError") = some false
  k1 : PySem.W.kitOne K (.ref CE) (.ref CE) = some true
  k2 : PySem.W.kitOne K (.ref CE) (.ref cB) = some true
  k3 : PySem.W.kitOne K (.ref CE) (.type "ValueError") = some true
  fl : PySem.W.findIn K (.ref CE) "part" = some none
  mt : PySem.W.exmAny K (.ref CE) [.ref cB, .ref cL, .ref cF] = some true
theorem passL {X : Cx} {W : WX} {n : Nat} (hn : X.N.length = n) (tk : L2N.Takes X W) : Passes (L2N.CX X.prog X.w) X (fun cls d H => ∀ σ : L2.St, σ.length = n → W cls d σ H) := fun _ σ _ _ e s' I c => tk e s' (L2N.XE.of_call I (fun _ _ _ h => h σ (I.len.trans hn)) c)
theorem pe_imp {X : Cx} {e : Expr} {t t' : TE} (h : PE X e t) (i : ∀ σ H Q, t' σ H Q → t σ H Q) : PE X e t' := ⟨fun pins s σ H Q I q => h.run pins s σ H Q I (i σ H Q q)⟩
section
variable {P : Program} {w : World} {K : PySem.W.Frag} {mg : Str → Option Value} {base : Heap}
/-! _law_sort -/
theorem scSort : FnScope ["_law_e", "_law_kinds"] ["_law_e"] (defScope sSort) := ⟨rfl, rfl, rfl, by decide +kernel, rfl, by decide +kernel, by decide +kernel⟩
def spSort (CE : Addr) : Addr × Obj → Sp := fun p vs H Q _ => ∃ (dd : Addr) (part : Str), vs = [.ref p.1] ∧ Zn (.ref CE) (some dd) p.2 ∧ (∃ fs, p.2.data = .fields fs) ∧ H dd = some (.xd [("part", .str part)]) ∧ ∀ H', Same H H' → Q (.str part) H'
theorem ok_sort {CE cB cD cC cN cX cG cW cZ cR cP cM cO cL cF f : Addr} {fd : FuncData} (F : Fun K "_law_sort" "_law_sort" sSort f fd) (T : ErrS K mg CE cB cD cC cN cX cG cW cZ cR cP cM cO cL cF) : FnE P w K mg base 4 f fd ["_law_e"] (spSort CE) := by
  refine fnE_of F scSort (fun p vs H Q h => ?_) (fun cdv A outer s H vs Q p hot hr h => ?_)
  · obtain ⟨dd, part, rfl, _⟩ := h
    rfl
  · obtain ⟨dd, part, rfl, hz, hf, hd, q⟩ := h
    obtain ⟨a, oe⟩ := p
    have hp : (a, oe) ∈ (cxH CX0 P w K mg base ["_law_e", "_law_kinds"] "_law_sort" (defScope sSort) f cdv A outer s H E0 (a, oe)).nox.pn := List.mem_cons_self
    refine ⟨_, (pss_cons (ps_set (i := 1) scSort.nd rfl (.inl rfl) (pe_lst (pa_cons (pe_callB (call_isX T.ei hp hz hf) (by rfl) T.zI (by decide +kernel) (pa_cons (pv 0) (pa_cons (pe_glob (v := .ref cD) rfl T.gcD rfl) pa_nil))) (pa_cons (pe_callB (call_isX T.ei hp hz hf) (by rfl) T.zI (by decide +kernel) (pa_cons (pv 0) (pa_cons (pe_glob (v := .ref cC) rfl T.gcC rfl) pa_nil))) (pa_cons (pe_callB (call_isX T.ei hp hz hf) (by rfl) T.zI (by decide +kernel) (pa_cons (pv 0) (pa_cons (pe_glob (v := .ref cN) rfl T.gcN rfl) pa_nil))) (pa_cons (pe_callB (call_isX T.ei hp hz hf) (by rfl) T.zI (by decide +kernel) (pa_cons (pv 0) (pa_cons (pe_glob (v := .ref cX) rfl T.gcX rfl) pa_nil))) pa_nil)))))) (pss_cons (ps_set (i := 1) scSort.nd rfl (.inl rfl) (pe_op op_cat (pv 1) (pe_lst (pa_cons (pe_callB (call_isX T.ei hp hz hf) (by rfl) T.zI (by decide +kernel) (pa_cons (pv 0) (pa_cons (pe_glob (v := .ref cG) rfl T.gcG rfl) pa_nil))) (pa_cons (pe_callB (call_isX T.ei hp hz hf) (by rfl) T.zI (by decide +kernel) (pa_cons (pv 0) (pa_cons (pe_glob (v := .ref cW) rfl T.gcW rfl) pa_nil))) (pa_cons (pe_callB (call_isX T.ei hp hz hf) (by rfl) T.zI (by decide +kernel) (pa_cons (pv 0) (pa_cons (pe_glob (v := .ref cZ) rfl T.gcZ rfl) pa_nil))) (pa_cons (pe_callB (call_isX T.ei hp hz hf) (by rfl) T.zI (by decide +kernel) (pa_cons (pv 0) (pa_cons (pe_glob (v := .ref cR) rfl T.gcR rfl) pa_nil))) pa_nil))))))) (pss_cons (ps_set (i := 1) scSort.nd rfl (.inl rfl) (pe_op op_cat (pv 1) (pe_lst (pa_cons (pe_callB (call_isX T.ei hp hz hf) (by rfl) T.zI (by decide +kernel) (pa_cons (pv 0) (pa_cons (pe_glob (v := .ref cP) rfl T.gcP rfl) pa_nil))) (pa_cons (pe_callB (call_isX T.ei hp hz hf) (by rfl) T.zI (by decide +kernel) (pa_cons (pv 0) (pa_cons (pe_glob (v := .ref cM) rfl T.gcM rfl) pa_nil))) (pa_cons (pe_callB (call_isX T.ei hp hz hf) (by rfl) T.zI (by decide +kernel) (pa_cons (pv 0) (pa_cons (pe_glob (v := .ref cO) rfl T.gcO rfl) pa_nil))) (pa_cons (pe_callB (call_isX T.ei hp hz hf) (by rfl) T.zI (by decide +kernel) (pa_cons (pv 0) (pa_cons (pe_glob (v := .ref cL) rfl T.gcL rfl) pa_nil))) pa_nil))))))) (pss_cons (ps_set (i := 1) scSort.nd rfl (.inl rfl) (pe_op op_cat (pv 1) (pe_lst (pa_cons (pe_callB (call_isX T.ei hp hz hf) (by rfl) T.zI (by decide +kernel) (pa_cons (pv 0) (pa_cons (pe_glob (v := .ref cF) rfl T.gcF rfl) pa_nil))) (pa_cons (pe_callB (call_isX T.ei hp hz hf) (by rfl) T.zI (by decide +kernel) (pa_cons (pv 0) (pa_cons (pe_bltn (v := .ty "LookupError") (by rfl) T.zK (by decide +kernel) rfl) pa_nil))) (pa_cons (pe_callB (call_isX T.ei hp hz hf) (by rfl) T.zI (by decide +kernel) (pa_cons (pv 0) (pa_cons (pe_bltn (v := .ty "ArithmeticError") (by rfl) T.zA (by decide +kernel) rfl) pa_nil))) pa_nil)))))) (pss_cons (ps_if (PW.pt (pw_or (pt_cmpR op_in_seq pe_bl (pv 1) (by rfl)) (pw_or (pt_not (pt_val (pe_callB (call_isX T.ei hp hz hf) (by rfl) T.zI (by decide +kernel) (pa_cons (pv 0) (pa_cons (pe_glob (v := .ref CE) rfl T.gT rfl) pa_nil))))) (pw_or (pt_not (pt_val (pe_callB (call_isX T.ei hp hz hf) (by rfl) T.zI (by decide +kernel) (pa_cons (pv 0) (pa_cons (pe_glob (v := .ref cB) rfl T.gB rfl) pa_nil))))) (pw_or1 (pt_not (pt_val (pe_callB (call_isX T.ei hp hz hf) (by rfl) T.zI (by decide +kernel) (pa_cons (pv 0) (pa_cons (pe_bltn (v := .ty "ValueError") (by rfl) T.zV (by decide +kernel) rfl) pa_nil)))))))))) (pss_one (ps_ret pe_str)) pss_nil) (pss_one (ps_ret (pe_fldX T.ei T.fl hp hz hf (pv 0))))))))), ?_⟩
    refine ⟨_, rfl, _, hd, .inl ⟨_, _, false, rfl, .own _, T.kcD, ?_⟩⟩
    refine ⟨_, rfl, _, hd, .inl ⟨_, _, false, rfl, .own _, T.kcC, ?_⟩⟩
    refine ⟨_, rfl, _, hd, .inl ⟨_, _, false, rfl, .own _, T.kcN, ?_⟩⟩
    refine ⟨_, rfl, _, hd, .inl ⟨_, _, false, rfl, .own _, T.kcX, ?_⟩⟩
    refine ⟨(by show 4 ≤ sizeLine; decide), fun M0 m0 => ?_⟩
    have u0 := same_upd (o := .lst [.bl false, .bl false, .bl false, .bl false]) m0
    have s0 := u0
    have hd0 := s0 _ _ hd
    refine ⟨_, rfl, ?_⟩
    refine ⟨_, rfl, _, hd0, .inl ⟨_, _, false, rfl, .own _, T.kcG, ?_⟩⟩
    refine ⟨_, rfl, _, hd0, .inl ⟨_, _, false, rfl, .own _, T.kcW, ?_⟩⟩
    refine ⟨_, rfl, _, hd0, .inl ⟨_, _, false, rfl, .own _, T.kcZ, ?_⟩⟩
    refine ⟨_, rfl, _, hd0, .inl ⟨_, _, false, rfl, .own _, T.kcR, ?_⟩⟩
    refine ⟨(by show 4 ≤ sizeLine; decide), fun M1 m1 => ?_⟩
    have u1 := same_upd (o := .lst [.bl false, .bl false, .bl false, .bl false]) m1
    refine ⟨M0, M1, _, _, rfl, rfl, u1 _ _ upd_same, upd_same, (by show 4 + 4 ≤ sizeLine; decide), fun L1 l1 => ?_⟩
    have v1 := same_upd (o := .lst ([.bl false, .bl false, .bl false, .bl false] ++ [.bl false, .bl false, .bl false, .bl false])) l1
    have s1 := (s0.trans u1).trans v1
    have hd1 := s1 _ _ hd
    refine ⟨_, rfl, ?_⟩
    refine ⟨_, rfl, _, hd1, .inl ⟨_, _, false, rfl, .own _, T.kcP, ?_⟩⟩
    refine ⟨_, rfl, _, hd1, .inl ⟨_, _, false, rfl, .own _, T.kcM, ?_⟩⟩
    refine ⟨_, rfl, _, hd1, .inl ⟨_, _, false, rfl, .own _, T.kcO, ?_⟩⟩
    refine ⟨_, rfl, _, hd1, .inl ⟨_, _, false, rfl, .own _, T.kcL, ?_⟩⟩
    refine ⟨(by show 4 ≤ sizeLine; decide), fun M2 m2 => ?_⟩
    have u2 := same_upd (o := .lst [.bl false, .bl false, .bl false, .bl false]) m2
    refine ⟨L1, M2, _, _, rfl, rfl, u2 _ _ upd_same, upd_same, (by show 8 + 4 ≤ sizeLine; decide), fun L2 l2 => ?_⟩
    have v2 := same_upd (o := .lst (([.bl false, .bl false, .bl false, .bl false] ++ [.bl false, .bl false, .bl false, .bl false]) ++ [.bl false, .bl false, .bl false, .bl false])) l2
    have s2 := (s1.trans u2).trans v2
    have hd2 := s2 _ _ hd
    refine ⟨_, rfl, ?_⟩
    refine ⟨_, rfl, _, hd2, .inl ⟨_, _, false, rfl, .own _, T.kcF, ?_⟩⟩
    refine ⟨_, rfl, _, hd2, .inl ⟨_, _, false, rfl, .ty _, T.kK, ?_⟩⟩
    refine ⟨_, rfl, _, hd2, .inl ⟨_, _, false, rfl, .ty _, T.kA, ?_⟩⟩
    refine ⟨(by show 3 ≤ sizeLine; decide), fun M3 m3 => ?_⟩
    have u3 := same_upd (o := .lst [.bl false, .bl false, .bl false]) m3
    refine ⟨L2, M3, _, _, rfl, rfl, u3 _ _ upd_same, upd_same, (by show 12 + 3 ≤ sizeLine; decide), fun L3 l3 => ?_⟩
    have v3 := same_upd (o := .lst ((([.bl false, .bl false, .bl false, .bl false] ++ [.bl false, .bl false, .bl false, .bl false]) ++ [.bl false, .bl false, .bl false, .bl false]) ++ [.bl false, .bl false, .bl false])) l3
    have s3 := (s2.trans u3).trans v3
    have hd3 := s3 _ _ hd
    refine ⟨_, rfl, L3, _, rfl, .inl (SqL.of upd_same), rfl, rfl, false, rfl, ?_⟩
    refine iteF ⟨_, rfl, _, hd3, .inl ⟨_, _, true, rfl, .own _, T.k1, true, rfl, ?_⟩⟩
    refine iteF ⟨_, rfl, _, hd3, .inl ⟨_, _, true, rfl, .own _, T.k2, true, rfl, ?_⟩⟩
    refine iteF ⟨_, rfl, _, hd3, .inl ⟨_, _, true, rfl, .ty _, T.k3, true, rfl, ?_⟩⟩
    exact iteF ⟨_, rfl, rfl, _, _, hd3, rfl, q _ s3⟩
/-! _law_told -/
abbrev nTold : List Str := ["_law_things", "_law_by_name", "_law_label", "_law_price", "_law_pause", "_law_term", "_law_grips", "_law_e"]
theorem scTold : FnScope nTold ["_law_things", "_law_by_name"] (defScope sTold) := ⟨rfl, rfl, rfl, by decide +kernel, rfl, by decide +kernel, by decide +kernel⟩
def toldS (o : Option Str) : Str := o.getD "made"
def spTold (K : PySem.W.Frag) : Sp := fun vs H Q _ => ∃ (l : Addr) (x0 x1 x2 x3 x4 : V) (b0 b1 b2 b3 b4 bn : Bool), vs = [.ref l, .bl bn] ∧ H l = some (.lst [x0, x1, x2, x3, x4]) ∧ ArgsV K H x0 x1 x2 x3 x4 b0 b1 b2 b3 b4 ∧ ∀ H', Same H H' → Q (.str (toldS (taskPart b0 b1 b2 b3 b4))) H'
/-- a def that is handed the error, where nothing is known of its object -/
def spSortA (CE : Addr) (a : Addr) (cls : Value) (d : Option Addr) : List V → Hp → VK → Prop := fun vs H Q => ∃ (dd : Addr) (part : Str), vs = [.ref a] ∧ cls = .ref CE ∧ d = some dd ∧ H dd = some (.xd [("part", .str part)]) ∧ ∀ H', Same H H' → Q (.str part) H'
theorem t_sort {CE a : Addr} {cls : Value} {d : Option Addr} {oe : Obj} {i : Nat} {σ : L2.St} {H : Hp} {Q : VK} (hz : Zn cls d oe) (hf : ∃ vs, oe.data = .fields vs) (h : tCons (tVar i) tNil σ H fun vs H1 => spSortA CE a cls d vs H1 Q) :
    tCons (tVar i) tNil σ H fun vs H1 => spSort CE (a, oe) vs H1 Q E0 := by
  obtain ⟨x, hx, dd, part, e1, rfl, rfl, hd, q⟩ := h
  exact ⟨x, hx, dd, part, e1, hz, hf, hd, q⟩
/-- all five by name, from the last to the first -/
theorem kbA {e0 f : Addr} {fd : FuncData} (F : FunI K e0 f fd) : ∃ mv : List Value, KBn K fd pInit 1 ["holds", "due", "gap", "cost", "name"] (fun us ws => us ++ (one ws 4 ++ (one ws 3 ++ (one ws 2 ++ (one ws 1 ++ one ws 0))))) (fun us ws => us ++ (one ws 4 ++ (one ws 3 ++ (one ws 2 ++ (one ws 1 ++ one ws 0))))) :=
  F.kbinds0 1 _ [] (fun us _ ws => us ++ (one ws 4 ++ (one ws 3 ++ (one ws 2 ++ (one ws 1 ++ one ws 0))))) (by simp) (by simp)
    (fun r1 _ r3 => r1.append ((one_rel r3 4).append ((one_rel r3 3).append ((one_rel r3 2).append ((one_rel r3 1).append (one_rel r3 0))))))
    (fun D doc pm an cdv ct us mv ws h1 h2 h3 => match us, mv, ws, h1, h2, h3 with | [_], [], [_, _, _, _, _], _, _, _ => rfl)
set_option maxHeartbeats 1000000 in
theorem ok_told {C CE cB cD cC cN cX cG cW cZ cR cP cM cO cL cF f fs : Addr} {fd fds : FuncData} (F : Fun K "_law_told" "_law_told" sTold f fd) (T : ErrS K mg CE cB cD cC cN cX cG cW cZ cR cP cM cO cL cF) (TM : TaskM P w K mg base C CE)
    (FS : FnE P w K mg base 4 fs fds ["_law_e"] (spSort CE)) (mS : mg "_law_sort" = some (.ref fs)) (kS : PySem.W.keepIn K (.ref fs) = true) (bS : Binds K fds ["_law_e"] []) :
    FnOk P w K mg base CX0 8 f fd ["_law_things", "_law_by_name"] (spTold K) := by
  obtain ⟨TT, kTS, kTI, kTT, e0, fj, fdj, FJ, MJ, GJ, hE⟩ := TM
  obtain ⟨mv, kA⟩ := kbA FJ
  obtain ⟨mv2, kB⟩ := kb2 FJ
  refine F.ok scTold (fun vs H Q E h => ?_) (fun cdv A outer s H vs Q E hr h => ?_)
  · obtain ⟨l, x0, x1, x2, x3, x4, b0, b1, b2, b3, b4, bn, rfl, _⟩ := h
    rfl
  · obtain ⟨l, x0, x1, x2, x3, x4, b0, b1, b2, b3, b4, bn, rfl, hl, AV, q⟩ := h
    refine ⟨_, (pss_cons (ps_asg (pv 0) (pg_lst rfl (pgs_cons (pg_name (i := 2) scTold.nd rfl (.inl rfl)) (pgs_cons (pg_name (i := 3) scTold.nd rfl (.inl rfl)) (pgs_cons (pg_name (i := 4) scTold.nd rfl (.inl rfl)) (pgs_cons (pg_name (i := 5) scTold.nd rfl (.inl rfl)) (pgs_cons (pg_name (i := 6) scTold.nd rfl (.inl rfl)) pgs_nil))))))) (pss_cons (ps_try_tup (i := 7) (cs := [.ref cB, .ref cL, .ref cF]) (ts := fun a cls d => tRet (fun σ H Q => tCons (tVar 7) tNil σ H fun vs H1 => spSortA CE a cls d vs H1 Q)) rfl rfl scTold.nd rfl rfl (lays3 ⟨by rfl, by decide, .inl T.gB⟩ ⟨by rfl, by decide, .inl T.gcL⟩ ⟨by rfl, by decide, .inl T.gcF⟩) mat3
        (fun W pn xe tk po => (pss_one (ps_if (pt_val (pv 1)) (pss_one (ps_expr (pe_makeK0 MJ GJ hr (by rfl) TT.mg kA (passL (n := 8) rfl tk) (pk_cons (pv 6) (pk_cons (pv 5) (pk_cons (pv 4) (pk_cons (pv 3) (pk_cons (pv 2) pk_nil)))))))) (pss_one (ps_expr (pe_makeK MJ GJ hr (by rfl) TT.mg kB (passL (n := 8) rfl tk) (pa_cons (pv 2) (pa_cons (pv 3) (pa_cons (pv 4) pa_nil))) (pk_cons (pv 5) (pk_cons (pv 6) pk_nil))))))))
        (fun a oe cls d pn hz hf => (pss_one (ps_ret (pe_imp (pe_callE (p := (a, oe)) FS (RoomH.mono (k := 7) ⟨hr.dp, hr.un⟩ (by decide)) ⟨rfl, hf.imp fun vs e => ⟨e, hz.2.2 vs e⟩⟩ List.mem_cons_self (by rfl) mS kS bS (pa_cons (pv 7) pa_nil)) (fun σ H Q h => t_sort hz hf h)))))) (pss_one (ps_ret pe_str)))), ?_⟩
    have mk := fun (Q' : Addr → Hp → Prop) (E' : XK) k e => taskSp (C := C) (CE := CE) (Q := Q') (E := E') AV k e
    refine ⟨_, rfl, l, _, rfl, SqL.of hl, rfl, _, _, rfl, _, _, rfl, _, _, rfl, _, _, rfl, _, _, rfl, rfl, ?_⟩
    refine ⟨_, rfl, bn, rfl, ?_⟩
    have good : taskPart b0 b1 b2 b3 b4 = none → ∀ H', Same H H' → Q (.str "made") H' := fun hp H' s1 => by
      have q' := q H' s1
      rw [hp] at q'
      exact q'
    have bad : ∀ p, taskPart b0 b1 b2 b3 b4 = some p → ∀ H', Same H H' → Q (.str p) H' := fun p hp H' s1 => by
      have q' := q H' s1
      rw [hp] at q'
      exact q'
    cases bn with
    | true =>
      refine iteT ⟨_, rfl, _, rfl, _, rfl, _, rfl, _, rfl, rfl, rfl, ?_⟩
      refine mk _ _ (fun hp x H' s1 _ _ => good hp H' s1) (fun p hp d H' s1 hd σ hσ => ⟨T.mt, fun a na => ⟨_, List.getElem?_set_self (by rw [hσ]; decide), d, p, rfl, rfl, rfl, hd, fun H2 s2 => bad p hp H2 (s1.trans s2)⟩⟩)
    | false =>
      refine iteF ⟨_, rfl, _, rfl, _, rfl, _, rfl, _, rfl, rfl, rfl, ?_⟩
      refine mk _ _ (fun hp x H' s1 _ _ => good hp H' s1) (fun p hp d H' s1 hd σ hσ => ⟨T.mt, fun a na => ⟨_, List.getElem?_set_self (by rw [hσ]; decide), d, p, rfl, rfl, rfl, hd, fun H2 s2 => bad p hp H2 (s1.trans s2)⟩⟩)
end
end Du

set_option Elab.async false
set_option linter.all false
set_option maxRecDepth 100000
namespace Du
open PySem L2
abbrev sPut : Stmt := topS 45
theorem pcall0 {X : Cx} {k : Nat} {x : Str} {sp : Sp} {p pos : Pos} (D : Dn X.prog X.w X.K X.mg X.base k x [] sp) (hr : Room k X.A) (hg : Gl X x) (hdb : (x == ("__debug__" : Str)) = false := by decide) :
    PE X (.Call (.Name x p) [] [] pos) (tCall sp [] E0 tNil) := by
  obtain ⟨f, fd, F, hm, hk, hb⟩ := D.ex
  exact pe_call0 F hr hg hm hk hb .nil pass0 hdb
theorem five {α : Type} : ∀ {l : List α}, l.length = 5 → ∃ a b c d e, l = [a, b, c, d, e]
  | [a, b, c, d, e], _ => ⟨a, b, c, d, e, rfl⟩
section
variable {K : PySem.W.Frag} {H H' : Hp} {cost gap : Int} {j : Nat} {x y : V} {b : Bool}
/-- what may stand at the j-th place, and what not -/
def OkAt (K : PySem.W.Frag) (H : Hp) (cost gap : Int) (y : V) (b : Bool) : Nat → Prop
  | 0 => NmV K H y b
  | 1 => WhV K H y 1 99 b ∧ (b = false → y = .int cost)
  | 2 => WhV K H y 1 600 b ∧ (b = false → y = .int gap)
  | 3 => DuV K H y gap b
  | _ => HoV K H y cost b
def BadAt (K : PySem.W.Frag) (H : Hp) (cost gap : Int) (y : V) : Nat → Prop
  | 0 => BadN K H y
  | 1 => BadL K H y 1 99
  | 2 => BadL K H y 1 600
  | 3 => y ≠ .non ∧ BadL K H y 1 gap
  | _ => BadHs K H y cost
theorem OkAt.kp (h : OkAt K H cost gap y b j) (s : Kp H H') : OkAt K H' cost gap y b j := by
  rcases j with _ | _ | _ | _ | j
  · exact NmV.kp h s
  · exact ⟨h.1.kp s, h.2⟩
  · exact ⟨h.1.kp s, h.2⟩
  · exact DuV.kp h s
  · exact HoV.kp h s
theorem BadAt.kp (h : BadAt K H cost gap y j) (s : Kp H H') : BadAt K H' cost gap y j := by
  rcases j with _ | _ | _ | _ | j
  · exact BadN.kp h s
  · exact BadL.kp h s
  · exact BadL.kp h s
  · exact ⟨h.1, h.2.kp s⟩
  · exact BadHs.kp h s
theorem BadAt.ok (h : BadAt K H cost gap y j) : OkAt K H cost gap y true j := by
  rcases j with _ | _ | _ | _ | j
  · exact .inr ⟨rfl, h⟩
  · exact ⟨.inr ⟨rfl, h⟩, fun z => nomatch z⟩
  · exact ⟨.inr ⟨rfl, h⟩, fun z => nomatch z⟩
  · exact .inr ⟨h.1, .inr ⟨rfl, h.2⟩⟩
  · exact .inr ⟨rfl, h⟩
/-- what the loop keeps -/
structure PutI (K : PySem.W.Frag) (H0 : Hp) (p T B M Z : Addr) (ms : List Addr) (bs : List Bool) (cost gap : Int) (i : Nat) (H : Hp) : Prop where
  st : Step p H0 H
  th : ∃ ys : List V, H T = some (.lst ys) ∧ ys.length = 5 ∧ ∀ (j : Nat) y b, ys[j]? = some y → bs[j]? = some b → OkAt K H cost gap y (b && decide (j < i)) j
  bd : H B = some (.lst (bs.map V.bl))
  mn : H M = some (.lst (ms.map V.ref))
  ls : ∀ (j : Nat) m, ms[j]? = some m → ∃ xs : List V, H m = some (.lst xs) ∧ 5 < xs.length ∧ xs.length ≤ 1000 ∧ ∀ x ∈ xs, BadAt K H cost gap x j
/-- a list that is longer stays -/
theorem kp_list {xs : List V} {m : Addr} (e : H m = some (.lst xs)) (n : 5 < xs.length) (s : Kp H H') : H' m = some (.lst xs) := s m _ e ⟨fun i j k z => by
  cases z
  simp at n, fun ys z => by
  cases z
  omega⟩
end
section
variable {P : Program} {w : World} {K : PySem.W.Frag} {mg : Str → Option Value} {base : Heap} {H0 H H' : Hp} {p T B M Z : Addr} {ms : List Addr} {bs : List Bool} {cost gap : Int} {i : Nat}
theorem PutI.take (h : PutI K H0 p T B M Z ms bs cost gap i H) (hT : T ≠ p) (hB : B ≠ p) (hM : M ≠ p) (s : Step p H H') : PutI K H0 p T B M Z ms bs cost gap i H' := by
  obtain ⟨ys, e, l, a⟩ := h.th
  have k := Kp.of_step h.st.purse s
  refine ⟨h.st.trans s, ⟨ys, s.keep _ _ hT e, l, fun j y b e1 e2 => (a j y b e1 e2).kp k⟩, s.keep _ _ hB h.bd, s.keep _ _ hM h.mn, fun j m e => ?_⟩
  obtain ⟨xs, e1, n1, n2, q⟩ := h.ls j m e
  exact ⟨xs, kp_list e1 n1 k, n1, n2, fun x hx => (q x hx).kp k⟩
theorem PutI.put (h : PutI K H0 p T B M Z ms bs cost gap i H) (nT : H0 T = none) (hT : T ≠ p) (hB : B ≠ T) (hM : M ≠ T) {v : V} (hb : bs[i]? = some true) (hv : BadAt K H cost gap v i) (ys : List V) (eT : H T = some (.lst ys)) : PutI K H0 p T B M Z ms bs cost gap (i + 1) (upd H T (.lst (ys.set i v))) := by
  obtain ⟨ys', e, l, a⟩ := h.th
  cases eT.symm.trans e
  have k := Kp.upd (o' := .lst (ys.set i v)) e l
  refine ⟨h.st.put nT hT, ⟨ys.set i v, upd_same, by rw [List.length_set]; exact l, fun j y b e1 e2 => ?_⟩, by rw [upd_ne hB]; exact h.bd, by rw [upd_ne hM]; exact h.mn, fun j m e => ?_⟩
  · by_cases hj : j = i
    · subst hj
      cases hb.symm.trans e2
      have hl : j < ys.length := by
        have := (List.getElem?_eq_some_iff.mp e1).1
        rw [List.length_set] at this
        exact this
      rw [List.getElem?_set_self hl] at e1
      cases e1
      have z : (true && decide (j < j + 1)) = true := by simp
      rw [z]
      exact hv.ok.kp k
    · rw [List.getElem?_set_ne (Ne.symm hj)] at e1
      have z : (b && decide (j < i + 1)) = (b && decide (j < i)) := by
        congr 1
        exact decide_eq_decide.mpr (by omega)
      rw [z]
      exact (a j y b e1 e2).kp k
  · obtain ⟨xs, e1, n1, n2, q⟩ := h.ls j m e
    exact ⟨xs, kp_list e1 n1 k, n1, n2, fun x hx => (q x hx).kp k⟩
theorem PutI.skip (h : PutI K H0 p T B M Z ms bs cost gap i H) (hb : bs[i]? = some false) : PutI K H0 p T B M Z ms bs cost gap (i + 1) H := by
  obtain ⟨ys, e, l, a⟩ := h.th
  refine ⟨h.st, ⟨ys, e, l, fun j y b e1 e2 => ?_⟩, h.bd, h.mn, h.ls⟩
  have z : (b && decide (j < i + 1)) = (b && decide (j < i)) := by
    by_cases hj : j = i
    · subst hj
      cases hb.symm.trans e2
      rfl
    · congr 1
      exact decide_eq_decide.mpr (by omega)
  rw [z]
  exact a j y b e1 e2
def pnm : List Str := ["name", "cost", "gap", "due", "holds"]
/-- the parts that aren't so, up to the i-th -/
def badUp (bs : List Bool) (i : Nat) : List V := (((pnm.zip bs).take i).filter (·.2)).map fun z => V.str z.1
theorem badUp_len (bs : List Bool) (i : Nat) : (badUp bs i).length ≤ 5 := by
  unfold badUp
  rw [List.length_map]
  refine Nat.le_trans (List.length_filter_le _ _) ?_
  rw [List.length_take, List.length_zip]
  have : pnm.length = 5 := rfl
  omega
theorem badUp_succ {bs : List Bool} {i : Nat} {z : Str} {b : Bool} (h1 : pnm[i]? = some z) (h2 : bs[i]? = some b) : badUp bs (i + 1) = badUp bs i ++ (if b then [.str z] else []) := by
  unfold badUp
  have e : (pnm.zip bs)[i]? = some (z, b) := by
    rw [List.getElem?_zip_eq_some]
    exact ⟨h1, h2⟩
  rw [List.take_add_one, e, List.filter_append, List.map_append]
  cases b <;> rfl
theorem badUp_first (b0 b1 b2 b3 b4 : Bool) : (badUp [b0, b1, b2, b3, b4] 5 ++ [V.str "made"])[0]? = some (V.str (toldS (taskPart b0 b1 b2 b3 b4))) := by
  cases b0 <;> cases b1 <;> cases b2 <;> cases b3 <;> cases b4 <;> rfl
abbrev nPut : List Str := ["_law_purse_here", "_law_drawn_here", "_law_k", "_law_things", "_law_bad", "_law_menus", "_law_at", "_law_parts"]
theorem scPut : FnScope nPut ["_law_purse_here", "_law_drawn_here"] (defScope sPut) := ⟨rfl, rfl, rfl, by decide +kernel, rfl, by decide +kernel, by decide +kernel⟩
def spPut (K : PySem.W.Frag) : Sp := fun vs H Q _ => ∃ (p d t : Addr) (v : TaskV) (od : Option Int), vs = [.ref p, .ref d] ∧ Purse H p ∧ DrawnAt K H d t v od ∧
  ∀ (t T : Addr) (y0 y1 y2 y3 y4 : V) (b0 b1 b2 b3 b4 : Bool) H', Step p H H' → H T = none → H' t = some (.tup [.ref T, .str (toldS (taskPart b0 b1 b2 b3 b4))]) → H' T = some (.lst [y0, y1, y2, y3, y4]) → ArgsV K H' y0 y1 y2 y3 y4 b0 b1 b2 b3 b4 → Q (.ref t) H'
/-- what is drawn is good -/
theorem drawn_ok {d t : Addr} {v : TaskV} {od : Option Int} (D : DrawnAt K H d t v od) (j : Nat) (y : V) (e : ([.str v.name, .int v.cost, .int v.gap, dueV od, .ref t] : List V)[j]? = some y) : OkAt K H v.cost v.gap y false j := by
  obtain ⟨o1, ⟨o2, o3⟩, ⟨o4, o5⟩, ⟨o6, o7⟩, o8, o9⟩ := D.ok
  match j, e with
  | 0, e => cases e; exact .inl ⟨rfl, _, rfl, o1⟩
  | 1, e => cases e; exact ⟨.inl ⟨rfl, _, rfl, o2, o3⟩, fun _ => rfl⟩
  | 2, e => cases e; exact ⟨.inl ⟨rfl, _, rfl, o4, o5⟩, fun _ => rfl⟩
  | 3, e =>
    cases e
    have hd := D.due
    cases od with
    | none => exact .inl ⟨rfl, rfl⟩
    | some u =>
      have hd' : v.due = u := hd
      exact .inr ⟨(fun z => nomatch z), .inl ⟨rfl, u, rfl, by rw [← hd']; exact o6, by rw [← hd']; exact o7⟩⟩
  | 4, e => cases e; exact .inl ⟨rfl, t, v.holds, rfl, D.hds, o9, o8⟩
  | j + 5, e => simp at e
theorem args_of {y0 y1 y2 y3 y4 : V} {b0 b1 b2 b3 b4 : Bool} (h : ∀ (j : Nat) y b, ([y0, y1, y2, y3, y4] : List V)[j]? = some y → ([b0, b1, b2, b3, b4] : List Bool)[j]? = some b → OkAt K H cost gap y (b && decide (j < 5)) j) : ArgsV K H y0 y1 y2 y3 y4 b0 b1 b2 b3 b4 := by
  have a0 := h 0 _ _ rfl rfl
  have a1 := h 1 _ _ rfl rfl
  have a2 := h 2 _ _ rfl rfl
  have a3 := h 3 _ _ rfl rfl
  have a4 := h 4 _ _ rfl rfl
  have z0 : (b0 && decide (0 < 5)) = b0 := Bool.and_true _
  have z1 : (b1 && decide (1 < 5)) = b1 := Bool.and_true _
  have z2 : (b2 && decide (2 < 5)) = b2 := Bool.and_true _
  have z3 : (b3 && decide (3 < 5)) = b3 := Bool.and_true _
  have z4 : (b4 && decide (4 < 5)) = b4 := Bool.and_true _
  rw [z0] at a0
  rw [z1] at a1
  rw [z2] at a2
  rw [z3] at a3
  rw [z4] at a4
  refine ⟨a0, a1.1, a2.1, fun e g eg => ?_, fun e c ec => ?_⟩
  · cases (a2.2 e).symm.trans eg
    exact a3
  · cases (a1.2 e).symm.trans ec
    exact a4
set_option maxHeartbeats 2000000 in
theorem ok_put {f : Addr} {fd : FuncData} (F : Fun K "_law_put_otherwise" "_law_put_otherwise" sPut f fd) (mL : mg "list" = none) (mr : mg "range" = none) (ml : mg "len" = none) (DT : Dn P w K mg base 3 "_law_take" ["_law_purse_here", "_law_many"] spTake)
    (DN : Dn P w K mg base 8 "_law_odd_names" [] (spOddN K)) (DW : Dn P w K mg base 8 "_law_odd_numbers" ["_law_top"] (spOddW K)) (DH : Dn P w K mg base 8 "_law_odd_holds" ["_law_price"] (spOddH K)) : FnOk P w K mg base CX0 9 f fd ["_law_purse_here", "_law_drawn_here"] (spPut K) := by
  refine F.ok scPut (fun vs H Q E h => ?_) (fun cdv A outer s H vs Q E hr h => ?_)
  · obtain ⟨p, d, t, v, od, rfl, _⟩ := h
    rfl
  · obtain ⟨p, d, t0, tv, od, rfl, hp, D, q⟩ := h
    have hr1 : Room 3 _ := hr.mono (by decide)
    refine ⟨_, (pss_cons (ps_asg (pe_tup (pa_cons (pe_callTy call_list_of (by rfl) mL (by decide +kernel) (pa_cons (pv 1) pa_nil)) (pa_cons (pe_lc (own := [("_law_k", 2)]) (g := gName 2) (tt := tYes) rfl scPut.nd (pi_range1 (by rfl) mr (pa_cons pe_int pa_nil)) (blkOk_by (N := nPut) (sc := defScope sPut) (by decide +kernel)) (fun _ _ _ _ _ => pg_name (i := 2) scPut.nd rfl (Or.inl rfl)) (fun _ _ _ _ _ => pts_nil)
            (fun _ _ _ _ _ => pe_cmpR op_eq (pcall DT hr1 (by rfl) (pa_cons (pv 0) (pa_cons pe_int pa_nil))) pe_int (by rfl))) pa_nil))) (pg_tup rfl (pgs_cons (pg_name (i := 3) scPut.nd rfl (.inl rfl)) (pgs_cons (pg_name (i := 4) scPut.nd rfl (.inr rfl)) pgs_nil)))) (pss_cons (ps_set (i := 5) scPut.nd rfl (.inl rfl) (pe_lst (pa_cons (pcall0 DN hr (by rfl)) (pa_cons (pe_op op_cat (pcall DW hr (by rfl) (pa_cons pe_int pa_nil)) (pe_lst (pa_cons pe_non pa_nil))) (pa_cons (pe_op op_cat (pcall DW hr (by rfl) (pa_cons pe_int pa_nil)) (pe_lst (pa_cons pe_non pa_nil))) pa_nil))))) (pss_cons (ps_set (i := 5) scPut.nd rfl (.inl rfl) (pe_op op_cat (pv 5) (pe_lst (pa_cons (pcall DW hr (by rfl) (pa_cons (pe_ix ix_list (pv 1) pe_int (fun _ _ => rfl)) pa_nil)) (pa_cons (pcall DH hr (by rfl) (pa_cons (pe_ix ix_list (pv 1) pe_int (fun _ _ => rfl)) pa_nil)) pa_nil))))) (pss_cons (ps_for PassesOwn.never rfl (pi_range1 (by rfl) mr (pa_cons pe_int pa_nil)) (pg_name (i := 2) scPut.nd rfl (.inl rfl))
        (pss_cons (ps_set (i := 6) scPut.nd rfl (.inl rfl) (pcall DT hr1 (by rfl) (pa_cons (pv 0) (pa_cons (pe_callB call_len_seq (by rfl) ml (by decide +kernel) (pa_cons (pe_ix ix_list (pv 5) (pv 2) (fun _ _ => rfl)) pa_nil)) pa_nil)))) (pss_one (ps_if (pt_val (pe_ix ix_list (pv 4) (pv 2) (fun _ _ => rfl))) (pss_one (ps_asg (pe_ix ix_list (pe_ix ix_list (pv 5) (pv 2) (fun _ _ => rfl)) (pv 6) (fun _ _ => rfl)) (pg_sub (pv 3) (pv 2) set_list))) pss_nil)))) (pss_cons (ps_set (i := 7) scPut.nd rfl (.inr rfl) (pe_lst (pa_cons pe_str (pa_cons pe_str (pa_cons pe_str (pa_cons pe_str (pa_cons pe_str pa_nil))))))) (pss_one (ps_ret (pe_tup (pa_cons (pv 3) (pa_cons (pe_ix ix_list (pe_op op_cat (pe_lc (own := [("_law_k", 2)]) (g := gName 2) rfl scPut.nd (pi_range1 (by rfl) mr (pa_cons pe_int pa_nil)) (blkOk_by (N := nPut) (sc := defScope sPut) (by decide +kernel)) (fun _ _ _ _ _ => pg_name (i := 2) scPut.nd rfl (Or.inl rfl))
            (fun _ _ _ _ _ => pts_one (pt_val (pe_ix (show IxR _ (rIxL K) from ix_list) (pv 4) (pv 2) (fun _ _ => rfl)))) (fun _ _ _ _ _ => pe_ix (show IxR _ (rIxL K) from ix_list) (pv 7) (pv 2) (fun _ _ => rfl))) (pe_lst (pa_cons pe_str pa_nil))) pe_int (fun _ _ => rfl)) pa_nil)))))))))), ?_⟩
    obtain ⟨o1, ⟨o2, o3⟩, ⟨o4, o5⟩, ⟨o6, o7⟩, o8, o9⟩ := D.ok
    -- the list
    refine ⟨_, rfl, d, _, rfl, .inl (SqL.of D.row), fun T nT => ?_⟩
    have dT : T ≠ p := hp.ne nT
    have s1 : Step p H (upd H T (.lst [.str tv.name, .int tv.cost, .int tv.gap, dueV od, .ref t0])) := .new hp nT
    -- which are put otherwise
    refine ⟨5, rfl, by decide, by decide, fun B nB => lc_range (lo := 0) (n := 5) (fun i H' => Step p (upd H T (.lst [.str tv.name, .int tv.cost, .int tv.gap, dueV od, .ref t0])) H' ∧ ∃ bs : List Bool, bs.length = i ∧ H' B = some (.lst (bs.map V.bl))) ⟨.new s1.purse nB, [], rfl, upd_same⟩ ?_ ?_⟩
    · rintro i H1 hi ⟨s2, bs, hbs, eB⟩
      refine ⟨rfl, _, rfl, p, 3, rfl, by decide, by decide, s2.purse, fun r2 H2 _ _ s3 => ⟨rfl, _, s3.keep _ _ (s1.purse.ne nB) eB, ?_, (s2.trans s3).put nB (s1.purse.ne nB), bs ++ [decide (V.int r2 = V.int 1)], by rw [List.length_append, hbs]; rfl, ?_⟩⟩
      · rw [List.length_map, hbs]
        exact Nat.lt_of_lt_of_le hi (by decide)
      · rw [upd_same, List.map_append]
        rfl
    rintro H1 ⟨s2, bs, hbs, eB⟩
    have dB : B ≠ p := s1.purse.ne nB
    have eT1 := s2.keep T _ dT upd_same
    refine ⟨(by show 2 ≤ sizeLine; decide), fun t1 nt1 => ?_⟩
    have s3 := Step.new (o := .tup [.ref T, .ref B]) s2.purse nt1
    refine ⟨t1, _, rfl, SqT.of upd_same, rfl, _, _, rfl, _, _, rfl, rfl, ?_⟩
    -- the menus
    have s03 := (s1.trans s2).trans s3
    have D3 := D.step hp s03
    refine ⟨rfl, fun m0 x0 H2 s4 nm0 e0 ex0 q0 => ⟨99, rfl, by decide, by decide, fun w1 z1 H3 s5 nw1 ew1 exw1 qw1 => ?_⟩⟩
    refine ⟨(by show 1 ≤ sizeLine; decide), fun a1 na1 => ⟨w1, a1, _, _, rfl, rfl, (same_upd na1) _ _ ew1, upd_same, (by rw [exw1]; show 17 + 1 ≤ sizeLine; decide), fun m1 nm1 => ?_⟩⟩
    have s6 := same_upd (o := .lst [.non]) na1
    have s7 := same_upd (o := .lst (z1 ++ [.non])) nm1
    refine ⟨600, rfl, by decide, by decide, fun w2 z2 H4 s8 nw2 ew2 exw2 qw2 => ?_⟩
    refine ⟨(by show 1 ≤ sizeLine; decide), fun a2 na2 => ⟨w2, a2, _, _, rfl, rfl, (same_upd na2) _ _ ew2, upd_same, (by rw [exw2]; show 17 + 1 ≤ sizeLine; decide), fun m2 nm2 => ?_⟩⟩
    have s9 := same_upd (o := .lst [.non]) na2
    have s10 := same_upd (o := .lst (z2 ++ [.non])) nm2
    refine ⟨(by show 3 ≤ sizeLine; decide), fun M1 nM1 => ?_⟩
    have s11 := same_upd (o := .lst [.ref m0, .ref m1, .ref m2]) nM1
    -- from the state behind m1, m2 on
    have r10 := s10.trans s11
    have r8 := (s8.trans s9).trans r10
    have r7 := s7.trans r8
    have r5 := (s5.trans s6).trans r7
    have r4 := s4.trans r5
    refine ⟨_, rfl, _, rfl, d, _, _, _, rfl, rfl, SqL.of (r4 _ _ D3.row), at_of (j := 2) rfl rfl, tv.gap, rfl, o4, by omega, fun m3 x3 H5 s12 nm3 e3 ex3 q3 => ?_⟩
    refine ⟨_, rfl, d, _, _, _, rfl, rfl, SqL.of (s12 _ _ (r4 _ _ D3.row)), at_of (j := 1) rfl rfl, tv.cost, rfl, o2, by omega, fun m4 x4 H6 s13 nm4 e4 ex4 q4 => ?_⟩
    refine ⟨(by show 2 ≤ sizeLine; decide), fun M2 nM2 => ?_⟩
    have s14 := same_upd (o := .lst [.ref m3, .ref m4]) nM2
    refine ⟨M1, M2, _, _, rfl, rfl, ((s12.trans s13).trans s14) _ _ upd_same, upd_same, (by show 3 + 2 ≤ sizeLine; decide), fun M nM => ?_⟩
    have s15 := same_upd (o := .lst ([.ref m0, .ref m1, .ref m2] ++ [.ref m3, .ref m4])) nM
    have f14 := s14.trans s15
    have f13 := s13.trans f14
    have f11 := s12.trans f13
    have f10 := r10.trans f11
    have f7 := r7.trans f11
    have f8 := r8.trans f11
    have f5 := r5.trans f11
    have f4 := r4.trans f11
    have st := s03.trans (Step.of_same s03.purse f4)
    have ne1 : ∀ {a b : Addr} {o : HO} {G : Hp}, G a = some o → G b = none → b ≠ a := fun e n => (ne_of_none e n).symm
    have eT3 := s3.keep T _ dT eT1
    have eB3 := s3.keep B _ dB eB
    have g14 := (((r4.trans s12).trans s13).trans s14)
    have dM : M ≠ p := by
      obtain ⟨i1, i2, i3, ep, _⟩ := id s03.purse
      exact ne1 (g14 _ _ ep) nM
    have cM : M ≠ T := ne1 (g14 _ _ eT3) nM
    have cB : B ≠ T := ne1 (upd_same (H := H) (a := T) (o := .lst [.str tv.name, .int tv.cost, .int tv.gap, dueV od, .ref t0])) nB
    have I0 : PutI K H p T B M T [m0, m1, m2, m3, m4] bs tv.cost tv.gap 0 (upd (upd H6 M2 (.lst [.ref m3, .ref m4])) M (.lst ([.ref m0, .ref m1, .ref m2] ++ [.ref m3, .ref m4]))) := by
      refine ⟨st, ⟨_, f4 _ _ eT3, rfl, fun j y b e1 e2 => ?_⟩, f4 _ _ eB3, upd_same, fun j m e => ?_⟩
      · have z : (b && decide (j < 0)) = false := by simp
        rw [z]
        exact (drawn_ok D3 j y e1).kp (.of_same f4)
      · match j, e with
        | 0, e => cases e; exact ⟨x0, f5 _ _ e0, by rw [ex0]; decide, by rw [ex0]; decide, fun x hx => (show BadN K _ x from q0 x hx).kp (.of_same f5)⟩
        | 1, e =>
          cases e
          refine ⟨z1 ++ [.non], f8 _ _ upd_same, by rw [List.length_append, exw1]; decide, by rw [List.length_append, exw1]; decide, fun x hx => ?_⟩
          rcases List.mem_append.mp hx with hx | hx
          · exact (qw1 x hx).2.kp (.of_same (s6.trans f7))
          · rw [List.mem_singleton.mp hx]
            exact bl_ty y_non (by decide +kernel)
        | 2, e =>
          cases e
          refine ⟨z2 ++ [.non], (s11.trans f11) _ _ upd_same, by rw [List.length_append, exw2]; decide, by rw [List.length_append, exw2]; decide, fun x hx => ?_⟩
          rcases List.mem_append.mp hx with hx | hx
          · exact (qw2 x hx).2.kp (.of_same (s9.trans f10))
          · rw [List.mem_singleton.mp hx]
            exact bl_ty y_non (by decide +kernel)
        | 3, e => cases e; exact ⟨x3, f13 _ _ e3, by rw [ex3]; decide, by rw [ex3]; decide, fun x hx => ⟨(q3 x hx).1, (q3 x hx).2.kp (.of_same f13)⟩⟩
        | 4, e => cases e; exact ⟨x4, f14 _ _ e4, by rw [ex4]; decide, by rw [ex4]; decide, fun x hx => (q4 x hx).kp (.of_same f14)⟩
        | j + 5, e => simp at e
    refine ⟨5, rfl, by decide, by decide, for_range (lo := 0) (n := 5) (fun i σ H' => ∃ (v2 v6 : Option V), σ = [some (.ref p), some (.ref d), v2, some (.ref T), some (.ref B), some (.ref M), v6, none] ∧ PutI K H p T B M T [m0, m1, m2, m3, m4] bs tv.cost tv.gap i H') ⟨_, _, rfl, I0⟩ ?_ ?_⟩
    · rintro i σ H7 hi ⟨v2, v6, rfl, I⟩
      have em : ([m0, m1, m2, m3, m4] : List Addr)[i]? = some ([m0, m1, m2, m3, m4] : List Addr)[i] := List.getElem?_eq_getElem hi
      have eb : bs[i]? = some (bs[i]'(by omega)) := List.getElem?_eq_getElem _
      generalize ([m0, m1, m2, m3, m4] : List Addr)[i] = m at em
      generalize (bs[i]'(by omega)) = bi at eb
      have em' : (([m0, m1, m2, m3, m4] : List Addr).map V.ref)[i]? = some (V.ref m) := by rw [List.getElem?_map, em]; rfl
      have eb' : (bs.map V.bl)[i]? = some (V.bl bi) := by rw [List.getElem?_map, eb]; rfl
      obtain ⟨xs, ex, n1, n2, qx⟩ := I.ls i m em
      refine ⟨_, rfl, _, rfl, _, rfl, M, _, _, _, rfl, rfl, SqL.of I.mn, at_of (j := i) (by omega) em', m, xs, rfl, .inl (SqL.of ex), p, _, rfl, by omega, by omega, I.st.purse, fun r2 H9 r20 r21 s9 => ?_⟩
      have J := I.take dT dB dM s9
      obtain ⟨ys, eT, ly, a⟩ := J.th
      refine ⟨_, rfl, _, rfl, B, _, _, _, rfl, rfl, SqL.of J.bd, at_of (j := i) (by omega) eb', _, rfl, ?_⟩
      cases bi with
      | true =>
        obtain ⟨v, hv, hm⟩ := at_some (xs := xs) r20 r21
        obtain ⟨xs', ex', _, _, qx'⟩ := J.ls i m em
        have exx : xs' = xs := by
          have := kp_list ex n1 (Kp.of_step I.st.purse s9)
          cases ex'.symm.trans this
          rfl
        subst exx
        refine iteT ⟨_, rfl, _, rfl, M, _, _, _, rfl, rfl, SqL.of J.mn, at_of (j := i) (by omega) em', _, rfl, m, xs', _, v, rfl, rfl, SqL.of ex', hv, _, rfl, _, rfl, T, _, _, i, rfl, rfl, eT, ?_, ?_⟩
        · unfold ixN
          rw [ly, if_pos (by omega), if_pos (by omega)]
          congr 1
          omega
        · exact ⟨_, _, rfl, J.put nT dT cB cM eb (qx' v hm) ys eT⟩
      | false => exact iteF ⟨_, _, rfl, J.skip eb⟩
    · rintro σ H7 ⟨v2, v6, rfl, I⟩
      refine ⟨(by show 5 ≤ sizeLine; decide), fun Pt nPt => ?_⟩
      have s16 := same_upd (o := .lst (pnm.map V.str)) nPt
      refine ⟨_, rfl, 5, rfl, by decide, by decide, fun L nL => lc_range (lo := 0) (n := 5) (fun i H' => Same (upd H7 Pt (.lst (pnm.map V.str))) H' ∧ H' L = some (.lst (badUp bs i))) ⟨same_upd nL, upd_same⟩ ?_ ?_⟩
      · rintro i H8 hi ⟨s17, eL⟩
        have eb : bs[i]? = some (bs[i]'(by omega)) := List.getElem?_eq_getElem _
        generalize (bs[i]'(by omega)) = bi at eb
        have eb' : (bs.map V.bl)[i]? = some (V.bl bi) := by rw [List.getElem?_map, eb]; rfl
        have ez : pnm[i]? = some (pnm[i]'hi) := List.getElem?_eq_getElem _
        generalize (pnm[i]'hi) = z at ez
        have ez' : (pnm.map V.str)[i]? = some (V.str z) := by rw [List.getElem?_map, ez]; rfl
        have hu := badUp_succ ez eb
        refine ⟨rfl, _, rfl, _, rfl, B, _, _, _, rfl, rfl, SqL.of (s17 _ _ (s16 _ _ I.bd)), at_of (j := i) (by omega) eb', _, rfl, ?_⟩
        cases bi with
        | true =>
          refine iteT ⟨_, rfl, _, rfl, Pt, _, _, _, rfl, rfl, SqL.of (s17 _ _ upd_same), at_of (j := i) (by omega) ez', _, eL, ?_, ?_, ?_⟩
          · exact Nat.lt_of_le_of_lt (badUp_len bs i) (by decide)
          · exact same_upd2 s17 nL
          · rw [upd_same, hu]
            rfl
        | false =>
          refine iteF ⟨s17, ?_⟩
          rw [eL, hu]
          simp
      · rintro H8 ⟨s17, eL⟩
        refine ⟨(by show 1 ≤ sizeLine; decide), fun l1 nl1 => ?_⟩
        have s18 := same_upd (o := .lst [.str "made"]) nl1
        refine ⟨L, l1, _, _, rfl, rfl, s18 _ _ eL, upd_same, ?_, fun l2 nl2 => ?_⟩
        · exact Nat.le_trans (Nat.add_le_add_right (badUp_len bs 5) 1) (by decide)
        obtain ⟨b0, b1, b2, b3, b4, rfl⟩ := five hbs
        have s19 := same_upd (o := .lst (badUp [b0, b1, b2, b3, b4] 5 ++ [.str "made"])) nl2
        refine ⟨l2, _, _, _, rfl, rfl, SqL.of upd_same, at_of (j := 0) rfl (badUp_first b0 b1 b2 b3 b4), (by show 2 ≤ sizeLine; decide), fun t nt => ?_⟩
        have s20 := same_upd (o := .tup [.ref T, .str (toldS (taskPart b0 b1 b2 b3 b4))]) nt
        have sF := (((s16.trans s17).trans s18).trans s19).trans s20
        obtain ⟨ys, eT, ly, a⟩ := I.th
        obtain ⟨y0, y1, y2, y3, y4, rfl⟩ := five ly
        exact q t T y0 y1 y2 y3 y4 b0 b1 b2 b3 b4 _ (I.st.trans (Step.of_same I.st.purse sF)) nT upd_same (sF _ _ eT) ((args_of a).kp (.of_same sF))
end
end Du

set_option Elab.async false
set_option linter.all false
set_option maxRecDepth 100000
namespace Du
open PySem L2
abbrev sTwins : Stmt := topS 46
section
variable {P : Program} {w : World} {K : PySem.W.Frag} {mg : Str → Option Value} {base : Heap}
/-! _law_twins_right -/
abbrev nTwins : List Str := ["_law_pairs", "_law_things", "_law_term"]
theorem scTwins : FnScope nTwins [] (defScope sTwins) := ⟨rfl, rfl, rfl, by decide +kernel, rfl, by decide +kernel, by decide +kernel⟩
def spTwins : Sp := fun vs H Q _ => vs = [] ∧ ∀ H', Same H H' → Q (.bl true) H'
def TwinOk (K : PySem.W.Frag) (H : Hp) (x : V) : Prop := ∃ (t l : Addr) (x0 x1 x2 x3 x4 : V) (b0 b1 b2 b3 b4 : Bool), x = .ref t ∧ H t = some (.tup [.ref l, .str (toldS (taskPart b0 b1 b2 b3 b4))]) ∧ H l = some (.lst [x0, x1, x2, x3, x4]) ∧ ArgsV K H x0 x1 x2 x3 x4 b0 b1 b2 b3 b4
theorem TwinOk.same {H H' : Hp} {x : V} (h : TwinOk K H x) (s : Same H H') : TwinOk K H' x := by
  obtain ⟨t, l, x0, x1, x2, x3, x4, b0, b1, b2, b3, b4, e, e1, e2, AV⟩ := h
  exact ⟨t, l, x0, x1, x2, x3, x4, b0, b1, b2, b3, b4, e, s _ _ e1, s _ _ e2, AV.kp (.of_same s)⟩
theorem w_1 {H : Hp} {hi : Int} (h : 1 ≤ hi) : WhV K H (.int 1) 1 hi false := .inl ⟨rfl, 1, rfl, Int.le_refl _, h⟩
theorem w_t {H : Hp} {hi : Int} {b : Bool} : WhV K H (.bl b) 1 hi true := .inr ⟨rfl, bl_bl⟩
theorem du_1 {H : Hp} {b : Bool} : b = false → ∀ g : Int, V.int 1 = .int g → DuV K H (.int 1) g false := fun _ g e => by
  cases e
  exact .inr ⟨(fun z => nomatch z), w_1 (Int.le_refl _)⟩
theorem du_t {H : Hp} {b c : Bool} {x : V} : b = false → ∀ g : Int, x = .int g → DuV K H (.bl c) g true := fun _ g e => .inr ⟨(fun z => nomatch z), w_t⟩
theorem ho_0 {H : Hp} {b : Bool} {x : V} {a : Addr} (e : H a = some (.tup [])) : b = false → ∀ c : Int, x = .int c → HoV K H (.ref a) c false := fun _ c _ => .inl ⟨rfl, a, [], rfl, ⟨[], SqT.of e, rfl, fun i u g e1 _ => by simp at e1⟩, fun h hh => (nomatch hh), by simp [areHds]⟩
theorem ho_1 {H : Hp} {b : Bool} {a u : Addr} (e : H a = some (.tup [.ref u])) (eu : H u = some (.tup [.str "b", .int 0, .int 1])) : b = false → ∀ c : Int, V.int 1 = .int c → HoV K H (.ref a) c false := fun _ c ec => by
  cases ec
  refine .inl ⟨rfl, a, [("b", 0, 1)], rfl, ⟨_, SqT.of e, rfl, fun i x y e1 e2 => ?_⟩, fun h hh => ?_, by decide +kernel⟩
  · match i, e1, e2 with
    | 0, e1, e2 => cases e1; cases e2; exact ⟨u, rfl, SqT.of eu⟩
    | i + 1, e1, e2 => simp at e1
  · rw [List.mem_singleton.mp hh]
    exact Nat.le_trans (show Str.length "b" ≤ 1000 by decide +kernel) (by decide)
theorem ho_b {H : Hp} {b : Bool} {a : Addr} {x : V} (h : BadHs K H (.ref a) 1) : b = false → ∀ c : Int, V.int 1 = .int c → HoV K H (.ref a) c true := fun _ c ec => by
  cases ec
  exact .inr ⟨rfl, h⟩
theorem ho_x {H : Hp} {b c : Bool} {x : V} : b = false → ∀ n : Int, V.bl c = .int n → HoV K H x n false := fun _ n e => nomatch e
theorem du_x {H : Hp} {b c : Bool} {x : V} : b = false → ∀ n : Int, V.bl c = .int n → DuV K H x n false := fun _ n e => nomatch e
set_option maxHeartbeats 4000000 in
theorem ok_twins {f : Addr} {fd : FuncData} (F : Fun K "_law_twins_right" "_law_twins_right" sTwins f fd) (ma : mg "all" = none) (DTo : Dn P w K mg base 8 "_law_told" ["_law_things", "_law_by_name"] (spTold K)) : FnOk P w K mg base CX0 9 f fd [] spTwins := by
  refine F.ok scTwins (fun vs H Q E h => ?_) (fun cdv A outer s H vs Q E hr h => ?_)
  · obtain ⟨rfl, _⟩ := h
    rfl
  · obtain ⟨rfl, q⟩ := h
    refine ⟨_, (pss_cons (ps_set (i := 0) scTwins.nd rfl (.inl rfl) (pe_lst (pa_cons (pe_tup (pa_cons (pe_lst (pa_cons pe_str (pa_cons pe_int (pa_cons pe_int (pa_cons pe_int (pa_cons (pe_tup (pa_cons (pe_tup (pa_cons pe_str (pa_cons pe_int (pa_cons pe_int pa_nil)))) pa_nil)) pa_nil)))))) (pa_cons pe_str pa_nil))) (pa_cons (pe_tup (pa_cons (pe_lst (pa_cons pe_str (pa_cons pe_bl (pa_cons pe_int (pa_cons pe_int (pa_cons (pe_tup (pa_cons (pe_tup (pa_cons pe_str (pa_cons pe_int (pa_cons pe_int pa_nil)))) pa_nil)) pa_nil)))))) (pa_cons pe_str pa_nil))) pa_nil)))) (pss_cons (ps_set (i := 0) scTwins.nd rfl (.inl rfl) (pe_op op_cat (pv 0) (pe_lst (pa_cons (pe_tup (pa_cons (pe_lst (pa_cons pe_str (pa_cons pe_int (pa_cons pe_bl (pa_cons pe_int (pa_cons (pe_tup pa_nil) pa_nil)))))) (pa_cons pe_str pa_nil))) (pa_cons (pe_tup (pa_cons (pe_lst (pa_cons pe_str (pa_cons pe_int (pa_cons pe_int (pa_cons pe_bl (pa_cons (pe_tup pa_nil) pa_nil)))))) (pa_cons pe_str pa_nil))) (pa_cons (pe_tup (pa_cons (pe_lst (pa_cons pe_str (pa_cons pe_int (pa_cons pe_int (pa_cons pe_int (pa_cons (pe_tup pa_nil) pa_nil)))))) (pa_cons pe_str pa_nil))) pa_nil)))))) (pss_cons (ps_set (i := 0) scTwins.nd rfl (.inl rfl) (pe_op op_cat (pv 0) (pe_lst (pa_cons (pe_tup (pa_cons (pe_lst (pa_cons pe_str (pa_cons pe_int (pa_cons pe_int (pa_cons pe_int (pa_cons (pe_tup (pa_cons (pe_tup (pa_cons pe_str (pa_cons pe_bl (pa_cons pe_int pa_nil)))) pa_nil)) pa_nil)))))) (pa_cons pe_str pa_nil))) (pa_cons (pe_tup (pa_cons (pe_lst (pa_cons pe_str (pa_cons pe_int (pa_cons pe_int (pa_cons pe_int (pa_cons (pe_tup (pa_cons (pe_tup (pa_cons pe_str (pa_cons pe_int (pa_cons pe_bl pa_nil)))) pa_nil)) pa_nil)))))) (pa_cons pe_str pa_nil))) pa_nil))))) (pss_one (ps_ret (pe_callB (cr_all rfl) (by rfl) ma (by decide +kernel) (pa_cons (pe_lc (own := [("_law_things", 1), ("_law_term", 2)]) (g := gTup K 2 (gCons (gName 1) (gCons (gName 2) gNil))) (tt := tYes) rfl scTwins.nd (pi_list (pv 0)) (blkOk_by (N := nTwins) (sc := defScope sTwins) (by decide +kernel))
        (fun _ _ _ _ _ => pg_tup rfl (pgs_cons (pg_name (i := 1) scTwins.nd rfl (Or.inl rfl)) (pgs_cons (pg_name (i := 2) scTwins.nd rfl (Or.inl rfl)) pgs_nil))) (fun _ _ _ _ _ => pts_nil)
        (fun _ _ _ _ _ => (pe_and (pe_cmpR op_eq (pcall DTo hr (by rfl) (pa_cons (pv 1) (pa_cons pe_bl pa_nil))) (pv 2) (by rfl)) (pe_one (pe_cmpR op_eq (pcall DTo hr (by rfl) (pa_cons (pv 1) (pa_cons pe_bl pa_nil))) (pv 2) (by rfl)))))) pa_nil))))))), ?_⟩
    refine ⟨(by show 3 ≤ sizeLine; decide), fun q1_0_0_4_0 n_q1_0_0_4_0 => ?_⟩
    have s_q1_0_0_4_0 := same_upd (o := .tup [.str "b", .int 0, .int 1]) n_q1_0_0_4_0
    refine ⟨(by show 1 ≤ sizeLine; decide), fun q1_0_0_4 n_q1_0_0_4 => ?_⟩
    have s_q1_0_0_4 := same_upd (o := .tup [.ref q1_0_0_4_0]) n_q1_0_0_4
    refine ⟨(by show 5 ≤ sizeLine; decide), fun q1_0_0 n_q1_0_0 => ?_⟩
    have s_q1_0_0 := same_upd (o := .lst [.str "a", .int 1, .int 1, .int 1, .ref q1_0_0_4]) n_q1_0_0
    refine ⟨(by show 2 ≤ sizeLine; decide), fun q1_0 n_q1_0 => ?_⟩
    have s_q1_0 := same_upd (o := .tup [.ref q1_0_0, .str "made"]) n_q1_0
    refine ⟨(by show 3 ≤ sizeLine; decide), fun q1_1_0_4_0 n_q1_1_0_4_0 => ?_⟩
    have s_q1_1_0_4_0 := same_upd (o := .tup [.str "b", .int 0, .int 1]) n_q1_1_0_4_0
    refine ⟨(by show 1 ≤ sizeLine; decide), fun q1_1_0_4 n_q1_1_0_4 => ?_⟩
    have s_q1_1_0_4 := same_upd (o := .tup [.ref q1_1_0_4_0]) n_q1_1_0_4
    refine ⟨(by show 5 ≤ sizeLine; decide), fun q1_1_0 n_q1_1_0 => ?_⟩
    have s_q1_1_0 := same_upd (o := .lst [.str "a", .bl true, .int 1, .int 1, .ref q1_1_0_4]) n_q1_1_0
    refine ⟨(by show 2 ≤ sizeLine; decide), fun q1_1 n_q1_1 => ?_⟩
    have s_q1_1 := same_upd (o := .tup [.ref q1_1_0, .str "cost"]) n_q1_1
    refine ⟨(by show 2 ≤ sizeLine; decide), fun a9 n_a9 => ?_⟩
    have s_a9 := same_upd (o := .lst [.ref q1_0, .ref q1_1]) n_a9
    refine ⟨_, rfl, ?_⟩
    refine ⟨(by show 0 ≤ sizeLine; decide), fun q2_0_0_4 n_q2_0_0_4 => ?_⟩
    have s_q2_0_0_4 := same_upd (o := .tup []) n_q2_0_0_4
    refine ⟨(by show 5 ≤ sizeLine; decide), fun q2_0_0 n_q2_0_0 => ?_⟩
    have s_q2_0_0 := same_upd (o := .lst [.str "a", .int 1, .bl true, .int 1, .ref q2_0_0_4]) n_q2_0_0
    refine ⟨(by show 2 ≤ sizeLine; decide), fun q2_0 n_q2_0 => ?_⟩
    have s_q2_0 := same_upd (o := .tup [.ref q2_0_0, .str "gap"]) n_q2_0
    refine ⟨(by show 0 ≤ sizeLine; decide), fun q2_1_0_4 n_q2_1_0_4 => ?_⟩
    have s_q2_1_0_4 := same_upd (o := .tup []) n_q2_1_0_4
    refine ⟨(by show 5 ≤ sizeLine; decide), fun q2_1_0 n_q2_1_0 => ?_⟩
    have s_q2_1_0 := same_upd (o := .lst [.str "a", .int 1, .int 1, .bl true, .ref q2_1_0_4]) n_q2_1_0
    refine ⟨(by show 2 ≤ sizeLine; decide), fun q2_1 n_q2_1 => ?_⟩
    have s_q2_1 := same_upd (o := .tup [.ref q2_1_0, .str "due"]) n_q2_1
    refine ⟨(by show 0 ≤ sizeLine; decide), fun q2_2_0_4 n_q2_2_0_4 => ?_⟩
    have s_q2_2_0_4 := same_upd (o := .tup []) n_q2_2_0_4
    refine ⟨(by show 5 ≤ sizeLine; decide), fun q2_2_0 n_q2_2_0 => ?_⟩
    have s_q2_2_0 := same_upd (o := .lst [.str "a", .int 1, .int 1, .int 1, .ref q2_2_0_4]) n_q2_2_0
    refine ⟨(by show 2 ≤ sizeLine; decide), fun q2_2 n_q2_2 => ?_⟩
    have s_q2_2 := same_upd (o := .tup [.ref q2_2_0, .str "made"]) n_q2_2
    refine ⟨(by show 3 ≤ sizeLine; decide), fun a19 n_a19 => ?_⟩
    have s_a19 := same_upd (o := .lst [.ref q2_0, .ref q2_1, .ref q2_2]) n_a19
    have f_1 := (((((((((s_q2_0_0_4.trans s_q2_0_0).trans s_q2_0).trans s_q2_1_0_4).trans s_q2_1_0).trans s_q2_1).trans s_q2_2_0_4).trans s_q2_2_0).trans s_q2_2).trans s_a19) _ _ upd_same
    refine ⟨a9, a19, ?x1, ?z1, rfl, rfl, ?f1, ?g1, ?l1, ?r1⟩
    case f1 => exact f_1
    case g1 => exact upd_same
    case l1 =>
      simp only [List.length_append, List.length_cons, List.length_nil]
      decide
    refine fun a20 n_a20 => ?_
    have s_a20 := same_upd (o := .lst ([.ref q1_0, .ref q1_1] ++ [.ref q2_0, .ref q2_1, .ref q2_2])) n_a20
    refine ⟨_, rfl, ?_⟩
    refine ⟨(by show 3 ≤ sizeLine; decide), fun q3_0_0_4_0 n_q3_0_0_4_0 => ?_⟩
    have s_q3_0_0_4_0 := same_upd (o := .tup [.str "b", .bl false, .int 1]) n_q3_0_0_4_0
    refine ⟨(by show 1 ≤ sizeLine; decide), fun q3_0_0_4 n_q3_0_0_4 => ?_⟩
    have s_q3_0_0_4 := same_upd (o := .tup [.ref q3_0_0_4_0]) n_q3_0_0_4
    refine ⟨(by show 5 ≤ sizeLine; decide), fun q3_0_0 n_q3_0_0 => ?_⟩
    have s_q3_0_0 := same_upd (o := .lst [.str "a", .int 1, .int 1, .int 1, .ref q3_0_0_4]) n_q3_0_0
    refine ⟨(by show 2 ≤ sizeLine; decide), fun q3_0 n_q3_0 => ?_⟩
    have s_q3_0 := same_upd (o := .tup [.ref q3_0_0, .str "holds"]) n_q3_0
    refine ⟨(by show 3 ≤ sizeLine; decide), fun q3_1_0_4_0 n_q3_1_0_4_0 => ?_⟩
    have s_q3_1_0_4_0 := same_upd (o := .tup [.str "b", .int 0, .bl true]) n_q3_1_0_4_0
    refine ⟨(by show 1 ≤ sizeLine; decide), fun q3_1_0_4 n_q3_1_0_4 => ?_⟩
    have s_q3_1_0_4 := same_upd (o := .tup [.ref q3_1_0_4_0]) n_q3_1_0_4
    refine ⟨(by show 5 ≤ sizeLine; decide), fun q3_1_0 n_q3_1_0 => ?_⟩
    have s_q3_1_0 := same_upd (o := .lst [.str "a", .int 1, .int 1, .int 1, .ref q3_1_0_4]) n_q3_1_0
    refine ⟨(by show 2 ≤ sizeLine; decide), fun q3_1 n_q3_1 => ?_⟩
    have s_q3_1 := same_upd (o := .tup [.ref q3_1_0, .str "holds"]) n_q3_1
    refine ⟨(by show 2 ≤ sizeLine; decide), fun a29 n_a29 => ?_⟩
    have s_a29 := same_upd (o := .lst [.ref q3_0, .ref q3_1]) n_a29
    have f_2 := ((((((((s_q3_0_0_4_0.trans s_q3_0_0_4).trans s_q3_0_0).trans s_q3_0).trans s_q3_1_0_4_0).trans s_q3_1_0_4).trans s_q3_1_0).trans s_q3_1).trans s_a29) _ _ upd_same
    refine ⟨a20, a29, ?x2, ?z2, rfl, rfl, ?f2, ?g2, ?l2, ?r2⟩
    case f2 => exact f_2
    case g2 => exact upd_same
    case l2 =>
      simp only [List.length_append, List.length_cons, List.length_nil]
      decide
    refine fun a30 n_a30 => ?_
    have s_a30 := same_upd (o := .lst (([.ref q1_0, .ref q1_1] ++ [.ref q2_0, .ref q2_1, .ref q2_2]) ++ [.ref q3_0, .ref q3_1])) n_a30
    have c_a29 := s_a30
    have c_q3_1 := s_a29.trans c_a29
    have c_q3_1_0 := s_q3_1.trans c_q3_1
    have c_q3_1_0_4 := s_q3_1_0.trans c_q3_1_0
    have c_q3_1_0_4_0 := s_q3_1_0_4.trans c_q3_1_0_4
    have c_q3_0 := s_q3_1_0_4_0.trans c_q3_1_0_4_0
    have c_q3_0_0 := s_q3_0.trans c_q3_0
    have c_q3_0_0_4 := s_q3_0_0.trans c_q3_0_0
    have c_q3_0_0_4_0 := s_q3_0_0_4.trans c_q3_0_0_4
    have c_a20 := s_q3_0_0_4_0.trans c_q3_0_0_4_0
    have c_a19 := s_a20.trans c_a20
    have c_q2_2 := s_a19.trans c_a19
    have c_q2_2_0 := s_q2_2.trans c_q2_2
    have c_q2_2_0_4 := s_q2_2_0.trans c_q2_2_0
    have c_q2_1 := s_q2_2_0_4.trans c_q2_2_0_4
    have c_q2_1_0 := s_q2_1.trans c_q2_1
    have c_q2_1_0_4 := s_q2_1_0.trans c_q2_1_0
    have c_q2_0 := s_q2_1_0_4.trans c_q2_1_0_4
    have c_q2_0_0 := s_q2_0.trans c_q2_0
    have c_q2_0_0_4 := s_q2_0_0.trans c_q2_0_0
    have c_a9 := s_q2_0_0_4.trans c_q2_0_0_4
    have c_q1_1 := s_a9.trans c_a9
    have c_q1_1_0 := s_q1_1.trans c_q1_1
    have c_q1_1_0_4 := s_q1_1_0.trans c_q1_1_0
    have c_q1_1_0_4_0 := s_q1_1_0_4.trans c_q1_1_0_4
    have c_q1_0 := s_q1_1_0_4_0.trans c_q1_1_0_4_0
    have c_q1_0_0 := s_q1_0.trans c_q1_0
    have c_q1_0_0_4 := s_q1_0_0.trans c_q1_0_0
    have c_q1_0_0_4_0 := s_q1_0_0_4.trans c_q1_0_0_4
    have bb := s_q1_0_0_4_0.trans c_q1_0_0_4_0
    have w0 : TwinOk K _ (.ref q1_0) := ⟨q1_0, q1_0_0, .str "a", .int 1, .int 1, .int 1, .ref q1_0_0_4, false, false, false, false, false, rfl, (c_q1_0 _ _ upd_same), (c_q1_0_0 _ _ upd_same), ⟨.inl ⟨rfl, gn_a⟩, w_1 (by decide), w_1 (by decide), du_1, ho_1 (c_q1_0_0_4 _ _ upd_same) (c_q1_0_0_4_0 _ _ upd_same)⟩⟩
    have w1 : TwinOk K _ (.ref q1_1) := ⟨q1_1, q1_1_0, .str "a", .bl true, .int 1, .int 1, .ref q1_1_0_4, false, true, false, false, false, rfl, (c_q1_1 _ _ upd_same), (c_q1_1_0 _ _ upd_same), ⟨.inl ⟨rfl, gn_a⟩, w_t, w_1 (by decide), du_1, ho_x⟩⟩
    have w2 : TwinOk K _ (.ref q2_0) := ⟨q2_0, q2_0_0, .str "a", .int 1, .bl true, .int 1, .ref q2_0_0_4, false, false, true, false, false, rfl, (c_q2_0 _ _ upd_same), (c_q2_0_0 _ _ upd_same), ⟨.inl ⟨rfl, gn_a⟩, w_1 (by decide), w_t, du_x, ho_0 (c_q2_0_0_4 _ _ upd_same)⟩⟩
    have w3 : TwinOk K _ (.ref q2_1) := ⟨q2_1, q2_1_0, .str "a", .int 1, .int 1, .bl true, .ref q2_1_0_4, false, false, false, true, false, rfl, (c_q2_1 _ _ upd_same), (c_q2_1_0 _ _ upd_same), ⟨.inl ⟨rfl, gn_a⟩, w_1 (by decide), w_1 (by decide), du_t, ho_0 (c_q2_1_0_4 _ _ upd_same)⟩⟩
    have w4 : TwinOk K _ (.ref q2_2) := ⟨q2_2, q2_2_0, .str "a", .int 1, .int 1, .int 1, .ref q2_2_0_4, false, false, false, false, false, rfl, (c_q2_2 _ _ upd_same), (c_q2_2_0 _ _ upd_same), ⟨.inl ⟨rfl, gn_a⟩, w_1 (by decide), w_1 (by decide), du_1, ho_0 (c_q2_2_0_4 _ _ upd_same)⟩⟩
    have w5 : TwinOk K _ (.ref q3_0) := ⟨q3_0, q3_0_0, .str "a", .int 1, .int 1, .int 1, .ref q3_0_0_4, false, false, false, false, true, rfl, (c_q3_0 _ _ upd_same), (c_q3_0_0 _ _ upd_same), ⟨.inl ⟨rfl, gn_a⟩, w_1 (by decide), w_1 (by decide), du_1, ho_b (x := .non) (bs_1 (c_q3_0_0_4 _ _ upd_same) (hh_s (c_q3_0_0_4_0 _ _ upd_same) gn_b bl_bl))⟩⟩
    have w6 : TwinOk K _ (.ref q3_1) := ⟨q3_1, q3_1_0, .str "a", .int 1, .int 1, .int 1, .ref q3_1_0_4, false, false, false, false, true, rfl, (c_q3_1 _ _ upd_same), (c_q3_1_0 _ _ upd_same), ⟨.inl ⟨rfl, gn_a⟩, w_1 (by decide), w_1 (by decide), du_1, ho_b (x := .non) (bs_1 (c_q3_1_0_4 _ _ upd_same) (hh_l (c_q3_1_0_4_0 _ _ upd_same) gn_b (by decide) (by decide) bl_bl))⟩⟩
    refine ⟨_, rfl, a30, rfl, ⟨_, SqL.of upd_same⟩, fun D nD => lc_it (walk_list (K := K) (a := a30) (xs := (([.ref q1_0, .ref q1_1] ++ [.ref q2_0, .ref q2_1, .ref q2_2]) ++ [.ref q3_0, .ref q3_1]))) (fun i H' => Same (upd _ a30 (.lst (([.ref q1_0, .ref q1_1] ++ [.ref q2_0, .ref q2_1, .ref q2_2]) ++ [.ref q3_0, .ref q3_1]))) H' ∧ H' D = some (.lst ((List.replicate i true).map V.bl))) ⟨same_upd nD, upd_same⟩ (fun i H' _ z => SqL.of (z.1 _ _ upd_same)) ?_ ?_⟩
    · rintro i x H1' H1 hi ⟨s1, eD⟩ ⟨rfl, hx⟩
      have hw : TwinOk K H1 x := by
        have hm := List.mem_of_getElem? hx
        simp only [List.cons_append, List.nil_append, List.mem_cons, List.not_mem_nil, or_false] at hm
        rcases hm with rfl | rfl | rfl | rfl | rfl | rfl | rfl
        · exact w0.same s1
        · exact w1.same s1
        · exact w2.same s1
        · exact w3.same s1
        · exact w4.same s1
        · exact w5.same s1
        · exact w6.same s1
      obtain ⟨t, l, x0, x1, x2, x3, x4, b0, b1, b2, b3, b4, rfl, et, el, AV⟩ := hw
      refine ⟨t, _, rfl, SqT.of et, rfl, _, _, rfl, _, _, rfl, rfl, rfl, ?_⟩
      refine ⟨_, rfl, l, x0, x1, x2, x3, x4, b0, b1, b2, b3, b4, false, rfl, el, AV, fun H3 s3 => ⟨_, rfl, rfl, _, rfl, ?_⟩⟩
      rw [decide_eq_true rfl]
      refine iteT ⟨_, rfl, l, x0, x1, x2, x3, x4, b0, b1, b2, b3, b4, true, rfl, s3 _ _ el, AV.kp (.of_same s3), fun H4 s4 => ⟨_, rfl, rfl, _, s4 _ _ (s3 _ _ eD), ?_, same_upd2 (s1.trans (s3.trans s4)) nD, ?_⟩⟩
      · rw [List.length_map, List.length_replicate]
        exact Nat.lt_of_lt_of_le hi (by show 7 ≤ sizeLine; decide)
      · rw [upd_same, decide_eq_true rfl, List.replicate_succ', List.map_append]
        rfl
    · rintro H1 ⟨s1, eD⟩
      refine ⟨D, _, rfl, SqL.of eD, ?_⟩
      have z : (List.replicate 7 true).all id = true := rfl
      show Q (.bl ((List.replicate 7 true).all id)) H1
      rw [z]
      exact q H1 (bb.trans s1)
end
end Du

set_option Elab.async false
set_option linter.all false
set_option maxRecDepth 100000
namespace Du
open PySem L2
abbrev sLaw : Stmt := topS 47
section
variable {P : Program} {w : World} {K : PySem.W.Frag} {mg : Str → Option Value} {base : Heap}
abbrev nLaw : List Str := ["_law_script", "_law_k", "_law_purse_here", "_law_drawn_here", "_law_turn", "_law_things", "_law_term"]
theorem scLaw : FnScope nLaw ["_law_script"] (defScope sLaw) := ⟨rfl, rfl, rfl, by decide +kernel, rfl, by decide +kernel, by decide +kernel⟩
def spLaw (K : PySem.W.Frag) : Sp := fun vs H Q _ => ∃ (a : Addr) (ns : List Int), vs = [.ref a] ∧ SqL K H a (ns.map V.int) ∧ ∀ H', Q (.bl true) H'
theorem decV' (x : V) : decide (x = x) = true := decide_eq_true rfl
set_option maxHeartbeats 2000000 in
theorem ok_law {f : Addr} {fd : FuncData} (F : Fun K "law" "law" sLaw f fd) (mr : mg "range" = none) (mx : mg "max" = none) (mn : mg "min" = none) (ml : mg "len" = none)
    (DC : Dn P w K mg base 3 "_law_cell" ["_law_script", "_law_k"] (spCellL K)) (DP : Dn P w K mg base 3 "_law_purse" ["_law_cell_here"] spPurse) (DT : Dn P w K mg base 3 "_law_take" ["_law_purse_here", "_law_many"] spTake)
    (DD : Dn P w K mg base 5 "_law_drawn" ["_law_purse_here"] (spDrawn K)) (DTo : Dn P w K mg base 8 "_law_told" ["_law_things", "_law_by_name"] (spTold K)) (DPu : Dn P w K mg base 9 "_law_put_otherwise" ["_law_purse_here", "_law_drawn_here"] (spPut K)) (DTw : Dn P w K mg base 9 "_law_twins_right" [] spTwins) :
    LawOk P w K mg base f fd "_law_script" (spLaw K) := by
  obtain ⟨oc, od, kV, doc, pm, an, cdv, ct, osl, rfl, lk, hcd⟩ := F.ex
  intro s H u v Q env0 hb rv hsp
  obtain ⟨a, ns, hv, hS, q⟩ := hsp
  have hr8 : Room 10 callerA := ⟨rfl, by decide, by decide⟩
  refine fn_at (k := 9) (ps := ["_law_script"]) (us := [u]) (vs := [v]) lk hcd scLaw hr8 env0 hb (.cons rv .nil) rfl ?_
  cases hv
  have hr : Room 9 (callerA.deeper (PyProof.Rows.envOfC "law" (defScope sLaw) s.heap.objs.size f cdv)) := hr8.deeper _
  have hr1 : Room 3 _ := hr.mono (by decide)
  have hr3 : Room 5 _ := hr.mono (by decide)
  have hr6 : Room 8 _ := hr.mono (by decide)
  refine ⟨_, (pss_cons (ps_if (pt_not (pt_val (pcall0 DTw hr (by rfl)))) pss_never pss_nil) (pss_cons (ps_for PassesOwn.never rfl (pi_range1 (by rfl) mr (pa_cons (pe_callB (call_max2 rfl) (by rfl) mx (by decide +kernel) (pa_cons pe_int (pa_cons (pe_callB (call_min2 rfl) (by rfl) mn (by decide +kernel) (pa_cons pe_int (pa_cons (pe_callB call_len_seq (by rfl) ml (by decide +kernel) (pa_cons (pv 0) pa_nil)) pa_nil))) pa_nil))) pa_nil)) (pg_name (i := 1) scLaw.nd rfl (.inl rfl))
        (pss_cons (ps_set (i := 2) scLaw.nd rfl (.inl rfl) (pcall DP hr1 (by rfl) (pa_cons (pcall DC hr1 (by rfl) (pa_cons (pv 0) (pa_cons (pv 1) pa_nil))) pa_nil))) (pss_cons (ps_set (i := 3) scLaw.nd rfl (.inl rfl) (pcall DD hr3 (by rfl) (pa_cons (pv 2) pa_nil))) (pss_one (ps_for PassesOwn.never rfl (pi_range1 (by rfl) mr (pa_cons pe_int pa_nil)) (pg_name (i := 4) scLaw.nd rfl (.inl rfl))
            (pss_cons (ps_asg (pcall DPu hr (by rfl) (pa_cons (pv 2) (pa_cons (pv 3) pa_nil))) (pg_tup rfl (pgs_cons (pg_name (i := 5) scLaw.nd rfl (.inl rfl)) (pgs_cons (pg_name (i := 6) scLaw.nd rfl (.inl rfl)) pgs_nil)))) (pss_one (ps_if (pt_cmpR op_ne (pcall DTo hr6 (by rfl) (pa_cons (pv 5) (pa_cons (pe_cmpR op_eq (pcall DT hr1 (by rfl) (pa_cons (pv 2) (pa_cons pe_int pa_nil))) pe_int (nomark _)) pa_nil))) (pv 6) (nomark _)) pss_never pss_nil)))))))) (pss_one (ps_ret pe_bl)))), ?_⟩
  refine ⟨rfl, fun H1 s1 => ⟨_, rfl, iteF ?_⟩⟩
  obtain ⟨M, hM, h3, h12⟩ : ∃ M : Int, (if (if (((ns.map V.int).length : Nat) : Int) < 12 then (((ns.map V.int).length : Nat) : Int) else 12) > 3 then (if (((ns.map V.int).length : Nat) : Int) < 12 then (((ns.map V.int).length : Nat) : Int) else 12) else 3) = M ∧ 3 ≤ M ∧ M ≤ 12 :=
    ⟨_, rfl, by repeat (first | omega | split), by repeat (first | omega | split)⟩
  refine ⟨_, rfl, a, _, rfl, .inl (hS.ext s1), 12, _, rfl, 3, _, rfl, ?_⟩
  rw [hM]
  refine ⟨M, rfl, by omega, by omega, for_range (lo := 0) (n := M.toNat) (fun i σ H' => ∃ v1 v2 v3 v4 v5 v6 : Option V, σ = [some (.ref a), v1, v2, v3, v4, v5, v6] ∧ Same H H') ⟨none, none, none, none, none, none, rfl, s1⟩ ?_ ?_⟩
  · rintro i σ H2 hi ⟨v1, v2, v3, v4, v5, v6, rfl, s2⟩
    have hi64 : i < 64 := by omega
    refine ⟨_, rfl, _, rfl, a, ns, i, by rw [Int.zero_add]; rfl, hS.ext s2, hi64, fun n H3 s3 => ⟨n, rfl, fun p H4 s4 np hp => ?_⟩⟩
    have s24 : Same H H4 := (s2.trans s3).trans s4
    have npH : H p = none := (s2.trans s3).free np
    -- the values
    refine ⟨_, rfl, p, rfl, hp, fun d t tv od H5 t5 nd D => ?_⟩
    -- put otherwise
    refine ⟨6, rfl, by decide, by decide, for_range (lo := 0) (n := 6) (fun j σ H' => ∃ v4 v5 v6 : Option V, σ = [some (.ref a), some (.int (0 + (i : Int))), some (.ref p), some (.ref d), v4, v5, v6] ∧ Step p H4 H' ∧ DrawnAt K H' d t tv od) ⟨_, _, _, rfl, t5, D⟩ ?_ ?_⟩
    · rintro j σ H9 hj ⟨v4, v5, v6, rfl, t9, D9⟩
      refine ⟨_, rfl, _, rfl, p, d, t, tv, od, rfl, t9.purse, D9, fun tt Th y0 y1 y2 y3 y4 b0 b1 b2 b3 b4 HA tA nT et eT AV => ?_⟩
      refine ⟨tt, _, rfl, SqT.of et, rfl, _, _, rfl, _, _, rfl, rfl, ?_⟩
      refine ⟨_, rfl, _, rfl, p, 2, rfl, by decide, by decide, tA.purse, fun way HB _ _ tB => ?_⟩
      have dT : Th ≠ p := t9.purse.ne nT
      refine ⟨rfl, Th, y0, y1, y2, y3, y4, b0, b1, b2, b3, b4, _, rfl, tB.keep _ _ dT eT, AV.kp (.of_step tA.purse tB), fun HC sC => ⟨_, rfl, rfl, _, rfl, ?_⟩⟩
      rw [decV']
      refine ⟨_, _, _, rfl, ((t9.trans tA).trans tB).trans (Step.of_same tB.purse sC), (((D9.step t9.purse tA).step tA.purse tB).same sC)⟩
    · rintro σ H9 ⟨v4, v5, v6, rfl, t9, D9⟩
      exact ⟨_, _, _, _, _, _, rfl, fun b o e => t9.keep b o (ne_of_none e npH) (s24 _ _ e)⟩
  · rintro σ H2 ⟨v1, v2, v3, v4, v5, v6, rfl, s2⟩
    exact q H2
end
end Du

set_option Elab.async false
set_option linter.all false
set_option maxRecDepth 100000
namespace Du
open PySem L2
theorem kit_self {K : PySem.W.Frag} {C : Addr} : PySem.W.kitOne K (.ref C) (.ref C) = some true := by
  unfold PySem.W.kitOne
  simp
theorem exm_of {K : PySem.W.Frag} {C c : Addr} {b : Bool} (h1 : PySem.W.subIn K (.ref c) (.type "BaseException") = some true) (h2 : PySem.W.hasDictIn K c = true) (h3 : PySem.W.typeIn K (.ref c) = some (.type "type")) (h4 : PySem.W.subIn K (.ref C) (.ref c) = some b) : PySem.W.exmOne K (.ref C) (.ref c) = some b := by
  obtain ⟨cd, hc, _⟩ := PySem.W.any_some h2
  unfold PySem.W.exmOne PySem.W.kitCls
  rw [h1]
  show (if ((PySem.W.clsIn K c).isSome && PySem.W.typeIn K (.ref c) == some (.type "type")) = true then PySem.W.subIn K (.ref C) (.ref c) else none) = some b
  rw [hc, h3, h4]
  rfl
theorem exm2 {K : PySem.W.Frag} {t c1 c2 : Value} {b1 b2 : Bool} (h1 : PySem.W.exmOne K t c1 = some b1) (h2 : PySem.W.exmOne K t c2 = some b2) : PySem.W.exmAny K t [c1, c2] = some (b1 || b2) := by
  unfold PySem.W.exmAny PySem.W.exmAny PySem.W.exmAny
  rw [h1, h2]
  cases b1 <;> cases b2 <;> rfl
theorem exm3 {K : PySem.W.Frag} {t c1 c2 c3 : Value} {b1 b2 b3 : Bool} (h1 : PySem.W.exmOne K t c1 = some b1) (h2 : PySem.W.exmOne K t c2 = some b2) (h3 : PySem.W.exmOne K t c3 = some b3) : PySem.W.exmAny K t [c1, c2, c3] = some (b1 || b2 || b3) := by
  unfold PySem.W.exmAny PySem.W.exmAny PySem.W.exmAny PySem.W.exmAny
  rw [h1, h2, h3]
  cases b1 <;> cases b2 <;> cases b3 <;> rfl
set_option maxHeartbeats 4000000 in
theorem all_mk {l : PySem.W.OpenLaw} {w : World} {K : PySem.W.Frag} {h : Heap} {mg : Str → Option Value} {fa : Addr} (X : K.In h) (G : h.Ns mainGlobals mg) (hfa : mg "law" = some (.ref fa))
    {fNu fWT fWD fWh fNm fHd fAh fHs fCe fPu fTa fWo fHo fDr fOn fOw fOh fSo fTo fPt fTw fLa CT fIn DI e0 CD fId CE fx_ x_N x_cda x_cc cB cD cC cN cX cG cW cZ cR cP cM cO cL cF : Addr}
    {odNu anNu odWT anWT odWD anWD odWh anWh odNm anNm odHd anHd odAh anAh odHs anHs odCe anCe odPu anPu odTa anTa odWo anWo odHo anHo odDr anDr odOn anOn odOw anOw odOh anOh odSo anSo odTo anTo odPt anPt odTw anTw odLa anLa odIn anIn od0 odId anId x_dd x_od x_an_ x_cdd x_cld : Option Addr}
    {slNu slWT slWD slWh slNm slHd slAh slHs slCe slPu slTa slWo slHo slDr slOn slOw slOh slSo slTo slPt slTw slLa slIn sl0 slId x_osl x_ccs x_csl : Array (Option Value)}
    {ocNu dcNu pmNu cdNu ctNu kVNu ocWT dcWT pmWT cdWT ctWT kVWT ocWD dcWD pmWD cdWD ctWD kVWD ocWh dcWh pmWh cdWh ctWh kVWh ocNm dcNm pmNm cdNm ctNm kVNm ocHd dcHd pmHd cdHd ctHd kVHd ocAh dcAh pmAh cdAh ctAh kVAh ocHs dcHs pmHs cdHs ctHs kVHs ocCe dcCe pmCe cdCe ctCe kVCe ocPu dcPu pmPu cdPu ctPu kVPu ocTa dcTa pmTa cdTa ctTa kVTa ocWo dcWo pmWo cdWo ctWo kVWo ocHo dcHo pmHo cdHo ctHo kVHo ocDr dcDr pmDr cdDr ctDr kVDr ocOn dcOn pmOn cdOn ctOn kVOn ocOw dcOw pmOw cdOw ctOw kVOw ocOh dcOh pmOh cdOh ctOh kVOh ocSo dcSo pmSo cdSo ctSo kVSo ocTo dcTo pmTo cdTo ctTo kVTo ocPt dcPt pmPt cdPt ctPt kVPt ocTw dcTw pmTw cdTw ctTw kVTw ocLa dcLa pmLa cdLa ctLa kVLa ocIn dcIn pmIn cdIn ctIn ocId dcId pmId cdId ctId kVId x_oc x_doc x_pm x_ct x_ccl x_cl2 : Value}
    {n0 : Nat}
    {w1 w2 w3 w4 w5 x_tf : Tok}
    {x_nm x_q x_file : Str}
    {x_bs x_bm x_sub : List Value}
    {x_sn : List Str}
    {x_ab : Bool}
    {x_col : Option Bool}
    {x_k0 x_k1 x_k2 x_k3 x_k5 : Option Value}
    {x_vs_ : Array Value}
    (aNu : PySem.W.nsIn K mainGlobals "is_number" = some (some (.ref fNu)))
    (lNu : K.lookup fNu = some ⟨ocNu, odNu, .func (PySem.W.fnOf "is_number" "is_number" (defArgs sNumber) (defBody sNumber) (defScope sNumber) .none kVNu dcNu pmNu anNu cdNu ctNu), slNu⟩)
    (cNu : PySem.W.codeIn K cdNu "is_number" = true)
    (kNu : PySem.W.keepIn K (.ref fNu) = true)
    (aWT : PySem.W.nsIn K mainGlobals "wrong_in_task" = some (some (.ref fWT)))
    (lWT : K.lookup fWT = some ⟨ocWT, odWT, .func (PySem.W.fnOf "wrong_in_task" "wrong_in_task" (defArgs sWrongT) (defBody sWrongT) (defScope sWrongT) .none kVWT dcWT pmWT anWT cdWT ctWT), slWT⟩)
    (cWT : PySem.W.codeIn K cdWT "wrong_in_task" = true)
    (kWT : PySem.W.keepIn K (.ref fWT) = true)
    (aWD : PySem.W.nsIn K mainGlobals "wrong_in_door" = some (some (.ref fWD)))
    (lWD : K.lookup fWD = some ⟨ocWD, odWD, .func (PySem.W.fnOf "wrong_in_door" "wrong_in_door" (defArgs sWrongD) (defBody sWrongD) (defScope sWrongD) .none kVWD dcWD pmWD anWD cdWD ctWD), slWD⟩)
    (cWD : PySem.W.codeIn K cdWD "wrong_in_door" = true)
    (kWD : PySem.W.keepIn K (.ref fWD) = true)
    (aWh : PySem.W.nsIn K mainGlobals "is_whole" = some (some (.ref fWh)))
    (lWh : K.lookup fWh = some ⟨ocWh, odWh, .func (PySem.W.fnOf "is_whole" "is_whole" (defArgs sWhole) (defBody sWhole) (defScope sWhole) .none kVWh dcWh pmWh anWh cdWh ctWh), slWh⟩)
    (cWh : PySem.W.codeIn K cdWh "is_whole" = true)
    (kWh : PySem.W.keepIn K (.ref fWh) = true)
    (aNm : PySem.W.nsIn K mainGlobals "is_name" = some (some (.ref fNm)))
    (lNm : K.lookup fNm = some ⟨ocNm, odNm, .func (PySem.W.fnOf "is_name" "is_name" (defArgs sName) (defBody sName) (defScope sName) .none kVNm dcNm pmNm anNm cdNm ctNm), slNm⟩)
    (cNm : PySem.W.codeIn K cdNm "is_name" = true)
    (kNm : PySem.W.keepIn K (.ref fNm) = true)
    (aHd : PySem.W.nsIn K mainGlobals "is_hold" = some (some (.ref fHd)))
    (lHd : K.lookup fHd = some ⟨ocHd, odHd, .func (PySem.W.fnOf "is_hold" "is_hold" (defArgs sHold) (defBody sHold) (defScope sHold) .none kVHd dcHd pmHd anHd cdHd ctHd), slHd⟩)
    (cHd : PySem.W.codeIn K cdHd "is_hold" = true)
    (kHd : PySem.W.keepIn K (.ref fHd) = true)
    (aAh : PySem.W.nsIn K mainGlobals "goes_ahead" = some (some (.ref fAh)))
    (lAh : K.lookup fAh = some ⟨ocAh, odAh, .func (PySem.W.fnOf "goes_ahead" "goes_ahead" (defArgs sAhead) (defBody sAhead) (defScope sAhead) .none kVAh dcAh pmAh anAh cdAh ctAh), slAh⟩)
    (cAh : PySem.W.codeIn K cdAh "goes_ahead" = true)
    (kAh : PySem.W.keepIn K (.ref fAh) = true)
    (aHs : PySem.W.nsIn K mainGlobals "are_holds" = some (some (.ref fHs)))
    (lHs : K.lookup fHs = some ⟨ocHs, odHs, .func (PySem.W.fnOf "are_holds" "are_holds" (defArgs sHolds) (defBody sHolds) (defScope sHolds) .none kVHs dcHs pmHs anHs cdHs ctHs), slHs⟩)
    (cHs : PySem.W.codeIn K cdHs "are_holds" = true)
    (kHs : PySem.W.keepIn K (.ref fHs) = true)
    (aCe : PySem.W.nsIn K mainGlobals "_law_cell" = some (some (.ref fCe)))
    (lCe : K.lookup fCe = some ⟨ocCe, odCe, .func (PySem.W.fnOf "_law_cell" "_law_cell" (defArgs sCell) (defBody sCell) (defScope sCell) .none kVCe dcCe pmCe anCe cdCe ctCe), slCe⟩)
    (cCe : PySem.W.codeIn K cdCe "_law_cell" = true)
    (kCe : PySem.W.keepIn K (.ref fCe) = true)
    (aPu : PySem.W.nsIn K mainGlobals "_law_purse" = some (some (.ref fPu)))
    (lPu : K.lookup fPu = some ⟨ocPu, odPu, .func (PySem.W.fnOf "_law_purse" "_law_purse" (defArgs sPurse) (defBody sPurse) (defScope sPurse) .none kVPu dcPu pmPu anPu cdPu ctPu), slPu⟩)
    (cPu : PySem.W.codeIn K cdPu "_law_purse" = true)
    (kPu : PySem.W.keepIn K (.ref fPu) = true)
    (aTa : PySem.W.nsIn K mainGlobals "_law_take" = some (some (.ref fTa)))
    (lTa : K.lookup fTa = some ⟨ocTa, odTa, .func (PySem.W.fnOf "_law_take" "_law_take" (defArgs sTake) (defBody sTake) (defScope sTake) .none kVTa dcTa pmTa anTa cdTa ctTa), slTa⟩)
    (cTa : PySem.W.codeIn K cdTa "_law_take" = true)
    (kTa : PySem.W.keepIn K (.ref fTa) = true)
    (aWo : PySem.W.nsIn K mainGlobals "_law_words" = some (some (.ref fWo)))
    (lWo : K.lookup fWo = some ⟨ocWo, odWo, .func (PySem.W.fnOf "_law_words" "_law_words" (defArgs sWords) (defBody sWords) (defScope sWords) .none kVWo dcWo pmWo anWo cdWo ctWo), slWo⟩)
    (cWo : PySem.W.codeIn K cdWo "_law_words" = true)
    (kWo : PySem.W.keepIn K (.ref fWo) = true)
    (aHo : PySem.W.nsIn K mainGlobals "_law_holds" = some (some (.ref fHo)))
    (lHo : K.lookup fHo = some ⟨ocHo, odHo, .func (PySem.W.fnOf "_law_holds" "_law_holds" (defArgs sHoldsL) (defBody sHoldsL) (defScope sHoldsL) .none kVHo dcHo pmHo anHo cdHo ctHo), slHo⟩)
    (cHo : PySem.W.codeIn K cdHo "_law_holds" = true)
    (kHo : PySem.W.keepIn K (.ref fHo) = true)
    (aDr : PySem.W.nsIn K mainGlobals "_law_drawn" = some (some (.ref fDr)))
    (lDr : K.lookup fDr = some ⟨ocDr, odDr, .func (PySem.W.fnOf "_law_drawn" "_law_drawn" (defArgs sDrawn) (defBody sDrawn) (defScope sDrawn) .none kVDr dcDr pmDr anDr cdDr ctDr), slDr⟩)
    (cDr : PySem.W.codeIn K cdDr "_law_drawn" = true)
    (kDr : PySem.W.keepIn K (.ref fDr) = true)
    (aOn : PySem.W.nsIn K mainGlobals "_law_odd_names" = some (some (.ref fOn)))
    (lOn : K.lookup fOn = some ⟨ocOn, odOn, .func (PySem.W.fnOf "_law_odd_names" "_law_odd_names" (defArgs sOddN) (defBody sOddN) (defScope sOddN) .none kVOn dcOn pmOn anOn cdOn ctOn), slOn⟩)
    (cOn : PySem.W.codeIn K cdOn "_law_odd_names" = true)
    (kOn : PySem.W.keepIn K (.ref fOn) = true)
    (aOw : PySem.W.nsIn K mainGlobals "_law_odd_numbers" = some (some (.ref fOw)))
    (lOw : K.lookup fOw = some ⟨ocOw, odOw, .func (PySem.W.fnOf "_law_odd_numbers" "_law_odd_numbers" (defArgs sOddW) (defBody sOddW) (defScope sOddW) .none kVOw dcOw pmOw anOw cdOw ctOw), slOw⟩)
    (cOw : PySem.W.codeIn K cdOw "_law_odd_numbers" = true)
    (kOw : PySem.W.keepIn K (.ref fOw) = true)
    (aOh : PySem.W.nsIn K mainGlobals "_law_odd_holds" = some (some (.ref fOh)))
    (lOh : K.lookup fOh = some ⟨ocOh, odOh, .func (PySem.W.fnOf "_law_odd_holds" "_law_odd_holds" (defArgs sOddH) (defBody sOddH) (defScope sOddH) .none kVOh dcOh pmOh anOh cdOh ctOh), slOh⟩)
    (cOh : PySem.W.codeIn K cdOh "_law_odd_holds" = true)
    (kOh : PySem.W.keepIn K (.ref fOh) = true)
    (aSo : PySem.W.nsIn K mainGlobals "_law_sort" = some (some (.ref fSo)))
    (lSo : K.lookup fSo = some ⟨ocSo, odSo, .func (PySem.W.fnOf "_law_sort" "_law_sort" (defArgs sSort) (defBody sSort) (defScope sSort) .none kVSo dcSo pmSo anSo cdSo ctSo), slSo⟩)
    (cSo : PySem.W.codeIn K cdSo "_law_sort" = true)
    (kSo : PySem.W.keepIn K (.ref fSo) = true)
    (aTo : PySem.W.nsIn K mainGlobals "_law_told" = some (some (.ref fTo)))
    (lTo : K.lookup fTo = some ⟨ocTo, odTo, .func (PySem.W.fnOf "_law_told" "_law_told" (defArgs sTold) (defBody sTold) (defScope sTold) .none kVTo dcTo pmTo anTo cdTo ctTo), slTo⟩)
    (cTo : PySem.W.codeIn K cdTo "_law_told" = true)
    (kTo : PySem.W.keepIn K (.ref fTo) = true)
    (aPt : PySem.W.nsIn K mainGlobals "_law_put_otherwise" = some (some (.ref fPt)))
    (lPt : K.lookup fPt = some ⟨ocPt, odPt, .func (PySem.W.fnOf "_law_put_otherwise" "_law_put_otherwise" (defArgs sPut) (defBody sPut) (defScope sPut) .none kVPt dcPt pmPt anPt cdPt ctPt), slPt⟩)
    (cPt : PySem.W.codeIn K cdPt "_law_put_otherwise" = true)
    (kPt : PySem.W.keepIn K (.ref fPt) = true)
    (aTw : PySem.W.nsIn K mainGlobals "_law_twins_right" = some (some (.ref fTw)))
    (lTw : K.lookup fTw = some ⟨ocTw, odTw, .func (PySem.W.fnOf "_law_twins_right" "_law_twins_right" (defArgs sTwins) (defBody sTwins) (defScope sTwins) .none kVTw dcTw pmTw anTw cdTw ctTw), slTw⟩)
    (cTw : PySem.W.codeIn K cdTw "_law_twins_right" = true)
    (kTw : PySem.W.keepIn K (.ref fTw) = true)
    (aLa : PySem.W.nsIn K mainGlobals "law" = some (some (.ref fLa)))
    (lLa : K.lookup fLa = some ⟨ocLa, odLa, .func (PySem.W.fnOf "law" "law" (defArgs sLaw) (defBody sLaw) (defScope sLaw) .none kVLa dcLa pmLa anLa cdLa ctLa), slLa⟩)
    (cLa : PySem.W.codeIn K cdLa "law" = true)
    (kLa : PySem.W.keepIn K (.ref fLa) = true)
    (tg : PySem.W.specialIn K (.builtin "object.__class__") "__get__" = some (some (.builtin "getset_descriptor.__get__")))
    (tt : PySem.W.takesIn K (.builtin "object.__class__") = some true)
    (at_ : PySem.W.nsIn K mainGlobals "Task" = some (some (.ref CT)))
    (t_pg : PySem.W.plainGet K CT Str.empty = true)
    (t_hd : PySem.W.hasDictIn K CT = true)
    (t_po : PySem.W.plainOver K CT = true)
    (t_sa : PySem.W.findIn K (.ref CT) "__setattr__" = some (some (.builtin "object.__setattr__")))
    (t_mk : PySem.W.makesIn K CT = true)
    (t_kc : PySem.W.keepIn K (.ref CT) = true)
    (t_nN : PySem.W.findIn K (.ref CT) "name" = some none)
    (t_nC : PySem.W.findIn K (.ref CT) "cost" = some none)
    (t_nG : PySem.W.findIn K (.ref CT) "gap" = some none)
    (t_nD : PySem.W.findIn K (.ref CT) "due" = some none)
    (t_nH : PySem.W.findIn K (.ref CT) "holds" = some none)
    (t_tc : PySem.W.findIn K (.ref CT) "__class__" = some (some (.builtin "object.__class__")))
    (t_tm : PySem.W.mroIn K CT (.type "object") = some true)
    (t_kstr : PySem.W.kitOne K (.ref CT) (.type "str") = some false)
    (t_kint : PySem.W.kitOne K (.ref CT) (.type "int") = some false)
    (t_ktuple : PySem.W.kitOne K (.ref CT) (.type "tuple") = some false)
    (aIn : PySem.W.findIn K (.ref CT) "__init__" = some (some (.ref fIn)))
    (lIn : K.lookup fIn = some ⟨ocIn, odIn, .func (PySem.W.fnOf "__init__" "Task.__init__" (defArgs sInit) (defBody sInit) (defScope sInit) .none (.ref DI) dcIn pmIn anIn cdIn ctIn), slIn⟩)
    (cIn : PySem.W.codeIn K cdIn "Task.__init__" = true)
    (kIn : PySem.W.keepIn K (.ref fIn) = true)
    (iIn : PySem.W.isFn K (.ref fIn) = true)
    (q1 : PySem.W.nsIn K DI "due" = some (some .none))
    (q2 : PySem.W.nsIn K DI "holds" = some (some (.ref e0)))
    (q3 : K.lookup e0 = some ⟨.type "tuple", od0, .seq #[] n0, sl0⟩)
    (ad_ : PySem.W.nsIn K mainGlobals "Door" = some (some (.ref CD)))
    (d_pg : PySem.W.plainGet K CD Str.empty = true)
    (d_hd : PySem.W.hasDictIn K CD = true)
    (d_po : PySem.W.plainOver K CD = true)
    (d_sa : PySem.W.findIn K (.ref CD) "__setattr__" = some (some (.builtin "object.__setattr__")))
    (d_mk : PySem.W.makesIn K CD = true)
    (d_kc : PySem.W.keepIn K (.ref CD) = true)
    (d_nN : PySem.W.findIn K (.ref CD) "name" = some none)
    (d_nR : PySem.W.findIn K (.ref CD) "room" = some none)
    (d_nG : PySem.W.findIn K (.ref CD) "gap" = some none)
    (d_tc : PySem.W.findIn K (.ref CD) "__class__" = some (some (.builtin "object.__class__")))
    (d_tm : PySem.W.mroIn K CD (.type "object") = some true)
    (d_kstr : PySem.W.kitOne K (.ref CD) (.type "str") = some false)
    (aId : PySem.W.findIn K (.ref CD) "__init__" = some (some (.ref fId)))
    (lId : K.lookup fId = some ⟨ocId, odId, .func (PySem.W.fnOf "__init__" "Door.__init__" (defArgs sDInit) (defBody sDInit) (defScope sDInit) .none kVId dcId pmId anId cdId ctId), slId⟩)
    (cId : PySem.W.codeIn K cdId "Door.__init__" = true)
    (kId : PySem.W.keepIn K (.ref fId) = true)
    (iId : PySem.W.isFn K (.ref fId) = true)
    (v1 : PySem.W.nsIn K mainGlobals "LETTERS" = some (some (.str "abcdefghijklmnopqrstuvwxyz" w1)))
    (v2 : PySem.W.nsIn K mainGlobals "MOST_LETTERS" = some (some (.int 8 w2)))
    (v3 : PySem.W.nsIn K mainGlobals "MOST_COST" = some (some (.int 99 w3)))
    (v4 : PySem.W.nsIn K mainGlobals "MOST_GAP" = some (some (.int 600 w4)))
    (v5 : PySem.W.nsIn K mainGlobals "MOST_HOLDS" = some (some (.int 4 w5)))
    (e_CE : PySem.W.nsIn K mainGlobals "NoTask" = some (some (.ref CE)))
    (x_iC : PySem.W.findIn K (.ref CE) "__init__" = some (some (.ref fx_)))
    (x_cl : K.lookup CE = some (PySem.excClassObj x_nm x_q CE x_N x_bs x_bm true x_sn x_sub x_ab x_col x_dd x_k0 x_k1 x_k2 x_k3 x_k5 "ValueError.__new__"))
    (x_ve : PySem.HandSPX.refsVE x_bm = true)
    (x_sa : PySem.W.findIn K (.ref CE) "__setattr__" = some (some (.builtin "object.__setattr__")))
    (x_ga : PySem.W.findIn K (.ref CE) "__getattribute__" = some (some (.builtin "BaseException.__getattribute__")))
    (x_gg : PySem.W.findIn K (.ref CE) "__getattr__" = some none)
    (x_no : PySem.W.findIn K (.ref CE) "part" = some none)
    (x_tC : PySem.W.typeIn K (.ref fx_) = some (.type "function"))
    (x_kC : PySem.W.keepIn K (.ref CE) = true)
    (x_ex : PySem.W.subIn K (.ref CE) (.type "BaseException") = some true)
    (x_vs : PySem.W.subIn K (.ref CE) (.type "ValueError") = some true)
    (x_ty : PySem.W.typeIn K (.ref CE) = some (.type "type"))
    (x_hd : PySem.W.hasDictIn K CE = true)
    (x_mr : PySem.W.mroIn K CE (.ref CE) = some true)
    (x_su : PySem.W.ks_superIn K CE CE "__init__" = some (some (.builtin "ValueError.__init__")))
    (x_an : PySem.W.nsIn K cStatics "thirdparty.any" = some none)
    (x_tp : (l.prog.main.scope.names.lookup ("super" : Str)).isSome = false)
    (x_fn : K.lookup fx_ = some ⟨x_oc, x_od, .func (PySem.W.ksFn "__init__" "NoTask.__init__" (defArgs sNoTask) (defBody sNoTask) (defScope sNoTask) .none .none x_doc x_pm x_an_ (.ref x_cda) x_ct x_cc), x_osl⟩)
    (x_co : PySem.W.codeIn K (.ref x_cda) "NoTask.__init__" = true)
    (x_cd : K.lookup x_cda = some ⟨x_ccl, x_cdd, .fields x_vs_, x_ccs⟩)
    (x_v2 : x_vs_[2]? = some (.str x_file x_tf))
    (x_fi : ((l.prog.main.file : Str) == x_file) = true)
    (x_ce : K.lookup x_cc = some ⟨x_cl2, x_cld, .cell (some (.ref CE)), x_csl⟩)
    (x_tc : PySem.W.findIn K (.ref CE) "__class__" = some (some (.builtin "object.__class__")))
    (x_tm : PySem.W.mroIn K CE (.type "object") = some true)
    (e_cB : PySem.W.nsIn K mainGlobals "TimeError" = some (some (.ref cB)))
    (e_cD : PySem.W.nsIn K mainGlobals "NoDoor" = some (some (.ref cD)))
    (k_cD : PySem.W.kitOne K (.ref CE) (.ref cD) = some false)
    (e_cC : PySem.W.nsIn K mainGlobals "NoCrew" = some (some (.ref cC)))
    (k_cC : PySem.W.kitOne K (.ref CE) (.ref cC) = some false)
    (e_cN : PySem.W.nsIn K mainGlobals "NoNumber" = some (some (.ref cN)))
    (k_cN : PySem.W.kitOne K (.ref CE) (.ref cN) = some false)
    (e_cX : PySem.W.nsIn K mainGlobals "NoText" = some (some (.ref cX)))
    (k_cX : PySem.W.kitOne K (.ref CE) (.ref cX) = some false)
    (e_cG : PySem.W.nsIn K mainGlobals "NoComings" = some (some (.ref cG)))
    (k_cG : PySem.W.kitOne K (.ref CE) (.ref cG) = some false)
    (e_cW : PySem.W.nsIn K mainGlobals "NoWorks" = some (some (.ref cW)))
    (k_cW : PySem.W.kitOne K (.ref CE) (.ref cW) = some false)
    (e_cZ : PySem.W.nsIn K mainGlobals "NoDeeds" = some (some (.ref cZ)))
    (k_cZ : PySem.W.kitOne K (.ref CE) (.ref cZ) = some false)
    (e_cR : PySem.W.nsIn K mainGlobals "NoRun" = some (some (.ref cR)))
    (k_cR : PySem.W.kitOne K (.ref CE) (.ref cR) = some false)
    (e_cP : PySem.W.nsIn K mainGlobals "NoPlain" = some (some (.ref cP)))
    (k_cP : PySem.W.kitOne K (.ref CE) (.ref cP) = some false)
    (e_cM : PySem.W.nsIn K mainGlobals "NoMember" = some (some (.ref cM)))
    (k_cM : PySem.W.kitOne K (.ref CE) (.ref cM) = some false)
    (e_cO : PySem.W.nsIn K mainGlobals "NoRow" = some (some (.ref cO)))
    (k_cO : PySem.W.kitOne K (.ref CE) (.ref cO) = some false)
    (e_cL : PySem.W.nsIn K mainGlobals "LostError" = some (some (.ref cL)))
    (k_cL : PySem.W.kitOne K (.ref CE) (.ref cL) = some false)
    (e_cF : PySem.W.nsIn K mainGlobals "FullError" = some (some (.ref cF)))
    (k_cF : PySem.W.kitOne K (.ref CE) (.ref cF) = some false)
    (s_K : PySem.W.kitOne K (.ref CE) (.type "LookupError") = some false)
    (s_A : PySem.W.kitOne K (.ref CE) (.type "ArithmeticError") = some false)
    (s_2 : PySem.W.kitOne K (.ref CE) (.ref cB) = some true)
    (s_3 : PySem.W.kitOne K (.ref CE) (.type "ValueError") = some true)
    (b_cB : PySem.W.subIn K (.ref cB) (.type "BaseException") = some true)
    (h_cB : PySem.W.hasDictIn K cB = true)
    (y_cB : PySem.W.typeIn K (.ref cB) = some (.type "type"))
    (u_CE_cB : PySem.W.subIn K (.ref CE) (.ref cB) = some true)
    (b_cL : PySem.W.subIn K (.ref cL) (.type "BaseException") = some true)
    (h_cL : PySem.W.hasDictIn K cL = true)
    (y_cL : PySem.W.typeIn K (.ref cL) = some (.type "type"))
    (u_CE_cL : PySem.W.subIn K (.ref CE) (.ref cL) = some false)
    (b_cF : PySem.W.subIn K (.ref cF) (.type "BaseException") = some true)
    (h_cF : PySem.W.hasDictIn K cF = true)
    (y_cF : PySem.W.typeIn K (.ref cF) = some (.type "type"))
    (u_CE_cF : PySem.W.subIn K (.ref CE) (.ref cF) = some false)
    (z_isinstance : PySem.W.nsIn K mainGlobals "isinstance" = some none)
    (z_int : PySem.W.nsIn K mainGlobals "int" = some none)
    (z_bool : PySem.W.nsIn K mainGlobals "bool" = some none)
    (z_str : PySem.W.nsIn K mainGlobals "str" = some none)
    (z_tuple : PySem.W.nsIn K mainGlobals "tuple" = some none)
    (z_len : PySem.W.nsIn K mainGlobals "len" = some none)
    (z_all : PySem.W.nsIn K mainGlobals "all" = some none)
    (z_zip : PySem.W.nsIn K mainGlobals "zip" = some none)
    (z_range : PySem.W.nsIn K mainGlobals "range" = some none)
    (z_abs : PySem.W.nsIn K mainGlobals "abs" = some none)
    (z_max : PySem.W.nsIn K mainGlobals "max" = some none)
    (z_min : PySem.W.nsIn K mainGlobals "min" = some none)
    (z_list : PySem.W.nsIn K mainGlobals "list" = some none)
    (z_super : PySem.W.nsIn K mainGlobals "super" = some none)
    (z_LookupError : PySem.W.nsIn K mainGlobals "LookupError" = some none)
    (z_ArithmeticError : PySem.W.nsIn K mainGlobals "ArithmeticError" = some none)
    (z_ValueError : PySem.W.nsIn K mainGlobals "ValueError" = some none)
    (z_sorted : PySem.W.nsIn K mainGlobals "sorted" = some none)
    : ∃ fd : FuncData, (∀ (s : Shared) (v : Value), BindsTo s fd ⟨[v], []⟩ [("_law_script", v)]) ∧ ∀ base : Heap, K.In base → base.Ns mainGlobals mg → LawOk l.prog w K mg base fa fd "_law_script" (spLaw K) := by
  have e := hfa.symm.trans (PySem.W.mg_of X G aLa)
  cases e
  have m_isinstance := PySem.W.mg_none_of X G z_isinstance
  have m_int := PySem.W.mg_none_of X G z_int
  have m_bool := PySem.W.mg_none_of X G z_bool
  have m_str := PySem.W.mg_none_of X G z_str
  have m_tuple := PySem.W.mg_none_of X G z_tuple
  have m_len := PySem.W.mg_none_of X G z_len
  have m_all := PySem.W.mg_none_of X G z_all
  have m_zip := PySem.W.mg_none_of X G z_zip
  have m_range := PySem.W.mg_none_of X G z_range
  have m_abs := PySem.W.mg_none_of X G z_abs
  have m_max := PySem.W.mg_none_of X G z_max
  have m_min := PySem.W.mg_none_of X G z_min
  have m_list := PySem.W.mg_none_of X G z_list
  have m_super := PySem.W.mg_none_of X G z_super
  have m_LookupError := PySem.W.mg_none_of X G z_LookupError
  have m_ArithmeticError := PySem.W.mg_none_of X G z_ArithmeticError
  have m_ValueError := PySem.W.mg_none_of X G z_ValueError
  have m_sorted := PySem.W.mg_none_of X G z_sorted
  have FNu := fun_mk (st := sNumber) lNu cNu kNu
  have bNu := FNu.binds (ps := ["thing"]) fun _ _ _ _ _ _ us hl => match us, hl with | [_], _ => rfl
  have FWT := fun_mk (st := sWrongT) lWT cWT kWT
  have bWT := FWT.binds (ps := ["name", "cost", "gap", "due", "holds"]) fun _ _ _ _ _ _ us hl => match us, hl with | [_, _, _, _, _], _ => rfl
  have FWD := fun_mk (st := sWrongD) lWD cWD kWD
  have bWD := FWD.binds (ps := ["name", "room", "gap"]) fun _ _ _ _ _ _ us hl => match us, hl with | [_, _, _], _ => rfl
  have FWh := fun_mk (st := sWhole) lWh cWh kWh
  have bWh := FWh.binds (ps := ["thing", "least", "most"]) fun _ _ _ _ _ _ us hl => match us, hl with | [_, _, _], _ => rfl
  have FNm := fun_mk (st := sName) lNm cNm kNm
  have bNm := FNm.binds (ps := ["thing"]) fun _ _ _ _ _ _ us hl => match us, hl with | [_], _ => rfl
  have FHd := fun_mk (st := sHold) lHd cHd kHd
  have bHd := FHd.binds (ps := ["thing", "cost"]) fun _ _ _ _ _ _ us hl => match us, hl with | [_, _], _ => rfl
  have FAh := fun_mk (st := sAhead) lAh cAh kAh
  have bAh := FAh.binds (ps := ["hold", "other"]) fun _ _ _ _ _ _ us hl => match us, hl with | [_, _], _ => rfl
  have FHs := fun_mk (st := sHolds) lHs cHs kHs
  have bHs := FHs.binds (ps := ["thing", "cost"]) fun _ _ _ _ _ _ us hl => match us, hl with | [_, _], _ => rfl
  have FCe := fun_mk (st := sCell) lCe cCe kCe
  have bCe := FCe.binds (ps := ["_law_script", "_law_k"]) fun _ _ _ _ _ _ us hl => match us, hl with | [_, _], _ => rfl
  have FPu := fun_mk (st := sPurse) lPu cPu kPu
  have bPu := FPu.binds (ps := ["_law_cell_here"]) fun _ _ _ _ _ _ us hl => match us, hl with | [_], _ => rfl
  have FTa := fun_mk (st := sTake) lTa cTa kTa
  have bTa := FTa.binds (ps := ["_law_purse_here", "_law_many"]) fun _ _ _ _ _ _ us hl => match us, hl with | [_, _], _ => rfl
  have FWo := fun_mk (st := sWords) lWo cWo kWo
  have bWo := FWo.binds (ps := ["_law_purse_here", "_law_many"]) fun _ _ _ _ _ _ us hl => match us, hl with | [_, _], _ => rfl
  have FHo := fun_mk (st := sHoldsL) lHo cHo kHo
  have bHo := FHo.binds (ps := ["_law_purse_here", "_law_price", "_law_tools"]) fun _ _ _ _ _ _ us hl => match us, hl with | [_, _, _], _ => rfl
  have FDr := fun_mk (st := sDrawn) lDr cDr kDr
  have bDr := FDr.binds (ps := ["_law_purse_here"]) fun _ _ _ _ _ _ us hl => match us, hl with | [_], _ => rfl
  have FOn := fun_mk (st := sOddN) lOn cOn kOn
  have bOn := FOn.binds (ps := []) fun _ _ _ _ _ _ us hl => match us, hl with | [], _ => rfl
  have FOw := fun_mk (st := sOddW) lOw cOw kOw
  have bOw := FOw.binds (ps := ["_law_top"]) fun _ _ _ _ _ _ us hl => match us, hl with | [_], _ => rfl
  have FOh := fun_mk (st := sOddH) lOh cOh kOh
  have bOh := FOh.binds (ps := ["_law_price"]) fun _ _ _ _ _ _ us hl => match us, hl with | [_], _ => rfl
  have FSo := fun_mk (st := sSort) lSo cSo kSo
  have bSo := FSo.binds (ps := ["_law_e"]) fun _ _ _ _ _ _ us hl => match us, hl with | [_], _ => rfl
  have FTo := fun_mk (st := sTold) lTo cTo kTo
  have bTo := FTo.binds (ps := ["_law_things", "_law_by_name"]) fun _ _ _ _ _ _ us hl => match us, hl with | [_, _], _ => rfl
  have FPt := fun_mk (st := sPut) lPt cPt kPt
  have bPt := FPt.binds (ps := ["_law_purse_here", "_law_drawn_here"]) fun _ _ _ _ _ _ us hl => match us, hl with | [_, _], _ => rfl
  have FTw := fun_mk (st := sTwins) lTw cTw kTw
  have bTw := FTw.binds (ps := []) fun _ _ _ _ _ _ us hl => match us, hl with | [], _ => rfl
  have FLa := fun_mk (st := sLaw) lLa cLa kLa
  have FId := fun_mk (st := sDInit) lId cId kId
  have bId := FId.binds (ps := ["self", "name", "room", "gap"]) fun _ _ _ _ _ _ us hl => match us, hl with | [_, _, _, _], _ => rfl
  have FI : FunI K e0 fIn _ := ⟨⟨_, _, _, _, _, _, _, _, _, _, rfl, lIn, cIn, .inl ⟨rfl, rfl⟩, .inr ⟨DI, rfl, fun q hq => by
    rcases List.mem_cons.mp hq with rfl | hq
    · exact ⟨_, q1, rfl⟩
    · rw [List.mem_singleton.mp hq]
      exact ⟨_, q2, rfl⟩⟩⟩, kIn⟩
  have hE : ∀ H : Hp, SqT K H e0 [] := fun H => .inr ⟨_, #[], _, q3, rfl, rfl, Nat.zero_le _, .nil⟩
  have T : TaskC K mg CT := ⟨⟨t_pg, t_hd, t_po, t_sa⟩, t_nN, t_nC, t_nG, t_nD, t_nH, PySem.W.mg_of X G at_, t_tc, tg, tt, t_tm, kit_self⟩
  have TD : DoorC K mg CD := ⟨⟨d_pg, d_hd, d_po, d_sa⟩, d_nN, d_nR, d_nG, PySem.W.mg_of X G ad_, d_tc, tg, tt, d_tm⟩
  have MT : Mk K CT fIn := ⟨t_mk, aIn, iIn, t_kc⟩
  have MD : Mk K CD fId := ⟨d_mk, aId, iId, d_kc⟩
  have EC : ErrC l.prog K mg "NoTask" "part" "NoTask.__init__" sNoTask CE fx_ := ⟨PySem.W.mg_of X G e_CE, ⟨_, _, _, _, _, _, _, _, _, _, _, _, _, _, _, x_cl, x_ve⟩, x_sa, x_ga, x_gg, x_no, x_iC, x_tC, x_kC, x_ex, x_vs, x_ty, x_hd, x_mr, x_su, x_an, x_tp, m_super,
    ⟨_, _, _, _, _, _, _, _, _, _, _, _, _, _, _, _, _, _, x_fn, x_co, x_cd, x_v2, x_fi, x_ce⟩⟩
  have ER : Err l.prog w K mg "NoTask" "part" CE := err_of EC
  have ES : ErrS K mg CE cB cD cC cN cX cG cW cZ cR cP cM cO cL cF := ⟨PySem.W.mg_of X G e_cD, k_cD, PySem.W.mg_of X G e_cC, k_cC, PySem.W.mg_of X G e_cN, k_cN, PySem.W.mg_of X G e_cX, k_cX, PySem.W.mg_of X G e_cG, k_cG, PySem.W.mg_of X G e_cW, k_cW, PySem.W.mg_of X G e_cZ, k_cZ, PySem.W.mg_of X G e_cR, k_cR, PySem.W.mg_of X G e_cP, k_cP, PySem.W.mg_of X G e_cM, k_cM, PySem.W.mg_of X G e_cO, k_cO, PySem.W.mg_of X G e_cL, k_cL, PySem.W.mg_of X G e_cF, k_cF, PySem.W.mg_of X G e_cB, PySem.W.mg_of X G e_CE, m_LookupError, m_ArithmeticError, m_ValueError, m_isinstance, ⟨x_ga, x_gg, x_ex, x_hd, x_tc, tg, tt, x_tm⟩, s_K, s_A, kit_self, s_2, s_3, x_no, exm3 (exm_of b_cB h_cB y_cB u_CE_cB) (exm_of b_cL h_cL y_cL u_CE_cL) (exm_of b_cF h_cF y_cF u_CE_cF)⟩
  refine ⟨PySem.W.fnOf "law" "law" (defArgs sLaw) (defBody sLaw) (defScope sLaw) .none kVLa dcLa pmLa anLa cdLa ctLa, fun s v => .of_eq rfl, fun base _ _ => ?_⟩
  have DU : Dn l.prog w K mg base 1 "is_number" ["thing"] (spNumber K) := ⟨_, _, ok_number FNu m_isinstance m_int m_bool, PySem.W.mg_of X G aNu, kNu, bNu⟩
  have DW : Dn l.prog w K mg base 2 "is_whole" ["thing", "least", "most"] (spWhole K) := ⟨_, _, ok_whole FWh DU, PySem.W.mg_of X G aWh, kWh, bWh⟩
  have DN : Dn l.prog w K mg base 2 "is_name" ["thing"] (spName K) := ⟨_, _, ok_name FNm m_isinstance m_str m_len m_all ⟨_, PySem.W.mg_of X G v2⟩ ⟨_, PySem.W.mg_of X G v1⟩, PySem.W.mg_of X G aNm, kNm, bNm⟩
  have DHd1 : Dn l.prog w K mg base 3 "is_hold" ["thing", "cost"] (spHold K) := ⟨_, _, ok_hold FHd m_isinstance m_tuple m_len DN DW, PySem.W.mg_of X G aHd, kHd, bHd⟩
  have DHd : Dn l.prog w K mg base 3 "is_hold" ["thing", "cost"] (spOr (spHold K) (spHoldB K)) := ⟨_, _, fnOr (ok_hold FHd m_isinstance m_tuple m_len DN DW) (ok_holdB FHd m_isinstance m_tuple m_len DN DW), PySem.W.mg_of X G aHd, kHd, bHd⟩
  have DA : Dn l.prog w K mg base 2 "goes_ahead" ["hold", "other"] (spAhead K) := ⟨_, _, ok_ahead FAh, PySem.W.mg_of X G aAh, kAh, bAh⟩
  have DHs : Dn l.prog w K mg base 4 "are_holds" ["thing", "cost"] (spOr (spHolds K) (spHoldsB K)) := ⟨_, _, fnOr (ok_holds FHs m_isinstance m_tuple m_len m_all m_zip ⟨_, PySem.W.mg_of X G v5⟩ DHd1 DA) (ok_holdsB FHs m_isinstance m_tuple m_len m_all ⟨_, PySem.W.mg_of X G v5⟩ DHd), PySem.W.mg_of X G aHs, kHs, bHs⟩
  have DWT : Dn l.prog w K mg base 5 "wrong_in_task" ["name", "cost", "gap", "due", "holds"] (spWrongTG K) := ⟨_, _, ok_wrongTG FWT ⟨_, PySem.W.mg_of X G v3⟩ ⟨_, PySem.W.mg_of X G v4⟩ DN DW DHs, PySem.W.mg_of X G aWT, kWT, bWT⟩
  have DWD : Dn l.prog w K mg base 3 "wrong_in_door" ["name", "room", "gap"] spWrongD := ⟨_, _, ok_wrongD FWD ⟨_, PySem.W.mg_of X G v3⟩ ⟨_, PySem.W.mg_of X G v4⟩ DN DW, PySem.W.mg_of X G aWD, kWD, bWD⟩
  have DCe : Dn l.prog w K mg base 3 "_law_cell" ["_law_script", "_law_k"] (spCellL K) := ⟨_, _, ok_cell FCe m_len, PySem.W.mg_of X G aCe, kCe, bCe⟩
  have DPu : Dn l.prog w K mg base 3 "_law_purse" ["_law_cell_here"] spPurse := ⟨_, _, ok_purse FPu m_abs, PySem.W.mg_of X G aPu, kPu, bPu⟩
  have DTa : Dn l.prog w K mg base 3 "_law_take" ["_law_purse_here", "_law_many"] spTake := ⟨_, _, ok_take FTa, PySem.W.mg_of X G aTa, kTa, bTa⟩
  have DWo : Dn l.prog w K mg base 4 "_law_words" ["_law_purse_here", "_law_many"] spWords := ⟨_, _, ok_words FWo m_len m_range DTa, PySem.W.mg_of X G aWo, kWo, bWo⟩
  have DHo : Dn l.prog w K mg base 4 "_law_holds" ["_law_purse_here", "_law_price", "_law_tools"] (spHoldsL K) := ⟨_, _, ok_holdsL FHo m_len m_sorted m_tuple DTa, PySem.W.mg_of X G aHo, kHo, bHo⟩
  have DDr : Dn l.prog w K mg base 5 "_law_drawn" ["_law_purse_here"] (spDrawn K) := ⟨_, _, ok_drawn FDr DTa DWo DHo, PySem.W.mg_of X G aDr, kDr, bDr⟩
  have TM : TaskM l.prog w K mg base CT CE := ⟨T, t_kstr, t_kint, t_ktuple, e0, fIn, _, FI, MT, ok_initG FI T ER DWT, hE⟩
  have DM : DoorM l.prog w K mg base CD := ⟨TD, d_kstr, fId, _, bId, MD, ok_dinit FId TD DWD⟩
  have DOn : Dn l.prog w K mg base 8 "_law_odd_names" [] (spOddN K) := ⟨_, _, ok_OddN FOn DM TM m_list, PySem.W.mg_of X G aOn, kOn, bOn⟩
  have DOw : Dn l.prog w K mg base 8 "_law_odd_numbers" ["_law_top"] (spOddW K) := ⟨_, _, ok_OddW FOw DM TM m_list, PySem.W.mg_of X G aOw, kOw, bOw⟩
  have DOh : Dn l.prog w K mg base 8 "_law_odd_holds" ["_law_price"] (spOddH K) := ⟨_, _, ok_OddH FOh DM TM m_list, PySem.W.mg_of X G aOh, kOh, bOh⟩
  have GS := ok_sort (P := l.prog) (w := w) (base := base) FSo ES
  have DTo : Dn l.prog w K mg base 8 "_law_told" ["_law_things", "_law_by_name"] (spTold K) := ⟨_, _, ok_told FTo ES TM GS (PySem.W.mg_of X G aSo) kSo bSo, PySem.W.mg_of X G aTo, kTo, bTo⟩
  have DPt : Dn l.prog w K mg base 9 "_law_put_otherwise" ["_law_purse_here", "_law_drawn_here"] (spPut K) := ⟨_, _, ok_put FPt m_list m_range m_len DTa DOn DOw DOh, PySem.W.mg_of X G aPt, kPt, bPt⟩
  have DTw : Dn l.prog w K mg base 9 "_law_twins_right" [] spTwins := ⟨_, _, ok_twins FTw m_all DTo, PySem.W.mg_of X G aTw, kTw, bTw⟩
  exact ok_law FLa m_range m_max m_min m_len DCe DPu DTa DDr DTo DPt DTw
end Du

set_option Elab.async false
set_option linter.all false
open PySem PySem.W PyProof.Rows
set_option maxRecDepth 100000 in
set_option maxHeartbeats 0 in
theorem PySem.Challenge.cw_duetimes_k02_tasks_refused_holds : PySem.Challenge.rw_duetimes_k02_tasks_refused.Holds := by
  w_on; o_law; k_head; (case hw => w_witness2)
  k_fill
  refine Du.walk_at (l := PySem.Challenge.rw_duetimes_k02_tasks_refused) (n := 63) (x := "_law_script") (sp := fun w => Du.spLaw _) rfl (by decide) rfl (fun w h Y => PySem.W.kIn_of Y) ?F (fun _ _ a ns hl hS => ⟨a, ns, rfl, hS, fun _ => rfl⟩)
  case F =>
    intro w mg fa h KX G hmg
    refine' Du.all_mk KX G hmg ?aNu ?lNu ?cNu ?kNu ?aWT ?lWT ?cWT ?kWT ?aWD ?lWD ?cWD ?kWD ?aWh ?lWh ?cWh ?kWh ?aNm ?lNm ?cNm ?kNm ?aHd ?lHd ?cHd ?kHd ?aAh ?lAh ?cAh ?kAh ?aHs ?lHs ?cHs ?kHs ?aCe ?lCe ?cCe ?kCe ?aPu ?lPu ?cPu ?kPu ?aTa ?lTa ?cTa ?kTa ?aWo ?lWo ?cWo ?kWo ?aHo ?lHo ?cHo ?kHo ?aDr ?lDr ?cDr ?kDr ?aOn ?lOn ?cOn ?kOn ?aOw ?lOw ?cOw ?kOw ?aOh ?lOh ?cOh ?kOh ?aSo ?lSo ?cSo ?kSo ?aTo ?lTo ?cTo ?kTo ?aPt ?lPt ?cPt ?kPt ?aTw ?lTw ?cTw ?kTw ?aLa ?lLa ?cLa ?kLa ?tg ?tt ?at_ ?t_pg ?t_hd ?t_po ?t_sa ?t_mk ?t_kc ?t_nN ?t_nC ?t_nG ?t_nD ?t_nH ?t_tc ?t_tm ?t_kstr ?t_kint ?t_ktuple ?aIn ?lIn ?cIn ?kIn ?iIn ?q1 ?q2 ?q3 ?ad_ ?d_pg ?d_hd ?d_po ?d_sa ?d_mk ?d_kc ?d_nN ?d_nR ?d_nG ?d_tc ?d_tm ?d_kstr ?aId ?lId ?cId ?kId ?iId ?v1 ?v2 ?v3 ?v4 ?v5 ?e_CE ?x_iC ?x_cl ?x_ve ?x_sa ?x_ga ?x_gg ?x_no ?x_tC ?x_kC ?x_ex ?x_vs ?x_ty ?x_hd ?x_mr ?x_su ?x_an ?x_tp ?x_fn ?x_co ?x_cd ?x_v2 ?x_fi ?x_ce ?x_tc ?x_tm ?e_cB ?e_cD ?k_cD ?e_cC ?k_cC ?e_cN ?k_cN ?e_cX ?k_cX ?e_cG ?k_cG ?e_cW ?k_cW ?e_cZ ?k_cZ ?e_cR ?k_cR ?e_cP ?k_cP ?e_cM ?k_cM ?e_cO ?k_cO ?e_cL ?k_cL ?e_cF ?k_cF ?s_K ?s_A ?s_2 ?s_3 ?b_cB ?h_cB ?y_cB ?u_CE_cB ?b_cL ?h_cL ?y_cL ?u_CE_cL ?b_cF ?h_cF ?y_cF ?u_CE_cF ?z_isinstance ?z_int ?z_bool ?z_str ?z_tuple ?z_len ?z_all ?z_zip ?z_range ?z_abs ?z_max ?z_min ?z_list ?z_super ?z_LookupError ?z_ArithmeticError ?z_ValueError ?z_sorted
    (case aNu => k_is)
    (case lNu => k_is)
    (case cNu => k_is)
    (case kNu => k_is)
    (case aWT => k_is)
    (case lWT => k_is)
    (case cWT => k_is)
    (case kWT => k_is)
    (case aWD => k_is)
    (case lWD => k_is)
    (case cWD => k_is)
    (case kWD => k_is)
    (case aWh => k_is)
    (case lWh => k_is)
    (case cWh => k_is)
    (case kWh => k_is)
    (case aNm => k_is)
    (case lNm => k_is)
    (case cNm => k_is)
    (case kNm => k_is)
    (case aHd => k_is)
    (case lHd => k_is)
    (case cHd => k_is)
    (case kHd => k_is)
    (case aAh => k_is)
    (case lAh => k_is)
    (case cAh => k_is)
    (case kAh => k_is)
    (case aHs => k_is)
    (case lHs => k_is)
    (case cHs => k_is)
    (case kHs => k_is)
    (case aCe => k_is)
    (case lCe => k_is)
    (case cCe => k_is)
    (case kCe => k_is)
    (case aPu => k_is)
    (case lPu => k_is)
    (case cPu => k_is)
    (case kPu => k_is)
    (case aTa => k_is)
    (case lTa => k_is)
    (case cTa => k_is)
    (case kTa => k_is)
    (case aWo => k_is)
    (case lWo => k_is)
    (case cWo => k_is)
    (case kWo => k_is)
    (case aHo => k_is)
    (case lHo => k_is)
    (case cHo => k_is)
    (case kHo => k_is)
    (case aDr => k_is)
    (case lDr => k_is)
    (case cDr => k_is)
    (case kDr => k_is)
    (case aOn => k_is)
    (case lOn => k_is)
    (case cOn => k_is)
    (case kOn => k_is)
    (case aOw => k_is)
    (case lOw => k_is)
    (case cOw => k_is)
    (case kOw => k_is)
    (case aOh => k_is)
    (case lOh => k_is)
    (case cOh => k_is)
    (case kOh => k_is)
    (case aSo => k_is)
    (case lSo => k_is)
    (case cSo => k_is)
    (case kSo => k_is)
    (case aTo => k_is)
    (case lTo => k_is)
    (case cTo => k_is)
    (case kTo => k_is)
    (case aPt => k_is)
    (case lPt => k_is)
    (case cPt => k_is)
    (case kPt => k_is)
    (case aTw => k_is)
    (case lTw => k_is)
    (case cTw => k_is)
    (case kTw => k_is)
    (case aLa => k_is)
    (case lLa => k_is)
    (case cLa => k_is)
    (case kLa => k_is)
    (case tg => k_is)
    (case tt => k_is)
    (case at_ => k_is)
    (case t_pg => k_is)
    (case t_hd => k_is)
    (case t_po => k_is)
    (case t_sa => k_is)
    (case t_mk => k_is)
    (case t_kc => k_is)
    (case t_nN => k_is)
    (case t_nC => k_is)
    (case t_nG => k_is)
    (case t_nD => k_is)
    (case t_nH => k_is)
    (case t_tc => k_is)
    (case t_tm => k_is)
    (case t_kstr => kit_is)
    (case t_kint => kit_is)
    (case t_ktuple => kit_is)
    (case aIn => k_is)
    (case lIn => k_is)
    (case cIn => k_is)
    (case kIn => k_is)
    (case iIn => k_is)
    (case q1 => k_is)
    (case q2 => k_is)
    (case q3 => k_is)
    (case ad_ => k_is)
    (case d_pg => k_is)
    (case d_hd => k_is)
    (case d_po => k_is)
    (case d_sa => k_is)
    (case d_mk => k_is)
    (case d_kc => k_is)
    (case d_nN => k_is)
    (case d_nR => k_is)
    (case d_nG => k_is)
    (case d_tc => k_is)
    (case d_tm => k_is)
    (case d_kstr => kit_is)
    (case aId => k_is)
    (case lId => k_is)
    (case cId => k_is)
    (case kId => k_is)
    (case iId => k_is)
    (case v1 => k_is)
    (case v2 => k_is)
    (case v3 => k_is)
    (case v4 => k_is)
    (case v5 => k_is)
    (case e_CE => k_is)
    (case x_iC => k_is)
    (case x_cl => k_is)
    (case x_ve => rfl)
    (case x_sa => k_is)
    (case x_ga => k_is)
    (case x_gg => k_is)
    (case x_no => k_is)
    (case x_tC => k_is)
    (case x_kC => k_is)
    (case x_ex => k_is)
    (case x_vs => k_is)
    (case x_ty => k_is)
    (case x_hd => k_is)
    (case x_mr => k_is)
    (case x_su => ks_is)
    (case x_an => k_is)
    (case x_tp => rfl)
    (case x_fn => k_is)
    (case x_co => k_is)
    (case x_cd => k_is)
    (case x_v2 => rfl)
    (case x_fi => rfl)
    (case x_ce => k_is)
    (case x_tc => k_is)
    (case x_tm => k_is)
    (case e_cB => k_is)
    (case e_cD => k_is)
    (case k_cD => kit_is)
    (case e_cC => k_is)
    (case k_cC => kit_is)
    (case e_cN => k_is)
    (case k_cN => kit_is)
    (case e_cX => k_is)
    (case k_cX => kit_is)
    (case e_cG => k_is)
    (case k_cG => kit_is)
    (case e_cW => k_is)
    (case k_cW => kit_is)
    (case e_cZ => k_is)
    (case k_cZ => kit_is)
    (case e_cR => k_is)
    (case k_cR => kit_is)
    (case e_cP => k_is)
    (case k_cP => kit_is)
    (case e_cM => k_is)
    (case k_cM => kit_is)
    (case e_cO => k_is)
    (case k_cO => kit_is)
    (case e_cL => k_is)
    (case k_cL => kit_is)
    (case e_cF => k_is)
    (case k_cF => kit_is)
    (case s_K => kit_is)
    (case s_A => kit_is)
    (case s_2 => kit_is)
    (case s_3 => kit_is)
    (case b_cB => k_is)
    (case h_cB => k_is)
    (case y_cB => k_is)
    (case u_CE_cB => k_is)
    (case b_cL => k_is)
    (case h_cL => k_is)
    (case y_cL => k_is)
    (case u_CE_cL => k_is)
    (case b_cF => k_is)
    (case h_cF => k_is)
    (case y_cF => k_is)
    (case u_CE_cF => k_is)
    (case z_isinstance => k_is)
    (case z_int => k_is)
    (case z_bool => k_is)
    (case z_str => k_is)
    (case z_tuple => k_is)
    (case z_len => k_is)
    (case z_all => k_is)
    (case z_zip => k_is)
    (case z_range => k_is)
    (case z_abs => k_is)
    (case z_max => k_is)
    (case z_min => k_is)
    (case z_list => k_is)
    (case z_super => k_is)
    (case z_LookupError => k_is)
    (case z_ArithmeticError => k_is)
    (case z_ValueError => k_is)
    (case z_sorted => k_is)

