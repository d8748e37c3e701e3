import PyProof.Rows.All
import Wide.All
import OpenK.AllK
import Wide.FinOn
import HandS.ForMost
import HandS.ForExc
import HandS.IsInst
import HandS.OwnEq
import HandS.Style
import HandS.Flow
import HandS.Walk
import HandS.Zip
import HandS.TupAny
import HandS.Conv
import HandS.MakeKwOnly
import HandS.ExcInit
import HandS.ExcSuper
import KE.KExcSuper
import HandS.ExcCtx
import KE.KTryMore
import HandS.HotCalls
import KE.KExcIs
import HandS.TryOnly
import KE.RegKIsAll
import KE.RegKSuper
import PySem.Challenge.RW_duetimes_k04_doors_told_and_refused
set_option Elab.async false
set_option linter.all false
set_option maxRecDepth 100000
namespace Du
open PySem L2
def topS (i : Nat) : Stmt := PySem.Challenge.pw_duetimes_k04_doors_told_and_refused.main.body.getD i (.Pass ⟨0, 0, 0, 0⟩)
abbrev sNumber : Stmt := topS 15
abbrev sWhole : Stmt := topS 16
abbrev sName : Stmt := topS 17
/-- a def by its name -/
structure Dn (P : Program) (w : World) (K : PySem.W.Frag) (mg : Str → Option Value) (base : Heap) (k : Nat) (x : Str) (ps : List Str) (sp : Sp) : Prop where
  ex : ∃ (f : Addr) (fd : FuncData), FnOk P w K mg base CX0 k f fd ps sp ∧ mg x = some (.ref f) ∧ PySem.W.keepIn K (.ref f) = true ∧ Binds K fd ps []
theorem pcall {X : Cx} {k : Nat} {x : Str} {ps : List Str} {sp : Sp} {p pos : Pos} {e : Expr} {es : List Expr} {t : TA} (D : Dn X.prog X.w X.K X.mg X.base k x ps sp) (hr : Room k X.A) (hg : Gl X x) (ha : PA X (e :: es) t)
    (hdb : (x == ("__debug__" : Str)) = false := by decide) (he : starEach (e :: es) X.env = (false, eval e X.env) :: starEach es X.env := by rfl) (hpl : (backTo pos (starEach es X.env)).any (·.1) = false := by rfl) :
    PE X (.Call (.Name x p) (e :: es) [] pos) (tCall sp [] E0 t) := by
  obtain ⟨f, fd, F, hm, hk, hb⟩ := D.ex
  exact pe_call F hr hg hm hk hb .nil pass0 ha hdb he hpl
theorem Dn.mono {P : Program} {w : World} {K : PySem.W.Frag} {mg : Str → Option Value} {base : Heap} {j k : Nat} {x : Str} {ps : List Str} {sp : Sp} (D : Dn P w K mg base j x ps sp) (h : j ≤ k) : Dn P w K mg base k x ps sp := by
  obtain ⟨f, fd, F, hm, hk, hb⟩ := D.ex
  exact ⟨f, fd, F.mono h, hm, hk, hb⟩
section
variable {P : Program} {w : World} {K : PySem.W.Frag} {mg : Str → Option Value} {base : Heap}
/-! is_number -/
theorem scNumber : FnScope ["thing"] ["thing"] (defScope sNumber) := ⟨rfl, rfl, rfl, by decide +kernel, rfl, by decide +kernel, by decide +kernel⟩
def spNumber (K : PySem.W.Frag) : Sp := fun vs H Q _ => ∃ x : V, vs = [x] ∧
  ((∃ i : Int, x = .int i ∧ Q (.bl true) H) ∨ (∃ b : Bool, x = .bl b ∧ Q (.bl false) H) ∨ (∃ t, TyX K H x t ∧ PySem.W.kitOne K t (.type "int") = some false ∧ Q (.bl false) H))
theorem ok_number {f : Addr} {fd : FuncData} (F : Fun K "is_number" "is_number" sNumber f fd) (mI : mg "isinstance" = none) (mi : mg "int" = none) (mb : mg "bool" = none) :
    FnOk P w K mg base CX0 1 f fd ["thing"] (spNumber K) := by
  refine F.ok scNumber (fun vs H Q E h => ?_) (fun cdv A outer s H vs Q E hr h => ?_)
  · obtain ⟨x, rfl, _⟩ := h
    rfl
  · obtain ⟨x, rfl, h⟩ := h
    refine ⟨_, pss_one (ps_ret (pe_and (pe_callB call_isi (by rfl) mI (by decide +kernel) (pa_cons (pv 0) (pa_cons (pe_bltn (v := .ty "int") (by rfl) mi (by decide +kernel) rfl) pa_nil)))
      (pe_one (pe_not (pe_callB call_isi (by rfl) mI (by decide +kernel) (pa_cons (pv 0) (pa_cons (pe_bltn (v := .ty "bool") (by rfl) mb (by decide +kernel) rfl) pa_nil))))))), ?_⟩
    rcases h with ⟨i, rfl, q⟩ | ⟨b, rfl, q⟩ | ⟨t, ht, ht2, q⟩
    · refine ⟨_, rfl, _, _, _, _, true, rfl, .ty "int", .base (.int _), kit_ty (by decide +kernel), true, rfl, ?_⟩
      exact iteT ⟨_, rfl, _, _, _, _, false, rfl, .ty "bool", .base (.int _), kit_ty (by decide +kernel), false, rfl, q⟩
    · refine ⟨_, rfl, _, _, _, _, true, rfl, .ty "int", .base (.bl _), kit_ty (by decide +kernel), true, rfl, ?_⟩
      exact iteT ⟨_, rfl, _, _, _, _, true, rfl, .ty "bool", .base (.bl _), kit_ty (by decide +kernel), true, rfl, q⟩
    · refine ⟨_, rfl, _, _, _, _, false, rfl, .ty "int", ht, ht2, false, rfl, ?_⟩
      exact iteF q
/-! is_whole -/
theorem scWhole : FnScope ["thing", "least", "most"] ["thing", "least", "most"] (defScope sWhole) := ⟨rfl, rfl, rfl, by decide +kernel, rfl, by decide +kernel, by decide +kernel⟩
def spWhole (K : PySem.W.Frag) : Sp := fun vs H Q _ => ∃ (x : V) (lo hi : Int), vs = [x, .int lo, .int hi] ∧
  ((∃ i : Int, x = .int i ∧ Q (.bl (decide (lo ≤ i) && decide (i ≤ hi))) H) ∨ (∃ b : Bool, x = .bl b ∧ Q (.bl false) H) ∨ (∃ t, TyX K H x t ∧ PySem.W.kitOne K t (.type "int") = some false ∧ Q (.bl false) H))
theorem ok_whole {f : Addr} {fd : FuncData} (F : Fun K "is_whole" "is_whole" sWhole f fd) (DU : Dn P w K mg base 1 "is_number" ["thing"] (spNumber K)) :
    FnOk P w K mg base CX0 2 f fd ["thing", "least", "most"] (spWhole K) := by
  refine F.ok scWhole (fun vs H Q E h => ?_) (fun cdv A outer s H vs Q E hr h => ?_)
  · obtain ⟨x, lo, hi, rfl, _⟩ := h
    rfl
  · obtain ⟨x, lo, hi, rfl, h⟩ := h
    refine ⟨_, pss_one (ps_ret (pe_and (pcall DU hr (by rfl) (pa_cons (pv 0) pa_nil)) (pe_one (pe_chain op_le op_le (pv 1) (pv 0) (pv 2))))), ?_⟩
    rcases h with ⟨i, rfl, q⟩ | ⟨b, rfl, q⟩ | ⟨t, ht, ht2, q⟩
    · refine ⟨_, rfl, _, rfl, .inl ⟨i, rfl, true, rfl, ?_⟩⟩
      refine iteT ⟨_, rfl, _, rfl, _, _, rfl, rfl, _, rfl, ?_⟩
      by_cases h1 : lo ≤ i
      · rw [decide_eq_true h1] at q ⊢
        refine iteT ⟨_, rfl, _, _, rfl, rfl, ?_⟩
        simpa using q
      · rw [decide_eq_false h1] at q ⊢
        exact iteF (by simpa using q)
    · refine ⟨_, rfl, _, rfl, .inr (.inl ⟨b, rfl, false, rfl, ?_⟩)⟩
      exact iteF q
    · refine ⟨_, rfl, _, rfl, .inr (.inr ⟨t, ht, ht2, false, rfl, ?_⟩)⟩
      exact iteF q
end
end Du

set_option Elab.async false
set_option linter.all false
set_option maxRecDepth 100000
namespace Du
open PySem L2
section
variable {P : Program} {w : World} {K : PySem.W.Frag} {mg : Str → Option Value} {base : Heap}
theorem same_upd {H : Hp} {p : Addr} {o : HO} (h : H p = none) : Same H (upd H p o) := fun b x e => by
  rw [upd_ne (ne_of_none e h)]
  exact e
/-- all but one new address stays -/
theorem same_upd2 {H H1 : Hp} {p : Addr} {o : HO} (s : Same H H1) (h : H p = none) : Same H (upd H1 p o) := fun b x e => by
  rw [upd_ne (ne_of_none e h)]
  exact s _ _ e
theorem take_map1 {α β : Type} {l : List α} {i : Nat} {x : α} (f : α → β) (h : l[i]? = some x) : (l.take (i + 1)).map f = (l.take i).map f ++ [f x] := by
  rw [List.take_add_one, h, List.map_append]
  rfl
/-! is_name -/
def letters : Str := "abcdefghijklmnopqrstuvwxyz"
def isLetter (c : Nat) : Bool := decide (c ∈ letters.cps.toList)
def isNm (z : Str) : Bool := decide (1 ≤ z.length) && (decide (z.length ≤ 8) && z.cps.toList.all isLetter)
theorem scName : FnScope ["thing", "sign"] ["thing"] (defScope sName) := ⟨rfl, rfl, rfl, by decide +kernel, rfl, by decide +kernel, by decide +kernel⟩
def spName (K : PySem.W.Frag) : Sp := fun vs H Q _ => ∃ x : V, vs = [x] ∧
  ((∃ z : Str, x = .str z ∧ z.length ≤ sizeLine ∧ ∀ H', Same H H' → Q (.bl (isNm z)) H') ∨ (∃ t, TyX K H x t ∧ PySem.W.kitOne K t (.type "str") = some false ∧ Q (.bl false) H))
theorem ok_name {f : Addr} {fd : FuncData} (F : Fun K "is_name" "is_name" sName f fd) (mI : mg "isinstance" = none) (ms : mg "str" = none) (ml : mg "len" = none) (ma : mg "all" = none)
    (mM : ∃ t, mg "MOST_LETTERS" = some (.int 8 t)) (mL : ∃ t, mg "LETTERS" = some (.str letters t)) :
    FnOk P w K mg base CX0 2 f fd ["thing"] (spName K) := by
  obtain ⟨tM, mM⟩ := mM
  obtain ⟨tL, mL⟩ := mL
  refine F.ok scName (fun vs H Q E h => ?_) (fun cdv A outer s H vs Q E hr h => ?_)
  · obtain ⟨x, rfl, _⟩ := h
    rfl
  · obtain ⟨x, rfl, h⟩ := h
    refine ⟨_, pss_cons (ps_if (PW.pt (pw_or (pt_not (pt_val (pe_callB call_isi (by rfl) mI (by decide +kernel) (pa_cons (pv 0) (pa_cons (pe_bltn (v := .ty "str") (by rfl) ms (by decide +kernel) rfl) pa_nil)))))
        (pw_or1 (pt_not (pt_chain op_le op_le pe_int (pe_callB call_len_str (by rfl) ml (by decide +kernel) (pa_cons (pv 0) pa_nil)) (pe_glob (v := .int 8) rfl mM ⟨_, rfl⟩))))))
        (pss_one (ps_ret pe_bl)) pss_nil)
      (pss_one (ps_ret (pe_callB (cr_all rfl) (by rfl) ma (by decide +kernel) (pa_cons (pe_lc (own := [("sign", 1)]) (g := gName 1) (tt := tYes) rfl scName.nd (pi_str (pv 0))
        (blkOk_by (N := ["thing", "sign"]) (sc := defScope sName) (by decide +kernel)) (fun _ _ _ _ _ => pg_name (i := 1) scName.nd rfl (Or.inl rfl)) (fun _ _ _ _ _ => pts_nil)
        (fun _ _ _ _ _ => pe_cmpR op_in_sign (pv 1) (pe_glob (v := .str letters) rfl mL ⟨_, rfl⟩) (by rfl))) pa_nil)))), ?_⟩
    rcases h with ⟨z, rfl, hz, q⟩ | ⟨t, ht, ht2, q⟩
    · refine ⟨_, rfl, _, _, _, _, true, rfl, .ty "str", .base (.str _), kit_ty (by decide +kernel), true, rfl, ?_⟩
      refine iteF ⟨_, rfl, z, rfl, hz, _, _, rfl, rfl, _, rfl, ?_⟩
      by_cases h1 : 1 ≤ z.length
      · have e1 : decide ((1 : Int) ≤ ((z.length : Nat) : Int)) = true := decide_eq_true (by omega)
        rw [e1]
        refine iteT ⟨_, _, rfl, rfl, _, rfl, ?_⟩
        by_cases h2 : z.length ≤ 8
        · have e2 : decide (((z.length : Nat) : Int) ≤ 8) = true := decide_eq_true (by omega)
          rw [e2]
          refine iteF ?_
          -- the comprehension
          refine ⟨_, rfl, z, rfl, fun D nD => lc_it walk_str (fun i H' => Same H H' ∧ H' D = some (.lst ((z.cps.toList.take i).map fun c => V.bl (isLetter c)))) ⟨same_upd nD, upd_same⟩ (fun _ _ _ _ => trivial) ?_ ?_⟩
          · rintro i x H1 H2 hi ⟨s1, e⟩ ⟨rfl, c, hc, rfl⟩
            have hc' : z.cps.toList[i]? = some c := by simpa using hc
            refine ⟨rfl, _, rfl, c, letters, rfl, rfl, _, e, ?_, same_upd2 s1 nD, ?_⟩
            · rw [List.length_map, List.length_take]
              have : z.cps.toList.length = z.length := by simp [Str.length]
              have h9 : z.length < sizeLine := Nat.lt_of_le_of_lt h2 (by decide)
              omega
            · rw [upd_same, take_map1 _ hc']
              rfl
          · rintro H1 ⟨s1, e⟩
            have el : z.cps.toList.take z.cps.size = z.cps.toList := by
              rw [List.take_of_length_le]
              simp
            rw [el] at e
            refine ⟨D, z.cps.toList.map isLetter, rfl, SqL.of (by rw [e, List.map_map]; rfl), ?_⟩
            have q' := q H1 s1
            have eb : isNm z = (z.cps.toList.map isLetter).all id := by
              unfold isNm
              rw [decide_eq_true h1, decide_eq_true h2, List.all_map]
              rfl
            rw [eb] at q'
            exact q'
        · have e2 : decide (((z.length : Nat) : Int) ≤ 8) = false := decide_eq_false (by omega)
          rw [e2]
          refine iteT ?_
          have q' := q H (Same.refl _)
          unfold isNm at q'
          rw [decide_eq_false h2] at q'
          have q2 : Q (V.bl false) H := by simpa using q'
          exact q2
      · have e1 : decide ((1 : Int) ≤ ((z.length : Nat) : Int)) = false := decide_eq_false (by omega)
        rw [e1]
        refine iteF ⟨_, rfl, ?_⟩
        have q' := q H (Same.refl _)
        unfold isNm at q'
        rw [decide_eq_false h1] at q'
        have q2 : Q (V.bl false) H := by simpa using q'
        exact q2
    · refine ⟨_, rfl, _, _, _, _, false, rfl, .ty "str", ht, ht2, false, rfl, ?_⟩
      exact iteT (iteT q)
end
end Du

set_option Elab.async false
set_option linter.all false
set_option maxRecDepth 100000
namespace Du
open PySem L2
abbrev sHold : Stmt := topS 18
abbrev sAhead : Stmt := topS 19
abbrev sHolds : Stmt := topS 20
section
variable {P : Program} {w : World} {K : PySem.W.Frag} {mg : Str → Option Value} {base : Heap}
theorem tyx_tup {H : Hp} {a : Addr} {xs : List V} (h : SqT K H a xs) : TyX K H (.ref a) (.type "tuple") := by
  rcases h with (h | ⟨o, h⟩) | ⟨o, its, n, hk, hc, _⟩
  · exact .base (.tup h)
  · exact .fTuple h
  · exact .kTuple hk hc
theorem kit_tt : PySem.W.kitOne K (.type "tuple") (.type "tuple") = some true := kit_ty (by decide +kernel)
theorem walk_zipT {a b : Addr} {xs ys : List V} {n : Nat} (hn : n = min xs.length ys.length) : Walk (RZ.ItzT K a b) n (fun H => SqT K H a xs ∧ SqT K H b ys) (YPair (fun i => xs[i]?) (fun i => ys[i]?)) := by
  refine ⟨fun i H hi q => ?_, fun H q => ⟨xs, ys, q.1, q.2, by omega⟩, fun i H v H' hi q y => ?_⟩
  · exact ⟨xs, ys, xs[i]'(by omega), ys[i]'(by omega), q.1, q.2, List.getElem?_eq_getElem (by omega), List.getElem?_eq_getElem (by omega)⟩
  · obtain ⟨T, x, z, h1, h2, h3, h4, h5⟩ := y
    exact ⟨T, x, z, h1, h2, h3, h4 xs q.1, h5 ys q.2⟩
/-! is_hold -/
abbrev Hold := Str × Int × Int
def isHd (h : Hold) (cost : Int) : Bool := isNm h.1 && ((decide (0 ≤ h.2.1) && decide (h.2.1 ≤ cost)) && (decide (1 ≤ h.2.2) && decide (h.2.2 ≤ cost - h.2.1)))
def HdAt (K : PySem.W.Frag) (H : Hp) (v : V) (h : Hold) : Prop := ∃ a, v = .ref a ∧ SqT K H a [.str h.1, .int h.2.1, .int h.2.2]
theorem HdAt.same {H H' : Hp} {v : V} {h : Hold} (d : HdAt K H v h) (s : Same H H') : HdAt K H' v h := by
  obtain ⟨a, e, q⟩ := d
  exact ⟨a, e, q.ext s⟩
theorem scHold : FnScope ["thing", "cost", "tool", "start", "long"] ["thing", "cost"] (defScope sHold) := ⟨rfl, rfl, rfl, by decide +kernel, rfl, by decide +kernel, by decide +kernel⟩
def spHold (K : PySem.W.Frag) : Sp := fun vs H Q _ => ∃ (v : V) (h : Hold) (cost : Int), vs = [v, .int cost] ∧ HdAt K H v h ∧ h.1.length ≤ sizeLine ∧ ∀ H', Same H H' → Q (.bl (isHd h cost)) H'
theorem ok_hold {f : Addr} {fd : FuncData} (F : Fun K "is_hold" "is_hold" sHold f fd) (mI : mg "isinstance" = none) (mt : mg "tuple" = none) (ml : mg "len" = none)
    (DN : Dn P w K mg base 2 "is_name" ["thing"] (spName K)) (DW : Dn P w K mg base 2 "is_whole" ["thing", "least", "most"] (spWhole K)) :
    FnOk P w K mg base CX0 3 f fd ["thing", "cost"] (spHold K) := by
  refine F.ok scHold (fun vs H Q E h => ?_) (fun cdv A outer s H vs Q E hr h => ?_)
  · obtain ⟨v, h, cost, rfl, _⟩ := h
    rfl
  · obtain ⟨v, h, cost, rfl, ⟨a, rfl, hS⟩, hl, q⟩ := h
    refine ⟨_, pss_cons (ps_if (PW.pt (pw_or (pt_not (pt_val (pe_callB call_isi (by rfl) mI (by decide +kernel) (pa_cons (pv 0) (pa_cons (pe_bltn (v := .ty "tuple") (by rfl) mt (by decide +kernel) rfl) pa_nil)))))
        (pw_or1 (pt_cmpR op_ne (pe_callB call_len_seq (by rfl) ml (by decide +kernel) (pa_cons (pv 0) pa_nil)) pe_int (nomark _)))))
        (pss_one (ps_ret pe_bl)) pss_nil)
      (pss_cons (ps_asg (pv 0) (pg_tup rfl (pgs_cons (pg_name (i := 2) scHold.nd rfl (.inl rfl)) (pgs_cons (pg_name (i := 3) scHold.nd rfl (.inl rfl)) (pgs_cons (pg_name (i := 4) scHold.nd rfl (.inl rfl)) pgs_nil)))))
      (pss_one (ps_ret (pe_and (pcall DN hr (by rfl) (pa_cons (pv 2) pa_nil)) (pe_and (pcall DW hr (by rfl) (pa_cons (pv 3) (pa_cons pe_int (pa_cons (pv 1) pa_nil))))
        (pe_one (pcall DW hr (by rfl) (pa_cons (pv 4) (pa_cons pe_int (pa_cons (pe_op op_sub (pv 1) (pv 3)) pa_nil)))))))))), ?_⟩
    refine ⟨_, rfl, _, _, _, _, true, rfl, .ty "tuple", tyx_tup hS, kit_tt, true, rfl, ?_⟩
    refine ⟨_, rfl, a, _, rfl, .inr hS, rfl, _, rfl, ?_⟩
    show if (!decide ((V.int (3 : Nat)) = V.int 3)) = true then _ else _
    refine iteNS rfl ?_
    refine ⟨_, rfl, a, _, rfl, hS, rfl, _, _, rfl, _, _, rfl, _, _, rfl, rfl, ?_⟩
    -- the three questions
    refine ⟨_, rfl, _, rfl, .inl ⟨h.1, rfl, hl, fun H1 s1 => ⟨_, rfl, ?_⟩⟩⟩
    cases e1 : isNm h.1 with
    | false =>
      have q1 := q H1 s1
      unfold isHd at q1
      rw [e1] at q1
      exact q1
    | true =>
      refine ⟨_, rfl, _, rfl, _, _, _, rfl, .inl ⟨_, rfl, _, rfl, ?_⟩⟩
      cases e2 : (decide (0 ≤ h.2.1) && decide (h.2.1 ≤ cost)) with
      | false =>
        have q1 := q H1 s1
        unfold isHd at q1
        rw [e1, e2] at q1
        exact q1
      | true =>
        refine ⟨_, rfl, _, rfl, _, rfl, _, _, rfl, rfl, _, _, _, rfl, .inl ⟨_, rfl, ?_⟩⟩
        have q1 := q H1 s1
        unfold isHd at q1
        rw [e1, e2] at q1
        exact q1
/-! goes_ahead -/
def ahead (h g : Hold) : Bool := if h.1 = g.1 then decide (h.2.1 + h.2.2 ≤ g.2.1) else decide (h.1.cps.toList < g.1.cps.toList)
theorem scAhead : FnScope ["hold", "other", "tool", "start", "long"] ["hold", "other"] (defScope sAhead) := ⟨rfl, rfl, rfl, by decide +kernel, rfl, by decide +kernel, by decide +kernel⟩
def spAhead (K : PySem.W.Frag) : Sp := fun vs H Q _ => ∃ (v u : V) (h g : Hold), vs = [v, u] ∧ HdAt K H v h ∧ HdAt K H u g ∧ Q (.bl (ahead h g)) H
theorem ok_ahead {f : Addr} {fd : FuncData} (F : Fun K "goes_ahead" "goes_ahead" sAhead f fd) : FnOk P w K mg base CX0 2 f fd ["hold", "other"] (spAhead K) := by
  refine F.ok scAhead (fun vs H Q E h => ?_) (fun cdv A outer s H vs Q E hr h => ?_)
  · obtain ⟨v, u, h, g, rfl, _⟩ := h
    rfl
  · obtain ⟨v, u, h, g, rfl, ⟨a, rfl, hS⟩, ⟨b, rfl, hT⟩, q⟩ := h
    refine ⟨_, pss_cons (ps_asg (pv 0) (pg_tup rfl (pgs_cons (pg_name (i := 2) scAhead.nd rfl (.inl rfl)) (pgs_cons (pg_name (i := 3) scAhead.nd rfl (.inl rfl)) (pgs_cons (pg_name (i := 4) scAhead.nd rfl (.inl rfl)) pgs_nil)))))
      (pss_cons (ps_if (pt_cmpR op_eq (pv 2) (pe_ix ix_tup (pv 1) pe_int (fun _ _ => rfl)) (nomark _))
        (pss_one (ps_ret (pe_cmpR op_le (pe_op op_add (pv 3) (pv 4)) (pe_ix ix_tup (pv 1) pe_int (fun _ _ => rfl)) (nomark _)))) pss_nil)
      (pss_one (ps_ret (pe_cmpR op_lt_str (pv 2) (pe_ix ix_tup (pv 1) pe_int (fun _ _ => rfl)) (nomark _))))), ?_⟩
    refine ⟨_, rfl, a, _, rfl, hS, rfl, _, _, rfl, _, _, rfl, _, _, rfl, rfl, ?_⟩
    refine ⟨_, rfl, _, rfl, b, _, _, _, rfl, rfl, hT, at_of (j := 0) rfl rfl, rfl, _, rfl, ?_⟩
    by_cases hz : h.1 = g.1
    · have e1 : decide (V.str h.1 = V.str g.1) = true := decide_eq_true (by rw [hz])
      rw [e1]
      refine iteT ⟨_, rfl, _, rfl, _, _, rfl, rfl, _, rfl, b, _, _, _, rfl, rfl, hT, at_of (j := 1) rfl rfl, _, _, rfl, rfl, ?_⟩
      unfold ahead at q
      rw [if_pos hz] at q
      exact q
    · have e1 : decide (V.str h.1 = V.str g.1) = false := decide_eq_false (fun e => hz (V.str.inj e))
      rw [e1]
      refine iteF ⟨_, rfl, _, rfl, b, _, _, _, rfl, rfl, hT, at_of (j := 0) rfl rfl, _, _, rfl, rfl, ?_⟩
      unfold ahead at q
      rw [if_neg hz] at q
      exact q
end
end Du

set_option Elab.async false
set_option linter.all false
set_option maxRecDepth 100000
namespace Du
open PySem L2
section
variable {P : Program} {w : World} {K : PySem.W.Frag} {mg : Str → Option Value} {base : Heap}
/-! are_holds -/
def HdsAt (K : PySem.W.Frag) (H : Hp) (t : Addr) (hs : List Hold) : Prop := ∃ vs : List V, SqT K H t vs ∧ vs.length = hs.length ∧ ∀ (i : Nat) v h, vs[i]? = some v → hs[i]? = some h → HdAt K H v h
theorem HdsAt.same {H H' : Hp} {t : Addr} {hs : List Hold} (d : HdsAt K H t hs) (s : Same H H') : HdsAt K H' t hs := by
  obtain ⟨vs, h1, h2, h3⟩ := d
  exact ⟨vs, h1.ext s, h2, fun i v h e1 e2 => (h3 i v h e1 e2).same s⟩
def areHds (hs : List Hold) (cost : Int) : Bool := decide (hs.length ≤ 4) && (hs.all (fun h => isHd h cost) && (hs.zip (hs.drop 1)).all fun p => ahead p.1 p.2)
theorem scHolds : FnScope ["thing", "cost", "hold", "other"] ["thing", "cost"] (defScope sHolds) := ⟨rfl, rfl, rfl, by decide +kernel, rfl, by decide +kernel, by decide +kernel⟩
def spHolds (K : PySem.W.Frag) : Sp := fun vs H Q _ => ∃ (t : Addr) (hs : List Hold) (cost : Int), vs = [.ref t, .int cost] ∧ HdsAt K H t hs ∧ (∀ h ∈ hs, h.1.length ≤ sizeLine) ∧ ∀ H', Same H H' → Q (.bl (areHds hs cost)) H'
theorem cut1 (xs : List V) : cutV xs (some 1) none = xs.drop 1 := by
  unfold cutV
  rw [show HT.sIx xs.length 0 (some 1) = min 1 xs.length from HT.sIx_nat xs.length 0 1, HT.sIx_none]
  cases xs with
  | nil => rfl
  | cons x r =>
    rw [show min 1 (x :: r).length = 1 by rw [List.length_cons]; omega]
    show (List.take ((x :: r).length - 1) r) = r
    rw [List.length_cons, Nat.add_sub_cancel, List.take_length]
theorem getmem {α : Type} {l : List α} {i : Nat} {x : α} (h : l[i]? = some x) : x ∈ l := List.mem_of_getElem? h
theorem ok_holds {f : Addr} {fd : FuncData} (F : Fun K "are_holds" "are_holds" sHolds f fd) (mI : mg "isinstance" = none) (mt : mg "tuple" = none) (ml : mg "len" = none) (ma : mg "all" = none) (mz : mg "zip" = none)
    (mM : ∃ t, mg "MOST_HOLDS" = some (.int 4 t)) (DH : Dn P w K mg base 3 "is_hold" ["thing", "cost"] (spHold K)) (DA : Dn P w K mg base 2 "goes_ahead" ["hold", "other"] (spAhead K)) :
    FnOk P w K mg base CX0 4 f fd ["thing", "cost"] (spHolds K) := by
  obtain ⟨tM, mM⟩ := mM
  refine F.ok scHolds (fun vs H Q E h => ?_) (fun cdv A outer s H vs Q E hr h => ?_)
  · obtain ⟨t, hs, cost, rfl, _⟩ := h
    rfl
  · obtain ⟨t, hs, cost, rfl, ⟨vs, hS, hvl, hat⟩, hl, q⟩ := h
    have hr1 : Room 2 _ := hr.mono (by decide)
    refine ⟨_, pss_cons (ps_if (PW.pt (pw_or (pt_not (pt_val (pe_callB call_isi (by rfl) mI (by decide +kernel) (pa_cons (pv 0) (pa_cons (pe_bltn (v := .ty "tuple") (by rfl) mt (by decide +kernel) rfl) pa_nil)))))
        (pw_or1 (pt_cmpR op_gt (pe_callB call_len_seq (by rfl) ml (by decide +kernel) (pa_cons (pv 0) pa_nil)) (pe_glob (v := .int 4) rfl mM ⟨_, rfl⟩) (nomark _)))))
        (pss_one (ps_ret pe_bl)) pss_nil)
      (pss_cons (ps_if (pt_not (pt_val (pe_callB (cr_all rfl) (by rfl) ma (by decide +kernel) (pa_cons (pe_lc (own := [("hold", 2)]) (g := gName 2) (tt := tYes) rfl scHolds.nd (pi_tup (pv 0))
        (blkOk_by (N := ["thing", "cost", "hold", "other"]) (sc := defScope sHolds) (by decide +kernel)) (fun _ _ _ _ _ => pg_name (i := 2) scHolds.nd rfl (Or.inl rfl)) (fun _ _ _ _ _ => pts_nil)
        (fun _ _ _ _ _ => pcall DH hr (by rfl) (pa_cons (pv 2) (pa_cons (pv 1) pa_nil)))) pa_nil)))) (pss_one (ps_ret pe_bl)) pss_nil)
      (pss_one (ps_ret (pe_callB (cr_all rfl) (by rfl) ma (by decide +kernel) (pa_cons (pe_lc (own := [("hold", 2), ("other", 3)]) (g := gTup K 2 (gCons (gName 2) (gCons (gName 3) gNil))) (tt := tYes) rfl scHolds.nd
        (RZ.pi_zipA (by rfl) mz (pa_cons (pv 0) (pa_cons (pe_slice sl_tupA (pv 0) (po_some pe_int) po_none) pa_nil)))
        (blkOk_by (N := ["thing", "cost", "hold", "other"]) (sc := defScope sHolds) (by decide +kernel))
        (fun _ _ _ _ _ => pg_tup rfl (pgs_cons (pg_name (i := 2) scHolds.nd rfl (Or.inl rfl)) (pgs_cons (pg_name (i := 3) scHolds.nd rfl (Or.inl rfl)) pgs_nil))) (fun _ _ _ _ _ => pts_nil)
        (fun _ _ _ _ _ => pcall DA hr1 (by rfl) (pa_cons (pv 2) (pa_cons (pv 3) pa_nil)))) pa_nil))))), ?_⟩
    refine ⟨_, rfl, _, _, _, _, true, rfl, .ty "tuple", tyx_tup hS, kit_tt, true, rfl, ?_⟩
    refine ⟨_, rfl, t, _, rfl, .inr hS, _, _, rfl, rfl, _, rfl, ?_⟩
    rw [hvl]
    by_cases h4 : hs.length ≤ 4
    · have e1 : decide ((4 : Int) < ((hs.length : Nat) : Int)) = false := decide_eq_false (by omega)
      rw [e1]
      refine iteF ?_
      -- [is_hold(hold, cost) for hold in thing]
      refine ⟨_, rfl, t, rfl, ⟨vs, hS⟩, fun D nD => lc_tup (K := K) (a := t) (xs := vs) (fun i H' => Same H H' ∧ H' D = some (.lst ((hs.take i).map fun h => V.bl (isHd h cost)))) ⟨same_upd nD, upd_same⟩ (fun i H' _ z => hS.ext z.1) ?_ ?_⟩
      · rintro i x H1 hx ⟨s1, e⟩
        have hi : i < hs.length := by
          rw [← hvl]
          exact (List.getElem?_eq_some_iff.mp hx).1
        have hh : hs[i]? = some hs[i] := List.getElem?_eq_getElem hi
        refine ⟨rfl, _, rfl, _, rfl, x, hs[i], cost, rfl, (hat i x _ hx hh).same s1, hl _ (getmem hh), fun H2 s2 => ⟨_, s2 _ _ e, ?_, same_upd2 (s1.trans s2) nD, ?_⟩⟩
        · rw [List.length_map, List.length_take]
          exact Nat.lt_of_le_of_lt (Nat.min_le_right _ _) (Nat.lt_of_le_of_lt h4 (by decide))
        · rw [upd_same, take_map1 _ hh]
      · rintro H1 ⟨s1, e⟩
        rw [hvl, List.take_of_length_le (Nat.le_refl _)] at e
        refine ⟨D, hs.map (fun h => isHd h cost), rfl, SqL.of (by rw [e, List.map_map]; rfl), _, rfl, ?_⟩
        have ea : (hs.map fun h => isHd h cost).all id = hs.all fun h => isHd h cost := by
          rw [List.all_map]
          rfl
        rw [ea]
        cases eb : hs.all fun h => isHd h cost with
        | false =>
          have q1 := q H1 s1
          unfold areHds at q1
          rw [eb, decide_eq_true h4] at q1
          exact q1
        | true =>
          refine iteF ?_
          -- [goes_ahead(hold, other) for hold, other in zip(thing, thing[1:])]
          have fin : ∀ (b : Addr) (H2 : Hp), Same H H2 → SqT K H2 b (vs.drop 1) → ∀ (D : Addr), H2 D = none → ∃ W : Nat → Nat → Hp → Prop, (∃ m, W 0 m (upd H2 D (.lst []))) ∧ ∀ i m H, W i m H →
              ((RZ.ItzT K t b).stop i H ∧ rAll K [.ref D] H Q) ∨ ((RZ.ItzT K t b).go i H ∧ ∃ Nx : Hp → Prop, (∀ H', Nx H' → ∃ m', m' < m ∧ W (i + 1) m' H') ∧ ∀ x H', (RZ.ItzT K t b).yld i H x H' →
                gTup K 2 (gCons (gName 2) (gCons (gName 3) gNil)) x (wipe (L2.start ["thing", "cost", "hold", "other"] [V.ref t, V.int cost]) [2, 3]) H' fun σ2 H2 => wipe σ2 [2, 3] = wipe (L2.start ["thing", "cost", "hold", "other"] [V.ref t, V.int cost]) [2, 3] ∧ tYes σ2 H2 fun b H3 =>
                if b = true then tCall (spAhead K) [] E0 (tCons (tVar 2) (tCons (tVar 3) tNil)) σ2 H3 fun y H4 => ∃ acc, H4 D = some (.lst acc) ∧ acc.length < sizeLine ∧ Nx (upd H4 D (.lst (acc ++ [y]))) else Nx H3) := by
            intro b H2 s2 hb D2 nD2
            have hz : (hs.zip (hs.drop 1)).length = hs.length - 1 := by
              rw [List.length_zip, List.length_drop]
              omega
            refine lc_it (walk_zipT (xs := vs) (ys := vs.drop 1) (n := hs.length - 1) (by rw [List.length_drop, hvl]; omega)) (fun i H' => Same H2 H' ∧ H' D2 = some (.lst (((hs.zip (hs.drop 1)).take i).map fun p => V.bl (ahead p.1 p.2)))) ⟨same_upd nD2, upd_same⟩
              (fun i H' _ z => ⟨hS.ext (s2.trans z.1), hb.ext z.1⟩) ?_ ?_
            · rintro i x H3 H4 hi ⟨s3, e3⟩ ⟨T, x1, x2, rfl, nT, rfl, hx1, hx2⟩
              have hi1 : i < hs.length := by omega
              have hi2 : i + 1 < hs.length := by omega
              have g1 : hs[i]? = some hs[i] := List.getElem?_eq_getElem hi1
              have g2 : hs[i + 1]? = some hs[i + 1] := List.getElem?_eq_getElem hi2
              have hx2' : vs[i + 1]? = some x2 := by
                have z : (vs.drop 1)[i]? = some x2 := hx2
                rw [List.getElem?_drop, Nat.add_comm] at z
                exact z
              have sT : Same H3 (upd H3 T (.tup [x1, x2])) := same_upd nT
              have gz : (hs.zip (hs.drop 1))[i]? = some (hs[i], hs[i + 1]) := by
                rw [List.getElem?_zip_eq_some]
                refine ⟨g1, ?_⟩
                rw [List.getElem?_drop, Nat.add_comm]
                exact g2
              have s5 := (s2.trans s3).trans sT
              refine ⟨T, [x1, x2], rfl, SqT.of upd_same, rfl, x1, [x2], rfl, x2, [], rfl, rfl, rfl, _, rfl, _, rfl, x1, x2, hs[i], hs[i + 1], rfl, (hat _ _ _ hx1 g1).same s5, (hat _ _ _ hx2' g2).same s5, _, sT _ _ e3, ?_, same_upd2 (s3.trans sT) nD2, ?_⟩
              · rw [List.length_map, List.length_take]
                exact Nat.lt_of_le_of_lt (Nat.min_le_right _ _) (Nat.lt_of_le_of_lt (show _ ≤ 4 by omega) (by decide))
              · rw [upd_same, take_map1 _ gz]
            · rintro H3 ⟨s3, e3⟩
              rw [List.take_of_length_le (by omega)] at e3
              refine ⟨D2, (hs.zip (hs.drop 1)).map (fun p => ahead p.1 p.2), rfl, SqL.of (by rw [e3, List.map_map]; rfl), ?_⟩
              have q1 := q H3 (s2.trans s3)
              unfold areHds at q1
              rw [eb, decide_eq_true h4] at q1
              rw [List.all_map]
              exact q1
          refine ⟨_, rfl, _, rfl, 1, rfl, t, vs, rfl, hS.ext s1, fun hc => ?_, fun hc p np => ?_⟩
          · have e0 : vs = [] := by
              have h0 := hc.1
              rw [show HT.sIx vs.length 0 (some 1) = min 1 vs.length from HT.sIx_nat vs.length 0 1] at h0
              cases vs with
              | nil => rfl
              | cons x r =>
                rw [List.length_cons] at h0
                omega
            refine ⟨t, t, vs, vs.drop 1, rfl, .inr ⟨hS.ext s1, ?_, fin t H1 s1 ?_⟩⟩
            · rw [e0] at hS ⊢
              exact hS.ext s1
            · rw [e0] at hS ⊢
              exact hS.ext s1
          · have sp := same_upd (o := .tup (cutV vs (some 1) none)) np
            have hb : SqT K (upd H1 p (.tup (cutV vs (some 1) none))) p (vs.drop 1) := by
              rw [← cut1]
              exact SqT.of upd_same
            exact ⟨t, p, vs, vs.drop 1, rfl, .inr ⟨hS.ext (s1.trans sp), hb, fin p _ (s1.trans sp) hb⟩⟩
    · have e1 : decide ((4 : Int) < ((hs.length : Nat) : Int)) = true := decide_eq_true (by omega)
      rw [e1]
      refine iteT ?_
      have q1 := q H (Same.refl _)
      unfold areHds at q1
      rw [decide_eq_false h4] at q1
      exact q1
end
end Du

set_option Elab.async false
set_option linter.all false
set_option maxRecDepth 100000
namespace Du
open PySem L2 PyProof.Rows
section
variable {X : Cx} {CX : CXT} {k : Nat} {f C : Addr} {fd : FuncData} {ps : List Str} {sp : Sp} {pins : List (Addr × Obj)} {σ : L2.St} {H : Hp} {s : Shared}
/-- a call of an own def from somewhere below the body -/
theorem own_call {A : Around} {vs : List V} {us : List Value} {Q : VK} (F : FnOk X.prog X.w X.K X.mg X.base CX0 k f fd ps sp) (hb : Binds X.K fd ps []) (sb : Sub X k A) (I : Inv X pins σ H s) (r : Vals vs us) (h : sp vs H Q E0) :
    wpAny (model X.prog X.w) A (call (.ref f) us) (EP X pins σ Q) X.xe s := by
  have e := I.env0
  have e0 : Env0 X.prog X.w X.K X.mg X.base A X.stack s H := ⟨sb.fr.trans e.frames, e.mod, e.bs, e.bsz, e.funs, e.frf, e.hok, e.bare⟩
  have hl := F.len _ _ _ _ h
  have hu := hb s us I.kIn (by rw [List.append_nil, ← r.length, hl])
  rw [List.append_nil] at hu
  refine wpAny_call (codeAny_mono (F.run A X.stack s H ⟨us, []⟩ us vs Q E0 sb.room e0 hu r h) fun z s' hq => ?_)
  match z, hq with
  | .error _, hq => exact hq.elim
  | .ok (.ret u), hq => exact I.after hq
  | .ok .next, hq => exact hq.elim
  | .ok .brk, hq => exact hq.elim
  | .ok .cont, hq => exact hq.elim
/-- what len wants of an own __len__ -/
def rLenO (C : Addr) (sp : Sp) : List V → Hp → VK → Prop := fun xs H Q => ∃ (a dx : Addr) (fs : List (Str × V)), xs = [.ref a] ∧ H a = some (.ins C dx fs) ∧ sp [.ref a] H (fun v H' => ∃ n : Int, v = .int n ∧ 0 ≤ n ∧ n < 2 ^ 63 ∧ Q (.int n) H') E0
theorem call_lenO (F : FnOk X.prog X.w X.K X.mg X.base CX0 k f fd ps sp) (hb : Binds X.K fd ps []) (hr : Room (k + 1) X.A) (hs : PySem.W.findIn X.K (.ref C) "__len__" = some (some (.ref f))) (hf : PySem.W.isFn X.K (.ref f) = true) :
    CallR X (.builtin "len") (rLenO C sp) := by
  intro pins s σ H xs us Q I r h
  obtain ⟨a, dx, fs, rfl, ha, hsp⟩ := h
  obtain ⟨u, rfl, ru⟩ := vals1 r
  cases ru
  obtain ⟨mA, J, _⟩ := ins_get I.hok ha
  obtain ⟨od, J, _⟩ := J.look
  obtain ⟨m, hF⟩ := I.fr
  refine PySem.W.len_K hF I.ok.mod.kin J hs hf (wpAny_mono (own_call F hb ⟨hr.in1, rfl⟩ I (vs := [.ref a]) (.cons rfl .nil) hsp) (fun v s' q => ?_) fun _ _ z => z)
  obtain ⟨z, H', I', rz, n, rfl, h0, h1, q⟩ := q
  obtain ⟨t, rfl⟩ := rz
  exact ⟨⟨h0, h1⟩, .int n, H', I'.tok _, ⟨_, rfl⟩, q⟩
/-- the body of len over an own __len__ -/
theorem lenO_body {prog : Program} {w : World} {A : Around} {E : Value → Shared → Prop} {K : PySem.W.Frag} {x : Addr} {ox : Obj} {od : Option Obj} {Q : Value → Shared → Prop} (X : K.In s.heap) (I : PySem.W.InstAt s.heap x ox C od)
    (hs : PySem.W.findIn K (.ref C) "__len__" = some (some (.ref f))) (hf : PySem.W.isFn K (.ref f) = true) (h : wpAny (model prog w) A (call (.ref f) [.ref x]) (PySem.W.LenBack Q) E s) :
    wpAny (model prog w) A (Builtin.«len» ⟨[.ref x], []⟩) (fun fin s' => ∃ r, fin = .done (.ret r) ∧ Q r s') E s := by
  unfold Builtin.«len»
  refine wpAny_bind (m := oneArg "len" _) (wpAny_pure (wpAny_bind (m := callSpecial? (.ref x) (Str.ofString "__len__")) (PySem.W.special_fn X I hs (beq_iff_eq.mp hf) (wpAny_mono h (fun r s' hr => ?_) fun _ _ y => y))))
  match r, hr with
  | .int n u, ⟨⟨h0, h1⟩, hq⟩ =>
    refine wpAny_bind (wpAny_holding (wpAny_pure (wpAny_bind (wpAny_letGo ?_))))
    show wpAny _ _ (if n < 0 then _ else if n ≥ 2 ^ 63 then _ else _) _ _ _
    rw [if_neg (Int.not_lt.mpr h0), if_neg (Int.not_le.mpr h1)]; exact wpAny_bind (wpAny_mkInt (wpAny_pure ⟨_, rfl, hq⟩))
theorem truthyO {prog : Program} {w : World} {A : Around} {E : Value → Shared → Prop} {K : PySem.W.Frag} {x : Addr} {ox : Obj} {od : Option Obj} {Q : Bool → Shared → Prop} (X : K.In s.heap) (I : PySem.W.InstAt s.heap x ox C od)
    (hnb : PySem.W.findIn K (.ref C) "__bool__" = some none) (hs : PySem.W.findIn K (.ref C) "__len__" = some (some (.ref f))) (hf : PySem.W.isFn K (.ref f) = true)
    (h : wpAny (model prog w) A.in1 (call (.ref f) [.ref x]) (PySem.W.LenBack fun v s' => ∃ n t, v = .int n t ∧ Q (n != 0) s') E s) : wpAny (model prog w) A (truthy (.ref x)) Q E s := by
  have key : wpAny (model prog w) A (runValue (.builtin "len" ⟨[.ref x], []⟩)) (fun v s' => ∃ n t, v = .int n t ∧ Q (n != 0) s') E s := by
    refine wpAny_runValue (codeAny_builtin entry_len ?_)
    rw [Around.under_plainId plain_len _]
    exact wpAny_mono (lenO_body X I hs hf h) (fun fin s' h' => by obtain ⟨r, rfl, hq⟩ := h'; exact hq) fun _ _ e => e
  unfold truthy
  refine wpAny_bind (m := callSpecial? (.ref x) (Str.ofString "__bool__")) (wpAny_bind (wpAny_bind (I.type.here ((PySem.W.looks_findIn X hnb).here (wpAny_pure ?_)))))
  refine wpAny_bind (wpAny_bind (I.type.here ((PySem.W.looks_findIn X hs).here ?_)))
  refine wpAny_bind (wpAny_mono key (fun v s' q => ?_) fun _ _ e => e)
  obtain ⟨n, t, rfl, q⟩ := q
  exact wpAny_pure q
/-- the truth of an object with an own __len__, as a test -/
theorem pt_lenO {e : Expr} {te : TE} (F : FnOk X.prog X.w X.K X.mg X.base CX0 k f fd ps sp) (hb : Binds X.K fd ps []) (hr : Room (k + 1) X.A) (hnb : PySem.W.findIn X.K (.ref C) "__bool__" = some none)
    (hs : PySem.W.findIn X.K (.ref C) "__len__" = some (some (.ref f))) (hf : PySem.W.isFn X.K (.ref f) = true) (ha : PE X e te)
    (he : ∀ whole, isTrue e X.env whole = (do let v ← whole; standAt e.pos; holding [v] (truthy v)) := by intro _; rfl) :
    PT X e (fun σ H Q => te σ H fun x H' => ∃ (a dx : Addr) (fs : List (Str × V)), x = .ref a ∧ H' a = some (.ins C dx fs) ∧ sp [.ref a] H' (fun v H2 => ∃ n : Int, v = .int n ∧ 0 ≤ n ∧ n < 2 ^ 63 ∧ Q (n != 0) H2) E0) := by
  refine ⟨fun pins s σ H Q I h => isTrue_plain (thn (ha.run pins s σ H _ I h) fun v s1 ⟨x, H1, I1, r1, a, dx, fs, e1, h1, q1⟩ => ?_) (he _)⟩
  subst e1
  cases r1
  obtain ⟨mA, J, _⟩ := ins_get I1.hok h1
  obtain ⟨od, J, _⟩ := J.look
  refine truthyO I1.kIn J hnb hs hf (wpAny_mono (own_call F hb ⟨hr.in1, rfl⟩ I1 (vs := [.ref a]) (.cons rfl .nil) q1) (fun v s' q => ?_) fun _ _ z => z)
  obtain ⟨z, H', I', rz, n, rfl, h0, h2, q⟩ := q
  obtain ⟨t, rfl⟩ := rz
  exact ⟨⟨h0, h2⟩, n, _, rfl, H', I'.tok _, q⟩
/-- len(range(e)) -/
theorem pe_lenRg {e : Expr} {te : L2.St → Hp → (Int → Int → Hp → Prop) → Prop} {p pos : Pos} (hg : Gl X "len") (hm : X.mg "len" = none) (he : PRg X e te) (na : starEach [e] X.env = (false, eval e X.env) :: starEach [] X.env := by rfl) :
    PE X (.Call (.Name "len" p) [e] [] pos) (fun σ H Q => te σ H fun a b H1 => (((b - a).toNat : Nat) : Int) < 2 ^ 63 ∧ Q (.int ((b - a).toNat : Nat)) H1) := by
  refine ⟨fun pins s σ H Q I h => wpAny_Call_Name_kw (ld_blt I hg hm boot_len (callWith_builtin1 (args_cons (thn (he pins s σ H _ I h) fun x s1 ⟨r, a, b, t, u, v, H1, ex, hr, I1, ok, q⟩ => args_nil ?_) na) na))⟩
  subst ex
  exact call_len_range hr (rangeSize_nat a b) ok ⟨.int _, H1, I1.tok _, ⟨_, rfl⟩, q⟩
end
end Du

set_option Elab.async false
set_option linter.all false
set_option maxRecDepth 100000
namespace Du
open PySem L2 PyProof.Rows
section
variable {prog : Program} {w : World} {A : Around} {E : Value → Shared → Prop} {s : Shared} {K : PySem.W.Frag} {x y C f : Addr} {ox : Obj} {od : Option Obj}
/-- object's __ne__ over an own __eq__ -/
theorem neO_body {Q : Fin → Shared → Prop} (hu : A.units < cLine) (X : K.In s.heap) (I : PySem.W.InstAt s.heap x ox C od) (hs : PySem.W.findIn K (.ref C) "__eq__" = some (some (.ref f))) (hf : PySem.W.isFn K (.ref f) = true)
    (h : wpAny (model prog w) A (call (.ref f) [.ref x, .ref y]) (fun v s' => ∃ b, v = .bool b ∧ Q (.done (.ret (.bool (!b)))) s') E s) : wpAny (model prog w) A (Builtin.«object.__ne__» ⟨[.ref x, .ref y], []⟩) Q E s := by
  unfold Builtin.«object.__ne__»
  refine wpAny_bind (m := slotArgs "__ne__" 1 _) (wpAny_pure (wpAny_bind (wpAny_cRoomFor hu ?_)))
  refine wpAny_bind (m := callSpecialIfBound? (.ref x) (Str.ofString "__eq__") [.ref y]) (PySem.W.ifBound_K X I hs hf (wpAny_mono h (fun r s' hr => ?_) fun _ _ e => e))
  obtain ⟨b, rfl, hq⟩ := hr
  exact wpAny_bind (wpAny_truthy_bool (wpAny_pure hq))
theorem neO_try {Q : Option Value → Shared → Prop} (hu : A.units + 1 < cLine) (X : K.In s.heap) (I : PySem.W.InstAt s.heap x ox C od) (hn : PySem.W.findIn K (.ref C) "__ne__" = some (some (.builtin "object.__ne__")))
    (ho : PySem.W.subIn K (.ref C) (.type "object") = some true) (hs : PySem.W.findIn K (.ref C) "__eq__" = some (some (.ref f))) (hf : PySem.W.isFn K (.ref f) = true)
    (h : wpAny (model prog w) A.in1 (call (.ref f) [.ref x, .ref y]) (fun v s' => ∃ b, v = .bool b ∧ Q (some (.bool (!b))) s') E s) : wpAny (model prog w) A (tryCompare (.ref x) (Str.ofString "__ne__") (.ref y)) Q E s := by
  have S := F.cmp_object.ne
  have go : wpAny (model prog w) A (call (.builtin "object.__ne__") [.ref x, .ref y]) (fun v s' => ∃ b, v = .bool b ∧ Q (some (.bool b)) s') E s := by
    refine wpAny_call (codeAny_call_builtin S.plain F.cmpEntry_ne (PySem.W.check_slot F.cmpKind_ne F.cmpSplit_ne (I.type.andThen (PySem.W.looks_subIn X ho)) (F.cmpArgs_ne _ _) ?_))
    exact neO_body hu X I hs hf (wpAny_mono h (fun v s' z => by obtain ⟨b, rfl, q⟩ := z; exact ⟨b, rfl, !b, rfl, q⟩) fun _ _ e => e)
  have fin : wpAny (model prog w) A (call (.builtin "object.__ne__") ([.ref x] ++ [.ref y]) >>= fun v => pure (some v)) (fun r s' => ∃ b, r = some (Value.bool b) ∧ Q (some (.bool b)) s') E s :=
    wpAny_bind (wpAny_mono go (fun v s' z => by obtain ⟨b, rfl, q⟩ := z; exact wpAny_pure ⟨b, rfl, q⟩) fun _ _ e => e)
  unfold tryCompare
  refine wpAny_bind (m := callSpecialIfBound? (.ref x) (Str.ofString "__ne__") [.ref y]) ?_
  have step : wpAny (model prog w) A (callSpecialIfBound? (.ref x) (Str.ofString "__ne__") [.ref y]) (fun r s' => ∃ b, r = some (Value.bool b) ∧ Q (some (.bool b)) s') E s := by
    simp only [callSpecialIfBound?, bindSpecialIfBound?]
    refine wpAny_holding (wpAny_bind (wpAny_bind (wpAny_bind (I.type.here ((PySem.W.looks_findIn X hn).here (wpAny_bind (wpAny_askSetting (wpAny_ite ?_))))))))
    split
    · rw [S.bind]; exact wpAny_bind (wpAny_pure (wpAny_pure (by exact fin)))
    · rw [S.bind]; exact wpAny_tryCatch (wpAny_bind (wpAny_pure (wpAny_pure (by exact fin))))
  refine wpAny_mono step (fun r s' z => ?_) fun _ _ e => e
  obtain ⟨b, rfl, q⟩ := z
  exact wpAny_pure q
theorem neO_rich {Q : Value → Shared → Prop} (hu : A.units + 1 < cLine) (X : K.In s.heap) (I : PySem.W.InstAt s.heap x ox C od) (hy : PySem.W.Looks (model prog w) s.heap (typeOf (.ref y)) (.ref C)) (hn : PySem.W.findIn K (.ref C) "__ne__" = some (some (.builtin "object.__ne__")))
    (ho : PySem.W.subIn K (.ref C) (.type "object") = some true) (hs : PySem.W.findIn K (.ref C) "__eq__" = some (some (.ref f))) (hf : PySem.W.isFn K (.ref f) = true)
    (h : wpAny (model prog w) A.in1 (call (.ref f) [.ref x, .ref y]) (fun v s' => ∃ b, v = .bool b ∧ Q (.bool (!b)) s') E s) : wpAny (model prog w) A (richCompare .NotEq (.ref x) (.ref y)) Q E s := by
  have one : wpAny (model prog w) A (tryCompare (.ref x) (Str.ofString "__ne__") (.ref y)) (fun r s' => ∃ v, r = some v ∧ Q v s') E s :=
    neO_try hu X I hn ho hs hf (wpAny_mono h (fun v s' z => by obtain ⟨b, rfl, q⟩ := z; exact ⟨b, rfl, _, rfl, q⟩) fun _ _ e => e)
  unfold richCompare
  simp only [oneThing_ref, cmpInfo_NotEq]
  refine wpAny_holding (wpAny_bind (wpAny_cRoomFor (Nat.lt_of_succ_lt hu) (wpAny_bind (I.type.here (wpAny_bind (hy.here ?_))))))
  have e : (Value.ref C != Value.ref C) = false := by simp
  simp only [e, Bool.false_eq_true, if_false]
  refine wpAny_bind (wpAny_pure ?_)
  simp only [Bool.false_eq_true, if_false]
  refine wpAny_bind (wpAny_mono one (fun r s' z => ?_) fun _ _ e => e)
  obtain ⟨v, rfl, q⟩ := z
  exact wpAny_pure q
end
/-- x != y of two objects of one class with an own ==, that are equal -/
theorem op_neG {X : Cx} {n : Nat} {C f : Addr} {fd : FuncData} {ps : List Str} {R : Addr → Addr → Hp → Prop} (F : FnOk X.prog X.w X.K X.mg X.base CX0 n f fd ps (spEq R)) (hb : Binds X.K fd ps []) (hr : Room (n + 1) X.A)
    (hn : PySem.W.findIn X.K (.ref C) "__ne__" = some (some (.builtin "object.__ne__"))) (ho : PySem.W.subIn X.K (.ref C) (.type "object") = some true) (hs : PySem.W.findIn X.K (.ref C) "__eq__" = some (some (.ref f))) (hf : PySem.W.isFn X.K (.ref f) = true) :
    OpR X (compareOp .NotEq) (fun x y H Q => DIns C R x y H ∧ ∀ H', Ext H H' → Q (.bl false) H') := by
  intro pins s σ H x y v u Q I rx ry hq
  obtain ⟨⟨a, b, dx, dy, fs, gs, rfl, rfl, ha, hb', hR⟩, q⟩ := hq
  cases rx
  cases ry
  obtain ⟨mA, J, _⟩ := ins_get I.hok ha
  obtain ⟨mB, J', _⟩ := ins_get I.hok hb'
  obtain ⟨od, J, _⟩ := J.look
  obtain ⟨od', J', _⟩ := J'.look
  show wpAny _ _ (richCompare .NotEq (.ref a) (.ref b)) _ _ _
  refine neO_rich (hu_of hr) I.kIn J J'.type hn ho hs hf (wpAny_mono (own_call F hb ⟨hr.in1, rfl⟩ I (vs := [.ref a, .ref b]) (Q := fun v H' => v = .bl true ∧ Q (.bl false) H') (.cons rfl (.cons rfl .nil)) ⟨a, b, rfl, hR, fun H' e => ⟨rfl, q H' e⟩⟩) (fun r s' z => ?_) fun _ _ e => e)
  obtain ⟨v, H', I', rv, rfl, q'⟩ := z
  cases rv
  exact ⟨true, rfl, .bl false, H', I', rfl, q'⟩
/-- repr of data, where nothing is being shown -/
theorem call_reprD {X : Cx} (hg : X.A.guards = some []) (hu : X.A.units + 66 < cLine) : CallR X (.builtin "repr") (fun xs H Q => ∃ (a : Addr) (d : PyData), xs = [.ref a] ∧ Dp X.K H (.ref a) d ∧ d.showable = true ∧ d.hasDict = false ∧ d.depth ≤ 64 ∧ d.shown.length ≤ sizeLine ∧ Q (.str d.shown) H) := by
  intro pins s σ H xs us Q I r h
  obtain ⟨a, d, rfl, hd, h1, h2, h3, h4, q⟩ := h
  obtain ⟨u, rfl, ru⟩ := vals1 r
  cases ru
  obtain ⟨as, hr⟩ := Dp.reads I d _ _ hd rfl
  exact repr_of_reads' hr h1 (PyData.noDict_hsm h2) hg (by omega) (fun _ _ e => e) (fun h' u tk hk => ⟨.str d.shown, H, I.kept hk, ⟨_, rfl⟩, q⟩) h4
end Du

set_option Elab.async false
set_option linter.all false
set_option maxRecDepth 100000
namespace Du
open PySem L2
abbrev sWrongT : Stmt := topS 21
abbrev sInit : Stmt := inClass (topS 23) 0
abbrev sEq : Stmt := inClass (topS 23) 2
abbrev sLen : Stmt := inClass (topS 23) 3
def tf (n : Str) (c g d : Int) (t : Addr) : List (Str × V) := [("name", .str n), ("cost", .int c), ("gap", .int g), ("due", .int d), ("holds", .ref t)]
theorem tf_name (n : Str) (c g d : Int) (t : Addr) : (tf n c g d t).lookup ("name" : Str) = some (.str n) := rfl
theorem tf_cost (n : Str) (c g d : Int) (t : Addr) : (tf n c g d t).lookup ("cost" : Str) = some (.int c) := rfl
theorem tf_gap (n : Str) (c g d : Int) (t : Addr) : (tf n c g d t).lookup ("gap" : Str) = some (.int g) := rfl
theorem tf_due (n : Str) (c g d : Int) (t : Addr) : (tf n c g d t).lookup ("due" : Str) = some (.int d) := rfl
theorem tf_holds (n : Str) (c g d : Int) (t : Addr) : (tf n c g d t).lookup ("holds" : Str) = some (.ref t) := rfl
theorem tf_put (n : Str) (c g d : Int) (t : Addr) : putF "holds" (.ref t) (putF "due" (.int d) (putF "gap" (.int g) (putF "cost" (.int c) (putF "name" (.str n) [])))) = tf n c g d t := rfl
/-- what is asked of the class Task as the top has made it -/
structure TaskC (K : PySem.W.Frag) (mg : Str → Option Value) (C : Addr) : Prop where
  cl : Cls K C
  nN : NoAttr K C "name"
  nC : NoAttr K C "cost"
  nG : NoAttr K C "gap"
  nD : NoAttr K C "due"
  nH : NoAttr K C "holds"
  mg : mg "Task" = some (.ref C)
  kc : PySem.W.findIn K (.ref C) "__class__" = some (some (.builtin "object.__class__"))
  kg : PySem.W.specialIn K (.builtin "object.__class__") "__get__" = some (some (.builtin "getset_descriptor.__get__"))
  kt : PySem.W.takesIn K (.builtin "object.__class__") = some true
  km : PySem.W.mroIn K C (.type "object") = some true
  kk : PySem.W.kitOne K (.ref C) (.ref C) = some true
structure TaskV where
  name : Str
  cost : Int
  gap : Int
  due : Int
  holds : List Hold
/-- a good task -/
def TaskV.ok (t : TaskV) : Prop := isNm t.name = true ∧ (1 ≤ t.cost ∧ t.cost ≤ 99) ∧ (1 ≤ t.gap ∧ t.gap ≤ 600) ∧ (1 ≤ t.due ∧ t.due ≤ t.gap) ∧ areHds t.holds t.cost = true ∧ ∀ h ∈ t.holds, h.1.length ≤ sizeLine
/-- a task stands at x, its holds at h -/
def TaskAt (K : PySem.W.Frag) (C : Addr) (H : Hp) (x : Addr) (v : TaskV) (h : Addr) : Prop := (∃ dx, H x = some (.ins C dx (tf v.name v.cost v.gap v.due h))) ∧ HdsAt K H h v.holds
theorem TaskAt.same {K : PySem.W.Frag} {C : Addr} {H H' : Hp} {x h : Addr} {v : TaskV} (d : TaskAt K C H x v h) (s : Same H H') : TaskAt K C H' x v h := by
  obtain ⟨⟨dx, e⟩, q⟩ := d
  exact ⟨⟨dx, s _ _ e⟩, q.same s⟩
def dueV : Option Int → V
  | none => .non
  | some d => .int d
/-- the heap behind the five fields -/
def initH (H : Hp) (C x dx : Addr) (n : Str) (c g d : Int) (t : Addr) : Hp :=
  upd (upd (upd (upd (upd H x (.ins C dx (putF "name" (.str n) []))) x (.ins C dx (putF "cost" (.int c) (putF "name" (.str n) [])))) x (.ins C dx (putF "gap" (.int g) (putF "cost" (.int c) (putF "name" (.str n) []))))) x
    (.ins C dx (putF "due" (.int d) (putF "gap" (.int g) (putF "cost" (.int c) (putF "name" (.str n) [])))))) x (.ins C dx (putF "holds" (.ref t) (putF "due" (.int d) (putF "gap" (.int g) (putF "cost" (.int c) (putF "name" (.str n) []))))))
theorem initH_keep {H : Hp} {C x dx t b : Addr} {n : Str} {c g d : Int} (hb : b ≠ x) : initH H C x dx n c g d t b = H b := by
  unfold initH
  rw [upd_ne hb, upd_ne hb, upd_ne hb, upd_ne hb, upd_ne hb]
theorem initH_at {K : PySem.W.Frag} {H H2 : Hp} {C x dx h : Addr} {v : TaskV} (hx : H x = some (.ins C dx [])) (s : Same H H2) (hh : HdsAt K H h v.holds) :
    TaskAt K C (initH H2 C x dx v.name v.cost v.gap v.due h) x v h ∧ ∀ b o, H b = some o → b ≠ x → initH H2 C x dx v.name v.cost v.gap v.due h b = some o := by
  have keep : ∀ b o, H b = some o → b ≠ x → initH H2 C x dx v.name v.cost v.gap v.due h b = some o := fun b o e hb => by
    rw [initH_keep hb]
    exact s _ _ e
  refine ⟨⟨⟨dx, by unfold initH; rw [upd_same, tf_put]⟩, ?_⟩, keep⟩
  obtain ⟨vs, q1, q2, q3⟩ := hh
  have kT : ∀ a xs, SqT K H a xs → SqT K (initH H2 C x dx v.name v.cost v.gap v.due h) a xs := fun a xs z => by
    rcases z with (z | ⟨o, z⟩) | z
    · exact .inl (.inl (keep a _ z (ne_of z hx (by intro y; cases y))))
    · exact .inl (.inr ⟨o, keep a _ z (ne_of z hx (by intro y; cases y))⟩)
    · exact .inr z
  exact ⟨vs, kT _ _ q1, q2, fun i v h e1 e2 => by obtain ⟨a, ea, z⟩ := q3 i v h e1 e2; exact ⟨a, ea, kT _ _ z⟩⟩
section
variable {P : Program} {w : World} {K : PySem.W.Frag} {mg : Str → Option Value} {base : Heap}
/-! wrong_in_task of a good one -/
abbrev nWrongT : List Str := ["name", "cost", "gap", "due", "holds"]
theorem scWrongT : FnScope nWrongT nWrongT (defScope sWrongT) := ⟨rfl, rfl, rfl, by decide +kernel, rfl, by decide +kernel, by decide +kernel⟩
def spWrongT (K : PySem.W.Frag) : Sp := fun vs H Q _ => ∃ (h : Addr) (v : TaskV) (od : Option Int), vs = [.str v.name, .int v.cost, .int v.gap, dueV od, .ref h] ∧ v.due = od.getD v.gap ∧ v.ok ∧ HdsAt K H h v.holds ∧ ∀ H', Same H H' → Q .non H'
theorem ok_wrongT {f : Addr} {fd : FuncData} (F : Fun K "wrong_in_task" "wrong_in_task" sWrongT f fd) (mC : ∃ t, mg "MOST_COST" = some (.int 99 t)) (mG : ∃ t, mg "MOST_GAP" = some (.int 600 t))
    (DN : Dn P w K mg base 2 "is_name" ["thing"] (spName K)) (DW : Dn P w K mg base 2 "is_whole" ["thing", "least", "most"] (spWhole K)) (DH : Dn P w K mg base 4 "are_holds" ["thing", "cost"] (spHolds K)) :
    FnOk P w K mg base CX0 5 f fd nWrongT (spWrongT K) := by
  obtain ⟨uC, mC⟩ := mC
  obtain ⟨uG, mG⟩ := mG
  refine F.ok scWrongT (fun vs H Q E h => ?_) (fun cdv A outer s H vs Q E hr h => ?_)
  · obtain ⟨h, v, od, rfl, _⟩ := h
    rfl
  · obtain ⟨h, v, od, rfl, hdue, ⟨o1, o2, o3, o4, o5, o6⟩, hh, k⟩ := h
    have hr1 : Room 2 _ := hr.mono (by decide)
    refine ⟨_, (pss_cons (ps_if (pt_not (pt_val (pcall DN hr1 (by rfl) (pa_cons (pv 0) pa_nil)))) pss_never pss_nil) (pss_cons (ps_if (pt_not (pt_val (pcall DW hr1 (by rfl) (pa_cons (pv 1) (pa_cons pe_int (pa_cons (pe_glob (v := .int 99) rfl mC ⟨_, rfl⟩) pa_nil)))))) pss_never pss_nil) (pss_cons (ps_if (pt_not (pt_val (pcall DW hr1 (by rfl) (pa_cons (pv 2) (pa_cons pe_int (pa_cons (pe_glob (v := .int 600) rfl mG ⟨_, rfl⟩) pa_nil)))))) pss_never pss_nil) (pss_cons (ps_if (PW.pt (pw_and (pt_cmpR op_notN (pv 3) pe_non (nomark _)) (pw_and1 (pt_not (pt_val (pcall DW hr1 (by rfl) (pa_cons (pv 3) (pa_cons pe_int (pa_cons (pv 2) pa_nil))))))))) pss_never pss_nil) (pss_cons (ps_if (pt_not (pt_val (pcall DH hr (by rfl) (pa_cons (pv 4) (pa_cons (pv 1) pa_nil))))) pss_never pss_nil) (pss_one (ps_ret pe_non))))))), ?_⟩
    have hn8 : v.name.length ≤ sizeLine := by
      unfold isNm at o1
      simp only [Bool.and_eq_true, decide_eq_true_eq] at o1
      exact Nat.le_trans o1.2.1 (by decide)
    refine ⟨_, rfl, _, rfl, .inl ⟨_, rfl, hn8, fun H1 s1 => ⟨_, rfl, ?_⟩⟩⟩
    rw [o1]
    refine iteF ⟨_, rfl, _, _, _, rfl, .inl ⟨_, rfl, _, rfl, ?_⟩⟩
    rw [decide_eq_true o2.1, decide_eq_true o2.2]
    refine iteF ⟨_, rfl, _, _, _, rfl, .inl ⟨_, rfl, _, rfl, ?_⟩⟩
    rw [decide_eq_true o3.1, decide_eq_true o3.2]
    refine iteF ⟨_, rfl, rfl, _, rfl, ?_⟩
    cases od with
    | none =>
      refine ⟨_, rfl, _, rfl, h, v.holds, v.cost, rfl, hh.same s1, o6, fun H2 s2 => ⟨_, rfl, ?_⟩⟩
      rw [o5]
      exact iteF (k H2 (s1.trans s2))
    | some d =>
      have ed : v.due = d := hdue
      refine ⟨_, rfl, _, rfl, _, _, _, rfl, .inl ⟨_, rfl, _, rfl, ?_⟩⟩
      rw [ed] at o4
      rw [decide_eq_true o4.1, decide_eq_true o4.2]
      refine ⟨_, rfl, _, rfl, h, v.holds, v.cost, rfl, hh.same s1, o6, fun H2 s2 => ⟨_, rfl, ?_⟩⟩
      rw [o5]
      exact iteF (k H2 (s1.trans s2))
abbrev nInit : List Str := ["self", "name", "cost", "gap", "due", "holds", "part"]
theorem scInit : FnScope nInit ["self", "name", "cost", "gap", "due", "holds"] (defScope sInit) := ⟨rfl, rfl, rfl, by decide +kernel, rfl, by decide +kernel, by decide +kernel⟩
def spInit (K : PySem.W.Frag) (C : Addr) : Sp := fun vs H Q _ => ∃ (x dx h : Addr) (v : TaskV) (od : Option Int), vs = [.ref x, .str v.name, .int v.cost, .int v.gap, dueV od, .ref h] ∧ v.due = od.getD v.gap ∧ v.ok ∧ HdsAt K H h v.holds ∧ H x = some (.ins C dx []) ∧
  ∀ H', TaskAt K C H' x v h → (∀ b o, H b = some o → b ≠ x → H' b = some o) → Q .non H'
theorem ok_init {C f : Addr} {fd : FuncData} {kws : List (Str × V)} (F : FunD K "__init__" "Task.__init__" (defArgs sInit) (defBody sInit) (defScope sInit) [] kws f fd) (T : TaskC K mg C)
    (DT : Dn P w K mg base 5 "wrong_in_task" nWrongT (spWrongT K)) :
    FnOk P w K mg base CX0 6 f fd ["self", "name", "cost", "gap", "due", "holds"] (spInit K C) := by
  refine F.ok (CX := CX0) scInit (fun vs H Q E h => ?_) (fun cdv A outer s H vs Q E hr h => ?_)
  · obtain ⟨x, dx, h, v, od, rfl, _⟩ := h
    rfl
  · obtain ⟨x, dx, h, v, od, rfl, hdue, hok, hh, hx, k⟩ := h
    refine ⟨_, (pss_cons (ps_set (i := 6) scInit.nd rfl (.inl rfl) (pcall DT hr (by rfl) (pa_cons (pv 1) (pa_cons (pv 2) (pa_cons (pv 3) (pa_cons (pv 4) (pa_cons (pv 5) pa_nil))))))) (pss_cons (ps_if (pt_cmpR op_notN (pv 6) pe_non (nomark _)) pss_never pss_nil) (pss_cons (ps_fld (pv 0) (pv 1) rfl) (pss_cons (ps_fld (pv 0) (pv 2) rfl) (pss_cons (ps_fld (pv 0) (pv 3) rfl) (pss_cons (ps_fld (pv 0) (pe_ifExp (pt_cmpR op_isN (pv 4) pe_non (nomark _)) (pv 3) (pv 4)) rfl) (pss_one (ps_fld (pv 0) (pv 5) rfl)))))))), ?_⟩
    refine ⟨_, rfl, _, rfl, _, rfl, _, rfl, _, rfl, h, v, od, rfl, hdue, hok, hh, fun H2 s2 => ?_⟩
    refine ⟨_, rfl, rfl, _, rfl, ?_⟩
    refine iteF ?_
    refine ⟨_, rfl, _, rfl, x, C, dx, [], rfl, s2 _ _ hx, T.cl, T.nN, (by show 0 < 1000; decide), ?_⟩
    refine ⟨_, rfl, _, rfl, x, C, dx, _, rfl, upd_same, T.cl, T.nC, (by show 1 < 1000; decide), ?_⟩
    refine ⟨_, rfl, _, rfl, x, C, dx, _, rfl, upd_same, T.cl, T.nG, (by show 2 < 1000; decide), ?_⟩
    refine ⟨_, rfl, rfl, _, rfl, ?_⟩
    obtain ⟨z1, z2⟩ := initH_at hx s2 hh
    cases od with
    | none =>
      have ed : v.due = v.gap := hdue
      rw [ed] at z1 z2
      exact ⟨_, rfl, _, rfl, x, C, dx, _, rfl, upd_same, T.cl, T.nD, (by show 3 < 1000; decide), _, rfl, _, rfl, x, C, dx, _, rfl, upd_same, T.cl, T.nH, (by show 4 < 1000; decide), k _ z1 z2⟩
    | some d =>
      have ed : v.due = d := hdue
      rw [ed] at z1 z2
      exact ⟨_, rfl, _, rfl, x, C, dx, _, rfl, upd_same, T.cl, T.nD, (by show 3 < 1000; decide), _, rfl, _, rfl, x, C, dx, _, rfl, upd_same, T.cl, T.nH, (by show 4 < 1000; decide), k _ z1 z2⟩
end
end Du

set_option Elab.async false
set_option linter.all false
set_option maxRecDepth 100000
namespace Du
open PySem L2
section
variable {P : Program} {w : World} {K : PySem.W.Frag} {mg : Str → Option Value} {base : Heap}
def hdD (h : Hold) : PyData := .tuple [.str h.1, .int h.2.1, .int h.2.2]
theorem hd_dp {H : Hp} {v : V} {h : Hold} (d : HdAt K H v h) : Dp K H v (hdD h) := by
  obtain ⟨a, rfl, q⟩ := d
  exact .tup q (.cons (.str _) (.cons (.int _) (.cons (.int _) .nil)))
theorem hds_all {H : Hp} : ∀ {vs : List V} {hs : List Hold}, vs.length = hs.length → (∀ (i : Nat) v h, vs[i]? = some v → hs[i]? = some h → HdAt K H v h) → DpAll K H vs (hs.map hdD)
  | [], [], _, _ => .nil
  | v :: vs, h :: hs, hl, q => .cons (hd_dp (q 0 v h rfl rfl)) (hds_all (Nat.succ.inj hl) fun i a b e1 e2 => q (i + 1) a b e1 e2)
theorem hds_dp {H : Hp} {t : Addr} {hs : List Hold} (d : HdsAt K H t hs) : Dp K H (.ref t) (.tuple (hs.map hdD)) := by
  obtain ⟨vs, q1, q2, q3⟩ := d
  exact .tup q1 (hds_all q2 q3)
theorem letter_small {c : Nat} (h : isLetter c = true) : 97 ≤ c ∧ c ≤ 122 := by
  have z : ∀ c ∈ letters.cps.toList, 97 ≤ c ∧ c ≤ 122 := by decide +kernel
  exact z c (of_decide_eq_true h)
theorem nm_len {z : Str} (h : isNm z = true) : 1 ≤ z.length ∧ z.length ≤ 8 := by
  unfold isNm at h
  simp only [Bool.and_eq_true, decide_eq_true_eq] at h
  exact ⟨h.1, h.2.1⟩
theorem nm_codes {z : Str} (h : isNm z = true) : ∀ c ∈ z.cps.toList, 97 ≤ c ∧ c ≤ 122 := by
  unfold isNm at h
  simp only [Bool.and_eq_true, List.all_eq_true] at h
  exact fun c hc => letter_small (h.2.2 c hc)
theorem nm_strOk {z : Str} (h : isNm z = true) : PyData.strOk z = true := by
  unfold PyData.strOk
  rw [← Array.all_toList, List.all_eq_true]
  intro c hc
  have := nm_codes h c hc
  exact decide_eq_true (by omega)
theorem hds_lay : ∀ hs : List Hold, (∀ h ∈ hs, isNm h.1 = true) → PyData.canLayAll0 (hs.map hdD) = true
  | [], _ => rfl
  | h :: hs, q => by
    show (PyData.canLay0 (hdD h) && PyData.canLayAll0 (hs.map hdD)) = true
    rw [hds_lay hs fun g hg => q g (List.mem_cons_of_mem _ hg)]
    have e : PyData.canLay0 (hdD h) = PyData.strOk h.1 := by
      show (PyData.strOk h.1 && (true && (true && true))) = PyData.strOk h.1
      simp
    rw [e, nm_strOk (q h List.mem_cons_self)]
    rfl
theorem hds_depth : ∀ hs : List Hold, PyData.depthAll (hs.map hdD) ≤ 1
  | [] => Nat.zero_le _
  | h :: hs => by
    show max (PyData.depth (hdD h)) (PyData.depthAll (hs.map hdD)) ≤ 1
    have := hds_depth hs
    have e : PyData.depth (hdD h) = 1 := rfl
    omega
theorem hds_shaped {hs : List Hold} (q : ∀ h ∈ hs, isNm h.1 = true) : SeqAt.shaped (.tuple (hs.map hdD)) = true := by
  unfold SeqAt.shaped
  have h1 : PyData.canLay0 (.tuple (hs.map hdD)) = true := by
    simp only [PyData.canLay0]
    exact hds_lay hs q
  have h2 : PyData.depth (.tuple (hs.map hdD)) ≤ 64 := by
    have := hds_depth hs
    simp only [PyData.depth]
    omega
  rw [h1, decide_eq_true h2]
  rfl
theorem hds_eqv {hs : List Hold} (q : ∀ h ∈ hs, isNm h.1 = true) : PyData.eqv (.tuple (hs.map hdD)) (.tuple (hs.map hdD)) = true := SeqAt.eqv_refl _ (SeqAt.canLay_of_shaped (hds_shaped q))
/-! Task.__eq__ -/
theorem scEq : FnScope ["self", "other"] ["self", "other"] (defScope sEq) := ⟨rfl, rfl, rfl, by decide +kernel, rfl, by decide +kernel, by decide +kernel⟩
def TwoTasks (K : PySem.W.Frag) (C : Addr) (a b : Addr) (H : Hp) : Prop := ∃ (v : TaskV) (ha hb : Addr), TaskAt K C H a v ha ∧ TaskAt K C H b v hb ∧ ∀ h ∈ v.holds, isNm h.1 = true
theorem decV (x : V) : decide (x = x) = true := decide_eq_true rfl
theorem ok_eq {C f : Addr} {fd : FuncData} (F : Fun K "__eq__" "Task.__eq__" sEq f fd) (T : TaskC K mg C) (mI : mg "isinstance" = none) :
    FnOk P w K mg base CX0 3 f fd ["self", "other"] (spEq (TwoTasks K C)) := by
  refine F.ok scEq (fun vs H Q E h => ?_) (fun cdv A outer s H vs Q E hr h => ?_)
  · obtain ⟨a, b, rfl, _⟩ := h
    rfl
  · obtain ⟨a, b, rfl, ⟨v, ha, hb, ⟨⟨da, e1⟩, q1⟩, ⟨⟨db, e2⟩, q2⟩, hnm⟩, k⟩ := h
    refine ⟨_, pss_one (ps_ret (pe_and (pe_callB call_isi (by rfl) mI (by decide +kernel) (pa_cons (pv 1) (pa_cons (pe_glob (v := .ref C) rfl T.mg rfl) pa_nil)))
      (pe_and (pe_cmpR op_eq (pe_fld (pv 0) rfl) (pe_fld (pv 1) rfl) (nomark _)) (pe_and (pe_cmpR op_eq (pe_fld (pv 0) rfl) (pe_fld (pv 1) rfl) (nomark _)) (pe_and (pe_cmpR op_eq (pe_fld (pv 0) rfl) (pe_fld (pv 1) rfl) (nomark _))
      (pe_and (pe_cmpR op_eq (pe_fld (pv 0) rfl) (pe_fld (pv 1) rfl) (nomark _)) (pe_one (pe_cmpR (op_eqD hr.units) (pe_fld (pv 0) rfl) (pe_fld (pv 1) rfl) (nomark _))))))))), ?_⟩
    refine ⟨_, rfl, _, _, _, _, true, rfl, .own C, .base (.ins e2 T.cl T.kc T.kg T.kt T.km), T.kk, true, rfl, ?_⟩
    refine iteT ⟨_, rfl, a, C, da, _, _, rfl, e1, T.cl, T.nN, tf_name _ _ _ _ _, _, rfl, b, C, db, _, _, rfl, e2, T.cl, T.nN, tf_name _ _ _ _ _, rfl, _, rfl, ?_⟩
    rw [decV]
    refine iteT ⟨_, rfl, a, C, da, _, _, rfl, e1, T.cl, T.nC, tf_cost _ _ _ _ _, _, rfl, b, C, db, _, _, rfl, e2, T.cl, T.nC, tf_cost _ _ _ _ _, rfl, _, rfl, ?_⟩
    rw [decV]
    refine iteT ⟨_, rfl, a, C, da, _, _, rfl, e1, T.cl, T.nG, tf_gap _ _ _ _ _, _, rfl, b, C, db, _, _, rfl, e2, T.cl, T.nG, tf_gap _ _ _ _ _, rfl, _, rfl, ?_⟩
    rw [decV]
    refine iteT ⟨_, rfl, a, C, da, _, _, rfl, e1, T.cl, T.nD, tf_due _ _ _ _ _, _, rfl, b, C, db, _, _, rfl, e2, T.cl, T.nD, tf_due _ _ _ _ _, rfl, _, rfl, ?_⟩
    rw [decV]
    refine iteT ⟨_, rfl, a, C, da, _, _, rfl, e1, T.cl, T.nH, tf_holds _ _ _ _ _, _, rfl, b, C, db, _, _, rfl, e2, T.cl, T.nH, tf_holds _ _ _ _ _, _, _, hds_dp q1, hds_dp q2, hds_shaped hnm, hds_shaped hnm, ?_⟩
    rw [hds_eqv hnm]
    exact k H (Same.refl _)
/-! Task.__len__ -/
theorem scLen : FnScope ["self"] ["self"] (defScope sLen) := ⟨rfl, rfl, rfl, by decide +kernel, rfl, by decide +kernel, by decide +kernel⟩
def spLenT (K : PySem.W.Frag) (C : Addr) : Sp := fun vs H Q _ => ∃ (a h : Addr) (v : TaskV), vs = [.ref a] ∧ TaskAt K C H a v h ∧ 0 ≤ v.cost ∧ v.cost < 1000 ∧ Q (.int v.cost) H
theorem ok_len {C f : Addr} {fd : FuncData} (F : Fun K "__len__" "Task.__len__" sLen f fd) (T : TaskC K mg C) (ml : mg "len" = none) (mr : mg "range" = none) :
    FnOk P w K mg base CX0 3 f fd ["self"] (spLenT K C) := by
  refine F.ok scLen (fun vs H Q E h => ?_) (fun cdv A outer s H vs Q E hr h => ?_)
  · obtain ⟨a, h, v, rfl, _⟩ := h
    rfl
  · obtain ⟨a, h, v, rfl, ⟨⟨dx, e1⟩, _⟩, h0, h1, q⟩ := h
    refine ⟨_, pss_one (ps_ret (pe_lenRg (by rfl) ml (prg_1 (by rfl) mr (pe_fld (pv 0) rfl)))), ?_⟩
    have en : (((v.cost - 0).toNat : Nat) : Int) = v.cost := by omega
    refine ⟨_, rfl, a, C, dx, _, _, rfl, e1, T.cl, T.nC, tf_cost _ _ _ _ _, _, rfl, by omega, ?_⟩
    rw [en]
    exact q
end
end Du

set_option Elab.async false
set_option linter.all false
set_option maxRecDepth 100000
namespace Du
open PySem L2
abbrev sCell : Stmt := topS 26
abbrev sPurse : Stmt := topS 27
abbrev sTake : Stmt := topS 28
section
variable {P : Program} {w : World} {K : PySem.W.Frag} {mg : Str → Option Value} {base : Heap}
theorem cutV_mem {xs : List V} {lo hi : Option Int} {x : V} (h : x ∈ cutV xs lo hi) : x ∈ xs := List.mem_of_mem_drop (List.mem_of_mem_take h)
/-! _law_cell -/
theorem scCell : FnScope ["_law_script", "_law_k", "_law_state", "_law_cell_here"] ["_law_script", "_law_k"] (defScope sCell) := ⟨rfl, rfl, rfl, by decide +kernel, rfl, by decide +kernel, by decide +kernel⟩
def spCellL (K : PySem.W.Frag) : Sp := fun vs H Q _ => ∃ (a : Addr) (ns : List Int) (k : Nat), vs = [.ref a, .int (k : Int)] ∧ SqL K H a (ns.map V.int) ∧ k < 64 ∧ ∀ (n : Int) H', Same H H' → Q (.int n) H'
theorem ok_cell {f : Addr} {fd : FuncData} (F : Fun K "_law_cell" "_law_cell" sCell f fd) (ml : mg "len" = none) : FnOk P w K mg base CX0 3 f fd ["_law_script", "_law_k"] (spCellL K) := by
  refine F.ok scCell (fun vs H Q E h => ?_) (fun cdv A outer s H vs Q E hr h => ?_)
  · obtain ⟨a, ns, k, rfl, _⟩ := h
    rfl
  · obtain ⟨a, ns, k, rfl, hS, hk, q⟩ := h
    refine ⟨_, pss_cons (ps_if (pt_cmpR op_lt (pv 1) (pe_callB call_len_seq (by rfl) ml (by decide +kernel) (pa_cons (pv 0) pa_nil)) (nomark _)) (pss_one (ps_ret (pe_ix ix_list (pv 0) (pv 1) (fun _ _ => rfl)))) pss_nil)
      (pss_cons (ps_set (i := 2) scCell.nd rfl (.inl rfl) (pe_op op_mod (pe_op op_mul pe_int (pe_op op_add (pe_op op_add (pe_op op_mul (pv 1) (pv 1)) (pe_op op_mul pe_int (pv 1))) pe_int)) pe_int))
      (pss_cons (ps_for PassesOwn.never rfl (pi_list (pe_slice sl_list (pv 0) po_none (po_some pe_int))) (pg_name (i := 3) scCell.nd rfl (.inl rfl))
        (pss_one (ps_set (i := 2) scCell.nd rfl (.inl rfl) (pe_op op_mod (pe_op op_add (pe_op op_mul (pv 2) pe_int) (pv 3)) pe_int))))
      (pss_one (ps_ret (pv 2))))), ?_⟩
    refine ⟨_, rfl, _, rfl, a, _, rfl, .inl hS, _, _, rfl, rfl, _, rfl, ?_⟩
    by_cases hlt : k < ns.length
    · have e1 : decide ((k : Int) < (((ns.map V.int).length : Nat) : Int)) = true := decide_eq_true (by rw [List.length_map]; omega)
      rw [e1]
      have g : (ns.map V.int)[k]? = some (V.int ns[k]) := by
        rw [List.getElem?_map, List.getElem?_eq_getElem hlt]
        rfl
      exact iteT ⟨_, rfl, _, rfl, a, _, _, _, rfl, rfl, hS, at_of rfl g, q _ H (Same.refl _)⟩
    · have e1 : decide ((k : Int) < (((ns.map V.int).length : Nat) : Int)) = false := decide_eq_false (by rw [List.length_map]; omega)
      rw [e1]
      refine iteF ⟨_, rfl, _, rfl, _, _, rfl, rfl, .inl ⟨by omega, by omega⟩, _, rfl, _, _, rfl, rfl, .inl ⟨by decide, by decide⟩, _, _, rfl, rfl, _, _, rfl, rfl, _, _, rfl, rfl, .inl ⟨by decide, by decide⟩, _, _, rfl, rfl, (by show (0 : Int) < 1000000021; decide), ?_⟩
      refine ⟨_, rfl, 3, rfl, a, _, rfl, hS, fun c nc => ?_⟩
      refine ⟨c, rfl, ⟨_, SqL.of upd_same⟩, for_list (K := K) (a := c) (xs := cutV (ns.map V.int) none (some 3)) (fun i σ H' => ∃ (st : Int) (v : Option V), σ = [some (.ref a), some (.int (k : Int)), some (.int st), v] ∧ Same (upd H c (.lst (cutV (ns.map V.int) none (some 3)))) H')
        ⟨_, none, rfl, Same.refl _⟩ (fun i σ H' _ z => ?_) ?_ ?_⟩
      · obtain ⟨_, _, _, s1⟩ := z
        exact SqL.of (s1 _ _ upd_same)
      · rintro i x σ H' hi ⟨st, v, rfl, s1⟩
        obtain ⟨z, _, rfl⟩ := List.mem_map.mp (cutV_mem (List.mem_of_getElem? hi))
        refine ⟨_, rfl, _, _, rfl, rfl, .inr ⟨by decide, by decide⟩, _, rfl, _, _, rfl, rfl, _, _, rfl, rfl, (by show (0 : Int) < 1000000021; decide), ?_⟩
        exact ⟨_, _, rfl, s1⟩
      · rintro σ H' ⟨st, v, rfl, s1⟩
        exact ⟨_, rfl, q st H' ((same_upd nc).trans s1)⟩
/-! _law_purse -/
def Purse (H : Hp) (p : Addr) : Prop := ∃ a d c : Int, H p = some (.lst [.int a, .int d, .int c]) ∧ 0 ≤ a ∧ a < 1000000021 ∧ 0 ≤ d ∧ 0 ≤ c
theorem scPurse : FnScope ["_law_cell_here", "_law_digits"] ["_law_cell_here"] (defScope sPurse) := ⟨rfl, rfl, rfl, by decide +kernel, rfl, by decide +kernel, by decide +kernel⟩
def spPurse : Sp := fun vs H Q _ => ∃ n : Int, vs = [.int n] ∧ ∀ p H', Same H H' → H p = none → Purse H' p → Q (.ref p) H'
theorem ok_purse {f : Addr} {fd : FuncData} (F : Fun K "_law_purse" "_law_purse" sPurse f fd) (ma : mg "abs" = none) : FnOk P w K mg base CX0 3 f fd ["_law_cell_here"] spPurse := by
  refine F.ok scPurse (fun vs H Q E h => ?_) (fun cdv A outer s H vs Q E hr h => ?_)
  · obtain ⟨n, rfl, _⟩ := h
    rfl
  · obtain ⟨n, rfl, q⟩ := h
    refine ⟨_, pss_cons (ps_set (i := 1) scPurse.nd rfl (.inl rfl) pe_int)
      (pss_cons (ps_if (PW.pt (pw_or (pt_cmpR op_lt (pv 0) pe_int (nomark _)) (pw_or1 (pt_cmpR op_ge (pv 0) (pe_op op_pow pe_int pe_int) (nomark _)))))
        (pss_one (ps_set (i := 1) scPurse.nd rfl (.inl rfl) (pe_callB call_abs (by rfl) ma (by decide +kernel) (pa_cons (pv 0) pa_nil)))) pss_nil)
      (pss_one (ps_ret (pe_lst (pa_cons (pe_op op_mod (pv 0) pe_int) (pa_cons (pv 1) (pa_cons pe_int pa_nil))))))), ?_⟩
    have fin : ∀ d : Int, 0 ≤ d → tRet (fun σ H Q => tCons (tOp (rI (fun _ j => 0 < j) fun i j => .int (i % j)) (tVar 0) (tC (.int 1000000021))) (tCons (tVar 1) (tCons (tC (.int 0)) tNil)) σ H fun vs H1 => vs.length ≤ sizeLine ∧ ∀ p, H1 p = none → Q (.ref p) (upd H1 p (.lst vs)))
        { nx := fun _ H' => Q .non H', rt := Q } [some (.int n), some (.int d)] H := by
      intro d hd
      refine ⟨_, rfl, _, _, rfl, rfl, (by show (0 : Int) < 1000000021; decide), _, rfl, (by show 3 ≤ sizeLine; decide), fun p np => ?_⟩
      exact q p _ (same_upd np) np ⟨_, d, 0, upd_same, Int.emod_nonneg _ (by decide), Int.emod_lt_of_pos _ (by decide), hd, Int.le_refl _⟩
    refine ⟨_, rfl, _, _, rfl, rfl, _, rfl, ?_⟩
    by_cases h1 : n < 0
    · rw [decide_eq_true h1]
      refine ⟨_, rfl, n, rfl, ?_⟩
      exact fin _ (by split <;> omega)
    · rw [decide_eq_false h1]
      refine ⟨_, rfl, _, _, rfl, rfl, ⟨by decide, by decide, by decide⟩, _, _, rfl, rfl, _, rfl, ?_⟩
      by_cases h2 : (10 : Int) ^ (18 : Int).toNat ≤ n
      · rw [decide_eq_true h2]
        refine ⟨_, rfl, n, rfl, ?_⟩
        exact fin _ (by split <;> omega)
      · rw [decide_eq_false h2]
        exact fin 0 (Int.le_refl _)
/-! _law_take -/
/-- the purse goes on, all else that is tracked stays -/
structure Step (p : Addr) (H H' : Hp) : Prop where
  purse : Purse H' p
  keep : ∀ b o, b ≠ p → H b = some o → H' b = some o
theorem scTake : FnScope ["_law_purse_here", "_law_many", "_law_state", "_law_taken"] ["_law_purse_here", "_law_many"] (defScope sTake) := ⟨rfl, rfl, rfl, by decide +kernel, rfl, by decide +kernel, by decide +kernel⟩
def spTake : Sp := fun vs H Q _ => ∃ (p : Addr) (m : Int), vs = [.ref p, .int m] ∧ 0 < m ∧ m < 1073741824 ∧ Purse H p ∧ ∀ (r : Int) H', 0 ≤ r → r < m → Step p H H' → Q (.int r) H'
theorem ok_take {f : Addr} {fd : FuncData} (F : Fun K "_law_take" "_law_take" sTake f fd) : FnOk P w K mg base CX0 3 f fd ["_law_purse_here", "_law_many"] spTake := by
  refine F.ok scTake (fun vs H Q E h => ?_) (fun cdv A outer s H vs Q E hr h => ?_)
  · obtain ⟨p, m, rfl, _⟩ := h
    rfl
  · obtain ⟨p, m, rfl, hm, hm2, ⟨a, d, c, hp, a0, a1, d0, c0⟩, q⟩ := h
    refine ⟨_, pss_cons (ps_asg (pe_op op_add (pe_ix ix_list (pv 0) pe_int (fun _ _ => rfl)) pe_int) (pg_sub (pv 0) pe_int set_list))
      (pss_cons (ps_set (i := 2) scTake.nd rfl (.inl rfl) (pe_ix ix_list (pv 0) pe_int (fun _ _ => rfl)))
      (pss_cons (ps_asg (pe_op op_mod (pe_op op_add (pe_op op_add (pe_op op_mul (pv 2) (pe_op op_add (pe_op op_mod (pv 2) pe_int) pe_int)) (pe_op op_mul pe_int (pe_ix ix_list (pv 0) pe_int (fun _ _ => rfl)))) pe_int) pe_int) (pg_sub (pv 0) pe_int set_list))
      (pss_cons (ps_if (pt_cmpR op_gt (pe_ix ix_list (pv 0) pe_int (fun _ _ => rfl)) pe_int (nomark _))
        (pss_cons (ps_set (i := 3) scTake.nd rfl (.inl rfl) (pe_op op_mod (pe_ix ix_list (pv 0) pe_int (fun _ _ => rfl)) (pv 1)))
        (pss_cons (ps_asg (pe_op op_fdiv (pe_ix ix_list (pv 0) pe_int (fun _ _ => rfl)) (pv 1)) (pg_sub (pv 0) pe_int set_list)) (pss_one (ps_ret (pv 3))))) pss_nil)
      (pss_one (ps_ret (pe_op op_mod (pe_op op_fdiv (pe_ix ix_list (pv 0) pe_int (fun _ _ => rfl)) pe_int) (pv 1))))))), ?_⟩
    refine ⟨_, rfl, p, _, _, _, rfl, rfl, SqL.of hp, at_of (j := 2) rfl rfl, _, _, rfl, rfl, _, rfl, p, _, _, 2, rfl, rfl, hp, rfl, ?_⟩
    refine ⟨_, rfl, p, _, _, _, rfl, rfl, SqL.of upd_same, at_of (j := 0) rfl rfl, ?_⟩
    refine ⟨_, rfl, _, rfl, _, _, rfl, rfl, (by show (0 : Int) < 50021; decide), _, _, rfl, rfl, _, _, rfl, rfl, .inl ⟨by omega, by omega⟩, _, rfl, p, _, _, _, rfl, rfl, SqL.of upd_same, at_of (j := 2) rfl rfl, _, _, rfl, rfl, .inl ⟨by decide, by decide⟩, _, _, rfl, rfl, _, _, rfl, rfl, _, _, rfl, rfl, (by show (0 : Int) < 1000000021; decide), ?_⟩
    refine ⟨_, rfl, p, _, _, 0, rfl, rfl, upd_same, rfl, ?_⟩
    refine ⟨_, rfl, p, _, _, _, rfl, rfl, SqL.of upd_same, at_of (j := 1) rfl rfl, _, _, rfl, rfl, _, rfl, ?_⟩
    have keep : ∀ (o1 o2 : HO) b o, b ≠ p → H b = some o → upd (upd H p o1) p o2 b = some o := fun o1 o2 b o hb e => by rw [upd_ne hb, upd_ne hb]; exact e
    have n0 : ∀ z : Int, 0 ≤ z % 1000000021 := fun z => Int.emod_nonneg _ (by decide)
    have n1 : ∀ z : Int, z % 1000000021 < 1000000021 := fun z => Int.emod_lt_of_pos _ (by decide)
    by_cases hd : 0 < d
    · rw [decide_eq_true hd]
      refine ⟨_, rfl, p, _, _, _, rfl, rfl, SqL.of upd_same, at_of (j := 1) rfl rfl, _, rfl, _, _, rfl, rfl, hm, ?_⟩
      refine ⟨_, rfl, p, _, _, _, rfl, rfl, SqL.of upd_same, at_of (j := 1) rfl rfl, _, rfl, _, _, rfl, rfl, ⟨hm, hm2⟩, _, rfl, p, _, _, 1, rfl, rfl, upd_same, rfl, _, rfl, ?_⟩
      refine q _ _ (Int.emod_nonneg _ (by omega)) (Int.emod_lt_of_pos _ hm) ⟨⟨_, _, _, upd_same, n0 _, n1 _, Int.ediv_nonneg d0 (by omega), by omega⟩, fun b o hb e => ?_⟩
      rw [upd_ne hb]
      exact keep _ _ b o hb e
    · rw [decide_eq_false hd]
      refine ⟨_, rfl, p, _, _, _, rfl, rfl, SqL.of upd_same, at_of (j := 0) rfl rfl, _, _, rfl, rfl, ⟨by decide, by decide⟩, _, rfl, _, _, rfl, rfl, hm, ?_⟩
      exact q _ _ (Int.emod_nonneg _ (by omega)) (Int.emod_lt_of_pos _ hm) ⟨⟨_, _, _, upd_same, n0 _, n1 _, d0, by omega⟩, keep _ _⟩
end
end Du

set_option Elab.async false
set_option linter.all false
set_option maxRecDepth 100000
namespace Du
open PySem L2
/-- a text of these signs -/
def ofL (l : List Nat) : Str := ⟨l.toArray⟩
theorem ofL_codes (l : List Nat) : (ofL l).cps.toList = l := by simp [ofL]
theorem ofL_inj {l m : List Nat} (h : ofL l = ofL m) : l = m := by
  have := congrArg (fun z : Str => z.cps.toList) h
  simpa [ofL] using this
theorem ofL_len (l : List Nat) : (ofL l).length = l.length := by simp [ofL, Str.length]
theorem str_ofL (z : Str) : z = ofL z.cps.toList := by
  cases z
  simp [ofL]
theorem app_ofL (l m : List Nat) : ofL l ++ ofL m = ofL (l ++ m) := by
  show Str.append _ _ = _
  simp [Str.append, ofL]
def allL (l : List Nat) : Prop := ∀ c ∈ l, isLetter c = true
theorem nm_ofL {l : List Nat} (h1 : 1 ≤ l.length) (h8 : l.length ≤ 8) (h : allL l) : isNm (ofL l) = true := by
  unfold isNm
  rw [ofL_len, ofL_codes, decide_eq_true h1, decide_eq_true h8]
  show (l.all isLetter) = true
  exact List.all_eq_true.mpr h
theorem nodup_range_map {α : Type} {n : Nat} {f : Nat → α} (h : ∀ i j, i < n → j < n → i < j → f i ≠ f j) : ((List.range n).map f).Nodup := by
  unfold List.Nodup
  rw [List.pairwise_map]
  exact (List.pairwise_lt_range (n := n)).imp_of_mem fun {a b} ha hb hab => h a b (List.mem_range.mp ha) (List.mem_range.mp hb) hab
/-! the words of rows -/
def ownW : List Str := ["task", "door", "every", "let", "leave", "come", "serve", "end", "in", "soon", "none", "go"]
def ix (n : Int) (spot step : Int) (k : Nat) : Nat := ((spot + step * (k : Int)) % n).toNat
theorem ix_lt {n spot step : Int} {k : Nat} (h : 0 < n) : (ix n spot step k : Int) < n ∧ ((ix n spot step k : Nat) : Int) = (spot + step * (k : Int)) % n := by
  have h1 := Int.emod_nonneg (spot + step * (k : Int)) (show n ≠ 0 by omega)
  have h2 := Int.emod_lt_of_pos (spot + step * (k : Int)) h
  unfold ix
  omega
def Stp (step : Int) : Prop := step = 1 ∨ step = 5 ∨ step = 7 ∨ step = 11
theorem ix12 {spot step : Int} (hs : Stp step) {i j : Nat} (hj : j < 12) (hij : i < j) : ix 12 spot step i ≠ ix 12 spot step j := by
  have h1 := (ix_lt (n := 12) (spot := spot) (step := step) (k := i) (by decide)).2
  have h2 := (ix_lt (n := 12) (spot := spot) (step := step) (k := j) (by decide)).2
  rcases hs with rfl | rfl | rfl | rfl <;> omega
theorem ix26 {spot step : Int} (hs : Stp step) {i j : Nat} (hj : j < 12) (hij : i < j) : ix 26 spot step i ≠ ix 26 spot step j := by
  have h1 := (ix_lt (n := 26) (spot := spot) (step := step) (k := i) (by decide)).2
  have h2 := (ix_lt (n := 26) (spot := spot) (step := step) (k := j) (by decide)).2
  rcases hs with rfl | rfl | rfl | rfl <;> omega
def w1 (spot step : Int) (k : Nat) : Str := ownW.getD (ix 12 spot step k) ""
theorem ownW_nodup : ownW.Nodup := by decide +kernel
theorem ownW_nm : ∀ z ∈ ownW, isNm z = true := by decide +kernel
theorem w1_at (spot step : Int) (k : Nat) : ownW[ix 12 spot step k]? = some (w1 spot step k) := by
  have h := (ix_lt (n := 12) (spot := spot) (step := step) (k := k) (by decide)).1
  have hl : ix 12 spot step k < ownW.length := by
    show ix 12 spot step k < 12
    omega
  unfold w1
  rw [List.getD_eq_getElem?_getD, List.getElem?_eq_getElem hl]
  rfl
theorem w1_nm (spot step : Int) (k : Nat) : isNm (w1 spot step k) = true := ownW_nm _ (List.mem_of_getElem? (w1_at spot step k))
theorem w1_nodup {spot step : Int} (hs : Stp step) {n : Nat} (hn : n ≤ 12) : ((List.range n).map (w1 spot step)).Nodup :=
  nodup_range_map fun i j hi hj hij e => ix12 hs (by omega) hij (nd_ix ownW_nodup (w1_at spot step i) (by rw [e]; exact w1_at spot step j))
/-! words about a stem -/
def letterAt (begin step : Int) (k : Nat) : Nat := letters.cps.toList.getD (ix 26 begin step k) 0
theorem letters_nodup : letters.cps.toList.Nodup := by decide +kernel
theorem letters_len : letters.cps.toList.length = 26 := by decide +kernel
theorem letter_at (begin step : Int) (k : Nat) : letters.cps.toList[ix 26 begin step k]? = some (letterAt begin step k) := by
  have h := (ix_lt (n := 26) (spot := begin) (step := step) (k := k) (by decide)).1
  have hl : ix 26 begin step k < letters.cps.toList.length := by
    rw [letters_len]
    omega
  unfold letterAt
  rw [List.getD_eq_getElem?_getD, List.getElem?_eq_getElem hl]
  rfl
theorem letter_is {i c : Nat} (h : letters.cps.toList[i]? = some c) : isLetter c = true := decide_eq_true (List.mem_of_getElem? h)
def w2 (st : List Nat) (cut : Nat) (begin step : Int) (k : Nat) : Str := ofL (st.take cut ++ [letterAt begin step k] ++ st.drop cut)
theorem w2_nm {st : List Nat} {cut : Nat} {begin step : Int} {k : Nat} (h : allL st) (hl : st.length ≤ 7) : isNm (w2 st cut begin step k) = true := by
  refine nm_ofL ?_ ?_ ?_
  · simp
    omega
  · simp
    omega
  · intro c hc
    simp at hc
    rcases hc with hc | hc | hc
    · exact h c (List.mem_of_mem_take hc)
    · rw [hc]
      exact letter_is (letter_at begin step k)
    · exact h c (List.mem_of_mem_drop hc)
theorem w2_nodup {st : List Nat} {cut : Nat} {begin step : Int} (hs : Stp step) {n : Nat} (hn : n ≤ 12) : ((List.range n).map (w2 st cut begin step)).Nodup :=
  nodup_range_map fun i j hi hj hij e => by
    have e1 := ofL_inj e
    rw [List.append_assoc, List.append_assoc] at e1
    have e2 := List.append_cancel_left e1
    have e3 : letterAt begin step i = letterAt begin step j := by
      simpa using e2
    exact ix26 hs (by omega) hij (nd_ix letters_nodup (letter_at begin step i) (by rw [e3]; exact letter_at begin step j))
/-! cuts -/
theorem cutS_to (st : List Nat) (cut : Nat) (h : cut ≤ st.length) : cutS (ofL st) none (some (cut : Int)) = ofL (st.take cut) := by
  unfold cutS
  rw [ofL_codes, ofL_len, HT.sIx_none, HT.sIx_nat, Nat.min_eq_left h]
  rfl
theorem cutS_from (st : List Nat) (cut : Nat) (h : cut ≤ st.length) : cutS (ofL st) (some (cut : Int)) none = ofL (st.drop cut) := by
  unfold cutS
  rw [ofL_codes, ofL_len, HT.sIx_none, HT.sIx_nat, Nat.min_eq_left h, List.take_of_length_le (by rw [List.length_drop]; exact Nat.le_refl _)]
  rfl
theorem join_ones : ∀ l : List Nat, Str.join "" (l.map fun c => (⟨#[c]⟩ : Str)) = ofL l
  | [] => rfl
  | [c] => rfl
  | c :: d :: r => by
    have ih := join_ones (d :: r)
    show (⟨#[c]⟩ : Str) ++ "" ++ Str.join "" ((d :: r).map fun c => (⟨#[c]⟩ : Str)) = ofL (c :: d :: r)
    rw [ih]
    show (ofL [c] ++ ofL []) ++ ofL (d :: r) = ofL (c :: d :: r)
    rw [app_ofL, app_ofL]
    rfl
end Du

set_option Elab.async false
set_option linter.all false
set_option maxRecDepth 100000
namespace Du
open PySem L2
abbrev sWords : Stmt := topS 29
theorem Purse.ne {H : Hp} {p q : Addr} (h : Purse H p) (n : H q = none) : q ≠ p := by
  obtain ⟨_, _, _, e, _⟩ := h
  exact (ne_of_none e n).symm
theorem Step.refl {p : Addr} {H : Hp} (h : Purse H p) : Step p H H := ⟨h, fun _ _ _ e => e⟩
theorem Step.trans {p : Addr} {H H1 H2 : Hp} (a : Step p H H1) (b : Step p H1 H2) : Step p H H2 := ⟨b.purse, fun c o n e => b.keep c o n (a.keep c o n e)⟩
theorem Purse.upd {H : Hp} {p q : Addr} {o : HO} (h : Purse H p) (n : q ≠ p) : Purse (upd H q o) p := by
  obtain ⟨a, d, c, e, r⟩ := h
  exact ⟨a, d, c, by rw [upd_ne n.symm]; exact e, r⟩
theorem Step.put {p q : Addr} {H H1 : Hp} {o : HO} (s : Step p H H1) (n : H q = none) (hq : q ≠ p) : Step p H (upd H1 q o) :=
  ⟨s.purse.upd hq, fun b u nb e => by rw [upd_ne (ne_of_none e n)]; exact s.keep b u nb e⟩
theorem Step.new {p q : Addr} {H : Hp} {o : HO} (h : Purse H p) (n : H q = none) : Step p H (upd H q o) := (Step.refl h).put n (h.ne n)
theorem Step.of_same {p : Addr} {H H' : Hp} (h : Purse H p) (s : Same H H') : Step p H H' := by
  obtain ⟨a, d, c, e, r⟩ := h
  exact ⟨⟨a, d, c, s _ _ e, r⟩, fun b o _ e => s b o e⟩
theorem Step.free {p q : Addr} {H H' : Hp} (s : Step p H H') (n : H' q = none) : H q = none := by
  cases e : H q with
  | none => rfl
  | some o =>
    rw [s.keep q o (s.purse.ne n) e] at n
    cases n
section
variable {P : Program} {w : World} {K : PySem.W.Frag} {mg : Str → Option Value} {base : Heap}
abbrev nWords : List Str := ["_law_purse_here", "_law_many", "_law_own", "_law_spot", "_law_step", "_law_letters", "_law_stem", "_law_cut", "_law_begin", "_law_k"]
theorem scWords : FnScope nWords ["_law_purse_here", "_law_many"] (defScope sWords) := ⟨rfl, rfl, rfl, by decide +kernel, rfl, by decide +kernel, by decide +kernel⟩
def spWords : Sp := fun vs H Q _ => ∃ (p : Addr) (m : Nat), vs = [.ref p, .int (m : Int)] ∧ m ≤ 12 ∧ Purse H p ∧
  ∀ (l : Addr) (ws : List Str) H', Step p H H' → H l = none → H' l = some (.lst (ws.map V.str)) → ws.length = m → ws.Nodup → (∀ z ∈ ws, isNm z = true) → Q (.ref l) H'
theorem at_nat {α : Type} {xs : List α} {z : Int} {j : Nat} {v : α} (e : z = (j : Int)) (h : xs[j]? = some v) : atI xs z = some v := by
  rw [e]
  exact atI_nat h
theorem step_of {r : Int} (h0 : 0 ≤ r) (h1 : r < 4) : ∃ s : Int, Stp s ∧ atI [V.int 1, V.int 5, V.int 7, V.int 11] r = some (V.int s) := by
  have h : r = 0 ∨ r = 1 ∨ r = 2 ∨ r = 3 := by omega
  rcases h with rfl | rfl | rfl | rfl
  · exact ⟨1, .inl rfl, at_of (j := 0) rfl rfl⟩
  · exact ⟨5, .inr (.inl rfl), at_of (j := 1) rfl rfl⟩
  · exact ⟨7, .inr (.inr (.inl rfl)), at_of (j := 2) rfl rfl⟩
  · exact ⟨11, .inr (.inr (.inr rfl)), at_of (j := 3) rfl rfl⟩
theorem range_map_succ {α : Type} (f : Nat → α) (i : Nat) : (List.range (i + 1)).map f = (List.range i).map f ++ [f i] := by
  rw [List.range_succ, List.map_append]
  rfl
theorem stp_small {s : Int} (h : Stp s) : -18446744073709551616 < s ∧ s < 18446744073709551616 := by
  rcases h with rfl | rfl | rfl | rfl <;> decide
set_option maxHeartbeats 1000000 in
theorem ok_words {f : Addr} {fd : FuncData} (F : Fun K "_law_words" "_law_words" sWords f fd) (ml : mg "len" = none) (mr : mg "range" = none) (DT : Dn P w K mg base 3 "_law_take" ["_law_purse_here", "_law_many"] spTake) :
    FnOk P w K mg base CX0 4 f fd ["_law_purse_here", "_law_many"] spWords := by
  refine F.ok scWords (fun vs H Q E h => ?_) (fun cdv A outer s H vs Q E hr h => ?_)
  · obtain ⟨p, m, rfl, _⟩ := h
    rfl
  · obtain ⟨p, m, rfl, hm, hp, q⟩ := h
    refine ⟨_, pss_cons (ps_set (i := 2) scWords.nd rfl (.inr rfl) (pe_lst (pa_cons pe_str (pa_cons pe_str (pa_cons pe_str (pa_cons pe_str (pa_cons pe_str (pa_cons pe_str (pa_cons pe_str (pa_cons pe_str (pa_cons pe_str (pa_cons pe_str (pa_cons pe_str (pa_cons pe_str pa_nil))))))))))))))
      (pss_cons (ps_asg (pe_tup (pa_cons (pcall DT hr (by rfl) (pa_cons (pv 0) (pa_cons pe_int pa_nil))) (pa_cons (pe_ix ix_list (pe_lst (pa_cons pe_int (pa_cons pe_int (pa_cons pe_int (pa_cons pe_int pa_nil))))) (pcall DT hr (by rfl) (pa_cons (pv 0) (pa_cons pe_int pa_nil))) (fun _ _ => rfl)) pa_nil)))
        (pg_tup rfl (pgs_cons (pg_name (i := 3) scWords.nd rfl (.inr rfl)) (pgs_cons (pg_name (i := 4) scWords.nd rfl (.inr rfl)) pgs_nil))))
      (pss_cons (ps_if (pt_cmpR op_eq (pcall DT hr (by rfl) (pa_cons (pv 0) (pa_cons pe_int pa_nil))) pe_int (nomark _))
        (pss_one (ps_ret (pe_lc (own := [("_law_k", 9)]) (g := gName 9) (tt := tYes) rfl scWords.nd (pi_range1 (by rfl) mr (pa_cons (pv 1) pa_nil)) (blkOk_by (N := nWords) (sc := defScope sWords) (by decide +kernel))
          (fun _ _ _ _ _ => pg_name (i := 9) scWords.nd rfl (Or.inl rfl)) (fun _ _ _ _ _ => pts_nil) (fun _ _ _ _ _ => pe_ix (show IxR _ (rIxL K) from ix_list) (pv 2) (pe_op op_mod (pe_op op_add (pv 3) (pe_op op_mul (pv 4) (pv 9))) pe_int) (fun _ _ => rfl))))) pss_nil)
      (pss_cons (ps_set (i := 5) scWords.nd rfl (.inr rfl) pe_str)
      (pss_cons (ps_set (i := 6) scWords.nd rfl (.inr rfl) (pe_join pe_str (pe_lc (own := [("_law_k", 9)]) (g := gName 9) (tt := tYes) rfl scWords.nd (pi_range1 (by rfl) mr (pa_cons (pcall DT hr (by rfl) (pa_cons (pv 0) (pa_cons pe_int pa_nil))) pa_nil))
          (blkOk_by (N := nWords) (sc := defScope sWords) (by decide +kernel)) (fun _ _ _ _ _ => pg_name (i := 9) scWords.nd rfl (Or.inl rfl)) (fun _ _ _ _ _ => pts_nil)
          (fun _ _ _ _ _ => pe_ix ix_str (pv 5) (pcall DT hr (by rfl) (pa_cons (pv 0) (pa_cons pe_int pa_nil))) (fun _ _ => rfl)))))
      (pss_cons (ps_asg (pe_tup (pa_cons (pcall DT hr (by rfl) (pa_cons (pv 0) (pa_cons (pe_op op_add (pe_callB call_len_str (by rfl) ml (by decide +kernel) (pa_cons (pv 6) pa_nil)) pe_int) pa_nil))) (pa_cons (pcall DT hr (by rfl) (pa_cons (pv 0) (pa_cons pe_int pa_nil))) pa_nil)))
        (pg_tup rfl (pgs_cons (pg_name (i := 7) scWords.nd rfl (.inr rfl)) (pgs_cons (pg_name (i := 8) scWords.nd rfl (.inr rfl)) pgs_nil))))
      (pss_one (ps_ret (pe_lc (own := [("_law_k", 9)]) (g := gName 9) (tt := tYes) rfl scWords.nd (pi_range1 (by rfl) mr (pa_cons (pv 1) pa_nil)) (blkOk_by (N := nWords) (sc := defScope sWords) (by decide +kernel))
          (fun _ _ _ _ _ => pg_name (i := 9) scWords.nd rfl (Or.inl rfl)) (fun _ _ _ _ _ => pts_nil)
          (fun _ _ _ _ _ => pe_op op_add_str (pe_op op_add_str (pe_slice sl_str (pv 6) po_none (po_some (pv 7))) (pe_ix ix_str (pv 5) (pe_op op_mod (pe_op op_add (pv 8) (pe_op op_mul (pv 4) (pv 9))) pe_int) (fun _ _ => rfl))) (pe_slice sl_str (pv 6) (po_some (pv 7)) po_none)))))))))), ?_⟩
    -- the words of rows
    refine ⟨(by show 12 ≤ sizeLine; decide), fun o no => ?_⟩
    have so : Step p H (upd H o (.lst (ownW.map V.str))) := .new hp no
    -- spot, step
    refine ⟨_, rfl, p, 12, rfl, by decide, by decide, so.purse, fun spot H1 _ _ s1 => ?_⟩
    refine ⟨(by show 4 ≤ sizeLine; decide), fun l nl => ?_⟩
    have s2 := (so.trans s1).trans (Step.new (o := .lst [.int 1, .int 5, .int 7, .int 11]) s1.purse nl)
    refine ⟨_, rfl, p, 4, rfl, by decide, by decide, s2.purse, fun r H2 h0 h1 s3 => ?_⟩
    obtain ⟨step, hst, hat⟩ := step_of h0 h1
    have el : H2 l = some (.lst [.int 1, .int 5, .int 7, .int 11]) := s3.keep l _ (s1.purse.ne nl) upd_same
    refine ⟨l, _, _, _, rfl, rfl, SqL.of el, hat, ?_⟩
    refine ⟨(by show 2 ≤ sizeLine; decide), fun t nt => ?_⟩
    have s4 := (s2.trans s3).trans (Step.new (o := .tup [.int spot, .int step]) s3.purse nt)
    refine ⟨t, _, rfl, SqT.of upd_same, rfl, _, _, rfl, _, _, rfl, rfl, ?_⟩
    -- the way
    refine ⟨_, rfl, p, 4, rfl, by decide, by decide, s4.purse, fun r2 H3 _ _ s5 => ?_⟩
    have s6 := s4.trans s5
    have npo : o ≠ p := hp.ne no
    have eo : H3 o = some (.lst (ownW.map V.str)) := by
      refine s5.keep o _ npo ?_
      have e1 := s1.keep o _ npo (upd_same (H := H) (a := o) (o := .lst (ownW.map V.str)))
      rw [upd_ne (ne_of_none (s3.keep o _ npo (by rw [upd_ne (ne_of_none e1 nl)]; exact e1)) nt)]
      exact s3.keep o _ npo (by rw [upd_ne (ne_of_none e1 nl)]; exact e1)
    have hm62 : ((m : Nat) : Int).toNat = m := by omega
    refine ⟨rfl, _, rfl, ite2 (fun _ => ?_) (fun _ => ?_)⟩
    · refine ⟨_, rfl, (m : Int), rfl, by omega, by omega, fun D nD => ?_⟩
      rw [hm62]
      refine lc_range (lo := 0) (n := m) (fun i H' => Step p H3 H' ∧ H' D = some (.lst (((List.range i).map (w1 spot step)).map V.str))) ⟨.new s5.purse nD, upd_same⟩ ?_ ?_
      · rintro i H' hi ⟨s7, e7⟩
        have eo' := s7.keep o _ npo eo
        have hix := ix_lt (n := 12) (spot := spot) (step := step) (k := i) (by decide)
        refine ⟨rfl, _, rfl, _, rfl, _, rfl, _, rfl, _, _, rfl, rfl, .inl (stp_small hst), _, _, rfl, rfl, _, _, rfl, rfl, (by show (0 : Int) < 12; decide), o, _, _, V.str (w1 spot step i), rfl, rfl, SqL.of eo', at_of (j := ix 12 spot step i) (by rw [Int.zero_add]; exact hix.2.symm) (by rw [List.getElem?_map, w1_at]; rfl), _, e7, ?_, s7.put nD (s5.purse.ne nD), ?_⟩
        · rw [List.length_map, List.length_map, List.length_range]
          exact Nat.lt_of_le_of_lt (show i ≤ 12 by omega) (by decide)
        · rw [upd_same, range_map_succ, List.map_append]
          rfl
      · rintro H' ⟨s7, e7⟩
        refine q D _ H' (s6.trans s7) (s6.free nD) e7 (by rw [List.length_map, List.length_range]) (w1_nodup hst hm) fun z hz => ?_
        obtain ⟨k, _, rfl⟩ := List.mem_map.mp hz
        exact w1_nm spot step k
    · -- the stem
      refine ⟨⟨_, rfl⟩, _, rfl, p, 8, rfl, by decide, by decide, s5.purse, fun r3 H4 g0 g1 s7 => ?_⟩
      refine ⟨r3, rfl, by omega, by omega, fun D nD => ?_⟩
      refine lc_range (lo := 0) (n := r3.toNat) (fun i H' => Step p H4 H' ∧ ∃ cs : List Nat, cs.length = i ∧ allL cs ∧ H' D = some (.lst (cs.map fun c => V.str ⟨#[c]⟩))) ⟨.new s7.purse nD, [], rfl, (fun c h => absurd h (by simp)), upd_same⟩ ?_ ?_
      · rintro i H' hi ⟨s8, cs, hc, ha, e8⟩
        refine ⟨rfl, _, rfl, _, rfl, p, 26, rfl, by decide, by decide, s8.purse, fun r4 H5 k0 k1 s9 => ?_⟩
        have hk : r4.toNat < letters.cps.toList.length := by
          rw [letters_len]
          omega
        have hat2 := List.getElem?_eq_getElem hk
        have npD := s7.purse.ne nD
        refine ⟨letters, r4, _, rfl, rfl, by decide +kernel, at_nat (j := r4.toNat) (by omega) hat2, _, s9.keep D _ npD e8, ?_, (s8.trans s9).put nD npD, cs ++ [letters.cps.toList[r4.toNat]], ?_, ?_, ?_⟩
        · rw [List.length_map, hc]
          exact Nat.lt_of_le_of_lt (show i ≤ 8 by omega) (by decide)
        · rw [List.length_append, hc]
          rfl
        · intro c hcc
          rcases List.mem_append.mp hcc with z | z
          · exact ha c z
          · rw [List.mem_singleton.mp z]
            exact letter_is hat2
        · rw [upd_same, List.map_append]
          rfl
      · rintro H' ⟨s8, cs, hc, ha, e8⟩
        have s9 := (s6.trans s7).trans s8
        have hcs : cs.length ≤ 7 := by omega
        refine ⟨_, D, cs.map (fun c => (⟨#[c]⟩ : Str)), rfl, rfl, .inl (SqL.of (by rw [e8, List.map_map]; rfl)), ?_, ?_⟩
        · have hsum : ∀ l : List Nat, ((l.map fun c => (⟨#[c]⟩ : Str)).map (·.length)).sum = l.length := by
            intro l
            induction l with
            | nil => rfl
            | cons c r ih =>
              rw [List.map_cons, List.map_cons, List.sum_cons, ih, List.length_cons]
              show 1 + r.length = r.length + 1
              omega
          rw [hsum, List.length_map]
          show cs.length + cs.length * 0 ≤ 16777216
          omega
        · have ej : Txt.join "" (cs.map (fun c => (⟨#[c]⟩ : Str))) = ofL cs := (TL.join_eq _ _).trans (join_ones cs)
          rw [ej]
          -- cut, begin
          refine ⟨_, rfl, _, rfl, _, rfl, by rw [ofL_len]; exact Nat.le_trans hcs (by decide), _, _, rfl, rfl, p, _, rfl, ?_, ?_, s9.purse, fun cut H5 c0 c1 t1 => ?_⟩
          · omega
          · rw [ofL_len]
            omega
          rw [ofL_len] at c1
          refine ⟨_, rfl, p, 26, rfl, by decide, by decide, t1.purse, fun begin H6 b0 b1 t2 => ?_⟩
          refine ⟨(by show 2 ≤ sizeLine; decide), fun t2' nt2 => ?_⟩
          have t3 := ((s9.trans t1).trans t2).trans (Step.new (o := .tup [.int cut, .int begin]) t2.purse nt2)
          refine ⟨t2', _, rfl, SqT.of upd_same, rfl, _, _, rfl, _, _, rfl, rfl, ?_⟩
          refine ⟨_, rfl, (m : Int), rfl, by omega, by omega, fun D2 nD2 => ?_⟩
          rw [hm62]
          obtain ⟨cu, rfl⟩ : ∃ cu : Nat, cut = (cu : Int) := ⟨cut.toNat, by omega⟩
          have hcu : cu ≤ cs.length := by omega
          refine lc_range (lo := 0) (n := m) (fun i H' => Step p _ H' ∧ H' D2 = some (.lst (((List.range i).map (w2 cs cu begin step)).map V.str))) ⟨.new t3.purse nD2, upd_same⟩ ?_ ?_
          · rintro i H' hi ⟨u1, e7⟩
            have hix := ix_lt (n := 26) (spot := begin) (step := step) (k := i) (by decide)
            have hz : (ofL cs).length ≤ sizeLine := by rw [ofL_len]; exact Nat.le_trans hcs (by decide)
            refine ⟨rfl, _, rfl, _, rfl, (cu : Int), rfl, ofL cs, rfl, hz, _, rfl, _, rfl, _, rfl, _, rfl, _, _, rfl, rfl, .inl (stp_small hst), _, _, rfl, rfl, _, _, rfl, rfl, (by show (0 : Int) < 26; decide), letters, _, letterAt begin step i, rfl, rfl, by decide +kernel,
              at_nat (j := ix 26 begin step i) (by rw [Int.zero_add]; exact hix.2.symm) (letter_at begin step i), _, _, rfl, rfl, ?_, _, rfl, _, rfl, (cu : Int), rfl, ofL cs, rfl, hz, _, _, rfl, rfl, ?_, _, e7, ?_, u1.put nD2 (t3.purse.ne nD2), ?_⟩
            · rw [cutS_to cs cu hcu, ofL_len, List.length_take]
              show min cu cs.length + 1 ≤ sizeLine
              exact Nat.le_trans (show _ ≤ 8 by omega) (by decide)
            · rw [cutS_to cs cu hcu, cutS_from cs cu hcu, show (⟨#[letterAt begin step i]⟩ : Str) = ofL [letterAt begin step i] from rfl, app_ofL, ofL_len, ofL_len, List.length_append, List.length_take, List.length_drop]
              show min cu cs.length + 1 + (cs.length - cu) ≤ sizeLine
              exact Nat.le_trans (show _ ≤ 16 by omega) (by decide)
            · rw [List.length_map, List.length_map, List.length_range]
              exact Nat.lt_of_le_of_lt (show i ≤ 12 by omega) (by decide)
            · rw [upd_same, range_map_succ, List.map_append, cutS_to cs cu hcu, cutS_from cs cu hcu, show (⟨#[letterAt begin step i]⟩ : Str) = ofL [letterAt begin step i] from rfl, app_ofL, app_ofL]
              rfl
          · rintro H' ⟨u1, e7⟩
            refine q D2 _ H' (t3.trans u1) (t3.free nD2) e7 (by rw [List.length_map, List.length_range]) (w2_nodup hst hm) fun z hz => ?_
            obtain ⟨k, _, rfl⟩ := List.mem_map.mp hz
            exact w2_nm ha hcs
end
end Du

set_option Elab.async false
set_option linter.all false
set_option maxRecDepth 100000
namespace Du
open PySem L2
open PySem.Spec (ltCps)
theorem lt_tri : ∀ a b : List Nat, ltCps a b = false → a ≠ b → ltCps b a = true
  | [], [], _, h => absurd rfl h
  | [], _ :: _, h, _ => by simp [ltCps] at h
  | _ :: _, [], _, _ => rfl
  | a :: r, b :: t, h, hn => by
    simp only [ltCps, Bool.or_eq_false_iff, decide_eq_false_iff_not, Bool.and_eq_false_iff] at h
    simp only [ltCps, Bool.or_eq_true, decide_eq_true_eq, Bool.and_eq_true]
    by_cases e : a = b
    · subst e
      rcases h.2 with z | z
      · simp at z
      · exact .inr ⟨by simp, lt_tri r t z fun q => hn (by rw [q])⟩
    · exact .inl (by omega)
theorem lt_tra : ∀ a b c : List Nat, ltCps a b = true → ltCps b c = true → ltCps a c = true
  | [], [], _, h, _ => by simp [ltCps] at h
  | [], _ :: _, [], _, h => by simp [ltCps] at h
  | [], _ :: _, _ :: _, _, _ => rfl
  | _ :: _, [], _, h, _ => by simp [ltCps] at h
  | _ :: _, _ :: _, [], _, h => by simp [ltCps] at h
  | a :: r, b :: t, c :: u, h1, h2 => by
    simp only [ltCps, Bool.or_eq_true, decide_eq_true_eq, Bool.and_eq_true, beq_iff_eq] at h1 h2 ⊢
    rcases h1 with h1 | ⟨rfl, h1⟩ <;> rcases h2 with h2 | ⟨rfl, h2⟩
    · exact .inl (by omega)
    · exact .inl h1
    · exact .inl h2
    · exact .inr ⟨rfl, lt_tra r t u h1 h2⟩
theorem cps_inj {a b : Str} (h : a.cps.toList = b.cps.toList) : a = b := by
  rw [str_ofL a, str_ofL b, h]
theorem rising_pw : ∀ (p : Str) (r : List Str), PyProof.Rows.risingS p r = true → (p :: r).Nodup → (p :: r).Pairwise fun a b => ltCps a.cps.toList b.cps.toList = true
  | p, [], _, _ => by simp
  | p, x :: r, h, hn => by
    simp only [PyProof.Rows.risingS, Bool.and_eq_true, Bool.not_eq_true'] at h
    have hn' := List.nodup_cons.mp hn
    have ih := rising_pw x r h.2 hn'.2
    have hpx : ltCps p.cps.toList x.cps.toList = true := lt_tri _ _ h.1 fun e => hn'.1 (by rw [cps_inj e.symm]; exact List.mem_cons_self)
    refine List.pairwise_cons.mpr ⟨fun y hy => ?_, ih⟩
    rcases List.mem_cons.mp hy with rfl | hy
    · exact hpx
    · exact lt_tra _ _ _ hpx ((List.pairwise_cons.mp ih).1 y hy)
theorem sorted_pw {ys : List Str} (h : PyProof.Rows.sortedS ys = true) (hn : ys.Nodup) : ys.Pairwise fun a b => ltCps a.cps.toList b.cps.toList = true := by
  cases ys with
  | nil => simp
  | cons p r => exact rising_pw p r h hn
theorem pw_take {ys : List Str} (h : ys.Pairwise fun a b => ltCps a.cps.toList b.cps.toList = true) {i : Nat} {x y : Str} (hx : x ∈ ys.take i) (hy : ys[i]? = some y) : ltCps x.cps.toList y.cps.toList = true := by
  obtain ⟨j, hj⟩ := List.getElem?_of_mem hx
  obtain ⟨hl, e⟩ := List.getElem?_eq_some_iff.mp hj
  rw [List.getElem_take] at e
  rw [List.length_take] at hl
  obtain ⟨hi, e2⟩ := List.getElem?_eq_some_iff.mp hy
  rw [← e, ← e2]
  exact List.pairwise_iff_getElem.mp h j i (by omega) hi (by omega)
theorem ahead_lt {h g : Hold} (hn : ltCps h.1.cps.toList g.1.cps.toList = true) : ahead h g = true := by
  unfold ahead
  have ne : ¬ h.1 = g.1 := fun e => by
    rw [e] at hn
    rw [PyProof.Rows.ltCps_eq] at hn
    exact absurd (of_decide_eq_true hn) (by simp)
  rw [if_neg ne, ← PyProof.Rows.ltCps_eq]
  exact hn
theorem ahead_same {h g : Hold} (e : h.1 = g.1) (hl : h.2.1 + h.2.2 ≤ g.2.1) : ahead h g = true := by
  unfold ahead
  rw [if_pos e]
  exact decide_eq_true hl
def chain (hs : List Hold) : Bool := (hs.zip (hs.drop 1)).all fun p => ahead p.1 p.2
theorem chain_add : ∀ (hs : List Hold) (h : Hold), chain hs = true → (∀ g, hs.getLast? = some g → ahead g h = true) → chain (hs ++ [h]) = true
  | [], h, _, _ => rfl
  | [g], h, _, q => by
    show (ahead g h && true) = true
    rw [q g rfl]
    rfl
  | g :: k :: r, h, c, q => by
    have c' : (ahead g k && chain (k :: r)) = true := c
    rw [Bool.and_eq_true] at c'
    show (ahead g k && chain ((k :: r) ++ [h])) = true
    rw [c'.1, chain_add (k :: r) h c'.2 fun g hg => q g (by rw [List.getLast?_cons_cons]; exact hg)]
    rfl
/-- holds that are good, in the making -/
structure Good (hs : List Hold) (c : Int) : Prop where
  len : hs.length ≤ 4
  all : ∀ h ∈ hs, isHd h c = true
  ch : chain hs = true
theorem Good.ok {hs : List Hold} {c : Int} (g : Good hs c) : areHds hs c = true := by
  unfold areHds
  rw [decide_eq_true g.len]
  have e : (hs.all fun h => isHd h c) = true := List.all_eq_true.mpr g.all
  rw [e]
  exact g.ch
theorem Good.nm {hs : List Hold} {c : Int} (g : Good hs c) : ∀ h ∈ hs, isNm h.1 = true := fun h hh => by
  have z := g.all h hh
  unfold isHd at z
  exact (Bool.and_eq_true_iff.mp z).1
theorem Good.nil (c : Int) : Good [] c := ⟨by simp, by simp, rfl⟩
theorem Good.add {hs : List Hold} {c : Int} {h : Hold} (g : Good hs c) (hl : hs.length < 4) (hh : isHd h c = true) (q : ∀ g, hs.getLast? = some g → ahead g h = true) : Good (hs ++ [h]) c :=
  ⟨by rw [List.length_append]; show hs.length + 1 ≤ 4; omega, fun k hk => by
    rcases List.mem_append.mp hk with z | z
    · exact g.all k z
    · rw [List.mem_singleton.mp z]
      exact hh, chain_add hs h g.ch q⟩
theorem hd_of {z : Str} {s l c : Int} (hz : isNm z = true) (h0 : 0 ≤ s) (h1 : 1 ≤ l) (h2 : s + l ≤ c) : isHd (z, s, l) c = true := by
  unfold isHd
  rw [hz]
  simp
  omega
/-! under a step of the purse -/
theorem sqT_step {K : PySem.W.Frag} {p a : Addr} {H H' : Hp} {xs : List V} (hp : Purse H p) (s : Step p H H') (h : SqT K H a xs) : SqT K H' a xs := by
  obtain ⟨x, d, c, e, _⟩ := hp
  rcases h with (h | ⟨o, h⟩) | h
  · exact .inl (.inl (s.keep a _ (ne_of h e (by intro z; cases z)) h))
  · exact .inl (.inr ⟨o, s.keep a _ (ne_of h e (by intro z; cases z)) h⟩)
  · exact .inr h
theorem HdAt.step {K : PySem.W.Frag} {p : Addr} {H H' : Hp} {v : V} {h : Hold} (d : HdAt K H v h) (hp : Purse H p) (s : Step p H H') : HdAt K H' v h := by
  obtain ⟨a, e, q⟩ := d
  exact ⟨a, e, sqT_step hp s q⟩
theorem HdsAt.step {K : PySem.W.Frag} {p t : Addr} {H H' : Hp} {hs : List Hold} (d : HdsAt K H t hs) (hp : Purse H p) (s : Step p H H') : HdsAt K H' t hs := by
  obtain ⟨vs, h1, h2, h3⟩ := d
  exact ⟨vs, sqT_step hp s h1, h2, fun i v h e1 e2 => (h3 i v h e1 e2).step hp s⟩
end Du

set_option Elab.async false
set_option linter.all false
set_option maxRecDepth 100000
namespace Du
open PySem L2
abbrev pInit : List Str := ["self", "name", "cost", "gap", "due", "holds"]
abbrev FunI (K : PySem.W.Frag) (e0 f : Addr) (fd : FuncData) : Prop := FunD K "__init__" "Task.__init__" (defArgs sInit) (defBody sInit) (defScope sInit) [] [("due", .non), ("holds", .ref e0)] f fd
section
variable {K : PySem.W.Frag} {e0 f : Addr} {fd : FuncData}
def one {α : Type} (l : List α) (i : Nat) : List α := (l.drop i).take 1
theorem one_rel {vs : List V} {us : List Value} (r : Vals vs us) (i : Nat) : Vals (one vs i) (one us i) := (r.drop i).take 1
/-- all five by name -/
theorem kb5 (F : FunI K e0 f fd) : ∃ mv : List Value, KBn K fd pInit 1 ["holds", "gap", "name", "due", "cost"] (fun us ws => us ++ (one ws 2 ++ (one ws 4 ++ (one ws 1 ++ (one ws 3 ++ one ws 0))))) (fun us ws => us ++ (one ws 2 ++ (one ws 4 ++ (one ws 1 ++ (one ws 3 ++ one ws 0))))) :=
  F.kbinds0 1 _ [] (fun us _ ws => us ++ (one ws 2 ++ (one ws 4 ++ (one ws 1 ++ (one ws 3 ++ one ws 0))))) (by simp) (by simp)
    (fun r1 _ r3 => r1.append ((one_rel r3 2).append ((one_rel r3 4).append ((one_rel r3 1).append ((one_rel r3 3).append (one_rel r3 0))))))
    (fun D doc pm an cdv ct us mv ws h1 h2 h3 => match us, mv, ws, h1, h2, h3 with | [_], [], [_, _, _, _, _], _, _, _ => rfl)
/-- four by name -/
theorem kb4 (F : FunI K e0 f fd) : ∃ mv : List Value, KBn K fd pInit 2 ["gap", "due", "cost", "holds"] (fun us ws => us ++ (one ws 2 ++ (one ws 0 ++ (one ws 1 ++ one ws 3)))) (fun us ws => us ++ (one ws 2 ++ (one ws 0 ++ (one ws 1 ++ one ws 3)))) :=
  F.kbinds0 2 _ [] (fun us _ ws => us ++ (one ws 2 ++ (one ws 0 ++ (one ws 1 ++ one ws 3)))) (by simp) (by simp)
    (fun r1 _ r3 => r1.append ((one_rel r3 2).append ((one_rel r3 0).append ((one_rel r3 1).append (one_rel r3 3)))))
    (fun D doc pm an cdv ct us mv ws h1 h2 h3 => match us, mv, ws, h1, h2, h3 with | [_, _], [], [_, _, _, _], _, _, _ => rfl)
theorem kb3 (F : FunI K e0 f fd) : ∃ mv : List Value, KBn K fd pInit 3 ["holds", "due", "gap"] (fun us ws => us ++ (one ws 2 ++ (one ws 1 ++ one ws 0))) (fun us ws => us ++ (one ws 2 ++ (one ws 1 ++ one ws 0))) :=
  F.kbinds0 3 _ [] (fun us _ ws => us ++ (one ws 2 ++ (one ws 1 ++ one ws 0))) (by simp) (by simp)
    (fun r1 _ r3 => r1.append ((one_rel r3 2).append ((one_rel r3 1).append (one_rel r3 0))))
    (fun D doc pm an cdv ct us mv ws h1 h2 h3 => match us, mv, ws, h1, h2, h3 with | [_, _, _], [], [_, _, _], _, _, _ => rfl)
theorem kb2 (F : FunI K e0 f fd) : ∃ mv : List Value, KBn K fd pInit 4 ["due", "holds"] (fun us ws => us ++ ws) (fun us ws => us ++ ws) :=
  F.kbinds0 4 _ [] (fun us _ ws => us ++ ws) (by simp) (by simp) (fun r1 _ r3 => r1.append r3)
    (fun D doc pm an cdv ct us mv ws h1 h2 h3 => match us, mv, ws, h1, h2, h3 with | [_, _, _, _], [], [_, _], _, _, _ => rfl)
theorem kbD (F : FunI K e0 f fd) : ∃ mv : List Value, KBn K fd pInit 4 ["due"] (fun us ws => us ++ (ws ++ mv)) (fun us ws => us ++ (ws ++ [V.ref e0])) :=
  F.kbinds0 4 _ [("holds", V.ref e0)] (fun us mv ws => us ++ (ws ++ mv)) (by simp) (by simp) (fun r1 r2 r3 => r1.append (r3.append r2))
    (fun D doc pm an cdv ct us mv ws h1 h2 h3 => match us, mv, ws, h1, h2, h3 with | [_, _, _, _], [_], [_], _, _, _ => ⟨_, _, _, _, _, _, rfl, rfl, rfl⟩)
theorem kbH (F : FunI K e0 f fd) : ∃ mv : List Value, KBn K fd pInit 4 ["holds"] (fun us ws => us ++ (mv ++ ws)) (fun us ws => us ++ ([V.non] ++ ws)) :=
  F.kbinds0 4 _ [("due", V.non)] (fun us mv ws => us ++ (mv ++ ws)) (by simp) (by simp) (fun r1 r2 r3 => r1.append (r2.append r3))
    (fun D doc pm an cdv ct us mv ws h1 h2 h3 => match us, mv, ws, h1, h2, h3 with | [_, _, _, _], [_], [_], _, _, _ => ⟨_, _, _, _, _, _, rfl, rfl, rfl⟩)
theorem kb0 (F : FunI K e0 f fd) : ∃ ds, Vals [V.non, V.ref e0] ds ∧ Binds K fd pInit ds :=
  F.binds0 4 (by simp) rfl (fun D doc pm an cdv ct us ks h1 h2 => match us, ks, h1, h2 with | [_, _, _, _], [_, _], _, _ => ⟨_, _, _, _, _, _, rfl, rfl, _, _, _, _, _, _, rfl, rfl, rfl⟩)
end
end Du

set_option Elab.async false
set_option linter.all false
set_option maxRecDepth 100000
namespace Du
open PySem L2 PyProof.Rows
section
variable {P : Program} {w : World} {K : PySem.W.Frag} {mg : Str → Option Value} {base : Heap} {k : Nat} {f : Addr} {N ps : List Str} {A : Around} {outer : List Env} {s : Shared} {H : Hp} {args : Args} {us : List Value} {vs : List V} {Q : VK}
/-- a def's call where one stands, by its body there -/
theorem fn_at {name qual : Str} {params : Arguments} {body : List Stmt} {scope : Scope} {dV kV doc pm cdv ct oc : Value} {an od : Option Addr} {osl : Array (Option Value)}
    (lk : K.lookup f = some ⟨oc, od, .func (PySem.W.fnOf name qual params body scope dV kV doc pm an cdv ct), osl⟩) (hcd : PySem.W.codeIn K cdv qual = true) (S : FnScope N ps scope) (hr : Room (k + 1) A) (e0 : Env0 P w K mg base A outer s H)
    (hb : BindsTo s (PySem.W.fnOf name qual params body scope dV kV doc pm an cdv ct) args (ps.zip us)) (r : Vals vs us) (hl : vs.length = ps.length)
    (go : ∃ t, PSs (cxOf CX0 P w K mg base N qual scope f cdv A outer s H E0).nox body t ∧ t { nx := fun _ H' => Q .non H', rt := Q } (L2.start N vs) H) : codeAny (model P w) A (.call (.ref f) args) (CR CX0 outer P w H s Q E0) s := by
  have kept := fun b o e => (e0.bs b o e).1
  have KX : K.In s.heap := e0.mod.kin.keeps kept
  refine codeAny_call_function hr.depth (KX _ _ lk) rfl S.co S.gen rfl (PySem.W.codeRec_of KX hcd) (hb _ _ _ _ (wpAny_newFunctionEnv_cells S.kind (fun y hy => (S.par y.1 (List.of_mem_zip hy).1).imp id fun q => ⟨q, PySem.W.cellsFrom_some _ _ _ (.inl q)⟩) fun env he s1 x => ?_))
  subst he
  obtain ⟨t, ht, hq⟩ := go
  have I := inv_start (CX := CX0) (E := E0) S hr.hd e0 hl r x
  refine ⟨(e0.mod.nolimit.keeps kept).keeps x.toInCall.keep, codeAny_func (wpAny_mono (ht.nox.run [] s1 _ H _ I hq) (fun fl s' hs => ?_) fun _ _ z => z)⟩
  match fl, hs with
  | .ret u, ⟨v, σ', H', J, rv, q⟩ => exact ⟨v, H', J.os, J.bare, J.base, J.hok, rv, q⟩
  | .next, ⟨σ', H', J, q⟩ => exact ⟨V.non, H', J.os, J.bare, J.base, J.hok, rfl, q⟩
  | .brk, ⟨_, _, _, q⟩ => exact q.elim
  | .cont, ⟨_, _, _, q⟩ => exact q.elim
end
/-- the law's def, called by the claim's own caller -/
def LawOk (P : Program) (w : World) (K : PySem.W.Frag) (mg : Str → Option Value) (base : Heap) (fa : Addr) (fd : FuncData) (x : Str) (sp : Sp) : Prop :=
  ∀ (s : Shared) (H : Hp) (u : Value) (v : V) (Q : VK), Env0 P w K mg base callerA [] s H → BindsTo s fd ⟨[u], []⟩ [(x, u)] → RelV v u → sp [v] H Q E0 → codeAny (model P w) callerA (.call (.ref fa) ⟨[u], []⟩) (CR CX0 [] P w H s Q E0) s
theorem law_at {P : Program} {w : World} {K : PySem.W.Frag} {mg mb : Str → Option Value} {fa a : Addr} {fd : FuncData} {x : Str} {sp : Sp} {s1 : Shared} {vs : List Value} {ns : List Int}
    (KX : K.In s1.heap) (hns : s1.heap.Ns mainGlobals mg) (hb : s1.heap.Ns builtinsNs mb) (hbb : ∀ y : Str, y ≠ "__name__" → mb y = bootBuiltins y) (hlim : s1.heap.NoLimit) (hg : s1.gens = #[])
    (ha : s1.heap.get? a = some { cls := .type "list", data := .seq vs.toArray }) (hi : IntsAre vs ns) (hl : ns.length ≤ sizeLine)
    (F : ∀ base : Heap, K.In base → base.Ns mainGlobals mg → LawOk P w K mg base fa fd x sp) (hbind : ∀ (s : Shared) (u : Value), BindsTo s fd ⟨[u], []⟩ [(x, u)])
    (hsp : ∀ H : Hp, SqL K H a (ns.map V.int) → sp [.ref a] H (fun v _ => v = .bl true) E0) :
    codeAny (model P w) callerA (.call (.ref fa) ⟨[.ref a], []⟩) (fun r s' => r = .ok (.ret (.bool true)) ∧ OldK s1.heap s'.heap ∧ s'.os = s1.os ∧ AllBare s'.gens) s1 := by
  have rv := vals_ints hi
  let H : Hp := fun b => if b = a ∧ K.lookup a = none then some (.frz { cls := .type "list", data := .seq vs.toArray } (.lst (ns.map V.int))) else none
  have hH : ∀ b u, H b = some u → b = a ∧ K.lookup a = none ∧ u = .frz { cls := .type "list", data := .seq vs.toArray } (.lst (ns.map V.int)) := fun b u e => by
    by_cases hc : b = a ∧ K.lookup a = none
    · have e' := (if_pos hc).symm.trans e
      exact ⟨hc.1, hc.2, (Option.some.inj e').symm⟩
    · have e' := (if_neg hc).symm.trans e
      cases e'
  have hS : SqL K H a (ns.map V.int) := by
    cases hk : K.lookup a with
    | none => exact .inl (.inr ⟨_, if_pos ⟨rfl, hk⟩⟩)
    | some o =>
      have eo := (KX a o hk).symm.trans ha
      cases eo
      exact .inr ⟨_, vs.toArray, _, hk, rfl, rfl, rfl, by rw [List.size_toArray, hi.length]; exact hl, by simpa using rv⟩
  have hok : HOk P w H s1.heap := fun b u e => by
    obtain ⟨rfl, _, rfl⟩ := hH b u e
    exact ⟨ha, by rw [List.length_map]; exact hl, vs, _, rv, ha⟩
  have noD : ∀ {b : Addr} {o : Obj} {es : Array DictEntry} {ep : Nat}, s1.heap.get? b = some o → o.data = .dict es ep → H b = none := fun {b o es ep} e d => by
    cases q : H b with
    | none => rfl
    | some u =>
      obtain ⟨rfl, _⟩ := hH b u q
      cases ha.symm.trans e
      cases (show Data.seq vs.toArray _ = Data.dict es ep from d)
  have ns' : ∀ {b : Addr} {m : Str → Option Value}, s1.heap.Ns b m → (hidT s1.heap H).Ns b m := fun ⟨o, es, ep, e, d, z⟩ => ⟨o, es, ep, hidT_get e (noD e d), d, z⟩
  have hKb : K.In (hidT s1.heap H) := fun b o e => hidT_get (KX b o e) (by
    cases q : H b with
    | none => rfl
    | some u =>
      obtain ⟨rfl, hk, _⟩ := hH b u q
      rw [hk] at e
      cases e)
  obtain ⟨mc, l1, l2⟩ := hlim
  have e0 : Env0 P w K mg (hidT s1.heap H) callerA [] s1 H := ⟨rfl, ⟨hKb, ns' hns, ⟨mb, ns' hb, hbb⟩, ⟨mc, ns' l1, l2⟩⟩, fun b o e => of_hidT e, Nat.le_of_eq (hidT_size _ _), trivial, (fun b z => nomatch z), hok, .of_eq hg⟩
  refine codeAny_mono (F _ hKb (ns' hns) s1 H (.ref a) (.ref a) _ e0 (hbind s1 (.ref a)) rfl (hsp H hS)) fun r s' h => ?_
  match r, h with
  | .error _, h => exact h.elim
  | .ok .next, h => exact h.elim
  | .ok .brk, h => exact h.elim
  | .ok .cont, h => exact h.elim
  | .ok (.ret u), ⟨v, H', os, bare, un, hok', rvu, q⟩ =>
    have q' : v = .bl true := q
    subst q'
    obtain rfl : u = Value.bool true := rvu
    refine ⟨rfl, OldK.of_keep fun b o e => ?_, os, bare⟩
    cases z : H b with
    | none => exact un.keep b o e z (fun y => nomatch y) (fun y => nomatch y)
    | some y =>
      obtain ⟨rfl, hk, rfl⟩ := hH b y z
      have e2 := (hok' _ _ (un.frzs _ _ _ z)).1
      rw [← Option.some.inj (ha.symm.trans e)]
      exact e2
theorem walk_at {l : PySem.W.OpenLaw} {n : Nat} {q : Program} {loose : List Str} {XP : (Str → Option Value) → Heap → Prop} {YP : World → Heap → Prop} {d : DefRec} {K : Params → PySem.W.Frag} {sp : World → Sp} {x : Str} (hn : l.most = some n) (hn2 : n ≤ sizeLine) (hdf : d.params.defaults = [])
    (hY : ∀ (w : World) (h : Heap), YP w h → (K w.params).In h)
    (F : ∀ (w : World) (mg : Str → Option Value) (fa : Addr) (h : Heap), (K w.params).In h → h.Ns mainGlobals mg → mg d.name = some (.ref fa) →
      ∃ fd : FuncData, (∀ (s : Shared) (u : Value), BindsTo s fd ⟨[u], []⟩ [(x, u)]) ∧ ∀ base : Heap, (K w.params).In base → base.Ns mainGlobals mg → LawOk l.prog w (K w.params) mg base fa fd x (sp w))
    (hsp : ∀ (w : World) (H : Hp) (a : Addr) (ns : List Int), ns.length ≤ n → SqL (K w.params) H a (ns.map V.int) → sp w [.ref a] H (fun v _ => v = .bl true) E0) :
    PySem.W.WalkO q loose XP YP l.row.toRowW d [] (fun f vs => PySem.call f vs) := by
  refine Att.attach_call hn hdf fun w s0 s1 mg mb fa o pm cd doc a vs ns G Y ho hd hcd hmg hobj hints hlen hg => ?_
  obtain ⟨fd, hb, hF⟩ := F w mg fa _ (hY w _ Y) G.T.g hmg
  exact law_at (hY w _ Y) G.T.g G.T.b G.T.builtins G.T.nolimit hg hobj hints (Nat.le_trans hlen hn2) hF hb fun H hS => hsp w H a ns hlen hS
end Du

set_option Elab.async false
set_option linter.all false
set_option maxRecDepth 100000
set_option maxHeartbeats 1000000
namespace Du
open PySem PySem.W PySem.Calls PyProof.Rows PySem.HandSPX
open L2 (defArgs defBody defScope inClass)
/-- what the written part says of an error class over ValueError with one field -/
structure ErrC (P : Program) (K : Frag) (mg : Str → Option Value) (x fld qual : Str) (st : Stmt) (C fI : Addr) : Prop where
  gC : mg x = some (.ref C)
  cls : ∃ nm q N bs bm sn sub ab col dd k0 k1 k2 k3 k5, K.lookup C = some (excClassObj nm q C N bs bm true sn sub ab col dd k0 k1 k2 k3 k5 "ValueError.__new__") ∧ refsVE bm = true
  sa : findIn K (.ref C) "__setattr__" = some (some (.builtin "object.__setattr__"))
  ga : findIn K (.ref C) "__getattribute__" = some (some (.builtin "BaseException.__getattribute__"))
  gg : findIn K (.ref C) "__getattr__" = some none
  noN : findIn K (.ref C) fld = some none
  iC : findIn K (.ref C) "__init__" = some (some (.ref fI))
  tC : typeIn K (.ref fI) = some (.type "function")
  kC : keepIn K (.ref C) = true
  exC : subIn K (.ref C) (.type "BaseException") = some true
  veC : subIn K (.ref C) (.type "ValueError") = some true
  tyC : typeIn K (.ref C) = some (.type "type")
  hdC : hasDictIn K C = true
  mro : mroIn K C (.ref C) = some true
  sup : ks_superIn K C C "__init__" = some (some (.builtin "ValueError.__init__"))
  any : nsIn K cStatics "thirdparty.any" = some none
  top : (P.main.scope.names.lookup ("super" : Str)).isSome = false
  mS : mg "super" = none
  fn : ∃ (oc : Value) (od : Option Addr) (doc pm : Value) (an : Option Addr) (cda cc : Addr) (ct : Value) (osl : Array (Option Value)) (ccl cl : Value) (cdd cld : Option Addr) (ccs csl : Array (Option Value)) (vs : Array Value) (file : Str) (tf : Tok),
    K.lookup fI = some ⟨oc, od, .func (ksFn "__init__" qual (defArgs st) (defBody st) (defScope st) .none .none doc pm an (.ref cda) ct cc), osl⟩ ∧ codeIn K (.ref cda) qual = true ∧
    K.lookup cda = some ⟨ccl, cdd, .fields vs, ccs⟩ ∧ vs[2]? = some (.str file tf) ∧ ((P.main.file : Str) == file) = true ∧ K.lookup cc = some ⟨cl, cld, .cell (some (.ref C)), csl⟩
/-- what __init__ leaves of a fresh exception at x -/
structure ErrEnd (h h' : Heap) (x C dx : Addr) (fld : Str) (v : Value) : Prop where
  keep : ∀ b o, b ≠ x → h.get? b = some o → h'.get? b = some o
  obj : ∃ t1 : Addr, h'.get? x = some { cls := .ref C, dict := some dx, data := .fields #[.ref t1, .none, .none, .none, .bool false, .none] }
  dbig : h.objs.size ≤ dx
  dne : dx ≠ x
  ns : h'.Ns1 dx (fun y => if y = fld then some v else none)
section
variable {prog : Program} {w : World} {A : Around} {E : Value → Shared → Prop} {h : Heap} {g : Array GenState} {d : Drawn} {t : Nat} {os : OsState}
variable {nm q : Str} {C N : Addr} {bs bm : List Value} {hdct : Bool} {sn : List Str} {sub : List Value} {ab : Bool} {col : Option Bool} {dd : Option Addr} {k0 k1 k2 k3 k5 : Option Value} {B newId i : String} {bmB : List Value}
/-- the bound __init__ of the built-in base, called -/
theorem call_mw (FB : ExcBaseFacts B newId i bmB) {u e t0 : Addr} {rest : List Value} {Q : Value → Shared → Prop} (hC : h.get? C = some (excClassObj nm q C N bs bm hdct sn sub ab col dd k0 k1 k2 k3 k5 newId)) (he : h.get? e = some (excO C t0)) (hu : h.get? u = some (kxs_mw i e))
    (hrest : rest.length ≤ sizeLine) (hq : ∀ h' t1, (∀ b o, b ≠ e → h.get? b = some o → h'.get? b = some o) → h'.get? e = some (excO C t1) → Q .none ⟨h', g, d, t, os⟩) : wpAny (model prog w) A (call (.ref u) rest) Q E ⟨h, g, d, t, os⟩ := by
  refine wpAny_call (codeAny_of_tree ?_)
  show wpAny _ A.in1 (callAny (.ref u) ⟨rest, []⟩) _ _ _
  simp only [callAny]
  refine wpAny_bind (wpAny_load hu (KFB.if_so (show (Value.type "method-wrapper" == Value.type "method" || Value.type "method-wrapper" == Value.type "builtin_function_or_method" || Value.type "method-wrapper" == Value.type "method-wrapper") = true by decide) (wpAny_bind (check_bound_init FB.toExcCallFacts hC he rfl (wpAny_bind (wpAny_pure (wpAny_pure ⟨plainId_quiet FB.init.plain _, codeAny_builtin FB.initEntry ?_⟩)))))))
  exact exc_init_tree (cls := .ref C) (t0 := t0) (dv := none) (c2 := .none) (c3 := .none) (b4 := .bool false) he hrest fun h' k e' _ => hq h' _ k e'
end
abbrev sNoTask : Stmt := inClass (topS 4) 0
section
variable {prog : Program} {w : World} {A : Around} {E : Value → Shared → Prop} {R : Result → Shared → Prop} {s : Shared} {K : Frag} {mg mb : Str → Option Value} {C fI : Addr} {nm qual : Str}
theorem init_NoTask (T : ErrC prog K mg nm "part" qual sNoTask C fI) {x t0 : Addr} {v : Value} (X : K.In s.heap) (hlim : s.heap.NoLimit) (G : s.heap.Ns mainGlobals mg) (Bn : s.heap.Ns builtinsNs mb) (hbb : ∀ y : Str, y ≠ "__name__" → mb y = bootBuiltins y)
    (hx : s.heap.get? x = some (excO C t0)) (hnx : K.lookup x = none) (hroom : A.depth < recursionLimit) (hq : ∀ h' tk dx, ErrEnd s.heap h' x C dx "part" v → R (.ok (.ret .none)) { s with heap := h', toks := tk }) : codeAny (model prog w) A (.call (.ref fI) ⟨[.ref x, v], []⟩) R s := by
  obtain ⟨oc, od, doc, pm, an, cda, cc, ct, osl, ccl, cl, cdd, cld, ccs, csl, vs, file, tf, lk, hcd, hcode, hvs, hfile, hcell⟩ := T.fn
  obtain ⟨nm', q', N', bs, bm, sn, sub, ab, col, dd, k0, k1, k2, k3, k5, hC, hbm⟩ := T.cls
  have hcl : clsIn K C = some { name := nm', bases := bs, mro := .ref C :: bm, ns := N', qualname := q', hasDict := true, slotNames := sn, subclasses := sub, abstract := ab, collection := col, hasDel := false } := by unfold clsIn; rw [hC] <;> rfl
  have nocell : ∀ y ∈ (defScope sNoTask).names, y.2 ≠ .cell := by decide +kernel
  refine ks_codeAny_call_defAt (binds := [(("self" : Str), Value.ref x), ("part", v)]) hroom (X _ _ lk) rfl hlim (codeRec_of X hcd) rfl (BindsTo.of_eq rfl) nocell (fun y hy => ?_) (fun h1 hn k => ?_)
  · rcases List.mem_cons.mp hy with rfl | hy
    · rfl
    · rw [List.mem_singleton.mp hy]
      rfl
  have X1 : K.In h1 := X.keeps k
  have hx1 := k _ _ hx
  have I1 : InstAt h1 x (excO C t0) C none := ⟨hx1, rfl, rfl, trivial⟩
  obtain ⟨oD, hD1, cdD, hD2⟩ : ∃ oD, h1.get? C = some oD ∧ ∃ cd, oD.data = .cls cd := ⟨_, X1 _ _ hC, _, rfl⟩
  refine ks_wpAt_execs_cons (ks_wpAt_Expr_any (ks_wpAt_MethodCall ?_))
  refine ks_wpAt_super_base rfl rfl (by decide) rfl (X1 _ _ lk) rfl rfl rfl (X1 _ _ hcode) rfl hvs hfile T.top ?_
  refine ks_loadName_global rfl rfl (loadGlobal_builtin (G.keeps k) T.mS (Bn.keeps k) ((hbb _ (by decide)).trans PyProof.Rows.Boot.«super») ⟨rfl, ?_⟩)
  refine wpAny_loadName_free rfl rfl rfl ⟨_, X1 _ _ hcell, rfl⟩ ?_
  refine wpAny_loadName_local rfl rfl hn rfl ?_
  refine ks_wpAny_isType_cls hD1 hD2 ⟨rfl, ?_⟩
  refine ks_wpAny_call_super hD1 hD2 hx1 rfl (fun c e => by cases e) (looks_mroIn X1 T.mro) (fun h2 hso k2 => ?_)
  have X2 : K.In h2 := X1.keeps k2
  have hx2 := k2 _ _ hx1
  have I2 : InstAt h2 x (excO C t0) C none := ⟨hx2, rfl, rfl, trivial⟩
  have hm := T.sup
  unfold ks_superIn at hm
  rw [hcl] at hm
  have hmro : W.Looks (model prog w) h2 (mroOf (.ref C)) (.ref C :: bm) := (looks_clsIn X2 hcl).andThen .now
  refine kxs_getMethod kxs_ValueError hso (looks_opaque X2 T.any) hmro rfl X2 hm (I2.type.andThen (looks_subIn X2 T.veC)) (ks_ne X2 I2 hcl) (by decide) ?_
  have k3 : ∀ b o, h2.get? b = some o → (h2.push (kxs_mw "ValueError.__init__" x)).get? b = some o := fun b o e => Heap.get?_push_of_some _ e
  refine kxs_callWith (i := "ValueError.__init__") (x := x) rfl (evalArgs_plain (args_cons (Calls.Constant_str (args_nil ⟨Heap.get?_push_at rfl rfl, ?_⟩))))
  refine call_mw F.excBase_ValueError (k3 _ _ (X2 _ _ hC)) (k3 _ _ hx2) (Heap.get?_push_at rfl rfl) (by show 1 ≤ sizeLine; decide) fun h4 t1 k4 hx4 => ?_
  -- the field
  have kx : ∀ b o, b ≠ x → h1.get? b = some o → h4.get? b = some o := fun b o hb e => k4 b o hb (k3 b o (k2 b o e))
  have X4 : K.In h4 := fun b o e => kx b o (fun z => by rw [z, hnx] at e; cases e) (X1 b o e)
  have hL : s.heap.objs.size ≠ x := Nat.ne_of_gt (Heap.lt_size hx)
  obtain ⟨oL, esL, epL, eL, rL⟩ := id hn
  have hn4 : h4.Ns s.heap.objs.size _ := ⟨oL, esL, epL, kx _ _ hL eL, rL⟩
  refine ks_wpAt_execs_cons (ks_wpAt_Assign_Attr (wpAt_of_wpAny (wpAny_Name (wpAny_loadName_local rfl rfl hn4 rfl (wpAny_Name (wpAny_loadName_local rfl rfl hn4 rfl ?_) (by decide))) (by decide))))
  refine set_plain X4 (ox := excO C t1) (od := none) ⟨hx4, rfl, rfl, trivial⟩ T.sa ?_
  refine exc_osa X4 hx4 hcl (show refsVE (.ref C :: bm) = true from hbm) rfl T.noN (fun h5 tk5 dx k5 dn dne hx5 hn5 => ?_)
  refine wpAt_of_wpAny (wpAny_execs_nil (hq h5 tk5 dx ⟨fun b o hb e => k5 b o hb (kx b o hb (k b o e)), ⟨t1, hx5⟩, ?_, dne, hn5⟩))
  have z : s.heap.objs.size < h4.objs.size := hn4.lt
  have dn' : h4.objs.size ≤ dx := dn
  omega
/-- the error made -/
structure ErrMade (h h' : Heap) (e C d : Addr) (fld : Str) (v : Value) : Prop where
  keep : ∀ b o, h.get? b = some o → h'.get? b = some o
  new : h.objs.size ≤ e
  obj : ∃ oe vs, h'.get? e = some oe ∧ oe.cls = .ref C ∧ oe.dict = some d ∧ oe.data = .fields vs ∧ vs[1]? = some .none ∧ vs[2]? = some .none
  dbig : h.objs.size ≤ d
  dne : d ≠ e
  ns : h'.Ns1 d (fun y => if y = fld then some v else none)
theorem made_NoTask (T : ErrC prog K mg nm "part" qual sNoTask C fI) {v : Value} (X : K.In s.heap) (hlim : s.heap.NoLimit) (G : s.heap.Ns mainGlobals mg) (Bn : s.heap.Ns builtinsNs mb) (hbb : ∀ y : Str, y ≠ "__name__" → mb y = bootBuiltins y) (hroom : A.depth + 1 < recursionLimit)
    (hq : ∀ h' tk e d, ErrMade s.heap h' e C d "part" v → R (.ok (.ret (.ref e))) { s with heap := h', toks := tk }) : codeAny (model prog w) A (.call (.ref C) ⟨[v], []⟩) R s := by
  obtain ⟨nm', q', N', bs, bm, sn, sub, ab, col, dd, k0, k1, k2, k3, k5, hC, hbm⟩ := T.cls
  obtain ⟨hp, g, dr, tk, os⟩ := s
  have k : ∀ b o, hp.get? b = some o → ((hp.push (kdv_tup [v])).push (excO C hp.objs.size)).get? b = some o := fun b o e => Heap.get?_push_of_some _ (Heap.get?_push_of_some _ e)
  have hget : ((hp.push (kdv_tup [v])).push (excO C hp.objs.size)).get? (hp.objs.size + 1) = some (excO C hp.objs.size) := by heap_get
  have hnx : K.lookup (hp.objs.size + 1) = none := by
    cases e : K.lookup (hp.objs.size + 1) with
    | none => rfl
    | some o => exact absurd (Nat.lt_of_succ_lt (Heap.lt_size (show hp.get? (hp.objs.size + 1) = some o from X _ _ e))) (Nat.lt_irrefl _)
  refine call_own F.excBase_ValueError (fun X => refsVE_contains X bm hbm) (X _ _ hC) (looks_findIn X T.iC) (fun self => bind_fn X self T.tC) (by show 1 ≤ sizeLine; decide) ?_
  refine init_NoTask (s := ⟨(hp.push (kdv_tup [v])).push (excO C hp.objs.size), g, dr, tk, os⟩) T (X.keeps k) (hlim.keeps k) (G.keeps k) (Bn.keeps k) hbb hget hnx hroom fun h' tk' dx m => ?_
  obtain ⟨k', ⟨t1, hx⟩, dn, dne, hns⟩ := m
  have z : hp.objs.size + 1 + 1 ≤ dx := by
    have q := dn
    rw [Heap.size_push, Heap.size_push] at q
    exact q
  exact ⟨rfl, hq h' tk' (hp.objs.size + 1) dx ⟨fun b o e => k' b o (Nat.ne_of_lt (Nat.lt_succ_of_lt (Heap.lt_size e))) (k b o e), Nat.le_succ _, ⟨_, _, hx, rfl, rfl, rfl, rfl, rfl⟩, Nat.le_trans (Nat.le_trans (Nat.le_succ _) (Nat.le_succ _)) z, dne, hns⟩⟩
end
end Du

set_option Elab.async false
set_option linter.all false
set_option maxRecDepth 100000
set_option maxHeartbeats 1000000
namespace Du
open PySem PySem.Spec PyProof.Rows L2
open L2N (Zn)
/-- an object's classes as a tuple: how a clause's match is seen -/
def Mat (K : PySem.W.Frag) (cs : List Value) : Prop := ∀ {M : Model} {h : Heap} {cls : Value} {tp e : Addr}, K.In h → PySem.W.Looks M h (typeOf (.ref e)) cls → h.get? tp = some { cls := .type "tuple", data := .seq cs.toArray } → PySem.W.exmAny K cls cs = some true → PySem.W.Looks M h (excMatches (.ref e) (.ref tp)) true
theorem mat2 {K : PySem.W.Frag} {c1 c2 : Value} : Mat K [c1, c2] := fun X L hp hx => PySem.W.exm_tup2 X L hp hx
theorem mat3 {K : PySem.W.Frag} {c1 c2 c3 : Value} : Mat K [c1, c2, c3] := fun X L hp hx => PySem.W.exm_tup3 X L hp hx
/-- the clause's tuple, laid where the error is handled -/
def Lays (X : Cx) (te : Expr) (cs : List Value) : Prop := ∀ (a : Addr) (oe : Obj) (pn : List (Addr × Obj)) (σ : L2.St) (H : Hp) (s : Shared) (Q : Value → Shared → Prop) (E : Value → Shared → Prop), Inv (X.suite a ((a, oe) :: pn)) [] σ H s →
  (∀ tp h', h'.get? tp = some { cls := .type "tuple", data := .seq cs.toArray } → (∀ b o, s.heap.get? b = some o → h'.get? b = some o) → Q (.ref tp) { s with heap := h' }) → wpAny (model X.prog X.w) (X.A.mark (some (.ref a))) (eval te X.env) Q E s
theorem name_at {X : Cx} {x : Str} {c : Value} {np : Pos} (hc : Names X x c) {a : Addr} {oe : Obj} {pn : List (Addr × Obj)} {σ : L2.St} {H : Hp} {s : Shared} {Q : Value → Shared → Prop} {E : Value → Shared → Prop} (S : Inv (X.suite a ((a, oe) :: pn)) [] σ H s) (q : Q c s) :
    wpAny (model X.prog X.w) (X.A.mark (some (.ref a))) (eval (.Name x np) X.env) Q E s := by
  obtain ⟨hg, hd, hm | ⟨hm, hv, hn⟩⟩ := hc
  · exact ld_glob (X := X.suite a ((a, oe) :: pn)) S hg hm q hd
  · exact ld_blt (X := X.suite a ((a, oe) :: pn)) S hg hm hv q hn hd
theorem lays2 {X : Cx} {x1 x2 : Str} {c1 c2 : Value} {n1 n2 tp : Pos} {kk : Nat} (h1 : Names X x1 c1) (h2 : Names X x2 c2) : Lays X (.Tuple [.Name x1 n1, .Name x2 n2] kk tp) [c1, c2] := fun a oe pn σ H s Q E S q =>
  wpAny_Tuple_spliced (args_cons (name_at h1 S (args_cons (name_at h2 S (args_nil ⟨by show 2 ≤ sizeLine; decide, q _ _ (Heap.get?_push_size _ rfl) fun b o e => Heap.get?_push_of_some _ e⟩)))))
theorem lays3 {X : Cx} {x1 x2 x3 : Str} {c1 c2 c3 : Value} {n1 n2 n3 tp : Pos} {kk : Nat} (h1 : Names X x1 c1) (h2 : Names X x2 c2) (h3 : Names X x3 c3) : Lays X (.Tuple [.Name x1 n1, .Name x2 n2, .Name x3 n3] kk tp) [c1, c2, c3] := fun a oe pn σ H s Q E S q =>
  wpAny_Tuple_spliced (args_cons (name_at h1 S (args_cons (name_at h2 S (args_cons (name_at h3 S (args_nil ⟨by show 3 ≤ sizeLine; decide, q _ _ (Heap.get?_push_size _ rfl) fun b o e => Heap.get?_push_of_some _ e⟩)))))))
theorem flying_push {B h h' : Heap} {l : List Env} {a : Addr} {Z : Obj → Prop} (k : ∀ b o, h.get? b = some o → h'.get? b = some o) (f : HandSPX.FlyingZ B l a Z h) : HandSPX.FlyingZ B l a Z h' := by
  obtain ⟨f1, f2, f3, oe, vs, T, oT, ts, t1, t2, t3, t4, t5, t6, t7, t8, t9⟩ := f
  exact ⟨fun b o e => k b o (f1 b o e), f2, Heap.FunFrames.of_keeps (fun b o e _ => ⟨o, k b o e, rfl⟩) f3, oe, vs, T, oT, ts, k _ _ t1, t2, t3, t4, t5, t6, k _ _ t7, t8, t9⟩
/-- what 'except (..) as n' wishes of an exception of the body, each of which it takes -/
def wTup (K : PySem.W.Frag) (cs : List Value) (i : Nat) (ts : Addr → Value → Option Addr → TS) (D : Ends) : WX := fun cls d σ H =>
  PySem.W.exmAny K cls cs = some true ∧ ∀ a, H a = none → ts a cls d { nx := fun σ' H' => D.nx (σ'.set i none) H', rt := D.rt, bk := fun σ' H' => D.bk (σ'.set i none) H', ct := fun σ' H' => D.ct (σ'.set i none) H' } (σ.set i (some (.ref a))) H
theorem ps_try_tup {X : Cx} {n : Str} {i : Nat} {te : Expr} {cs : List Value} {body suite : List Stmt} {b0 : Stmt} {pos pos' : Pos} {tb : WX → TS} {ts : Addr → Value → Option Addr → TS} (hs : X.stack = X.env :: X.outer) (hf : X.env.frame = some X.env.locals) (hN : X.N.Nodup) (hi : X.N[i]? = some n)
    (hln : X.env.kindOf n = some .local) (hl : Lays X te cs) (hm : Mat X.K cs)
    (hb : ∀ (W : WX) (pn : List (Addr × Obj)) (xe : Value → Shared → Prop), L2N.Takes (X.tr pn xe) W → PassesOwn (model X.prog X.w) X.A X.env xe → PSs (X.tr pn xe) body (tb W))
    (hsu : ∀ (a : Addr) (oe : Obj) (cls : Value) (d : Option Addr) (pn : List (Addr × Obj)), Zn cls d oe → (∃ vs, oe.data = .fields vs) → PSs (X.suite a ((a, oe) :: pn)) (b0 :: suite) (ts a cls d)) :
    PS X (.Try body [.ExceptHandler (some te) (some n) (b0 :: suite) pos'] [] [] pos) (fun D σ H => tb (wTup X.K cs i ts D) D σ H) := by
  refine ⟨fun pins s σ H D I h => ?_⟩
  have ok := I.ok
  refine wpAny_Try_except (wpAny_mono ((hb (wTup X.K cs i ts D) (X.pn ++ pins) (fun e s1 => wpAny (model X.prog X.w) X.A (noteFrame e X.env) (fun _ s2 => wpAny (model X.prog X.w) X.A (setFlight e none) (fun _ s3 =>
    wpAny (model X.prog X.w) X.A (handleBy e X.env [.ExceptHandler (some te) (some n) (b0 :: suite) pos']) (SP X pins D) X.xe s3) X.xe s2) X.xe s1) (fun u s' xx => ?_) PassesOwn.looking).run [] s σ H D (I.toTry _) h) (fun f s1 hsp => ?_) (fun _ _ he => he))
  · obtain ⟨a, B, sI, pins', σ', H', cls, d, rfl, J', nb, up, sky, na, os, ag, hyes, go⟩ := xx
    have J : Inv X pins σ' H' sI := J'.ofTry ok
    have hfr : X.A.frames = some (X.env :: X.outer) := by rw [ok.frames, hs]
    show wpAny (model X.prog X.w) X.A (noteFrame (.ref a) X.env) _ _ _
    refine L2N.Sky.land Zn.steady hfr hf (by rw [← hs]; exact sky) fun h3 fl3 up3 => ?_
    obtain ⟨oe3, vs3, he3, hz3, hd3⟩ := fl3.there
    have nfr : a ∉ frs (X.env :: X.outer) := fun m => by
      obtain ⟨_, o', e', hnf⟩ := fl3.2.2.1.mem m
      cases he3.symm.trans e'
      exact hnf _ hd3
    have nL : a ≠ X.env.locals := fun z => nfr (List.mem_filterMap.mpr ⟨X.env, List.mem_cons_self, by rw [hf, z]⟩)
    have nF : a ∉ X.fs := fun m => by
      obtain ⟨e, he, q⟩ := List.mem_filterMap.mp m
      exact nfr (List.mem_filterMap.mpr ⟨e, List.mem_cons_of_mem _ he, q⟩)
    have J3 : Inv X pins σ' H' { s' with heap := h3 } := J.landed nb fl3.1 (up.trans up3) os ag
    refine wpAny_handleBy_cons (codeAny_handlers_test ?_) (by intro q; cases q)
    refine hl a oe3 (X.pn ++ pins) σ' H' _ _ _ (J3.suite he3 hd3 na nL nF) fun tp h4 ht k4 => ?_
    have fl4 := flying_push k4 fl3
    have up4 : h3.UpToSlots h4 := Heap.UpToSlots.of_keeps k4
    have LT : PySem.W.Looks (model X.prog X.w) h4 (typeOf (.ref a)) cls := fun A Q E s k q => wpAny_typeOf_ref (k _ _ (k4 _ _ he3)) (by rw [hz3.1]; exact q)
    refine (hm (J3.kIn.keeps k4) LT ht hyes).here ?_
    show codeAny (model X.prog X.w) (X.A.mark (some (.ref a))) (.handlers (.ref a) [.ExceptHandler none (some n) (b0 :: suite) pos'] X.env) _ _
    refine codeAny_handlers_suite_as (HandSPX.lands_againZ (s := { s' with heap := h4 }) fl4 fun h5 fl5 up5 => ?_)
    have J5 : Inv X pins σ' H' { s' with heap := h5 } := J.landed nb fl5.1 (((up.trans up3).trans up4).trans up5) os ag
    obtain ⟨oe5, vs5, he5, hz5, hd5⟩ := fl5.there
    refine store_ok (X := X.suite a ((a, oe5) :: (X.pn ++ pins))) (v := .ref a) (J5.suite he5 hd5 na nL nF) hN hi (.inl hln) rfl (fun s6 S6 => ?_) (.inr hln)
    refine wpAny_mono ((hsu a oe5 cls d (X.pn ++ pins) hz5 ⟨_, hd5⟩).run [] s6 _ H' _ S6 (go a na)) (fun f s7 hsp => ?_) (fun _ _ z => False.elim z)
    match f, hsp with
    | .next, ⟨σ6, H6, S7, q6⟩ => exact gone_ok (S7.unsuite ok) hN hi hln fun s8 J8 => ⟨_, _, J8, q6⟩
    | .brk, ⟨σ6, H6, S7, q6⟩ => exact gone_ok (S7.unsuite ok) hN hi hln fun s8 J8 => ⟨_, _, J8, q6⟩
    | .cont, ⟨σ6, H6, S7, q6⟩ => exact gone_ok (S7.unsuite ok) hN hi hln fun s8 J8 => ⟨_, _, J8, q6⟩
    | .ret u, ⟨v6, σ6, H6, S7, r6, q6⟩ => exact gone_ok (S7.unsuite ok) hN hi hln fun s8 J8 => ⟨_, _, _, J8, r6, q6⟩
  · match f, hsp with
    | .next, ⟨σ', H', J', q⟩ => exact wpAny_execs_nil ⟨σ', H', J'.ofTry ok, q⟩
    | .brk, ⟨σ', H', J', q⟩ => exact ⟨σ', H', J'.ofTry ok, q⟩
    | .cont, ⟨σ', H', J', q⟩ => exact ⟨σ', H', J'.ofTry ok, q⟩
    | .ret u, ⟨v, σ', H', J', r, q⟩ => exact ⟨v, σ', H', J'.ofTry ok, r, q⟩
end Du

set_option Elab.async false
set_option linter.all false
set_option maxRecDepth 100000
set_option maxHeartbeats 1000000
namespace Du
open PySem PySem.Spec PyProof.Rows L2
open L2N (Zn)
/-- an error class with one field, by its making -/
structure Err (P : Program) (w : World) (K : PySem.W.Frag) (mg : Str → Option Value) (x fld : Str) (C : Addr) : Prop where
  gC : mg x = some (.ref C)
  kC : PySem.W.keepIn K (.ref C) = true
  exC : PySem.W.subIn K (.ref C) (.type "BaseException") = some true
  tyC : PySem.W.typeIn K (.ref C) = some (.type "type")
  ga : PySem.W.findIn K (.ref C) "__getattribute__" = some (some (.builtin "BaseException.__getattribute__"))
  gg : PySem.W.findIn K (.ref C) "__getattr__" = some none
  noN : PySem.W.findIn K (.ref C) fld = some none
  hdC : PySem.W.hasDictIn K C = true
  made : ∀ {A : Around} {R : Result → Shared → Prop} {s : Shared} {mb : Str → Option Value} {v : Value}, K.In s.heap → s.heap.NoLimit → s.heap.Ns mainGlobals mg → s.heap.Ns builtinsNs mb → (∀ y : Str, y ≠ "__name__" → mb y = bootBuiltins y) → A.depth + 1 < recursionLimit →
    (∀ h' tk e d, ErrMade s.heap h' e C d fld v → R (.ok (.ret (.ref e))) { s with heap := h', toks := tk }) → codeAny (model P w) A (.call (.ref C) ⟨[v], []⟩) R s
theorem relO_fld {v : V} {u : Value} {fld : Str} (r : RelV v u) (f : Str) : RelO (List.lookup f [(fld, v)]) (if f = fld then some u else none) := by
  by_cases h : f = fld
  · subst h
    rw [if_pos rfl, show List.lookup f [(f, v)] = some v by simp [List.lookup]]
    exact r
  · have e : (f == fld) = false := by simpa using h
    rw [if_neg h, show List.lookup f [(fld, v)] = none by simp [List.lookup, e]]
    trivial
def tMkErr (C : Addr) (fld : Str) (ta : TA) : L2.St → Hp → XK → Prop := fun σ H Q => ta σ H fun vs H1 => ∃ v, vs = [v] ∧ ∀ d, H1 d = none → Q (.ref C) (some d) (upd H1 d (.xd [(fld, v)]))
theorem pmk_err {X : Cx} {C : Addr} {x fld : Str} {a : Expr} {ta : TA} {p pos : Pos} {k : Nat} (T : Err X.prog X.w X.K X.mg x fld C) (hr : Room k X.A) (hg : Gl X x) (ha : PA X [a] ta) (hdb : (x == ("__debug__" : Str)) = false := by decide)
    (he : starEach (a :: []) X.env = (false, eval a X.env) :: starEach [] X.env := by rfl) (hpl : (backTo pos (starEach [] X.env)).any (·.1) = false := by rfl) : L2N.PMk X (.Call (.Name x p) [a] [] pos) (tMkErr C fld ta) := by
  intro pins s σ H Q I h
  refine wpAny_Call_Name_kw (ld_glob I hg T.gC (PySem.W.callWith_K (h₀ := X.base) I.ok.mod.kin T.kC (thn (ha.run pos pins s σ H _ I h) fun us s1 hh => ?_) he hpl) hdb)
  obtain ⟨vs, H1, I1, r1, v, rfl, q1⟩ := hh
  obtain ⟨v', rfl, rv⟩ := vals1 r1
  refine ⟨I1.kIn, ?_⟩
  obtain ⟨mb, hb, hbb⟩ := I1.ok.mod.blt
  have hlim := I1.nolimit
  have G := I1.ok.mod.glob.keeps I1.bk
  have B := hb.keeps I1.bk
  show wpAny _ _ (call (.ref C) [v']) _ _ _
  refine wpAny_call (T.made I1.kIn hlim G B hbb (by have := hr.dp; omega) fun h' tk' e d M => ?_)
  obtain ⟨hp, g, dr, tk, os⟩ := s1
  show L2N.MkP X pins σ Q (.ref e) ⟨h', g, dr, tk', os⟩
  obtain ⟨oe, fv, hoe, hc, hd, hdat, h1, h2⟩ := M.obj
  obtain ⟨G', g1, g2⟩ := restrict h' fun b => decide (b ≠ e)
  have gk : ∀ b, b ≠ e → G'.get? b = h'.get? b := fun b hb => g1 b (decide_eq_true hb)
  have ge : G'.get? e = none := g2 e (by simp)
  have old : ∀ b o, hp.get? b = some o → G'.get? b = some o := fun b o q => (gk b (Nat.ne_of_lt (Nat.lt_of_lt_of_le (Heap.lt_size q) M.new))).trans (M.keep b o q)
  have J : Inv X pins σ (upd H1 d (.xd [(fld, v)])) ⟨G', g, dr, tk', os⟩ := I1.laid (t' := tk') old M.dbig ⟨_, M.ns.at (fun o q => (gk d M.dne).trans q), fun f => relO_fld rv f⟩
  refine ⟨e, oe, fv, ⟨G', g, dr, tk', os⟩, _, .ref C, some d, rfl, J, fun b o q => ?_, ge, hoe, ⟨hc, hd, fun vs ev => ?_⟩, hdat, h1, ?_, rfl, I1.bare, raises_own T.exC T.tyC, q1 d (I1.hok.fresh M.dbig)⟩
  · by_cases hb : b = e
    · rw [hb] at q
      cases ge.symm.trans q
    · exact (gk b hb).symm.trans q
  · cases hdat.symm.trans ev
    exact h2
  · rw [upd_ne (Ne.symm M.dne)]
    exact I1.hok.fresh M.new
/-- raise X(e) -/
theorem ps_raiseErr {X : Cx} {C : Addr} {x fld : Str} {a : Expr} {ta : TA} {W : WX} {p pos pos2 : Pos} {k : Nat} (hc : X.calm = true) (T : Err X.prog X.w X.K X.mg x fld C) (hr : Room k X.A) (tk : L2N.Takes X W) (hg : Gl X x) (ha : PA X [a] ta) (hdb : (x == ("__debug__" : Str)) = false := by decide)
    (he : starEach (a :: []) X.env = (false, eval a X.env) :: starEach [] X.env := by rfl) (hpl : (backTo pos (starEach [] X.env)).any (·.1) = false := by rfl) :
    PS X (.Raise (some (.Call (.Name x p) [a] [] pos)) none pos2) (fun _ σ H => tMkErr C fld ta σ H fun cls d H' => W cls d σ H') := L2N.ps_raise hc tk (pmk_err T hr hg ha hdb he hpl)
theorem err_of {P : Program} {w : World} {K : PySem.W.Frag} {mg : Str → Option Value} {x qual : Str} {C fI : Addr} (T : ErrC P K mg x "part" qual sNoTask C fI) : Err P w K mg x "part" C :=
  ⟨T.gC, T.kC, T.exC, T.tyC, T.ga, T.gg, T.noN, T.hdC, fun X l G B hb hr q => made_NoTask T X l G B hb hr q⟩
end Du

set_option Elab.async false
set_option linter.all false
set_option maxRecDepth 100000
set_option maxHeartbeats 1000000
namespace Du
open PySem PySem.Spec PyProof.Rows L2
open L2N (Zn)
open L2H (RoomH Hot1 PinOk cxH inv_startH roomH_of)
/-- what isinstance asks of an error's class -/
structure ErrI (K : PySem.W.Frag) (C : Addr) : Prop where
  ga : PySem.W.findIn K (.ref C) "__getattribute__" = some (some (.builtin "BaseException.__getattribute__"))
  gg : PySem.W.findIn K (.ref C) "__getattr__" = some none
  exC : PySem.W.subIn K (.ref C) (.type "BaseException") = some true
  hdC : PySem.W.hasDictIn K C = true
  ha : PySem.W.findIn K (.ref C) "__class__" = some (some (.builtin "object.__class__"))
  hn : PySem.W.specialIn K (.builtin "object.__class__") "__get__" = some (some (.builtin "getset_descriptor.__get__"))
  ht : PySem.W.takesIn K (.builtin "object.__class__") = some true
  hm : PySem.W.mroIn K C (.type "object") = some true
/-- a pinned error with its dict -/
theorem err_at {X : Cx} {pins : List (Addr × Obj)} {σ : L2.St} {H : Hp} {s : Shared} {a C dd : Addr} {oe : Obj} {fs : List (Str × V)} (hp : (a, oe) ∈ X.pn) (hz : Zn (.ref C) (some dd) oe) (hf : ∃ vs, oe.data = .fields vs) (I : Inv X pins σ H s) (hd : H dd = some (.xd fs)) :
    ∃ (od : Obj) (mA : Str → Option Value), PySem.W.InstAt s.heap a oe C (some od) ∧ (∀ f, RelO (fs.lookup f) (mA f)) ∧ ∀ f, PySem.W.lookIn f od = some (mA f) := by
  obtain ⟨ha, _⟩ := I.pin (a, oe) (List.mem_append_left _ hp)
  obtain ⟨vs, hv⟩ := hf
  obtain ⟨mA, hns, hr⟩ := (show ObjOk X.prog X.w H s.heap dd (.xd fs) from I.hok dd _ hd)
  obtain ⟨od, ho, hl⟩ := lookIn_ns hns
  exact ⟨od, mA, ⟨ha, hz.1, by unfold PySem.W.notCls; rw [hv] <;> rfl, by rw [hz.2.1]; exact ho⟩, hr, hl⟩
/-- isinstance(e, c), isinstance(e, (c, ..)), e a pinned error -/
def rIsX (K : PySem.W.Frag) (C a dd : Addr) : List V → Hp → VK → Prop := fun xs H Q => ∃ fs : List (Str × V), H dd = some (.xd fs) ∧
  ((∃ (c : V) (cv : Value) (b : Bool), xs = [.ref a, c] ∧ ClsV c cv ∧ PySem.W.kitOne K (.ref C) cv = some b ∧ Q (.bl b) H) ∨ (∃ (tp : Addr) (cs : List V) (us : List Value) (b : Bool), xs = [.ref a, .ref tp] ∧ H tp = some (.tup cs) ∧ Paired ClsV cs us ∧ PySem.W.kitAny K (.ref C) us = some b ∧ Q (.bl b) H))
theorem call_isX {X : Cx} {a C dd : Addr} {oe : Obj} (T : ErrI X.K C) (hp : (a, oe) ∈ X.pn) (hz : Zn (.ref C) (some dd) oe) (hf : ∃ vs, oe.data = .fields vs) : CallR X (.builtin "isinstance") (rIsX X.K C a dd) := by
  intro pins s σ H xs us Q I r h
  obtain ⟨fs, hd, h⟩ := h
  obtain ⟨od, mA, J, _, _⟩ := err_at hp hz hf I hd
  have Z := PySem.W.kitx_exc (x := a) (ox := oe) (od := some od) (by obtain ⟨cd, hc, _⟩ := PySem.W.any_some T.hdC; rw [hc]; rfl) T.ga T.gg T.exC T.ha T.hn T.ht T.hm
  rcases h with ⟨c, cv, b, rfl, k, e, q⟩ | ⟨tp, cs, ws, b, rfl, hT, k, e, q⟩
  · obtain ⟨u1, u2, rfl, r1, r2⟩ := vals2 r
    cases (show u1 = Value.ref a from r1)
    cases k.eq r2
    exact PySem.W.kia_one Z I.kIn J e (fun z => nomatch z) fun tk => ⟨.bl b, H, I.tok tk, rfl, q⟩
  · obtain ⟨u1, u2, rfl, r1, r2⟩ := vals2 r
    cases (show u1 = Value.ref a from r1)
    cases (show u2 = Value.ref tp from r2)
    obtain ⟨_, its, rv, ⟨oc, odd, dt, sl⟩, h1, h2, n, h3⟩ := (show ObjOk X.prog X.w H s.heap tp (.tup cs) from I.hok tp _ hT)
    cases ClsV.all k rv
    simp only at h2 h3
    subst h2 h3
    exact PySem.W.kia_tup Z I.kIn J h1 e (fun z => nomatch z) fun tk => ⟨.bl b, H, I.tok tk, rfl, q⟩
/-- e.fld, e a pinned error -/
theorem pe_fldX {X : Cx} {a C dd : Addr} {oe : Obj} {fld : Str} {e : Expr} {te : TE} {pos : Pos} (T : ErrI X.K C) (hno : PySem.W.findIn X.K (.ref C) fld = some none) (hp : (a, oe) ∈ X.pn) (hz : Zn (.ref C) (some dd) oe) (hf : ∃ vs, oe.data = .fields vs) (he : PE X e te)
    (hb : attributeBase e fld X.env (eval e X.env) = eval e X.env := by rfl) : PE X (.Attribute e fld pos) (fun σ H Q => te σ H fun x H1 => x = .ref a ∧ ∃ (fs : List (Str × V)) (v : V), H1 dd = some (.xd fs) ∧ fs.lookup fld = some v ∧ Q v H1) := by
  refine ⟨fun pins s σ H Q I h => attr_of hb (thn (he.run pins s σ H _ I h) fun u s1 hh => ?_)⟩
  obtain ⟨x, H1, I1, rx, rfl, fs, v, hd, hl, q⟩ := hh
  cases (show u = Value.ref a from rx)
  obtain ⟨od, mA, J, hr, hlk⟩ := err_at hp hz hf I1 hd
  obtain ⟨u, hu, ru⟩ := RelO.some_of (v := v) (o := mA fld) (by rw [← hl]; exact hr fld)
  exact HandSPX.exc_get I1.kIn J T.ga T.gg T.exC (PySem.W.findObj_own T.hdC hno rfl (by rw [hlk, hu])) (handed_of ru) ⟨v, H1, I1.tok _, ru, q⟩
/-! a def that is handed the error that is being handled -/
structure FnE (P : Program) (w : World) (K : PySem.W.Frag) (mg : Str → Option Value) (base : Heap) (k : Nat) (f : Addr) (fd : FuncData) (ps : List Str) (sp : Addr × Obj → Sp) : Prop where
  len : ∀ p vs H Q, sp p vs H Q E0 → vs.length = ps.length
  run : ∀ (A : Around) (outer : List Env) (s : Shared) (H : Hp) (args : Args) (us : List Value) (vs : List V) (Q : VK) (p : Addr × Obj), RoomH k A → Hot1 A p → PinOk outer H s p → Env0 P w K mg base A outer s H → BindsTo s fd args (ps.zip us) → Vals vs us → sp p vs H Q E0 →
    codeAny (model P w) A (.call (.ref f) args) (CR CX0 outer P w H s Q E0) s
theorem fnE_of {P : Program} {w : World} {K : PySem.W.Frag} {mg : Str → Option Value} {base : Heap} {k : Nat} {x qual : Str} {st : Stmt} {f : Addr} {fd : FuncData} {N ps : List Str} {sp : Addr × Obj → Sp} (F : Fun K x qual st f fd) (S : FnScope N ps (defScope st)) (len : ∀ p vs H Q, sp p vs H Q E0 → vs.length = ps.length)
    (hbody : ∀ (cdv : Value) (A : Around) (outer : List Env) (s : Shared) (H : Hp) (vs : List V) (Q : VK) (p : Addr × Obj), Hot1 A p → RoomH k (A.deeper (envOfC qual (defScope st) s.heap.objs.size f cdv)) → sp p vs H Q E0 →
      ∃ t, PSs (cxH CX0 P w K mg base N qual (defScope st) f cdv A outer s H E0 p).nox (defBody st) t ∧ t { nx := fun _ H' => Q .non H', rt := Q } (L2.start N vs) H) : FnE P w K mg base (k + 1) f fd ps sp := by
  obtain ⟨oc, od, kV, doc, pm, an, cdv, ct, osl, rfl, lk, hcd⟩ := F.ex
  refine ⟨len, fun A outer s H args us vs Q p hr hot hpin e0 hb r hsp => ?_⟩
  have kept := fun b o e => (e0.bs b o e).1
  have KX : K.In s.heap := e0.mod.kin.keeps kept
  refine codeAny_call_function hr.depth (KX _ _ lk) rfl S.co S.gen rfl (PySem.W.codeRec_of KX hcd) (hb _ _ _ _ (wpAny_newFunctionEnv_cells S.kind (fun y hy => (S.par y.1 (List.of_mem_zip hy).1).imp id fun q => ⟨q, PySem.W.cellsFrom_some _ _ _ (.inl q)⟩) fun env he s1 x => ?_))
  subst he
  obtain ⟨t, ht, hq⟩ := hbody cdv A outer s H vs Q p hot (hr.deeper _) hsp
  have I := inv_startH (CX := CX0) (E := E0) S hpin e0 (len p vs H Q hsp) r x
  refine ⟨(e0.mod.nolimit.keeps kept).keeps x.toInCall.keep, codeAny_func (wpAny_mono (ht.nox.run [] s1 _ H _ I hq) (fun fl s' hs => ?_) fun _ _ z => z)⟩
  match fl, hs with
  | .ret u, ⟨v, σ', H', J, rv, q⟩ => exact ⟨v, H', J.os, J.bare, J.base, J.hok, rv, q⟩
  | .next, ⟨σ', H', J, q⟩ => exact ⟨V.non, H', J.os, J.bare, J.base, J.hok, rfl, q⟩
  | .brk, ⟨_, _, _, q⟩ => exact q.elim
  | .cont, ⟨_, _, _, q⟩ => exact q.elim
/-- f(e), e the error that is being handled -/
theorem pe_callE {X : Cx} {k : Nat} {f : Addr} {fd : FuncData} {ps : List Str} {sp : Addr × Obj → Sp} {x : Str} {q pos : Pos} {e : Expr} {es : List Expr} {t : TA} {p : Addr × Obj} (F : FnE X.prog X.w X.K X.mg X.base k f fd ps sp) (hr : RoomH k X.A) (hot : Hot1 X.A p) (hp : p ∈ X.pn) (hg : Gl X x) (hm : X.mg x = some (.ref f))
    (hk : PySem.W.keepIn X.K (.ref f) = true) (hb : Binds X.K fd ps []) (ha : PA X (e :: es) t) (hdb : (x == ("__debug__" : Str)) = false := by decide) (he : starEach (e :: es) X.env = (false, eval e X.env) :: starEach es X.env := by rfl) (hpl : (backTo pos (starEach es X.env)).any (·.1) = false := by rfl) :
    PE X (.Call (.Name x q) (e :: es) [] pos) (fun σ H Q => t σ H fun vs H1 => sp p vs H1 Q E0) := by
  refine ⟨fun pins s σ H Q I h => wpAny_Call_Name_kw (ld_glob I hg hm (PySem.W.callWith_K (h₀ := X.base) I.ok.mod.kin hk (thn (ha.run pos pins s σ H _ I h) fun us s1 ⟨vs, H1, I1, r, q⟩ => ⟨I1.kIn, ?_⟩) he hpl) hdb)⟩
  have b := hb s1 us I1.kIn (by rw [List.append_nil, ← r.length]; exact F.len _ _ _ _ q)
  rw [List.append_nil] at b
  have P1 := I1.pin p (List.mem_append_left _ hp)
  refine wpAny_call (codeAny_mono (F.run X.A X.stack s1 H1 ⟨us, []⟩ us vs Q p hr hot ⟨P1.1, P1.2.1, fun m => (List.mem_cons.mp (I1.stkSub p.1 m)).elim P1.2.2.1 P1.2.2.2.1, P1.2.2.2.2⟩ I1.env0 b r q) fun z s' hq => ?_)
  match z, hq with
  | .error _, hq => exact hq.elim
  | .ok (.ret u), hq => exact I1.after hq
  | .ok .next, hq => exact hq.elim
  | .ok .brk, hq => exact hq.elim
  | .ok .cont, hq => exact hq.elim
end Du

set_option Elab.async false
set_option linter.all false
set_option maxRecDepth 100000
namespace Du
open PySem L2
abbrev sWrongD : Stmt := topS 22
abbrev sDInit : Stmt := inClass (topS 24) 0
abbrev sDLen : Stmt := inClass (topS 24) 2
def df (n : Str) (r g : Int) : List (Str × V) := [("name", .str n), ("room", .int r), ("gap", .int g)]
theorem df_name (n : Str) (r g : Int) : (df n r g).lookup ("name" : Str) = some (.str n) := rfl
theorem df_room (n : Str) (r g : Int) : (df n r g).lookup ("room" : Str) = some (.int r) := rfl
theorem df_gap (n : Str) (r g : Int) : (df n r g).lookup ("gap" : Str) = some (.int g) := rfl
theorem df_put (n : Str) (r g : Int) : putF "gap" (.int g) (putF "room" (.int r) (putF "name" (.str n) [])) = df n r g := rfl
/-- what is asked of the class Door as the top has made it -/
structure DoorC (K : PySem.W.Frag) (mg : Str → Option Value) (C : Addr) : Prop where
  cl : Cls K C
  nN : NoAttr K C "name"
  nR : NoAttr K C "room"
  nG : NoAttr K C "gap"
  mg : mg "Door" = some (.ref C)
  kc : PySem.W.findIn K (.ref C) "__class__" = some (some (.builtin "object.__class__"))
  kg : PySem.W.specialIn K (.builtin "object.__class__") "__get__" = some (some (.builtin "getset_descriptor.__get__"))
  kt : PySem.W.takesIn K (.builtin "object.__class__") = some true
  km : PySem.W.mroIn K C (.type "object") = some true
/-! things of any kind, known for good -/
def ObT (K : PySem.W.Frag) (H : Hp) (x : V) (t : Value) : Prop := ∃ (a : Addr) (o : HO), x = .ref a ∧ H a = some o ∧ (∀ ys : List V, o = .lst ys → ys.length ≠ 3) ∧ ∀ H' : Hp, H' a = some o → TyX K H' (.ref a) t
def Ty2 (K : PySem.W.Frag) (H : Hp) (x : V) (t : Value) : Prop := (∀ H' : Hp, TyX K H' x t) ∨ ObT K H x t
section
variable {K : PySem.W.Frag} {H H' : Hp} {x : V} {t : Value} {p : Addr} {hi : Int} {b : Bool}
theorem Ty2.ty (h : Ty2 K H x t) : TyX K H x t := by
  rcases h with h | ⟨a, o, rfl, e, _, k⟩
  · exact h H
  · exact k H e
theorem Ty2.same (h : Ty2 K H x t) (s : Same H H') : Ty2 K H' x t := by
  rcases h with h | ⟨a, o, rfl, e, n, k⟩
  · exact .inl h
  · exact .inr ⟨a, o, rfl, s _ _ e, n, k⟩
theorem Ty2.step (h : Ty2 K H x t) (hp : Purse H p) (s : Step p H H') : Ty2 K H' x t := by
  rcases h with h | ⟨a, o, rfl, e, n, k⟩
  · exact .inl h
  · obtain ⟨i, j, l, ep, _⟩ := id hp
    exact .inr ⟨a, o, rfl, s.keep a o (ne_of e ep (fun z => n _ z rfl)) e, n, k⟩
/-- all but lists of three stay -/
def Kp3 (H H' : Hp) : Prop := ∀ a o, H a = some o → (∀ ys : List V, o = .lst ys → ys.length ≠ 3) → H' a = some o
theorem Kp3.trans {H H1 H2 : Hp} (a : Kp3 H H1) (b : Kp3 H1 H2) : Kp3 H H2 := fun x o e n => b x o (a x o e n) n
theorem Kp3.of_same (s : Same H H') : Kp3 H H' := fun a o e _ => s a o e
theorem Kp3.of_step (hp : Purse H p) (s : Step p H H') : Kp3 H H' := fun a o e n => by
  obtain ⟨i, j, l, ep, _⟩ := id hp
  exact s.keep a o (ne_of e ep (fun z => n _ z rfl)) e
theorem Kp3.upd {T : Addr} {ys : List V} {o' : HO} (h : H T = some (.lst ys)) (h3 : ys.length = 3) : Kp3 H (upd H T o') := fun a o e n => by
  rw [upd_ne (ne_of e h (fun z => n _ z h3))]
  exact e
theorem Ty2.kp (h : Ty2 K H x t) (s : Kp3 H H') : Ty2 K H' x t := by
  rcases h with h | ⟨a, o, rfl, e, n, k⟩
  · exact .inl h
  · exact .inr ⟨a, o, rfl, s _ _ e n, n, k⟩
def BadN (K : PySem.W.Frag) (H : Hp) (x : V) : Prop := (∃ z : Str, x = .str z ∧ z.length ≤ sizeLine ∧ isNm z = false) ∨ (∃ t, Ty2 K H x t ∧ PySem.W.kitOne K t (.type "str") = some false)
def BadW (K : PySem.W.Frag) (H : Hp) (x : V) (hi : Int) : Prop := (∃ i : Int, x = .int i ∧ (decide (1 ≤ i) && decide (i ≤ hi)) = false) ∨ (∃ b : Bool, x = .bl b) ∨ (∃ t, Ty2 K H x t ∧ PySem.W.kitOne K t (.type "int") = some false)
def GoodN (x : V) : Prop := ∃ z : Str, x = .str z ∧ isNm z = true
def GoodW (x : V) (hi : Int) : Prop := ∃ i : Int, x = .int i ∧ 1 ≤ i ∧ i ≤ hi
def NmV (K : PySem.W.Frag) (H : Hp) (x : V) (b : Bool) : Prop := (b = false ∧ GoodN x) ∨ (b = true ∧ BadN K H x)
def WhV (K : PySem.W.Frag) (H : Hp) (x : V) (hi : Int) (b : Bool) : Prop := (b = false ∧ GoodW x hi) ∨ (b = true ∧ BadW K H x hi)
theorem BadN.same (h : BadN K H x) (s : Same H H') : BadN K H' x := h.imp id fun ⟨t, a, b⟩ => ⟨t, a.same s, b⟩
theorem BadN.step (h : BadN K H x) (hp : Purse H p) (s : Step p H H') : BadN K H' x := h.imp id fun ⟨t, a, b⟩ => ⟨t, a.step hp s, b⟩
theorem BadW.same (h : BadW K H x hi) (s : Same H H') : BadW K H' x hi := h.imp id fun h => h.imp id fun ⟨t, a, b⟩ => ⟨t, a.same s, b⟩
theorem BadW.step (h : BadW K H x hi) (hp : Purse H p) (s : Step p H H') : BadW K H' x hi := h.imp id fun h => h.imp id fun ⟨t, a, b⟩ => ⟨t, a.step hp s, b⟩
theorem BadN.kp (h : BadN K H x) (s : Kp3 H H') : BadN K H' x := h.imp id fun ⟨t, a, b⟩ => ⟨t, a.kp s, b⟩
theorem BadW.kp (h : BadW K H x hi) (s : Kp3 H H') : BadW K H' x hi := h.imp id fun h => h.imp id fun ⟨t, a, b⟩ => ⟨t, a.kp s, b⟩
theorem NmV.kp (h : NmV K H x b) (s : Kp3 H H') : NmV K H' x b := h.imp id fun h => ⟨h.1, h.2.kp s⟩
theorem WhV.kp (h : WhV K H x hi b) (s : Kp3 H H') : WhV K H' x hi b := h.imp id fun h => ⟨h.1, h.2.kp s⟩
theorem NmV.same (h : NmV K H x b) (s : Same H H') : NmV K H' x b := h.imp id fun h => ⟨h.1, h.2.same s⟩
theorem NmV.step (h : NmV K H x b) (hp : Purse H p) (s : Step p H H') : NmV K H' x b := h.imp id fun h => ⟨h.1, h.2.step hp s⟩
theorem WhV.same (h : WhV K H x hi b) (s : Same H H') : WhV K H' x hi b := h.imp id fun h => ⟨h.1, h.2.same s⟩
theorem WhV.step (h : WhV K H x hi b) (hp : Purse H p) (s : Step p H H') : WhV K H' x hi b := h.imp id fun h => ⟨h.1, h.2.step hp s⟩
theorem NmV.good (h : NmV K H x false) : GoodN x := by
  rcases h with h | h
  · exact h.2
  · cases h.1
theorem WhV.good (h : WhV K H x hi false) : GoodW x hi := by
  rcases h with h | h
  · exact h.2
  · cases h.1
/-- is_name, asked -/
theorem ask_name {Q : VK} {E : XK} (h : NmV K H x b) (q : ∀ H', Same H H' → Q (.bl (!b)) H') : spName K [x] H Q E := by
  refine ⟨x, rfl, ?_⟩
  rcases h with ⟨rfl, z, rfl, hz⟩ | ⟨rfl, ⟨z, rfl, hl, hz⟩ | ⟨t, ht, hk⟩⟩
  · refine .inl ⟨z, rfl, Nat.le_trans (nm_len hz).2 (by decide), fun H' s => ?_⟩
    rw [hz]
    exact q H' s
  · refine .inl ⟨z, rfl, hl, fun H' s => ?_⟩
    rw [hz]
    exact q H' s
  · exact .inr ⟨t, ht.ty, hk, q H (Same.refl _)⟩
theorem ask_whole {Q : VK} {E : XK} (h : WhV K H x hi b) (q : Q (.bl (!b)) H) : spWhole K [x, .int 1, .int hi] H Q E := by
  refine ⟨x, 1, hi, rfl, ?_⟩
  rcases h with ⟨rfl, i, rfl, h1, h2⟩ | ⟨rfl, ⟨i, rfl, hz⟩ | ⟨c, rfl⟩ | ⟨t, ht, hk⟩⟩
  · refine .inl ⟨i, rfl, ?_⟩
    rw [decide_eq_true h1, decide_eq_true h2]
    exact q
  · refine .inl ⟨i, rfl, ?_⟩
    rw [hz]
    exact q
  · exact .inr (.inl ⟨c, rfl, q⟩)
  · exact .inr (.inr ⟨t, ht.ty, hk, q⟩)
end
/-- which part is told, where one isn't so -/
def doorPart (b0 b1 b2 : Bool) : Option Str := if b0 then some "name" else if b1 then some "room" else if b2 then some "gap" else none
def DoorAt (C : Addr) (H : Hp) (x : Addr) (n : Str) (r g : Int) : Prop := ∃ dx, H x = some (.ins C dx (df n r g))
section
variable {P : Program} {w : World} {K : PySem.W.Frag} {mg : Str → Option Value} {base : Heap}
abbrev nWrongD : List Str := ["name", "room", "gap"]
theorem scWrongD : FnScope nWrongD nWrongD (defScope sWrongD) := ⟨rfl, rfl, rfl, by decide +kernel, rfl, by decide +kernel, by decide +kernel⟩
def partV : Option Str → V
  | none => .non
  | some p => .str p
def spWrongD (K : PySem.W.Frag) : Sp := fun vs H Q _ => ∃ (x0 x1 x2 : V) (b0 b1 b2 : Bool), vs = [x0, x1, x2] ∧ NmV K H x0 b0 ∧ WhV K H x1 99 b1 ∧ WhV K H x2 600 b2 ∧ ∀ H', Same H H' → Q (partV (doorPart b0 b1 b2)) H'
theorem ok_wrongD {f : Addr} {fd : FuncData} (F : Fun K "wrong_in_door" "wrong_in_door" sWrongD f fd) (mC : ∃ t, mg "MOST_COST" = some (.int 99 t)) (mG : ∃ t, mg "MOST_GAP" = some (.int 600 t))
    (DN : Dn P w K mg base 2 "is_name" ["thing"] (spName K)) (DW : Dn P w K mg base 2 "is_whole" ["thing", "least", "most"] (spWhole K)) : FnOk P w K mg base CX0 3 f fd nWrongD (spWrongD K) := by
  obtain ⟨uC, mC⟩ := mC
  obtain ⟨uG, mG⟩ := mG
  refine F.ok scWrongD (fun vs H Q E h => ?_) (fun cdv A outer s H vs Q E hr h => ?_)
  · obtain ⟨x0, x1, x2, b0, b1, b2, rfl, _⟩ := h
    rfl
  · obtain ⟨x0, x1, x2, b0, b1, b2, rfl, h0, h1, h2, q⟩ := h
    refine ⟨_, (pss_cons (ps_if (pt_not (pt_val (pcall DN hr (by rfl) (pa_cons (pv 0) pa_nil)))) (pss_one (ps_ret pe_str)) pss_nil) (pss_cons (ps_if (pt_not (pt_val (pcall DW hr (by rfl) (pa_cons (pv 1) (pa_cons pe_int (pa_cons (pe_glob (v := .int 99) rfl mC ⟨_, rfl⟩) pa_nil)))))) (pss_one (ps_ret pe_str)) pss_nil) (pss_cons (ps_if (pt_not (pt_val (pcall DW hr (by rfl) (pa_cons (pv 2) (pa_cons pe_int (pa_cons (pe_glob (v := .int 600) rfl mG ⟨_, rfl⟩) pa_nil)))))) (pss_one (ps_ret pe_str)) pss_nil) (pss_one (ps_ret pe_non))))), ?_⟩
    refine ⟨_, rfl, ?_⟩
    unfold tNil
    refine ask_name h0 fun H1 s1 => ⟨_, rfl, ?_⟩
    cases b0 with
    | true => exact iteT (q H1 s1)
    | false =>
      refine iteF ⟨_, rfl, ?_⟩
      unfold tCons tC
      refine ask_whole (h1.same s1) ?_
      refine ⟨_, rfl, ?_⟩
      cases b1 with
      | true => exact iteT (q H1 s1)
      | false =>
        refine iteF ⟨_, rfl, ?_⟩
        refine ask_whole (h2.same s1) ?_
        refine ⟨_, rfl, ?_⟩
        cases b2 with
        | true => exact iteT (q H1 s1)
        | false => exact iteF (q H1 s1)
abbrev nDInit : List Str := ["self", "name", "room", "gap", "part"]
theorem scDInit : FnScope nDInit ["self", "name", "room", "gap"] (defScope sDInit) := ⟨rfl, rfl, rfl, by decide +kernel, rfl, by decide +kernel, by decide +kernel⟩
def spDInit (K : PySem.W.Frag) (C CE : Addr) : Sp := fun vs H Q E => ∃ (x dx : Addr) (x0 x1 x2 : V) (b0 b1 b2 : Bool), vs = [.ref x, x0, x1, x2] ∧ NmV K H x0 b0 ∧ WhV K H x1 99 b1 ∧ WhV K H x2 600 b2 ∧ H x = some (.ins C dx []) ∧
  (doorPart b0 b1 b2 = none → ∀ n r g H', x0 = .str n → x1 = .int r → x2 = .int g → DoorAt C H' x n r g → (∀ b o, H b = some o → b ≠ x → H' b = some o) → Q .non H') ∧
  (∀ p, doorPart b0 b1 b2 = some p → ∀ d H', Same H H' → H' d = some (.xd [("part", .str p)]) → E (.ref CE) (some d) H')
abbrev FunDI (K : PySem.W.Frag) (f : Addr) (fd : FuncData) : Prop := FunD K "__init__" "Door.__init__" (defArgs sDInit) (defBody sDInit) (defScope sDInit) [] [] f fd
theorem ok_dinit {C CE f : Addr} {fd : FuncData} (F : FunDI K f fd) (T : DoorC K mg C) (TE : Err P w K mg "NoDoor" "part" CE) (DD : Dn P w K mg base 3 "wrong_in_door" nWrongD (spWrongD K)) :
    FnOk P w K mg base (L2N.CX P w) 4 f fd ["self", "name", "room", "gap"] (spDInit K C CE) := by
  refine F.ok (CX := L2N.CX P w) scDInit (fun vs H Q E h => ?_) (fun cdv A outer s H vs Q E hr h => ?_)
  · obtain ⟨x, dx, x0, x1, x2, b0, b1, b2, rfl, _⟩ := h
    rfl
  · obtain ⟨x, dx, x0, x1, x2, b0, b1, b2, rfl, h0, h1, h2, hx, k, e⟩ := h
    have tk := L2N.takes_of (X := cxOf (L2N.CX P w) P w K mg base nDInit "Door.__init__" (defScope sDInit) f cdv A outer s H E) (E := E) rfl rfl rfl rfl
    refine ⟨_, (pss_cons (ps_set (i := 4) scDInit.nd rfl (.inl rfl) (pcall DD hr (by rfl) (pa_cons (pv 1) (pa_cons (pv 2) (pa_cons (pv 3) pa_nil))))) (pss_cons (ps_if (pt_cmpR op_notN (pv 4) pe_non (nomark _)) (pss_one (ps_raiseErr rfl TE hr tk (by rfl) (pa_cons (pv 4) pa_nil))) pss_nil) (pss_cons (ps_fld (pv 0) (pv 1) rfl) (pss_cons (ps_fld (pv 0) (pv 2) rfl) (pss_one (ps_fld (pv 0) (pv 3) rfl)))))), ?_⟩
    refine ⟨_, rfl, _, rfl, _, rfl, x0, x1, x2, b0, b1, b2, rfl, h0, h1, h2, fun H1 s1 => ?_⟩
    refine ⟨_, rfl, rfl, _, rfl, ?_⟩
    cases hp : doorPart b0 b1 b2 with
    | some p => exact iteT ⟨_, rfl, _, rfl, fun d nd => e p hp d _ (same_upd2 s1 (s1.free nd)) upd_same⟩
    | none =>
      have e0 : b0 = false ∧ b1 = false ∧ b2 = false := by
        revert hp
        cases b0 <;> cases b1 <;> cases b2 <;> simp [doorPart]
      obtain ⟨rfl, rfl, rfl⟩ := e0
      obtain ⟨z, rfl, hz⟩ := h0.good
      obtain ⟨r, rfl, _⟩ := h1.good
      obtain ⟨g, rfl, _⟩ := h2.good
      refine iteF ?_
      refine ⟨_, rfl, _, rfl, x, C, dx, [], rfl, s1 _ _ hx, T.cl, T.nN, (by show 0 < 1000; decide), ?_⟩
      refine ⟨_, rfl, _, rfl, x, C, dx, _, rfl, upd_same, T.cl, T.nR, (by show 1 < 1000; decide), ?_⟩
      refine ⟨_, rfl, _, rfl, x, C, dx, _, rfl, upd_same, T.cl, T.nG, (by show 2 < 1000; decide), ?_⟩
      refine k rfl z r g _ rfl rfl rfl ⟨dx, by rw [upd_same, df_put]⟩ fun b o eb hb => ?_
      rw [upd_ne hb, upd_ne hb, upd_ne hb]
      exact s1 _ _ eb
/-! Door.__len__ -/
theorem scDLen : FnScope ["self"] ["self"] (defScope sDLen) := ⟨rfl, rfl, rfl, by decide +kernel, rfl, by decide +kernel, by decide +kernel⟩
def spLenD (C : Addr) : Sp := fun vs H Q _ => ∃ (a : Addr) (n : Str) (r g : Int), vs = [.ref a] ∧ DoorAt C H a n r g ∧ 0 ≤ r ∧ r < 1000 ∧ Q (.int r) H
theorem ok_dlen {C f : Addr} {fd : FuncData} (F : Fun K "__len__" "Door.__len__" sDLen f fd) (T : DoorC K mg C) (ml : mg "len" = none) (mr : mg "range" = none) :
    FnOk P w K mg base CX0 3 f fd ["self"] (spLenD C) := by
  refine F.ok scDLen (fun vs H Q E h => ?_) (fun cdv A outer s H vs Q E hr h => ?_)
  · obtain ⟨a, n, r, g, rfl, _⟩ := h
    rfl
  · obtain ⟨a, n, r, g, rfl, ⟨dx, e1⟩, h0, h1, q⟩ := h
    refine ⟨_, pss_one (ps_ret (pe_lenRg (by rfl) ml (prg_1 (by rfl) mr (pe_fld (pv 0) rfl)))), ?_⟩
    have en : (((r - 0).toNat : Nat) : Int) = r := by omega
    refine ⟨_, rfl, a, C, dx, _, _, rfl, e1, T.cl, T.nR, df_room _ _ _, _, rfl, by omega, ?_⟩
    rw [en]
    exact q
/-! how Door's arguments bind -/
abbrev pD : List Str := ["self", "name", "room", "gap"]
section
variable {f : Addr} {fd : FuncData}
theorem kd3 (F : Fun K "__init__" "Door.__init__" sDInit f fd) : KBn K fd pD 1 ["gap", "room", "name"] (fun us ws => us ++ (one ws 2 ++ (one ws 1 ++ one ws 0))) (fun us ws => us ++ (one ws 2 ++ (one ws 1 ++ one ws 0))) := by
  obtain ⟨oc, od, kV, doc, pm, an, cdv, ct, osl, rfl, lk, hcd⟩ := F.ex
  exact ⟨fun s us ws X h1 h2 => .of_eq (match us, ws, h1, h2 with | [_], [_, _, _], _, _ => rfl), fun r1 r2 => r1.append ((one_rel r2 2).append ((one_rel r2 1).append (one_rel r2 0)))⟩
theorem kd2 (F : Fun K "__init__" "Door.__init__" sDInit f fd) : KBn K fd pD 2 ["gap", "room"] (fun us ws => us ++ (one ws 1 ++ one ws 0)) (fun us ws => us ++ (one ws 1 ++ one ws 0)) := by
  obtain ⟨oc, od, kV, doc, pm, an, cdv, ct, osl, rfl, lk, hcd⟩ := F.ex
  exact ⟨fun s us ws X h1 h2 => .of_eq (match us, ws, h1, h2 with | [_, _], [_, _], _, _ => rfl), fun r1 r2 => r1.append ((one_rel r2 1).append (one_rel r2 0))⟩
theorem kd0 (F : Fun K "__init__" "Door.__init__" sDInit f fd) : Binds K fd pD [] := F.binds (ps := pD) fun _ _ _ _ _ _ us hl => match us, hl with | [_, _, _, _], _ => rfl
theorem funD_of (F : Fun K "__init__" "Door.__init__" sDInit f fd) : FunDI K f fd := by
  obtain ⟨⟨oc, od, kV, doc, pm, an, cdv, ct, osl, rfl, lk, hcd⟩, kp⟩ := F
  exact ⟨⟨oc, od, .none, kV, doc, pm, an, cdv, ct, osl, rfl, lk, hcd, .inl ⟨rfl, rfl⟩, .inl rfl⟩, kp⟩
end
end
end Du

set_option Elab.async false
set_option linter.all false
set_option maxRecDepth 100000
namespace Du
open PySem L2
abbrev sOddN : Stmt := topS 31
abbrev sOddW : Stmt := topS 32
theorem passN {X : Cx} : Passes (L2N.CX X.prog X.w) X E0 := fun _ _ _ _ _ _ _ h => by
  obtain ⟨_, _, _, _, _, _, _, _, _, _, _, _, z⟩ := h
  exact z.elim
/-- the class Door and its making -/
structure DoorM (P : Program) (w : World) (K : PySem.W.Frag) (mg : Str → Option Value) (base : Heap) (C CE : Addr) : Prop where
  c : DoorC K mg C
  kS : PySem.W.kitOne K (.ref C) (.type "str") = some false
  kI : PySem.W.kitOne K (.ref C) (.type "int") = some false
  ex : ∃ (f : Addr) (fd : FuncData), Fun K "__init__" "Door.__init__" sDInit f fd ∧ Mk K C f ∧ FnOk P w K mg base (L2N.CX P w) 4 f fd pD (spDInit K C CE)
/-- the class Task and its making -/
structure TaskM (P : Program) (w : World) (K : PySem.W.Frag) (mg : Str → Option Value) (base : Heap) (C : Addr) : Prop where
  c : TaskC K mg C
  kS : PySem.W.kitOne K (.ref C) (.type "str") = some false
  ex : ∃ (e0 f : Addr) (fd : FuncData), FunI K e0 f fd ∧ Mk K C f ∧ FnOk P w K mg base CX0 6 f fd pInit (spInit K C) ∧ ∀ H : Hp, SqT K H e0 []
section
variable {P : Program} {w : World} {K : PySem.W.Frag} {mg : Str → Option Value} {base : Heap}
theorem doorSp {C CE : Addr} {H : Hp} {x0 x1 x2 : V} {b0 b1 b2 : Bool} {Q : Addr → Hp → Prop} {E : XK} (h0 : NmV K H x0 b0) (h1 : WhV K H x1 99 b1) (h2 : WhV K H x2 600 b2)
    (k : doorPart b0 b1 b2 = none → ∀ n r g x H', x0 = .str n → x1 = .int r → x2 = .int g → Same H H' → H x = none → DoorAt C H' x n r g → Q x H')
    (e : ∀ p, doorPart b0 b1 b2 = some p → ∀ d H', Same H H' → H' d = some (.xd [("part", .str p)]) → E (.ref CE) (some d) H') :
    ∀ x dx, H x = none → H dx = none → dx ≠ x → spDInit K C CE [.ref x, x0, x1, x2] (upd (upd H dx (.own x)) x (.ins C dx [])) (fun u H3 => u = .non ∧ Q x H3) E := by
  intro x dx nx ndx hne
  have s1 : Same H (upd (upd H dx (.own x)) x (.ins C dx [])) := same_upd2 (same_upd ndx) nx
  exact ⟨x, dx, x0, x1, x2, b0, b1, b2, rfl, h0.same s1, h1.same s1, h2.same s1, upd_same, fun hp n r g H' e0 e1 e2 hd keep => ⟨rfl, k hp n r g x H' e0 e1 e2 (fun b o e => keep b o (s1 b o e) (ne_of_none e nx)) nx hd⟩,
    fun p hp d H' s2 hd => e p hp d H' (s1.trans s2) hd⟩
theorem taskSp {C h : Addr} {H : Hp} {v : TaskV} {od : Option Int} {Q : Addr → Hp → Prop} (hh : HdsAt K H h v.holds) (ho : v.ok) (hd : v.due = od.getD v.gap) (q : ∀ x H', Same H H' → H x = none → TaskAt K C H' x v h → Q x H') :
    ∀ x dx, H x = none → H dx = none → dx ≠ x → spInit K C [.ref x, .str v.name, .int v.cost, .int v.gap, dueV od, .ref h] (upd (upd H dx (.own x)) x (.ins C dx [])) (fun u H3 => u = .non ∧ Q x H3) E0 := by
  intro x dx nx ndx hne
  have s1 : Same H (upd (upd H dx (.own x)) x (.ins C dx [])) := same_upd2 (same_upd ndx) nx
  exact ⟨x, dx, h, v, od, rfl, hd, ho, hh.same s1, upd_same, fun H' tk keep => ⟨rfl, q x H' (fun b o e => keep b o (s1 b o e) (ne_of_none e nx)) nx tk⟩⟩
/-! things -/
theorem ob_tup {H : Hp} {a : Addr} {xs : List V} (e : H a = some (.tup xs)) : Ty2 K H (.ref a) (.type "tuple") := .inr ⟨a, _, rfl, e, (fun _ z => nomatch z), fun _ e => .base (.tup e)⟩
theorem ob_dict {H : Hp} {a : Addr} {xs : List (Key × V)} (e : H a = some (.dK xs)) : Ty2 K H (.ref a) (.type "dict") := .inr ⟨a, _, rfl, e, (fun _ z => nomatch z), fun _ e => .base (.dK e)⟩
theorem ob_lst {H : Hp} {a : Addr} {xs : List V} (e : H a = some (.lst xs)) (n : xs.length ≠ 3) : Ty2 K H (.ref a) (.type "list") := .inr ⟨a, _, rfl, e, (fun ys z => by cases z; exact n), fun _ e => .base (.lst e)⟩
theorem ob_door {C : Addr} {H : Hp} {a : Addr} {n : Str} {r g : Int} (T : DoorC K mg C) (e : DoorAt C H a n r g) : Ty2 K H (.ref a) (.ref C) := by
  obtain ⟨dx, e⟩ := e
  exact .inr ⟨a, _, rfl, e, (fun _ z => nomatch z), fun _ e => .base (.ins e T.cl T.kc T.kg T.kt T.km)⟩
theorem ob_task {C : Addr} {H : Hp} {a h : Addr} {v : TaskV} (T : TaskC K mg C) (e : TaskAt K C H a v h) : Ty2 K H (.ref a) (.ref C) := by
  obtain ⟨⟨dx, e⟩, _⟩ := e
  exact .inr ⟨a, _, rfl, e, (fun _ z => nomatch z), fun _ e => .base (.ins e T.cl T.kc T.kg T.kt T.km)⟩
theorem bn_str {H : Hp} {z : Str} (h : z.length ≤ 1000) (e : isNm z = false) : BadN K H (.str z) := .inl ⟨z, rfl, Nat.le_trans h (by decide), e⟩
theorem bn_int {H : Hp} {i : Int} : BadN K H (.int i) := .inr ⟨_, .inl fun _ => .base (.int i), kit_ty (by decide +kernel)⟩
theorem bn_bl {H : Hp} {i : Bool} : BadN K H (.bl i) := .inr ⟨_, .inl fun _ => .base (.bl i), kit_ty (by decide +kernel)⟩
theorem bn_non {H : Hp} : BadN K H .non := .inr ⟨_, .inl fun _ => .base .non, kit_ty (by decide +kernel)⟩
theorem bn_tup {H : Hp} {a : Addr} {xs : List V} (e : H a = some (.tup xs)) : BadN K H (.ref a) := .inr ⟨_, ob_tup e, kit_ty (by decide +kernel)⟩
theorem bn_dict {H : Hp} {a : Addr} {xs : List (Key × V)} (e : H a = some (.dK xs)) : BadN K H (.ref a) := .inr ⟨_, ob_dict e, kit_ty (by decide +kernel)⟩
theorem bn_lst {H : Hp} {a : Addr} {xs : List V} (e : H a = some (.lst xs)) (n : xs.length ≠ 3) : BadN K H (.ref a) := .inr ⟨_, ob_lst e n, kit_ty (by decide +kernel)⟩
theorem bw_str {H : Hp} {z : Str} {hi : Int} : BadW K H (.str z) hi := .inr (.inr ⟨_, .inl fun _ => .base (.str z), kit_ty (by decide +kernel)⟩)
theorem bw_int {H : Hp} {i hi : Int} (h : i < 1 ∨ hi < i) : BadW K H (.int i) hi := .inl ⟨i, rfl, by
  rcases h with h | h
  · rw [decide_eq_false (by omega : ¬ 1 ≤ i)]; rfl
  · rw [decide_eq_false (by omega : ¬ i ≤ hi)]; simp⟩
theorem bw_bl {H : Hp} {i : Bool} {hi : Int} : BadW K H (.bl i) hi := .inr (.inl ⟨i, rfl⟩)
theorem bw_non {H : Hp} {hi : Int} : BadW K H .non hi := .inr (.inr ⟨_, .inl fun _ => .base .non, kit_ty (by decide +kernel)⟩)
theorem bw_tup {H : Hp} {a : Addr} {xs : List V} {hi : Int} (e : H a = some (.tup xs)) : BadW K H (.ref a) hi := .inr (.inr ⟨_, ob_tup e, kit_ty (by decide +kernel)⟩)
theorem bw_dict {H : Hp} {a : Addr} {xs : List (Key × V)} {hi : Int} (e : H a = some (.dK xs)) : BadW K H (.ref a) hi := .inr (.inr ⟨_, ob_dict e, kit_ty (by decide +kernel)⟩)
theorem bw_lst {H : Hp} {a : Addr} {xs : List V} {hi : Int} (e : H a = some (.lst xs)) (n : xs.length ≠ 3) : BadW K H (.ref a) hi := .inr (.inr ⟨_, ob_lst e n, kit_ty (by decide +kernel)⟩)
theorem isNm_a : isNm "a" = true := by decide +kernel
theorem nm_a {H : Hp} : NmV K H (.str "a") false := .inl ⟨rfl, "a", rfl, isNm_a⟩
theorem wh_1 {H : Hp} {hi : Int} (h : 1 ≤ hi) : WhV K H (.int 1) hi false := .inl ⟨rfl, 1, rfl, Int.le_refl _, h⟩
/-! _law_odd_names -/
theorem scOddN : FnScope ["_law_some"] [] (defScope sOddN) := ⟨rfl, rfl, rfl, by decide +kernel, rfl, by decide +kernel, by decide +kernel⟩
def spOddN (K : PySem.W.Frag) : Sp := fun vs H Q _ => vs = [] ∧ ∀ l xs H', Same H H' → H l = none → H' l = some (.lst xs) → xs.length = 22 → (∀ x ∈ xs, BadN K H' x) → Q (.ref l) H'
set_option maxHeartbeats 1000000 in
theorem ok_oddN {C CT CE f : Addr} {fd : FuncData} (F : Fun K "_law_odd_names" "_law_odd_names" sOddN f fd) (DM : DoorM P w K mg base C CE) (TM : TaskM P w K mg base CT) : FnOk P w K mg base CX0 8 f fd [] (spOddN K) := by
  obtain ⟨TD, kDS, kDI, fi, fdi, FI, MI, GI⟩ := DM
  obtain ⟨TT, kTS, e0, fj, fdj, FJ, MJ, GJ, hE⟩ := TM
  obtain ⟨ds, vds, k0⟩ := kb0 FJ
  have kd := kd0 FI
  refine F.ok scOddN (fun vs H Q E h => ?_) (fun cdv A outer s H vs Q E hr h => ?_)
  · obtain ⟨rfl, _⟩ := h
    rfl
  · obtain ⟨rfl, q⟩ := h
    have hr3 : Room 5 _ := hr.mono (by decide)
    refine ⟨_, (pss_cons (ps_set (i := 0) scOddN.nd rfl (.inl rfl) (pe_lst (pa_cons pe_str (pa_cons pe_str (pa_cons pe_str (pa_cons pe_str (pa_cons pe_str (pa_cons pe_str (pa_cons pe_str (pa_cons pe_str (pa_cons pe_str (pa_cons pe_str (pa_cons pe_int (pa_cons pe_int (pa_cons pe_non (pa_cons pe_bl (pa_cons (pe_tup pa_nil) (pa_cons (pe_lst pa_nil) (pa_cons pe_dnewK pa_nil))))))))))))))))))) (pss_one (ps_ret (pe_op op_cat (pv 0) (pe_lst (pa_cons (pe_tup (pa_cons pe_str pa_nil)) (pa_cons (pe_lst (pa_cons pe_str pa_nil)) (pa_cons (pe_tup (pa_cons (pe_lst pa_nil) pa_nil)) (pa_cons (pe_make MI GI hr3 (by rfl) TD.mg kd .nil passN (pa_cons pe_str (pa_cons pe_int (pa_cons pe_int pa_nil)))) (pa_cons (pe_make MJ GJ hr (by rfl) TT.mg k0 vds pass0 (pa_cons pe_str (pa_cons pe_int (pa_cons pe_int pa_nil)))) pa_nil)))))))))), ?_⟩
    refine ⟨Nat.zero_le _, fun p1 n1 => ⟨Nat.zero_le _, fun p2 n2 p3 n3 => ⟨(by show 17 ≤ sizeLine; decide), fun L1 nL1 => ?_⟩⟩⟩
    refine ⟨_, rfl, (by show 1 ≤ sizeLine; decide), fun p4 n4 => ⟨(by show 1 ≤ sizeLine; decide), fun p5 n5 => ⟨Nat.zero_le _, fun p6 n6 => ⟨(by show 1 ≤ sizeLine; decide), fun p7 n7 => ?_⟩⟩⟩⟩
    dsimp only [tCons, tMake, tC, tNil]
    refine doorSp nm_a (wh_1 (by decide)) (wh_1 (by decide)) (fun _ nn rr gg x1 H1 e1 e2 e3 s1 nx1 d1 => ?_) (fun p hp => nomatch hp)
    refine taskSp (v := ⟨"a", 1, 1, 1, []⟩) (od := none) ⟨[], hE _, rfl, fun i u g e1 _ => by simp at e1⟩ ⟨isNm_a, by decide, by decide, by decide, rfl, fun h hh => nomatch hh⟩ rfl fun x2 H2 s2 nx2 t2 => ?_
    refine ⟨(by show 5 ≤ sizeLine; decide), fun L2' nL2 => ?_⟩
    have b8 := s2.trans (same_upd (o := .lst [.ref p4, .ref p5, .ref p7, .ref x1, .ref x2]) nL2)
    have b7 := s1.trans b8
    have b6 := (same_upd (o := .tup [.ref p6]) n7).trans b7
    have b5 := (same_upd (o := .lst []) n6).trans b6
    have b4 := (same_upd (o := .lst [.str "a"]) n5).trans b5
    have b3 := (same_upd (o := .tup [.str "a"]) n4).trans b4
    have b2 := (same_upd nL1).trans b3
    have b1 := (same_upd (o := .dK []) n3).trans b2
    have b0 := (same_upd (o := .lst []) n2).trans b1
    have bb := (same_upd (o := .tup []) n1).trans b0
    refine ⟨L1, L2', _, _, rfl, rfl, b3 _ _ upd_same, upd_same, (by show 17 + 5 ≤ sizeLine; decide), fun L3 nL3 => ?_⟩
    have cF := same_upd (o := .lst ([.str "", .str "A", .str "ab1", .str "abcdefghi", .str " a", .str "a ", .str "a b", .str "a\n", .str "a-b", .str "door a", .int 0, .int 1, .non, .bl true, .ref p1, .ref p2, .ref p3] ++ [.ref p4, .ref p5, .ref p7, .ref x1, .ref x2])) nL3
    refine q L3 _ _ (bb.trans cF) (bb.free nL3) upd_same rfl fun x hx => ?_
    simp only [List.cons_append, List.nil_append, List.mem_cons, List.not_mem_nil, or_false] at hx
    rcases hx with rfl | rfl | rfl | rfl | rfl | rfl | rfl | rfl | rfl | rfl | rfl | rfl | rfl | rfl | rfl | rfl | rfl | rfl | rfl | rfl | rfl | rfl
    · exact bn_str (by decide +kernel) (by decide +kernel)
    · exact bn_str (by decide +kernel) (by decide +kernel)
    · exact bn_str (by decide +kernel) (by decide +kernel)
    · exact bn_str (by decide +kernel) (by decide +kernel)
    · exact bn_str (by decide +kernel) (by decide +kernel)
    · exact bn_str (by decide +kernel) (by decide +kernel)
    · exact bn_str (by decide +kernel) (by decide +kernel)
    · exact bn_str (by decide +kernel) (by decide +kernel)
    · exact bn_str (by decide +kernel) (by decide +kernel)
    · exact bn_str (by decide +kernel) (by decide +kernel)
    · exact bn_int
    · exact bn_int
    · exact bn_non
    · exact bn_bl
    · exact bn_tup (cF _ _ (b0 _ _ upd_same))
    · exact bn_lst (cF _ _ (b1 _ _ upd_same)) (by decide)
    · exact bn_dict (cF _ _ (b2 _ _ upd_same))
    · exact bn_tup (cF _ _ (b4 _ _ upd_same))
    · exact bn_lst (cF _ _ (b5 _ _ upd_same)) (by decide)
    · exact bn_tup (cF _ _ (b7 _ _ upd_same))
    · exact .inr ⟨_, (ob_door TD d1).same (b8.trans cF), kDS⟩
    · exact .inr ⟨_, (ob_task TT t2).same ((same_upd nL2).trans cF), kTS⟩
/-! _law_odd_numbers -/
theorem scOddW : FnScope ["_law_top", "_law_some"] ["_law_top"] (defScope sOddW) := ⟨rfl, rfl, rfl, by decide +kernel, rfl, by decide +kernel, by decide +kernel⟩
def spOddW (K : PySem.W.Frag) : Sp := fun vs H Q _ => ∃ top : Int, vs = [.int top] ∧ 1 ≤ top ∧ top ≤ 1000 ∧ ∀ l xs H', Same H H' → H l = none → H' l = some (.lst xs) → xs.length = 18 → (∀ x ∈ xs, BadW K H' x top) → Q (.ref l) H'
set_option maxHeartbeats 1000000 in
theorem ok_oddW {C CE f : Addr} {fd : FuncData} (F : Fun K "_law_odd_numbers" "_law_odd_numbers" sOddW f fd) (DM : DoorM P w K mg base C CE) : FnOk P w K mg base CX0 6 f fd ["_law_top"] (spOddW K) := by
  obtain ⟨TD, kDS, kDI, fi, fdi, FI, MI, GI⟩ := DM
  have kd := kd0 FI
  refine F.ok scOddW (fun vs H Q E h => ?_) (fun cdv A outer s H vs Q E hr h => ?_)
  · obtain ⟨top, rfl, _⟩ := h
    rfl
  · obtain ⟨top, rfl, ht1, ht2, q⟩ := h
    refine ⟨_, (pss_cons (ps_set (i := 1) scOddW.nd rfl (.inl rfl) (pe_lst (pa_cons pe_int (pa_cons (pe_op op_sub pe_int pe_int) (pa_cons (pe_op op_add (pv 0) pe_int) (pa_cons (pe_op op_pow pe_int pe_int) (pa_cons (pe_op op_sub pe_int (pe_op op_pow pe_int pe_int)) (pa_cons pe_bl (pa_cons pe_bl (pa_cons pe_str (pa_cons pe_str (pa_cons (pe_tup pa_nil) (pa_cons (pe_tup (pa_cons pe_int pa_nil)) (pa_cons (pe_tup (pa_cons pe_int (pa_cons pe_int pa_nil))) (pa_cons (pe_lst pa_nil) (pa_cons (pe_lst (pa_cons pe_int pa_nil)) (pa_cons pe_dnewK (pa_cons (pe_tup (pa_cons (pe_lst pa_nil) pa_nil)) pa_nil)))))))))))))))))) (pss_one (ps_ret (pe_op op_cat (pv 1) (pe_lst (pa_cons pe_non (pa_cons (pe_make MI GI hr (by rfl) TD.mg kd .nil passN (pa_cons pe_str (pa_cons pe_int (pa_cons pe_int pa_nil)))) pa_nil))))))), ?_⟩
    refine ⟨_, _, rfl, rfl, _, rfl, _, _, rfl, rfl, _, _, rfl, rfl, ⟨by decide, by decide, by decide⟩, _, _, rfl, rfl, ⟨by decide, by decide, by decide⟩, _, _, rfl, rfl, Nat.zero_le _, fun p1 n1 => ⟨(by show 1 ≤ sizeLine; decide), fun p2 n2 => ⟨(by show 2 ≤ sizeLine; decide), fun p3 n3 => ⟨Nat.zero_le _, fun p4 n4 => ⟨(by show 1 ≤ sizeLine; decide), fun p5 n5 p6 n6 => ⟨Nat.zero_le _, fun p7 n7 => ⟨(by show 1 ≤ sizeLine; decide), fun p8 n8 => ⟨(by show 16 ≤ sizeLine; decide), fun L1 nL1 => ?_⟩⟩⟩⟩⟩⟩⟩⟩
    refine ⟨_, rfl, ?_⟩
    dsimp only [tCons, tMake, tC, tNil]
    refine doorSp nm_a (wh_1 (by decide)) (wh_1 (by decide)) (fun _ nn rr gg x1 H1 e1 e2 e3 s1 nx1 d1 => ?_) (fun p hp => nomatch hp)
    refine ⟨(by show 2 ≤ sizeLine; decide), fun L2' nL2 => ?_⟩
    have b9 := s1.trans (same_upd (o := .lst [.non, .ref x1]) nL2)
    have b8 := (same_upd nL1).trans b9
    have b7 := (same_upd (o := .tup [.ref p7]) n8).trans b8
    have b6 := (same_upd (o := .lst []) n7).trans b7
    have b5 := (same_upd (o := .dK []) n6).trans b6
    have b4 := (same_upd (o := .lst [.int 1]) n5).trans b5
    have b3 := (same_upd (o := .lst []) n4).trans b4
    have b2 := (same_upd (o := .tup [.int 1, .int 1]) n3).trans b3
    have b1 := (same_upd (o := .tup [.int 1]) n2).trans b2
    have bb := (same_upd (o := .tup []) n1).trans b1
    refine ⟨L1, L2', _, _, rfl, rfl, b9 _ _ upd_same, upd_same, (by show 16 + 2 ≤ sizeLine; decide), fun L3 nL3 => ?_⟩
    have cF := same_upd (o := .lst ([.int 0, .int (0 - 1), .int (top + 1), .int (10 ^ (30 : Int).toNat), .int (0 - 10 ^ (30 : Int).toNat), .bl true, .bl false, .str "1", .str "", .ref p1, .ref p2, .ref p3, .ref p4, .ref p5, .ref p6, .ref p8] ++ [.non, .ref x1])) nL3
    have t30 : (1000 : Int) < 10 ^ (30 : Int).toNat := by decide +kernel
    refine q L3 _ _ (bb.trans cF) (bb.free nL3) upd_same rfl fun x hx => ?_
    simp only [List.cons_append, List.nil_append, List.mem_cons, List.not_mem_nil, or_false] at hx
    rcases hx with rfl | rfl | rfl | rfl | rfl | rfl | rfl | rfl | rfl | rfl | rfl | rfl | rfl | rfl | rfl | rfl | rfl | rfl
    · exact bw_int (by omega)
    · exact bw_int (by omega)
    · exact bw_int (by omega)
    · exact bw_int (.inr (Int.lt_of_le_of_lt ht2 t30))
    · exact bw_int (.inl (by generalize (10 : Int) ^ (30 : Int).toNat = T at *; omega))
    · exact bw_bl
    · exact bw_bl
    · exact bw_str
    · exact bw_str
    · exact bw_tup (cF _ _ (b1 _ _ upd_same))
    · exact bw_tup (cF _ _ (b2 _ _ upd_same))
    · exact bw_tup (cF _ _ (b3 _ _ upd_same))
    · exact bw_lst (cF _ _ (b4 _ _ upd_same)) (by decide)
    · exact bw_lst (cF _ _ (b5 _ _ upd_same)) (by decide)
    · exact bw_dict (cF _ _ (b6 _ _ upd_same))
    · exact bw_tup (cF _ _ (b8 _ _ upd_same))
    · exact bw_non
    · exact .inr (.inr ⟨_, (ob_door TD d1).same ((same_upd nL2).trans cF), kDI⟩)
end
end Du

set_option Elab.async false
set_option linter.all false
set_option maxRecDepth 100000
namespace Du
open PySem L2
open L2N (Zn)
open L2H (RoomH Hot1 PinOk cxH roomH_of)
abbrev sSort : Stmt := topS 33
abbrev sMade : Stmt := topS 34
abbrev sTold : Stmt := topS 35
abbrev sWholeL : Stmt := topS 36
/-- the error classes that the law asks for -/
structure ErrS (K : PySem.W.Frag) (mg : Str → Option Value) (CE cT cC cN cL cF cB : Addr) : Prop where
  gT : mg "NoTask" = some (.ref cT)
  gC : mg "NoCrew" = some (.ref cC)
  gN : mg "NoNumber" = some (.ref cN)
  gL : mg "LostError" = some (.ref cL)
  gF : mg "FullError" = some (.ref cF)
  gB : mg "TimeError" = some (.ref cB)
  gD : mg "NoDoor" = some (.ref CE)
  zK : mg "LookupError" = none
  zA : mg "ArithmeticError" = none
  zV : mg "ValueError" = none
  zI : mg "isinstance" = none
  ei : ErrI K CE
  no : PySem.W.kitAny K (.ref CE) [.ref cT, .ref cC, .ref cN, .ref cL, .ref cF, .type "LookupError", .type "ArithmeticError"] = some false
  k1 : PySem.W.kitOne K (.ref CE) (.ref CE) = some true
  k2 : PySem.W.kitOne K (.ref CE) (.ref cB) = some true
  k3 : PySem.W.kitOne K (.ref CE) (.type "ValueError") = some true
  fl : PySem.W.findIn K (.ref CE) "part" = some none
  mt : PySem.W.exmAny K (.ref CE) [.ref cB, .ref cL, .ref cF] = some true
section
variable {P : Program} {w : World} {K : PySem.W.Frag} {mg : Str → Option Value} {base : Heap}
/-! _law_sort -/
theorem scSort : FnScope ["_law_e"] ["_law_e"] (defScope sSort) := ⟨rfl, rfl, rfl, by decide +kernel, rfl, by decide +kernel, by decide +kernel⟩
def spSort (CE : Addr) : Addr × Obj → Sp := fun p vs H Q _ => ∃ (dd : Addr) (part : Str), vs = [.ref p.1] ∧ Zn (.ref CE) (some dd) p.2 ∧ (∃ fs, p.2.data = .fields fs) ∧ H dd = some (.xd [("part", .str part)]) ∧ ∀ H', Same H H' → Q (.str part) H'
theorem ok_sort {CE cT cC cN cL cF cB f : Addr} {fd : FuncData} (F : Fun K "_law_sort" "_law_sort" sSort f fd) (T : ErrS K mg CE cT cC cN cL cF cB) : FnE P w K mg base 4 f fd ["_law_e"] (spSort CE) := by
  refine fnE_of F scSort (fun p vs H Q h => ?_) (fun cdv A outer s H vs Q p hot hr h => ?_)
  · obtain ⟨dd, part, rfl, _⟩ := h
    rfl
  · obtain ⟨dd, part, rfl, hz, hf, hd, q⟩ := h
    obtain ⟨a, oe⟩ := p
    have hp : (a, oe) ∈ (cxH CX0 P w K mg base ["_law_e"] "_law_sort" (defScope sSort) f cdv A outer s H E0 (a, oe)).nox.pn := List.mem_cons_self
    refine ⟨_, (pss_cons (ps_if (pt_val (pe_callB (call_isX T.ei hp hz hf) (by rfl) T.zI (by decide +kernel) (pa_cons (pv 0) (pa_cons (pe_tup (pa_cons (pe_glob (v := .ref cT) rfl T.gT rfl) (pa_cons (pe_glob (v := .ref cC) rfl T.gC rfl) (pa_cons (pe_glob (v := .ref cN) rfl T.gN rfl) (pa_cons (pe_glob (v := .ref cL) rfl T.gL rfl) (pa_cons (pe_glob (v := .ref cF) rfl T.gF rfl) (pa_cons (pe_bltn (v := .ty "LookupError") (by rfl) T.zK (by decide +kernel) rfl) (pa_cons (pe_bltn (v := .ty "ArithmeticError") (by rfl) T.zA (by decide +kernel) rfl) pa_nil)))))))) pa_nil)))) (pss_one (ps_ret pe_str)) pss_nil) (pss_cons (ps_if (PW.pt (pw_or (pt_not (pt_val (pe_callB (call_isX T.ei hp hz hf) (by rfl) T.zI (by decide +kernel) (pa_cons (pv 0) (pa_cons (pe_glob (v := .ref CE) rfl T.gD rfl) pa_nil))))) (pw_or (pt_not (pt_val (pe_callB (call_isX T.ei hp hz hf) (by rfl) T.zI (by decide +kernel) (pa_cons (pv 0) (pa_cons (pe_glob (v := .ref cB) rfl T.gB rfl) pa_nil))))) (pw_or1 (pt_not (pt_val (pe_callB (call_isX T.ei hp hz hf) (by rfl) T.zI (by decide +kernel) (pa_cons (pv 0) (pa_cons (pe_bltn (v := .ty "ValueError") (by rfl) T.zV (by decide +kernel) rfl) pa_nil))))))))) (pss_one (ps_ret pe_str)) pss_nil) (pss_one (ps_ret (pe_fldX T.ei T.fl hp hz hf (pv 0)))))), ?_⟩
    refine ⟨_, rfl, (by show 7 ≤ sizeLine; decide), fun t nt => ?_⟩
    have s1 := same_upd (o := .tup [.ref cT, .ref cC, .ref cN, .ref cL, .ref cF, .ty "LookupError", .ty "ArithmeticError"]) nt
    have hd1 := s1 _ _ hd
    refine ⟨_, hd1, .inr ⟨t, _, _, false, rfl, upd_same, .cons (.own _) (.cons (.own _) (.cons (.own _) (.cons (.own _) (.cons (.own _) (.cons (.ty _) (.cons (.ty _) .nil)))))), T.no, false, rfl, ?_⟩⟩
    refine iteF ⟨_, rfl, _, hd1, .inl ⟨_, _, true, rfl, .own _, T.k1, true, rfl, ?_⟩⟩
    refine iteF ⟨_, rfl, _, hd1, .inl ⟨_, _, true, rfl, .own _, T.k2, true, rfl, ?_⟩⟩
    refine iteF ⟨_, rfl, _, hd1, .inl ⟨_, _, true, rfl, .ty _, T.k3, true, rfl, ?_⟩⟩
    exact iteF ⟨_, rfl, rfl, _, _, hd1, rfl, q _ s1⟩
/-! _law_made -/
abbrev nMade : List Str := ["_law_things", "_law_way", "_law_label", "_law_breadth", "_law_pause"]
theorem scMade : FnScope nMade ["_law_things", "_law_way"] (defScope sMade) := ⟨rfl, rfl, rfl, by decide +kernel, rfl, by decide +kernel, by decide +kernel⟩
def spMade (K : PySem.W.Frag) (C CE : Addr) : Sp := fun vs H Q E => ∃ (l : Addr) (x0 x1 x2 : V) (b0 b1 b2 : Bool) (way : Int), vs = [.ref l, .int way] ∧ H l = some (.lst [x0, x1, x2]) ∧ NmV K H x0 b0 ∧ WhV K H x1 99 b1 ∧ WhV K H x2 600 b2 ∧
  (doorPart b0 b1 b2 = none → ∀ n r g x H', x0 = .str n → x1 = .int r → x2 = .int g → Same H H' → H x = none → DoorAt C H' x n r g → Q (.ref x) H') ∧
  (∀ p, doorPart b0 b1 b2 = some p → ∀ d H', Same H H' → H' d = some (.xd [("part", .str p)]) → E (.ref CE) (some d) H')
theorem ok_made {C CE f : Addr} {fd : FuncData} (F : Fun K "_law_made" "_law_made" sMade f fd) (DM : DoorM P w K mg base C CE) : FnOk P w K mg base (L2N.CX P w) 6 f fd ["_law_things", "_law_way"] (spMade K C CE) := by
  obtain ⟨T, kDS, kDI, fi, fdi, FI, MI, GI⟩ := DM
  have k3 := kd3 FI
  have k2 := kd2 FI
  have k0 := kd0 FI
  obtain ⟨oc, od, kV, doc, pm, an, cdv, ct, osl, rfl, lk, hcd⟩ := F.ex
  refine fn_of lk hcd scMade (fun vs H Q E h => ?_) fun A outer s H vs Q E hr h => ?_
  · obtain ⟨l, x0, x1, x2, b0, b1, b2, way, rfl, _⟩ := h
    rfl
  · obtain ⟨l, x0, x1, x2, b0, b1, b2, way, rfl, hl, h0, h1, h2, k, e⟩ := h
    have tk := L2N.takes_of (X := cxOf (L2N.CX P w) P w K mg base nMade "_law_made" (defScope sMade) f cdv A outer s H E) (E := E) rfl rfl rfl rfl
    have ps := L2N.passes_call tk (fun _ _ _ _ h => h)
    refine ⟨_, (pss_cons (ps_asg (pv 0) (pg_lst rfl (pgs_cons (pg_name (i := 2) scMade.nd rfl (.inl rfl)) (pgs_cons (pg_name (i := 3) scMade.nd rfl (.inl rfl)) (pgs_cons (pg_name (i := 4) scMade.nd rfl (.inl rfl)) pgs_nil))))) (pss_cons (ps_if (pt_cmpR op_eq (pv 1) pe_int (nomark _)) (pss_one (ps_ret (pe_makeK0 MI GI hr (by rfl) T.mg k3 ps (pk_cons (pv 4) (pk_cons (pv 3) (pk_cons (pv 2) pk_nil)))))) pss_nil) (pss_cons (ps_if (pt_cmpR op_eq (pv 1) pe_int (nomark _)) (pss_one (ps_ret (pe_makeK MI GI hr (by rfl) T.mg k2 ps (pa_cons (pv 2) pa_nil) (pk_cons (pv 4) (pk_cons (pv 3) pk_nil))))) pss_nil) (pss_one (ps_ret (pe_make MI GI hr (by rfl) T.mg k0 .nil ps (pa_cons (pv 2) (pa_cons (pv 3) (pa_cons (pv 4) pa_nil))))))))), ?_⟩
    have mk := doorSp (C := C) (CE := CE) (Q := fun x H' => Q (.ref x) H') h0 h1 h2 k e
    refine ⟨_, rfl, l, _, rfl, SqL.of hl, rfl, _, _, rfl, _, _, rfl, _, _, rfl, rfl, ?_⟩
    refine ⟨_, rfl, rfl, _, rfl, ite2 (fun _ => ?_) (fun _ => ?_)⟩
    · exact ⟨_, rfl, _, rfl, _, rfl, rfl, rfl, mk⟩
    refine ⟨_, rfl, rfl, _, rfl, ite2 (fun _ => ?_) (fun _ => ?_)⟩
    · exact ⟨_, rfl, _, rfl, _, rfl, rfl, rfl, mk⟩
    · exact ⟨_, rfl, _, rfl, _, rfl, mk⟩
/-! _law_told -/
abbrev nTold : List Str := ["_law_things", "_law_way", "_law_e"]
theorem scTold : FnScope nTold ["_law_things", "_law_way"] (defScope sTold) := ⟨rfl, rfl, rfl, by decide +kernel, rfl, by decide +kernel, by decide +kernel⟩
def toldS (o : Option Str) : Str := o.getD "made"
def spTold (K : PySem.W.Frag) : Sp := fun vs H Q _ => ∃ (l : Addr) (x0 x1 x2 : V) (b0 b1 b2 : Bool) (way : Int), vs = [.ref l, .int way] ∧ H l = some (.lst [x0, x1, x2]) ∧ NmV K H x0 b0 ∧ WhV K H x1 99 b1 ∧ WhV K H x2 600 b2 ∧ ∀ H', Same H H' → Q (.str (toldS (doorPart b0 b1 b2))) H'
/-- a def that is handed the error, where nothing is known of its object -/
def spSortA (CE : Addr) (a : Addr) (cls : Value) (d : Option Addr) : List V → Hp → VK → Prop := fun vs H Q => ∃ (dd : Addr) (part : Str), vs = [.ref a] ∧ cls = .ref CE ∧ d = some dd ∧ H dd = some (.xd [("part", .str part)]) ∧ ∀ H', Same H H' → Q (.str part) H'
theorem pe_imp {X : Cx} {e : Expr} {t t' : TE} (h : PE X e t) (i : ∀ σ H Q, t' σ H Q → t σ H Q) : PE X e t' := ⟨fun pins s σ H Q I q => h.run pins s σ H Q I (i σ H Q q)⟩
theorem t_sort {CE a : Addr} {cls : Value} {d : Option Addr} {oe : Obj} {i : Nat} {σ : L2.St} {H : Hp} {Q : VK} (hz : Zn cls d oe) (hf : ∃ vs, oe.data = .fields vs) (h : tCons (tVar i) tNil σ H fun vs H1 => spSortA CE a cls d vs H1 Q) :
    tCons (tVar i) tNil σ H fun vs H1 => spSort CE (a, oe) vs H1 Q E0 := by
  obtain ⟨x, hx, dd, part, e1, rfl, rfl, hd, q⟩ := h
  exact ⟨x, hx, dd, part, e1, hz, hf, hd, q⟩
theorem ok_told {C CE cT cC cN cL cF cB f fm fs : Addr} {fd fdm fds : FuncData} (F : Fun K "_law_told" "_law_told" sTold f fd) (T : ErrS K mg CE cT cC cN cL cF cB)
    (FM : FnOk P w K mg base (L2N.CX P w) 6 fm fdm ["_law_things", "_law_way"] (spMade K C CE)) (mM : mg "_law_made" = some (.ref fm)) (kM : PySem.W.keepIn K (.ref fm) = true) (bM : Binds K fdm ["_law_things", "_law_way"] [])
    (FS : FnE P w K mg base 4 fs fds ["_law_e"] (spSort CE)) (mS : mg "_law_sort" = some (.ref fs)) (kS : PySem.W.keepIn K (.ref fs) = true) (bS : Binds K fds ["_law_e"] []) :
    FnOk P w K mg base CX0 7 f fd ["_law_things", "_law_way"] (spTold K) := by
  refine F.ok scTold (fun vs H Q E h => ?_) (fun cdv A outer s H vs Q E hr h => ?_)
  · obtain ⟨l, x0, x1, x2, b0, b1, b2, way, rfl, _⟩ := h
    rfl
  · obtain ⟨l, x0, x1, x2, b0, b1, b2, way, rfl, hl, h0, h1, h2, q⟩ := h
    refine ⟨_, (pss_cons (ps_try_tup (i := 2) (cs := [.ref cB, .ref cL, .ref cF]) (ts := fun a cls d => tRet (fun σ H Q => tCons (tVar 2) tNil σ H fun vs H1 => spSortA CE a cls d vs H1 Q)) rfl rfl scTold.nd rfl rfl (lays3 ⟨by rfl, by decide, .inl T.gB⟩ ⟨by rfl, by decide, .inl T.gL⟩ ⟨by rfl, by decide, .inl T.gF⟩) mat3
        (fun W pn xe tk po => (pss_one (ps_expr (pe_callS FM hr (by rfl) mM kM bM (fun σ => L2N.passAt tk σ) (pa_cons (pv 0) (pa_cons (pv 1) pa_nil))))))
        (fun a oe cls d pn hz hf => (pss_one (ps_ret (pe_imp (pe_callE (p := (a, oe)) FS (RoomH.mono (k := 6) ⟨hr.dp, hr.un⟩ (by decide)) ⟨rfl, hf.imp fun vs e => ⟨e, hz.2.2 vs e⟩⟩ List.mem_cons_self (by rfl) mS kS bS (pa_cons (pv 2) pa_nil)) (fun σ H Q h => t_sort hz hf h)))))) (pss_one (ps_ret pe_str))), ?_⟩
    refine ⟨_, rfl, _, rfl, l, x0, x1, x2, b0, b1, b2, way, rfl, hl, h0, h1, h2, fun hp n r g x H' _ _ _ s1 _ _ => ?_, fun p hp d H' s1 hd => ⟨T.mt, fun a na => ⟨_, rfl, d, p, rfl, rfl, rfl, hd, fun H2 s2 => ?_⟩⟩⟩
    · have q' := q H' s1
      rw [hp] at q'
      exact q'
    · have q' := q H2 (s1.trans s2)
      rw [hp] at q'
      exact q'
end
end Du

set_option Elab.async false
set_option linter.all false
set_option maxRecDepth 100000
namespace Du
open PySem L2
abbrev sDrawn : Stmt := topS 30
abbrev sPut : Stmt := topS 37
abbrev sTwins : Stmt := topS 38
theorem at_some {xs : List V} {r : Int} (h0 : 0 ≤ r) (h1 : r < (xs.length : Int)) : ∃ v, atI xs r = some v ∧ v ∈ xs := by
  have hl : r.toNat < xs.length := by omega
  exact ⟨xs[r.toNat], at_of (j := r.toNat) (by omega) (List.getElem?_eq_getElem hl), List.getElem_mem hl⟩
theorem sqL_step {K : PySem.W.Frag} {p a : Addr} {H H' : Hp} {xs : List V} (s : Step p H H') (ha : a ≠ p) (h : H a = some (.lst xs)) : SqL K H' a xs := SqL.of (s.keep a _ ha h)
section
variable {P : Program} {w : World} {K : PySem.W.Frag} {mg : Str → Option Value} {base : Heap}
/-! _law_whole -/
theorem scWholeL : FnScope ["_law_thing"] ["_law_thing"] (defScope sWholeL) := ⟨rfl, rfl, rfl, by decide +kernel, rfl, by decide +kernel, by decide +kernel⟩
def spWholeL : Sp := fun vs H Q _ => ∃ i : Int, vs = [.int i] ∧ Q (.bl true) H
theorem ok_wholeL {f : Addr} {fd : FuncData} (F : Fun K "_law_whole" "_law_whole" sWholeL f fd) (mI : mg "isinstance" = none) (mi : mg "int" = none) (mb : mg "bool" = none) : FnOk P w K mg base CX0 3 f fd ["_law_thing"] spWholeL := by
  refine F.ok scWholeL (fun vs H Q E h => ?_) (fun cdv A outer s H vs Q E hr h => ?_)
  · obtain ⟨i, rfl, _⟩ := h
    rfl
  · obtain ⟨i, rfl, q⟩ := h
    refine ⟨_, (pss_one (ps_ret (pe_and (pe_callB call_isi (by rfl) mI (by decide +kernel) (pa_cons (pv 0) (pa_cons (pe_bltn (v := .ty "int") (by rfl) mi (by decide +kernel) rfl) pa_nil))) (pe_one (pe_not (pe_callB call_isi (by rfl) mI (by decide +kernel) (pa_cons (pv 0) (pa_cons (pe_bltn (v := .ty "bool") (by rfl) mb (by decide +kernel) rfl) pa_nil)))))))), ?_⟩
    refine ⟨_, rfl, _, _, _, _, true, rfl, .ty "int", .base (.int _), kit_ty (by decide +kernel), true, rfl, ?_⟩
    exact ⟨_, rfl, _, _, _, _, false, rfl, .ty "bool", .base (.int _), kit_ty (by decide +kernel), false, rfl, q⟩
/-! _law_drawn -/
abbrev nDrawn : List Str := ["_law_purse_here", "_law_label", "_law_breadth", "_law_pause"]
theorem scDrawn : FnScope nDrawn ["_law_purse_here"] (defScope sDrawn) := ⟨rfl, rfl, rfl, by decide +kernel, rfl, by decide +kernel, by decide +kernel⟩
/-- a door's drawn values -/
structure DvAt (H : Hp) (d : Addr) (n : Str) (r g : Int) : Prop where
  row : H d = some (.lst [.str n, .int r, .int g])
  nm : isNm n = true
  r1 : 1 ≤ r
  r2 : r ≤ 99
  g1 : 1 ≤ g
  g2 : g ≤ 600
theorem DvAt.step {H H' : Hp} {d p : Addr} {n : Str} {r g : Int} (x : DvAt H d n r g) (hp : Purse H p) (s : Step p H H') : DvAt H' d n r g := by
  obtain ⟨a, b, c, e, _⟩ := id hp
  exact ⟨s.keep d _ (ne_of x.row e (by intro z; cases z)) x.row, x.nm, x.r1, x.r2, x.g1, x.g2⟩
theorem DvAt.same {H H' : Hp} {d : Addr} {n : Str} {r g : Int} (x : DvAt H d n r g) (s : Same H H') : DvAt H' d n r g := ⟨s _ _ x.row, x.nm, x.r1, x.r2, x.g1, x.g2⟩
def spDrawn : Sp := fun vs H Q _ => ∃ p : Addr, vs = [.ref p] ∧ Purse H p ∧ ∀ (d : Addr) (n : Str) (r g : Int) H', Step p H H' → H d = none → DvAt H' d n r g → Q (.ref d) H'
theorem ok_drawn {f : Addr} {fd : FuncData} (F : Fun K "_law_drawn" "_law_drawn" sDrawn f fd) (DT : Dn P w K mg base 3 "_law_take" ["_law_purse_here", "_law_many"] spTake) (DWd : Dn P w K mg base 4 "_law_words" ["_law_purse_here", "_law_many"] spWords) :
    FnOk P w K mg base CX0 5 f fd ["_law_purse_here"] spDrawn := by
  refine F.ok scDrawn (fun vs H Q E h => ?_) (fun cdv A outer s H vs Q E hr h => ?_)
  · obtain ⟨p, rfl, _⟩ := h
    rfl
  · obtain ⟨p, rfl, hp, q⟩ := h
    have hr1 : Room 3 _ := hr.mono (by decide)
    refine ⟨_, (pss_cons (ps_set (i := 1) scDrawn.nd rfl (.inl rfl) (pe_ix ix_list (pcall DWd hr (by rfl) (pa_cons (pv 0) (pa_cons pe_int pa_nil))) pe_int (fun _ _ => rfl))) (pss_cons (ps_set (i := 2) scDrawn.nd rfl (.inl rfl) (pe_ix ix_list (pe_lst (pa_cons pe_int (pa_cons pe_int (pa_cons pe_int (pa_cons (pe_op op_add pe_int (pcall DT hr1 (by rfl) (pa_cons (pv 0) (pa_cons pe_int pa_nil)))) (pa_cons (pe_op op_add pe_int (pcall DT hr1 (by rfl) (pa_cons (pv 0) (pa_cons pe_int pa_nil)))) pa_nil)))))) (pcall DT hr1 (by rfl) (pa_cons (pv 0) (pa_cons pe_int pa_nil))) (fun _ _ => rfl))) (pss_cons (ps_set (i := 3) scDrawn.nd rfl (.inl rfl) (pe_ix ix_list (pe_lst (pa_cons (pe_op op_add pe_int (pcall DT hr1 (by rfl) (pa_cons (pv 0) (pa_cons pe_int pa_nil)))) (pa_cons (pe_op op_add pe_int (pcall DT hr1 (by rfl) (pa_cons (pv 0) (pa_cons pe_int pa_nil)))) (pa_cons pe_int (pa_cons pe_int pa_nil))))) (pcall DT hr1 (by rfl) (pa_cons (pv 0) (pa_cons pe_int pa_nil))) (fun _ _ => rfl))) (pss_one (ps_ret (pe_lst (pa_cons (pv 1) (pa_cons (pv 2) (pa_cons (pv 3) pa_nil))))))))), ?_⟩
    -- the label
    refine ⟨_, rfl, p, 1, rfl, by decide, hp, fun l ws H1 s1 nl el hwl hnd hnm => ?_⟩
    have hw0 : 0 < ws.length := by omega
    have ew : (ws.map V.str)[0]? = some (V.str ws[0]) := by
      rw [List.getElem?_map, List.getElem?_eq_getElem hw0]
      rfl
    refine ⟨l, _, _, _, rfl, rfl, SqL.of el, at_of (j := 0) rfl ew, ?_⟩
    -- the breadth
    refine ⟨_, rfl, p, 6, rfl, by decide, by decide, s1.purse, fun a1 H2 a10 a11 s2 => ⟨_, _, rfl, rfl, ?_⟩⟩
    refine ⟨_, rfl, p, 99, rfl, by decide, by decide, s2.purse, fun a2 H3 a20 a21 s3 => ⟨_, _, rfl, rfl, ?_⟩⟩
    refine ⟨(by show 5 ≤ sizeLine; decide), fun L1 nL1 => ?_⟩
    have s4 := Step.new (o := .lst [.int 1, .int 2, .int 99, .int (1 + a1), .int (1 + a2)]) s3.purse nL1
    refine ⟨_, rfl, p, 5, rfl, by decide, by decide, s4.purse, fun r1 H4 r10 r11 s5 => ?_⟩
    obtain ⟨pr, hpr, hmem⟩ := at_some (xs := [.int 1, .int 2, .int 99, .int (1 + a1), .int (1 + a2)]) r10 r11
    obtain ⟨price, rfl, hp1, hp99⟩ : ∃ c : Int, pr = .int c ∧ 1 ≤ c ∧ c ≤ 99 := by
      simp at hmem
      rcases hmem with rfl | rfl | rfl | rfl | rfl
      · exact ⟨_, rfl, by omega, by omega⟩
      · exact ⟨_, rfl, by omega, by omega⟩
      · exact ⟨_, rfl, by omega, by omega⟩
      · exact ⟨_, rfl, by omega, by omega⟩
      · exact ⟨_, rfl, by omega, by omega⟩
    refine ⟨L1, _, _, _, rfl, rfl, sqL_step s5 (s3.purse.ne nL1) upd_same, hpr, ?_⟩
    have t1 := (((s1.trans s2).trans s3).trans s4).trans s5
    -- the pause
    refine ⟨_, rfl, p, 12, rfl, by decide, by decide, s5.purse, fun b1 H5 b10 b11 s6 => ⟨_, _, rfl, rfl, ?_⟩⟩
    refine ⟨_, rfl, p, 600, rfl, by decide, by decide, s6.purse, fun b2 H6 b20 b21 s7 => ⟨_, _, rfl, rfl, ?_⟩⟩
    refine ⟨(by show 4 ≤ sizeLine; decide), fun L2' nL2 => ?_⟩
    have s8 := Step.new (o := .lst [.int (1 + b1), .int (1 + b2), .int 600, .int 1]) s7.purse nL2
    refine ⟨_, rfl, p, 4, rfl, by decide, by decide, s8.purse, fun r2 H7 r20 r21 s9 => ?_⟩
    obtain ⟨pa, hpa, hmem2⟩ := at_some (xs := [.int (1 + b1), .int (1 + b2), .int 600, .int 1]) r20 r21
    obtain ⟨pause, rfl, hg1, hg600⟩ : ∃ c : Int, pa = .int c ∧ 1 ≤ c ∧ c ≤ 600 := by
      simp at hmem2
      rcases hmem2 with rfl | rfl | rfl | rfl
      · exact ⟨_, rfl, by omega, by omega⟩
      · exact ⟨_, rfl, by omega, by omega⟩
      · exact ⟨_, rfl, by omega, by omega⟩
      · exact ⟨_, rfl, by omega, by omega⟩
    refine ⟨L2', _, _, _, rfl, rfl, sqL_step s9 (s7.purse.ne nL2) upd_same, hpa, ?_⟩
    have t2 := (((t1.trans s6).trans s7).trans s8).trans s9
    -- the row
    refine ⟨_, rfl, _, rfl, _, rfl, (by show 3 ≤ sizeLine; decide), fun d nd => ?_⟩
    exact q d ws[0] price pause _ (t2.trans (Step.new t2.purse nd)) (t2.free nd) ⟨upd_same, hnm _ (List.getElem_mem hw0), hp1, hp99, hg1, hg600⟩
/-! _law_put_otherwise -/
abbrev nPut : List Str := ["_law_purse_here", "_law_drawn_here", "_law_k", "_law_things", "_law_bad", "_law_menus", "_law_at"]
theorem scPut : FnScope nPut ["_law_purse_here", "_law_drawn_here"] (defScope sPut) := ⟨rfl, rfl, rfl, by decide +kernel, rfl, by decide +kernel, by decide +kernel⟩
def spPut (K : PySem.W.Frag) : Sp := fun vs H Q _ => ∃ (p d : Addr) (n : Str) (r g : Int), vs = [.ref p, .ref d] ∧ Purse H p ∧ DvAt H d n r g ∧
  ∀ (t T : Addr) (y0 y1 y2 : V) (b0 b1 b2 : Bool) H', Step p H H' → H T = none → H' t = some (.tup [.ref T, .str (toldS (doorPart b0 b1 b2))]) → H' T = some (.lst [y0, y1, y2]) → NmV K H' y0 b0 → WhV K H' y1 99 b1 → WhV K H' y2 600 b2 → Q (.ref t) H'
/-- what the loop keeps -/
structure PutI (K : PySem.W.Frag) (H0 : Hp) (p T B M m0 m1 m2 : Addr) (x0 x1 x2 : List V) (b0 b1 b2 : Bool) (i : Nat) (H : Hp) : Prop where
  st : Step p H0 H
  th : ∃ y0 y1 y2 : V, H T = some (.lst [y0, y1, y2]) ∧ NmV K H y0 (b0 && decide (0 < i)) ∧ WhV K H y1 99 (b1 && decide (1 < i)) ∧ WhV K H y2 600 (b2 && decide (2 < i))
  bd : H B = some (.lst [.bl b0, .bl b1, .bl b2])
  mn : H M = some (.lst [.ref m0, .ref m1, .ref m2])
  l0 : H m0 = some (.lst x0)
  l1 : H m1 = some (.lst x1)
  l2 : H m2 = some (.lst x2)
  q0 : ∀ x ∈ x0, BadN K H x
  q1 : ∀ x ∈ x1, BadW K H x 99
  q2 : ∀ x ∈ x2, BadW K H x 600
end
end Du

set_option Elab.async false
set_option linter.all false
set_option maxRecDepth 100000
namespace Du
open PySem L2
theorem pcall0 {X : Cx} {k : Nat} {x : Str} {sp : Sp} {p pos : Pos} (D : Dn X.prog X.w X.K X.mg X.base k x [] sp) (hr : Room k X.A) (hg : Gl X x) (hdb : (x == ("__debug__" : Str)) = false := by decide) :
    PE X (.Call (.Name x p) [] [] pos) (tCall sp [] E0 tNil) := by
  obtain ⟨f, fd, F, hm, hk, hb⟩ := D.ex
  exact pe_call0 F hr hg hm hk hb .nil pass0 hdb
theorem three {α : Type} : ∀ {l : List α}, l.length = 3 → ∃ a b c, l = [a, b, c]
  | [a, b, c], _ => ⟨a, b, c, rfl⟩
section
variable {P : Program} {w : World} {K : PySem.W.Frag} {mg : Str → Option Value} {base : Heap} {H0 H H' : Hp} {p T B M m0 m1 m2 : Addr} {x0 x1 x2 : List V} {b0 b1 b2 : Bool} {i j : Nat}
theorem PutI.take (h : PutI K H0 p T B M m0 m1 m2 x0 x1 x2 b0 b1 b2 i H) (hT : T ≠ p) (hB : B ≠ p) (hM : M ≠ p) (h0 : m0 ≠ p) (h1 : m1 ≠ p) (h2 : m2 ≠ p) (s : Step p H H') : PutI K H0 p T B M m0 m1 m2 x0 x1 x2 b0 b1 b2 i H' := by
  obtain ⟨y0, y1, y2, e, a0, a1, a2⟩ := h.th
  have hp := h.st.purse
  exact ⟨h.st.trans s, ⟨y0, y1, y2, s.keep _ _ hT e, a0.step hp s, a1.step hp s, a2.step hp s⟩, s.keep _ _ hB h.bd, s.keep _ _ hM h.mn, s.keep _ _ h0 h.l0, s.keep _ _ h1 h.l1, s.keep _ _ h2 h.l2,
    fun x hx => (h.q0 x hx).step hp s, fun x hx => (h.q1 x hx).step hp s, fun x hx => (h.q2 x hx).step hp s⟩
theorem PutI.put (h : PutI K H0 p T B M m0 m1 m2 x0 x1 x2 b0 b1 b2 i H) (nT : H0 T = none) (hT : T ≠ p) (hB : B ≠ T) (hM : M ≠ T) (h0 : m0 ≠ T) (h1 : m1 ≠ T) (h2 : m2 ≠ T) {z0 z1 z2 : V}
    (a0 : NmV K H z0 (b0 && decide (0 < j))) (a1 : WhV K H z1 99 (b1 && decide (1 < j))) (a2 : WhV K H z2 600 (b2 && decide (2 < j))) : PutI K H0 p T B M m0 m1 m2 x0 x1 x2 b0 b1 b2 j (upd H T (.lst [z0, z1, z2])) := by
  obtain ⟨y0, y1, y2, e, _⟩ := h.th
  have k := Kp3.upd (o' := .lst [z0, z1, z2]) e rfl
  exact ⟨h.st.put nT hT, ⟨z0, z1, z2, upd_same, a0.kp k, a1.kp k, a2.kp k⟩, by rw [upd_ne hB]; exact h.bd, by rw [upd_ne hM]; exact h.mn, by rw [upd_ne h0]; exact h.l0, by rw [upd_ne h1]; exact h.l1, by rw [upd_ne h2]; exact h.l2,
    fun x hx => (h.q0 x hx).kp k, fun x hx => (h.q1 x hx).kp k, fun x hx => (h.q2 x hx).kp k⟩
def pnm : List Str := ["name", "room", "gap"]
def pnmV : List V := [.str "name", .str "room", .str "gap"]
/-- the parts that aren't so, up to the i-th -/
def badUp (b0 b1 b2 : Bool) : Nat → List V
  | 0 => []
  | 1 => if b0 then [.str "name"] else []
  | 2 => (if b0 then [.str "name"] else []) ++ (if b1 then [.str "room"] else [])
  | _ => (if b0 then [.str "name"] else []) ++ (if b1 then [.str "room"] else []) ++ (if b2 then [.str "gap"] else [])
theorem badUp_len (b0 b1 b2 : Bool) (i : Nat) : (badUp b0 b1 b2 i).length ≤ 3 := by
  rcases i with _ | _ | _ | i <;> cases b0 <;> cases b1 <;> cases b2 <;> simp [badUp]
theorem badUp_first (b0 b1 b2 : Bool) : (badUp b0 b1 b2 3 ++ [V.str "made"])[0]? = some (V.str (toldS (doorPart b0 b1 b2))) := by
  cases b0 <;> cases b1 <;> cases b2 <;> rfl
set_option maxHeartbeats 2000000 in
theorem ok_put {f : Addr} {fd : FuncData} (F : Fun K "_law_put_otherwise" "_law_put_otherwise" sPut f fd) (mL : mg "list" = none) (mr : mg "range" = none) (ml : mg "len" = none) (DT : Dn P w K mg base 3 "_law_take" ["_law_purse_here", "_law_many"] spTake)
    (DN : Dn P w K mg base 8 "_law_odd_names" [] (spOddN K)) (DW : Dn P w K mg base 6 "_law_odd_numbers" ["_law_top"] (spOddW K)) : FnOk P w K mg base CX0 9 f fd ["_law_purse_here", "_law_drawn_here"] (spPut K) := by
  refine F.ok scPut (fun vs H Q E h => ?_) (fun cdv A outer s H vs Q E hr h => ?_)
  · obtain ⟨p, d, n, r, g, rfl, _⟩ := h
    rfl
  · obtain ⟨p, d, n, r, g, rfl, hp, D, q⟩ := h
    have hr1 : Room 3 _ := hr.mono (by decide)
    have hr4 : Room 6 _ := hr.mono (by decide)
    refine ⟨_, (pss_cons (ps_asg (pe_tup (pa_cons (pe_callTy call_list_of (by rfl) mL (by decide +kernel) (pa_cons (pv 1) pa_nil)) (pa_cons (pe_lc (own := [("_law_k", 2)]) (g := gName 2) (tt := tYes) rfl scPut.nd (pi_range1 (by rfl) mr (pa_cons pe_int pa_nil)) (blkOk_by (N := nPut) (sc := defScope sPut) (by decide +kernel)) (fun _ _ _ _ _ => pg_name (i := 2) scPut.nd rfl (Or.inl rfl)) (fun _ _ _ _ _ => pts_nil)
            (fun _ _ _ _ _ => pe_cmpR op_eq (pcall DT hr1 (by rfl) (pa_cons (pv 0) (pa_cons pe_int pa_nil))) pe_int (by rfl))) pa_nil))) (pg_tup rfl (pgs_cons (pg_name (i := 3) scPut.nd rfl (.inl rfl)) (pgs_cons (pg_name (i := 4) scPut.nd rfl (.inr rfl)) pgs_nil)))) (pss_cons (ps_set (i := 5) scPut.nd rfl (.inl rfl) (pe_lst (pa_cons (pcall0 DN hr (by rfl)) (pa_cons (pcall DW hr4 (by rfl) (pa_cons pe_int pa_nil)) (pa_cons (pcall DW hr4 (by rfl) (pa_cons pe_int pa_nil)) pa_nil))))) (pss_cons (ps_for PassesOwn.never rfl (pi_range1 (by rfl) mr (pa_cons pe_int pa_nil)) (pg_name (i := 2) scPut.nd rfl (.inl rfl))
        (pss_cons (ps_set (i := 6) scPut.nd rfl (.inl rfl) (pcall DT hr1 (by rfl) (pa_cons (pv 0) (pa_cons (pe_callB call_len_seq (by rfl) ml (by decide +kernel) (pa_cons (pe_ix ix_list (pv 5) (pv 2) (fun _ _ => rfl)) pa_nil)) pa_nil)))) (pss_one (ps_if (pt_val (pe_ix ix_list (pv 4) (pv 2) (fun _ _ => rfl))) (pss_one (ps_asg (pe_ix ix_list (pe_ix ix_list (pv 5) (pv 2) (fun _ _ => rfl)) (pv 6) (fun _ _ => rfl)) (pg_sub (pv 3) (pv 2) set_list))) pss_nil)))) (pss_one (ps_ret (pe_tup (pa_cons (pv 3) (pa_cons (pe_ix ix_list (pe_op op_cat (pe_lc (own := [("_law_k", 2)]) (g := gName 2) rfl scPut.nd (pi_range1 (by rfl) mr (pa_cons pe_int pa_nil)) (blkOk_by (N := nPut) (sc := defScope sPut) (by decide +kernel)) (fun _ _ _ _ _ => pg_name (i := 2) scPut.nd rfl (Or.inl rfl))
            (fun _ _ _ _ _ => pts_one (pt_val (pe_ix (show IxR _ (rIxL K) from ix_list) (pv 4) (pv 2) (fun _ _ => rfl)))) (fun _ _ _ _ _ => pe_ix (show IxR _ (rIxL K) from ix_list) (pe_lst (pa_cons pe_str (pa_cons pe_str (pa_cons pe_str pa_nil)))) (pv 2) (fun _ _ => rfl))) (pe_lst (pa_cons pe_str pa_nil))) pe_int (fun _ _ => rfl)) pa_nil)))))))), ?_⟩
    -- the list
    refine ⟨_, rfl, d, _, rfl, .inl (SqL.of D.row), fun T nT => ?_⟩
    have dT : T ≠ p := hp.ne nT
    have s1 : Step p H (upd H T (.lst [.str n, .int r, .int g])) := .new hp nT
    -- which are put otherwise
    refine ⟨3, rfl, by decide, by decide, fun B nB => lc_range (lo := 0) (n := 3) (fun i H' => Step p (upd H T (.lst [.str n, .int r, .int g])) H' ∧ ∃ bs : List Bool, bs.length = i ∧ H' B = some (.lst (bs.map V.bl))) ⟨.new s1.purse nB, [], rfl, upd_same⟩ ?_ ?_⟩
    · rintro i H1 hi ⟨s2, bs, hbs, eB⟩
      refine ⟨rfl, _, rfl, p, 3, rfl, by decide, by decide, s2.purse, fun r2 H2 _ _ s3 => ⟨rfl, _, s3.keep _ _ (s1.purse.ne nB) eB, ?_, (s2.trans s3).put nB (s1.purse.ne nB), bs ++ [decide (V.int r2 = V.int 1)], by rw [List.length_append, hbs]; rfl, ?_⟩⟩
      · rw [List.length_map, hbs]
        exact Nat.lt_of_lt_of_le hi (by decide)
      · rw [upd_same, List.map_append]
        rfl
    rintro H1 ⟨s2, bs, hbs, eB⟩
    obtain ⟨b0, b1, b2, rfl⟩ := three hbs
    have dB : B ≠ p := s1.purse.ne nB
    have eT1 := s2.keep T _ dT upd_same
    refine ⟨(by show 2 ≤ sizeLine; decide), fun t1 nt1 => ?_⟩
    have s3 := Step.new (o := .tup [.ref T, .ref B]) s2.purse nt1
    refine ⟨t1, _, rfl, SqT.of upd_same, rfl, _, _, rfl, _, _, rfl, rfl, ?_⟩
    -- the menus
    have s03 := (s1.trans s2).trans s3
    refine ⟨rfl, fun m0 x0 H2 s4 nm0 e0 ex0 q0 => ⟨99, rfl, by decide, by decide, fun m1 x1 H3 s5 nm1 e1 ex1 q1 => ⟨600, rfl, by decide, by decide, fun m2 x2 H4 s6 nm2 e2 ex2 q2 => ⟨(by show 3 ≤ sizeLine; decide), fun M nM => ?_⟩⟩⟩⟩
    have s46 := (s4.trans s5).trans s6
    have s7 := same_upd (o := .lst [.ref m0, .ref m1, .ref m2]) nM
    have s47 := s46.trans s7
    have st := s03.trans (Step.of_same s03.purse s47)
    have ne1 : ∀ {a b : Addr} {o : HO} {G : Hp}, G a = some o → G b = none → b ≠ a := fun e n => (ne_of_none e n).symm
    have eT3 := s3.keep T _ dT eT1
    have eB3 := s3.keep B _ dB eB
    have purse4 : Purse H2 p := (Step.of_same s03.purse s4).purse
    have purse5 : Purse H3 p := (Step.of_same purse4 s5).purse
    have purse6 : Purse H4 p := (Step.of_same purse5 s6).purse
    have d0 : m0 ≠ p := s03.purse.ne nm0
    have d1 : m1 ≠ p := purse4.ne nm1
    have d2 : m2 ≠ p := purse5.ne nm2
    have dM : M ≠ p := purse6.ne nM
    have c0 : m0 ≠ T := ne1 eT3 nm0
    have c1 : m1 ≠ T := ne1 (s4 _ _ eT3) nm1
    have c2 : m2 ≠ T := ne1 (s5 _ _ (s4 _ _ eT3)) nm2
    have cM : M ≠ T := ne1 (s46 _ _ eT3) nM
    have cB : B ≠ T := ne1 (upd_same (H := H) (a := T) (o := .lst [.str n, .int r, .int g])) nB
    have I0 : PutI K H p T B M m0 m1 m2 x0 x1 x2 b0 b1 b2 0 (upd H4 M (.lst [.ref m0, .ref m1, .ref m2])) :=
      ⟨st, ⟨.str n, .int r, .int g, s47 _ _ eT3, .inl ⟨by simp, n, rfl, D.nm⟩, .inl ⟨by simp, r, rfl, D.r1, D.r2⟩, .inl ⟨by simp, g, rfl, D.g1, D.g2⟩⟩, s47 _ _ eB3, upd_same, (s5.trans (s6.trans s7)) _ _ e0, (s6.trans s7) _ _ e1, s7 _ _ e2,
        fun x hx => (q0 x hx).same (s5.trans (s6.trans s7)), fun x hx => (q1 x hx).same (s6.trans s7), fun x hx => (q2 x hx).same s7⟩
    refine ⟨3, rfl, by decide, by decide, for_range (lo := 0) (n := 3) (fun i σ H' => ∃ (v2 v6 : Option V), σ = [some (.ref p), some (.ref d), v2, some (.ref T), some (.ref B), some (.ref M), v6] ∧ PutI K H p T B M m0 m1 m2 x0 x1 x2 b0 b1 b2 i H') ⟨_, _, rfl, I0⟩ ?_ ?_⟩
    · rintro i σ H5 hi ⟨v2, v6, rfl, I⟩
      have hc : i = 0 ∨ i = 1 ∨ i = 2 := by omega
      rcases hc with rfl | rfl | rfl
      · -- 0
        refine ⟨_, rfl, _, rfl, _, rfl, M, _, _, _, rfl, rfl, SqL.of I.mn, at_of (j := 0) rfl rfl, m0, x0, rfl, .inl (SqL.of I.l0), p, _, rfl, by rw [ex0]; decide, by rw [ex0]; decide, I.st.purse, fun r2 H9 r20 r21 s9 => ?_⟩
        have J := I.take dT dB dM d0 d1 d2 s9
        obtain ⟨y0, y1, y2, eT, a0, a1, a2⟩ := J.th
        refine ⟨_, rfl, _, rfl, B, _, _, _, rfl, rfl, SqL.of J.bd, at_of (j := 0) rfl rfl, _, rfl, ?_⟩
        cases b0 with
        | true =>
          obtain ⟨v, hv, hm⟩ := at_some (xs := x0) r20 r21
          refine iteT ⟨_, rfl, _, rfl, M, _, _, _, rfl, rfl, SqL.of J.mn, at_of (j := 0) rfl rfl, _, rfl, m0, x0, _, v, rfl, rfl, SqL.of J.l0, hv, _, rfl, _, rfl, T, _, _, 0, rfl, rfl, eT, rfl, ?_⟩
          exact ⟨_, _, rfl, J.put nT dT cB cM c0 c1 c2 (.inr ⟨rfl, J.q0 v hm⟩) (by simpa using a1) (by simpa using a2)⟩
        | false =>
          refine iteF ⟨_, _, rfl, ?_⟩
          exact ⟨J.st, ⟨y0, y1, y2, eT, by simpa using a0, by simpa using a1, by simpa using a2⟩, J.bd, J.mn, J.l0, J.l1, J.l2, J.q0, J.q1, J.q2⟩
      · -- 1
        refine ⟨_, rfl, _, rfl, _, rfl, M, _, _, _, rfl, rfl, SqL.of I.mn, at_of (j := 1) rfl rfl, m1, x1, rfl, .inl (SqL.of I.l1), p, _, rfl, by rw [ex1]; decide, by rw [ex1]; decide, I.st.purse, fun r2 H9 r20 r21 s9 => ?_⟩
        have J := I.take dT dB dM d0 d1 d2 s9
        obtain ⟨y0, y1, y2, eT, a0, a1, a2⟩ := J.th
        refine ⟨_, rfl, _, rfl, B, _, _, _, rfl, rfl, SqL.of J.bd, at_of (j := 1) rfl rfl, _, rfl, ?_⟩
        cases b1 with
        | true =>
          obtain ⟨v, hv, hm⟩ := at_some (xs := x1) r20 r21
          refine iteT ⟨_, rfl, _, rfl, M, _, _, _, rfl, rfl, SqL.of J.mn, at_of (j := 1) rfl rfl, _, rfl, m1, x1, _, v, rfl, rfl, SqL.of J.l1, hv, _, rfl, _, rfl, T, _, _, 1, rfl, rfl, eT, rfl, ?_⟩
          exact ⟨_, _, rfl, J.put nT dT cB cM c0 c1 c2 a0 (.inr ⟨rfl, J.q1 v hm⟩) (by simpa using a2)⟩
        | false =>
          refine iteF ⟨_, _, rfl, ?_⟩
          exact ⟨J.st, ⟨y0, y1, y2, eT, by simpa using a0, by simpa using a1, by simpa using a2⟩, J.bd, J.mn, J.l0, J.l1, J.l2, J.q0, J.q1, J.q2⟩
      · -- 2
        refine ⟨_, rfl, _, rfl, _, rfl, M, _, _, _, rfl, rfl, SqL.of I.mn, at_of (j := 2) rfl rfl, m2, x2, rfl, .inl (SqL.of I.l2), p, _, rfl, by rw [ex2]; decide, by rw [ex2]; decide, I.st.purse, fun r2 H9 r20 r21 s9 => ?_⟩
        have J := I.take dT dB dM d0 d1 d2 s9
        obtain ⟨y0, y1, y2, eT, a0, a1, a2⟩ := J.th
        refine ⟨_, rfl, _, rfl, B, _, _, _, rfl, rfl, SqL.of J.bd, at_of (j := 2) rfl rfl, _, rfl, ?_⟩
        cases b2 with
        | true =>
          obtain ⟨v, hv, hm⟩ := at_some (xs := x2) r20 r21
          refine iteT ⟨_, rfl, _, rfl, M, _, _, _, rfl, rfl, SqL.of J.mn, at_of (j := 2) rfl rfl, _, rfl, m2, x2, _, v, rfl, rfl, SqL.of J.l2, hv, _, rfl, _, rfl, T, _, _, 2, rfl, rfl, eT, rfl, ?_⟩
          exact ⟨_, _, rfl, J.put nT dT cB cM c0 c1 c2 a0 a1 (.inr ⟨rfl, J.q2 v hm⟩)⟩
        | false =>
          refine iteF ⟨_, _, rfl, ?_⟩
          exact ⟨J.st, ⟨y0, y1, y2, eT, by simpa using a0, by simpa using a1, by simpa using a2⟩, J.bd, J.mn, J.l0, J.l1, J.l2, J.q0, J.q1, J.q2⟩
    · rintro σ H5 ⟨v2, v6, rfl, I⟩
      refine ⟨_, rfl, 3, rfl, by decide, by decide, fun L nL => lc_range (lo := 0) (n := 3) (fun i H' => Same H5 H' ∧ H' L = some (.lst (badUp b0 b1 b2 i))) ⟨same_upd nL, upd_same⟩ ?_ ?_⟩
      · rintro i H6 hi ⟨s8, eL⟩
        have hc : i = 0 ∨ i = 1 ∨ i = 2 := by omega
        have bd := s8 _ _ I.bd
        have hl := badUp_len b0 b1 b2 i
        have key : ∀ (b : Bool) (z : Str), atI [V.bl b0, V.bl b1, V.bl b2] (0 + (i : Int)) = some (.bl b) → atI pnmV (0 + (i : Int)) = some (.str z) → badUp b0 b1 b2 (i + 1) = badUp b0 b1 b2 i ++ (if b then [.str z] else []) →
            gName 2 (.int (0 + (i : Int))) (wipe [some (.ref p), some (.ref d), v2, some (.ref T), some (.ref B), some (.ref M), v6] [2]) H6 fun σ2 H2 => wipe σ2 [2] = wipe [some (.ref p), some (.ref d), v2, some (.ref T), some (.ref B), some (.ref M), v6] [2] ∧ tB (tOp (rIxL K) (tVar 4) (tVar 2)) σ2 H2 fun b H3 =>
              if b = true then tOp (rIxL K) (fun σ H Q => tCons (tC (.str "name")) (tCons (tC (.str "room")) (tCons (tC (.str "gap")) tNil)) σ H fun vs H1 => vs.length ≤ sizeLine ∧ ∀ p, H1 p = none → Q (.ref p) (upd H1 p (.lst vs))) (tVar 2) σ2 H3 fun y H4 => ∃ acc, H4 L = some (.lst acc) ∧ acc.length < sizeLine ∧ (Same H5 (upd H4 L (.lst (acc ++ [y]))) ∧ (upd H4 L (.lst (acc ++ [y]))) L = some (.lst (badUp b0 b1 b2 (i + 1)))) else Same H5 H3 ∧ H3 L = some (.lst (badUp b0 b1 b2 (i + 1))) := by
          intro b z hb hz hu
          refine ⟨rfl, _, rfl, _, rfl, B, _, _, _, rfl, rfl, SqL.of bd, hb, _, rfl, ?_⟩
          cases b with
          | true =>
            refine iteT ⟨(by show 3 ≤ sizeLine; decide), fun l nl => ⟨_, rfl, l, _, _, _, rfl, rfl, SqL.of upd_same, hz, _, (same_upd nl) _ _ eL, ?_, ?_, ?_⟩⟩
            · exact Nat.lt_of_le_of_lt hl (by decide)
            · exact same_upd2 (s8.trans (same_upd nl)) nL
            · rw [upd_same, hu]
              rfl
          | false =>
            refine iteF ⟨s8, ?_⟩
            rw [eL, hu]
            simp
        rcases hc with rfl | rfl | rfl
        · exact key b0 "name" rfl rfl (by simp [badUp])
        · exact key b1 "room" rfl rfl (by simp [badUp])
        · exact key b2 "gap" rfl rfl (by simp [badUp])
      · rintro H6 ⟨s8, eL⟩
        refine ⟨(by show 1 ≤ sizeLine; decide), fun l1 nl1 => ?_⟩
        have s9 := same_upd (o := .lst [.str "made"]) nl1
        refine ⟨L, l1, _, _, rfl, rfl, s9 _ _ eL, upd_same, ?_, fun l2 nl2 => ?_⟩
        · have hl := badUp_len b0 b1 b2 3
          exact Nat.le_trans (Nat.add_le_add_right hl 1) (by decide)
        have s10 := same_upd (o := .lst (badUp b0 b1 b2 3 ++ [.str "made"])) nl2
        refine ⟨l2, _, _, _, rfl, rfl, SqL.of upd_same, at_of (j := 0) rfl (badUp_first b0 b1 b2), (by show 2 ≤ sizeLine; decide), fun t nt => ?_⟩
        have s11 := same_upd (o := .tup [.ref T, .str (toldS (doorPart b0 b1 b2))]) nt
        have sF := ((s8.trans s9).trans s10).trans s11
        obtain ⟨y0, y1, y2, eT, a0, a1, a2⟩ := I.th
        refine q t T y0 y1 y2 b0 b1 b2 _ (I.st.trans (Step.of_same I.st.purse sF)) nT upd_same (sF _ _ eT) ?_ ?_ ?_
        · exact (show NmV K H5 y0 b0 by simpa using a0).same sF
        · exact (show WhV K H5 y1 99 b1 by simpa using a1).same sF
        · exact (show WhV K H5 y2 600 b2 by simpa using a2).same sF
end
end Du

set_option Elab.async false
set_option linter.all false
set_option maxRecDepth 100000
namespace Du
open PySem L2
abbrev sLaw : Stmt := topS 39
section
variable {P : Program} {w : World} {K : PySem.W.Frag} {mg : Str → Option Value} {base : Heap}
/-! _law_twins_right -/
abbrev nTwins : List Str := ["_law_pairs", "_law_things", "_law_term"]
theorem scTwins : FnScope nTwins [] (defScope sTwins) := ⟨rfl, rfl, rfl, by decide +kernel, rfl, by decide +kernel, by decide +kernel⟩
def spTwins : Sp := fun vs H Q _ => vs = [] ∧ ∀ H', Same H H' → Q (.bl true) H'
def TwinOk (K : PySem.W.Frag) (H : Hp) (x : V) : Prop := ∃ (t l : Addr) (x0 x1 x2 : V) (b0 b1 b2 : Bool), x = .ref t ∧ H t = some (.tup [.ref l, .str (toldS (doorPart b0 b1 b2))]) ∧ H l = some (.lst [x0, x1, x2]) ∧ NmV K H x0 b0 ∧ WhV K H x1 99 b1 ∧ WhV K H x2 600 b2
theorem TwinOk.same {H H' : Hp} {x : V} (h : TwinOk K H x) (s : Same H H') : TwinOk K H' x := by
  obtain ⟨t, l, x0, x1, x2, b0, b1, b2, e, e1, e2, h0, h1, h2⟩ := h
  exact ⟨t, l, x0, x1, x2, b0, b1, b2, e, s _ _ e1, s _ _ e2, h0.same s, h1.same s, h2.same s⟩
theorem wh_t {H : Hp} {hi : Int} {b : Bool} : WhV K H (.bl b) hi true := .inr ⟨rfl, bw_bl⟩
set_option maxHeartbeats 1000000 in
theorem ok_twins {f : Addr} {fd : FuncData} (F : Fun K "_law_twins_right" "_law_twins_right" sTwins f fd) (ma : mg "all" = none) (DTo : Dn P w K mg base 7 "_law_told" ["_law_things", "_law_way"] (spTold K)) : FnOk P w K mg base CX0 8 f fd [] spTwins := by
  refine F.ok scTwins (fun vs H Q E h => ?_) (fun cdv A outer s H vs Q E hr h => ?_)
  · obtain ⟨rfl, _⟩ := h
    rfl
  · obtain ⟨rfl, q⟩ := h
    refine ⟨_, (pss_cons (ps_set (i := 0) scTwins.nd rfl (.inl rfl) (pe_lst (pa_cons (pe_tup (pa_cons (pe_lst (pa_cons pe_str (pa_cons pe_int (pa_cons pe_int pa_nil)))) (pa_cons pe_str pa_nil))) (pa_cons (pe_tup (pa_cons (pe_lst (pa_cons pe_str (pa_cons pe_bl (pa_cons pe_int pa_nil)))) (pa_cons pe_str pa_nil))) (pa_cons (pe_tup (pa_cons (pe_lst (pa_cons pe_str (pa_cons pe_int (pa_cons pe_bl pa_nil)))) (pa_cons pe_str pa_nil))) (pa_cons (pe_tup (pa_cons (pe_lst (pa_cons pe_str (pa_cons pe_bl (pa_cons pe_bl pa_nil)))) (pa_cons pe_str pa_nil))) pa_nil)))))) (pss_one (ps_ret (pe_callB (cr_all rfl) (by rfl) ma (by decide +kernel) (pa_cons (pe_lc (own := [("_law_things", 1), ("_law_term", 2)]) (g := gTup K 2 (gCons (gName 1) (gCons (gName 2) gNil))) (tt := tYes) rfl scTwins.nd (pi_list (pe_op op_cat (pv 0) (pv 0))) (blkOk_by (N := nTwins) (sc := defScope sTwins) (by decide +kernel))
        (fun _ _ _ _ _ => pg_tup rfl (pgs_cons (pg_name (i := 1) scTwins.nd rfl (Or.inl rfl)) (pgs_cons (pg_name (i := 2) scTwins.nd rfl (Or.inl rfl)) pgs_nil))) (fun _ _ _ _ _ => pts_nil)
        (fun _ _ _ _ _ => (pe_and (pe_cmpR op_eq (pcall DTo hr (by rfl) (pa_cons (pv 1) (pa_cons pe_int pa_nil))) (pv 2) (by rfl)) (pe_one (pe_cmpR op_eq (pcall DTo hr (by rfl) (pa_cons (pv 1) (pa_cons pe_int pa_nil))) (pv 2) (by rfl)))))) pa_nil))))), ?_⟩
    refine ⟨(by show 3 ≤ sizeLine; decide), fun l0 n0 => ⟨(by show 2 ≤ sizeLine; decide), fun t0 m0 => ⟨(by show 3 ≤ sizeLine; decide), fun l1 n1 => ⟨(by show 2 ≤ sizeLine; decide), fun t1 m1 => ⟨(by show 3 ≤ sizeLine; decide), fun l2 n2 => ⟨(by show 2 ≤ sizeLine; decide), fun t2 m2 => ⟨(by show 3 ≤ sizeLine; decide), fun l3 n3 => ⟨(by show 2 ≤ sizeLine; decide), fun t3 m3 => ⟨(by show 4 ≤ sizeLine; decide), fun L nL => ?_⟩⟩⟩⟩⟩⟩⟩⟩⟩
    refine ⟨_, rfl, _, rfl, L, L, _, _, rfl, rfl, upd_same, upd_same, (by show 4 + 4 ≤ sizeLine; decide), fun L2' nL2 => ?_⟩
    have c8 := (same_upd nL).trans (same_upd (o := .lst ([.ref t0, .ref t1, .ref t2, .ref t3] ++ [.ref t0, .ref t1, .ref t2, .ref t3])) nL2)
    have c7 := (same_upd (o := .tup [.ref l3, .str "room"]) m3).trans c8
    have c6 := (same_upd (o := .lst [.str "a", .bl true, .bl true]) n3).trans c7
    have c5 := (same_upd (o := .tup [.ref l2, .str "gap"]) m2).trans c6
    have c4 := (same_upd (o := .lst [.str "a", .int 1, .bl true]) n2).trans c5
    have c3 := (same_upd (o := .tup [.ref l1, .str "room"]) m1).trans c4
    have c2 := (same_upd (o := .lst [.str "a", .bl true, .int 1]) n1).trans c3
    have c1 := (same_upd (o := .tup [.ref l0, .str "made"]) m0).trans c2
    have c0 := (same_upd (o := .lst [.str "a", .int 1, .int 1]) n0).trans c1
    have w0 := TwinOk.same (K := K) ⟨t0, l0, .str "a", .int 1, .int 1, false, false, false, rfl, upd_same, (same_upd m0) _ _ upd_same, nm_a, wh_1 (by decide), wh_1 (by decide)⟩ c2
    have w1 := TwinOk.same (K := K) ⟨t1, l1, .str "a", .bl true, .int 1, false, true, false, rfl, upd_same, (same_upd m1) _ _ upd_same, nm_a, wh_t, wh_1 (by decide)⟩ c4
    have w2 := TwinOk.same (K := K) ⟨t2, l2, .str "a", .int 1, .bl true, false, false, true, rfl, upd_same, (same_upd m2) _ _ upd_same, nm_a, wh_1 (by decide), wh_t⟩ c6
    have w3 := TwinOk.same (K := K) ⟨t3, l3, .str "a", .bl true, .bl true, false, true, true, rfl, upd_same, (same_upd m3) _ _ upd_same, nm_a, wh_t, wh_t⟩ c8
    refine ⟨L2', rfl, ⟨_, SqL.of upd_same⟩, fun D nD => lc_it (walk_list (K := K) (a := L2') (xs := [.ref t0, .ref t1, .ref t2, .ref t3] ++ [.ref t0, .ref t1, .ref t2, .ref t3])) (fun i H' => Same (upd (upd _ L _) L2' _) H' ∧ H' D = some (.lst ((List.replicate i true).map V.bl))) ⟨same_upd nD, upd_same⟩ (fun i H' _ z => SqL.of (z.1 _ _ upd_same)) ?_ ?_⟩
    · rintro i x H1' H1 hi ⟨s1, eD⟩ ⟨rfl, hx⟩
      have hw : TwinOk K H1 x := by
        have hm := List.mem_of_getElem? hx
        simp only [List.cons_append, List.nil_append, List.mem_cons, List.not_mem_nil, or_false] at hm
        rcases hm with rfl | rfl | rfl | rfl | rfl | rfl | rfl | rfl
        · exact w0.same s1
        · exact w1.same s1
        · exact w2.same s1
        · exact w3.same s1
        · exact w0.same s1
        · exact w1.same s1
        · exact w2.same s1
        · exact w3.same s1
      obtain ⟨t, l, x0, x1, x2, b0, b1, b2, rfl, et, el, h0, h1, h2⟩ := hw
      refine ⟨t, _, rfl, SqT.of et, rfl, _, _, rfl, _, _, rfl, rfl, rfl, ?_⟩
      refine ⟨_, rfl, l, x0, x1, x2, b0, b1, b2, 0, rfl, el, h0, h1, h2, fun H3 s3 => ⟨_, rfl, rfl, _, rfl, ?_⟩⟩
      rw [decide_eq_true rfl]
      refine iteT ⟨_, rfl, l, x0, x1, x2, b0, b1, b2, 2, rfl, s3 _ _ el, h0.same s3, h1.same s3, h2.same s3, fun H4 s4 => ⟨_, rfl, rfl, _, s4 _ _ (s3 _ _ eD), ?_, same_upd2 (s1.trans (s3.trans s4)) nD, ?_⟩⟩
      · rw [List.length_map, List.length_replicate]
        exact Nat.lt_of_lt_of_le hi (by show 8 ≤ sizeLine; decide)
      · rw [upd_same, decide_eq_true rfl, List.replicate_succ', List.map_append]
        rfl
    · rintro H1 ⟨s1, eD⟩
      refine ⟨D, _, rfl, SqL.of eD, ?_⟩
      have z : (List.replicate 8 true).all id = true := rfl
      show Q (.bl ((List.replicate 8 true).all id)) H1
      rw [z]
      exact q H1 (c0.trans s1)
end
end Du

set_option Elab.async false
set_option linter.all false
set_option maxRecDepth 100000
namespace Du
open PySem L2
/-- len of Door -/
structure DoorS (P : Program) (w : World) (K : PySem.W.Frag) (mg : Str → Option Value) (base : Heap) (C : Addr) : Prop where
  nb : PySem.W.findIn K (.ref C) "__bool__" = some none
  len : ∃ (f : Addr) (fd : FuncData), FnOk P w K mg base CX0 3 f fd ["self"] (spLenD C) ∧ Binds K fd ["self"] [] ∧ PySem.W.findIn K (.ref C) "__len__" = some (some (.ref f)) ∧ PySem.W.isFn K (.ref f) = true
def rowD (n : Str) (r g : Int) : PyData := .list [.str n, .int r, .int g]
theorem rowD_shaped {n : Str} {r g : Int} (h1 : isNm n = true) : SeqAt.shaped (rowD n r g) = true := by
  unfold SeqAt.shaped
  have a : PyData.canLay0 (rowD n r g) = true := by
    show (PyData.strOk n && (true && (true && true))) = true
    rw [nm_strOk h1]
    rfl
  have b : PyData.depth (rowD n r g) ≤ 64 := by
    show max 0 (max 0 (max 0 0)) + 1 ≤ 64
    omega
  rw [a, decide_eq_true b]
  rfl
section
variable {P : Program} {w : World} {K : PySem.W.Frag} {mg : Str → Option Value} {base : Heap}
abbrev nLaw : List Str := ["_law_script", "_law_k", "_law_purse_here", "_law_drawn_here", "_law_door", "_law_turn", "_law_things", "_law_term"]
theorem scLaw : FnScope nLaw ["_law_script"] (defScope sLaw) := ⟨rfl, rfl, rfl, by decide +kernel, rfl, by decide +kernel, by decide +kernel⟩
def spLaw (K : PySem.W.Frag) : Sp := fun vs H Q _ => ∃ (a : Addr) (ns : List Int), vs = [.ref a] ∧ SqL K H a (ns.map V.int) ∧ ∀ H', Q (.bl true) H'
theorem decV' (x : V) : decide (x = x) = true := decide_eq_true rfl
set_option maxHeartbeats 2000000 in
theorem ok_law {C CE f fm : Addr} {fd fdm : FuncData} (F : Fun K "law" "law" sLaw f fd) (T : DoorC K mg C) (DS : DoorS P w K mg base C) (mr : mg "range" = none) (mx : mg "max" = none) (mn : mg "min" = none) (ml : mg "len" = none) (mI : mg "isinstance" = none) (ms : mg "str" = none)
    (DC : Dn P w K mg base 3 "_law_cell" ["_law_script", "_law_k"] (spCellL K)) (DP : Dn P w K mg base 3 "_law_purse" ["_law_cell_here"] spPurse) (DT : Dn P w K mg base 3 "_law_take" ["_law_purse_here", "_law_many"] spTake)
    (DD : Dn P w K mg base 5 "_law_drawn" ["_law_purse_here"] spDrawn) (FM : FnOk P w K mg base (L2N.CX P w) 6 fm fdm ["_law_things", "_law_way"] (spMade K C CE)) (mM : mg "_law_made" = some (.ref fm)) (kM : PySem.W.keepIn K (.ref fm) = true) (bM : Binds K fdm ["_law_things", "_law_way"] [])
    (DTo : Dn P w K mg base 7 "_law_told" ["_law_things", "_law_way"] (spTold K)) (DW : Dn P w K mg base 3 "_law_whole" ["_law_thing"] spWholeL) (DPu : Dn P w K mg base 9 "_law_put_otherwise" ["_law_purse_here", "_law_drawn_here"] (spPut K)) (DTw : Dn P w K mg base 8 "_law_twins_right" [] spTwins) :
    LawOk P w K mg base f fd "_law_script" (spLaw K) := by
  obtain ⟨hnb, ⟨fL, fdL, GL, bL, hsL, hfL⟩⟩ := DS
  obtain ⟨oc, od, kV, doc, pm, an, cdv, ct, osl, rfl, lk, hcd⟩ := F.ex
  intro s H u v Q env0 hb rv hsp
  obtain ⟨a, ns, hv, hS, q⟩ := hsp
  have hr8 : Room 10 callerA := ⟨rfl, by decide, by decide⟩
  refine fn_at (k := 9) (ps := ["_law_script"]) (us := [u]) (vs := [v]) lk hcd scLaw hr8 env0 hb (.cons rv .nil) rfl ?_
  cases hv
  have hr : Room 9 (callerA.deeper (PyProof.Rows.envOfC "law" (defScope sLaw) s.heap.objs.size f cdv)) := hr8.deeper _
  have hr1 : Room 3 _ := hr.mono (by decide)
  have hr2 : Room 4 _ := hr.mono (by decide)
  have hr3 : Room 5 _ := hr.mono (by decide)
  have hr4 : Room 6 _ := hr.mono (by decide)
  have hr5 : Room 7 _ := hr.mono (by decide)
  have hr6 : Room 8 _ := hr.mono (by decide)
  refine ⟨_, (pss_cons (ps_if (pt_not (pt_val (pcall0 DTw hr6 (by rfl)))) pss_never pss_nil) (pss_cons (ps_for PassesOwn.never rfl (pi_range1 (by rfl) mr (pa_cons (pe_callB (call_max2 rfl) (by rfl) mx (by decide +kernel) (pa_cons pe_int (pa_cons (pe_callB (call_min2 rfl) (by rfl) mn (by decide +kernel) (pa_cons pe_int (pa_cons (pe_callB call_len_seq (by rfl) ml (by decide +kernel) (pa_cons (pv 0) pa_nil)) pa_nil))) pa_nil))) pa_nil)) (pg_name (i := 1) scLaw.nd rfl (.inl rfl))
        (pss_cons (ps_set (i := 2) scLaw.nd rfl (.inl rfl) (pcall DP hr1 (by rfl) (pa_cons (pcall DC hr1 (by rfl) (pa_cons (pv 0) (pa_cons (pv 1) pa_nil))) pa_nil))) (pss_cons (ps_set (i := 3) scLaw.nd rfl (.inl rfl) (pcall DD hr3 (by rfl) (pa_cons (pv 2) pa_nil))) (pss_cons (ps_set (i := 4) scLaw.nd rfl (.inl rfl) (pe_call FM hr4 (by rfl) mM kM bM .nil passN (pa_cons (pv 3) (pa_cons (pcall DT hr1 (by rfl) (pa_cons (pv 2) (pa_cons pe_int pa_nil))) pa_nil)))) (pss_cons (ps_if (PW.pt (pw_or (pt_cmpR (op_neD hr.units) (pe_lst (pa_cons (pe_fld (pv 4) rfl) (pa_cons (pe_fld (pv 4) rfl) (pa_cons (pe_fld (pv 4) rfl) pa_nil)))) (pv 3) (nomark _)) (pw_or (pt_not (pt_val (pcall DW hr1 (by rfl) (pa_cons (pe_fld (pv 4) rfl) pa_nil)))) (pw_or1 (pt_not (pt_val (pcall DW hr1 (by rfl) (pa_cons (pe_fld (pv 4) rfl) pa_nil)))))))) pss_never pss_nil) (pss_cons (ps_if (PW.pt (pw_or (pt_not (pt_val (pe_callB call_isi (by rfl) mI (by decide +kernel) (pa_cons (pe_fld (pv 4) rfl) (pa_cons (pe_bltn (v := .ty "str") (by rfl) ms (by decide +kernel) rfl) pa_nil))))) (pw_or (pt_cmpR op_ne (pe_callB (call_lenO GL bL hr2 hsL hfL) (by rfl) ml (by decide +kernel) (pa_cons (pv 4) pa_nil)) (pe_ix ix_list (pv 3) pe_int (fun _ _ => rfl)) (nomark _)) (pw_or1 (pt_not (pt_lenO GL bL hr2 hnb hsL hfL (pv 4))))))) pss_never pss_nil) (pss_one (ps_for PassesOwn.never rfl (pi_range1 (by rfl) mr (pa_cons pe_int pa_nil)) (pg_name (i := 5) scLaw.nd rfl (.inl rfl))
            (pss_cons (ps_asg (pcall DPu hr (by rfl) (pa_cons (pv 2) (pa_cons (pv 3) pa_nil))) (pg_tup rfl (pgs_cons (pg_name (i := 6) scLaw.nd rfl (.inl rfl)) (pgs_cons (pg_name (i := 7) scLaw.nd rfl (.inl rfl)) pgs_nil)))) (pss_one (ps_if (pt_cmpR op_ne (pcall DTo hr5 (by rfl) (pa_cons (pv 6) (pa_cons (pcall DT hr1 (by rfl) (pa_cons (pv 2) (pa_cons pe_int pa_nil))) pa_nil))) (pv 7) (nomark _)) pss_never pss_nil))))))))))) (pss_one (ps_ret pe_bl)))), ?_⟩
  refine ⟨rfl, fun H1 s1 => ⟨_, rfl, iteF ?_⟩⟩
  obtain ⟨M, hM, h3, h12⟩ : ∃ M : Int, (if (if (((ns.map V.int).length : Nat) : Int) < 12 then (((ns.map V.int).length : Nat) : Int) else 12) > 3 then (if (((ns.map V.int).length : Nat) : Int) < 12 then (((ns.map V.int).length : Nat) : Int) else 12) else 3) = M ∧ 3 ≤ M ∧ M ≤ 12 :=
    ⟨_, rfl, by repeat (first | omega | split), by repeat (first | omega | split)⟩
  refine ⟨_, rfl, a, _, rfl, .inl (hS.ext s1), 12, _, rfl, 3, _, rfl, ?_⟩
  rw [hM]
  refine ⟨M, rfl, by omega, by omega, for_range (lo := 0) (n := M.toNat) (fun i σ H' => ∃ v1 v2 v3 v4 v5 v6 v7 : Option V, σ = [some (.ref a), v1, v2, v3, v4, v5, v6, v7] ∧ Same H H') ⟨none, none, none, none, none, none, none, rfl, s1⟩ ?_ ?_⟩
  · rintro i σ H2 hi ⟨v1, v2, v3, v4, v5, v6, v7, rfl, s2⟩
    have hi64 : i < 64 := by omega
    refine ⟨_, rfl, _, rfl, a, ns, i, by rw [Int.zero_add]; rfl, hS.ext s2, hi64, fun n H3 s3 => ⟨n, rfl, fun p H4 s4 np hp => ?_⟩⟩
    have s24 : Same H H4 := (s2.trans s3).trans s4
    have npH : H p = none := (s2.trans s3).free np
    -- the values
    refine ⟨_, rfl, p, rfl, hp, fun d nm r g H5 t5 nd D => ?_⟩
    -- the door
    refine ⟨_, rfl, _, rfl, p, 3, rfl, by decide, by decide, t5.purse, fun way H6 _ _ t6 => ?_⟩
    have D6 := D.step t5.purse t6
    refine ⟨d, .str nm, .int r, .int g, false, false, false, way, rfl, D6.row, .inl ⟨rfl, nm, rfl, D.nm⟩, .inl ⟨rfl, r, rfl, D.r1, D.r2⟩, .inl ⟨rfl, g, rfl, D.g1, D.g2⟩, fun _ n' r' g' x H7 e1 e2 e3 s7 nx dx => ?_, fun p hp => nomatch hp⟩
    cases e1
    cases e2
    cases e3
    have t7 := Step.of_same t6.purse s7
    have D7 := D6.same s7
    obtain ⟨dx', ex⟩ := id dx
    -- what it has
    refine ⟨_, rfl, x, C, dx', _, _, rfl, ex, T.cl, T.nN, df_name _ _ _, _, rfl, x, C, dx', _, _, rfl, ex, T.cl, T.nR, df_room _ _ _, _, rfl, x, C, dx', _, _, rfl, ex, T.cl, T.nG, df_gap _ _ _, (by show 3 ≤ sizeLine; decide), fun L nL => ?_⟩
    have s8 := same_upd (o := .lst [.str nm, .int r, .int g]) nL
    have sh := rowD_shaped (r := r) (g := g) D.nm
    have D8 := D7.same s8
    have ex8 := s8 _ _ ex
    refine ⟨_, rfl, rowD nm r g, rowD nm r g, .lst (SqL.of upd_same) (.cons (.str _) (.cons (.int _) (.cons (.int _) .nil))), .lst (SqL.of D8.row) (.cons (.str _) (.cons (.int _) (.cons (.int _) .nil))), sh, sh, _, rfl, ?_⟩
    rw [SeqAt.eqv_refl _ (SeqAt.canLay_of_shaped sh)]
    refine ⟨_, rfl, x, C, dx', _, _, rfl, ex8, T.cl, T.nR, df_room _ _ _, _, rfl, true, rfl, ?_⟩
    refine ⟨_, rfl, x, C, dx', _, _, rfl, ex8, T.cl, T.nG, df_gap _ _ _, _, rfl, true, rfl, ?_⟩
    refine ⟨_, rfl, x, C, dx', _, _, rfl, ex8, T.cl, T.nN, df_name _ _ _, _, _, _, _, true, rfl, .ty "str", .base (.str _), kit_ty (by decide +kernel), true, rfl, ?_⟩
    have hc0 : 0 ≤ r := by have := D.r1; omega
    have hc1 : r < 1000 := by have := D.r2; omega
    refine ⟨_, rfl, x, dx', _, rfl, ex8, x, nm, r, g, rfl, ⟨dx', ex8⟩, hc0, hc1, r, rfl, hc0, by omega, _, rfl, d, _, _, _, rfl, rfl, SqL.of D8.row, at_of (j := 1) rfl rfl, rfl, _, rfl, ?_⟩
    rw [decV']
    refine ⟨_, rfl, x, dx', _, rfl, ex8, x, nm, r, g, rfl, ⟨dx', ex8⟩, hc0, hc1, r, rfl, hc0, by omega, ?_⟩
    have hne0 : (r != 0) = true := by
      have := D.r1
      simp
      omega
    rw [hne0]
    -- put otherwise
    have t8 := Step.of_same t7.purse s8
    have t58 := ((t5.trans t6).trans t7).trans t8
    refine ⟨6, rfl, by decide, by decide, for_range (lo := 0) (n := 6) (fun j σ H' => ∃ v5 v6 v7 : Option V, σ = [some (.ref a), some (.int (0 + (i : Int))), some (.ref p), some (.ref d), some (.ref x), v5, v6, v7] ∧ Step p H4 H' ∧ DvAt H' d nm r g) ⟨_, _, _, rfl, t58, D8⟩ ?_ ?_⟩
    · rintro j σ H9 hj ⟨v5, v6, v7, rfl, t9, D9⟩
      refine ⟨_, rfl, _, rfl, p, d, nm, r, g, rfl, t9.purse, D9, fun t Th y0 y1 y2 b0 b1 b2 HA tA nT et eT h0 h1 h2 => ?_⟩
      refine ⟨t, _, rfl, SqT.of et, rfl, _, _, rfl, _, _, rfl, rfl, ?_⟩
      refine ⟨_, rfl, _, rfl, p, 3, rfl, by decide, by decide, tA.purse, fun way HB _ _ tB => ?_⟩
      have dT : Th ≠ p := t9.purse.ne nT
      refine ⟨Th, y0, y1, y2, b0, b1, b2, way, rfl, tB.keep _ _ dT eT, h0.step tA.purse tB, h1.step tA.purse tB, h2.step tA.purse tB, fun HC sC => ⟨_, rfl, rfl, _, rfl, ?_⟩⟩
      rw [decV']
      refine ⟨_, _, _, rfl, ((t9.trans tA).trans tB).trans (Step.of_same tB.purse sC), (((D9.step t9.purse tA).step tA.purse tB).same sC)⟩
    · rintro σ H9 ⟨v5, v6, v7, rfl, t9, D9⟩
      exact ⟨_, _, _, _, _, _, _, rfl, fun b o e => t9.keep b o (ne_of_none e npH) (s24 _ _ e)⟩
  · rintro σ H2 ⟨v1, v2, v3, v4, v5, v6, v7, rfl, s2⟩
    exact q H2
end
end Du

set_option Elab.async false
set_option linter.all false
set_option maxRecDepth 100000
namespace Du
open PySem L2
theorem kit_self {K : PySem.W.Frag} {C : Addr} : PySem.W.kitOne K (.ref C) (.ref C) = some true := by
  unfold PySem.W.kitOne
  simp
theorem exm_of {K : PySem.W.Frag} {C c : Addr} {b : Bool} (h1 : PySem.W.subIn K (.ref c) (.type "BaseException") = some true) (h2 : PySem.W.hasDictIn K c = true) (h3 : PySem.W.typeIn K (.ref c) = some (.type "type")) (h4 : PySem.W.subIn K (.ref C) (.ref c) = some b) : PySem.W.exmOne K (.ref C) (.ref c) = some b := by
  obtain ⟨cd, hc, _⟩ := PySem.W.any_some h2
  unfold PySem.W.exmOne PySem.W.kitCls
  rw [h1]
  show (if ((PySem.W.clsIn K c).isSome && PySem.W.typeIn K (.ref c) == some (.type "type")) = true then PySem.W.subIn K (.ref C) (.ref c) else none) = some b
  rw [hc, h3, h4]
  rfl
theorem exm3 {K : PySem.W.Frag} {t c1 c2 c3 : Value} {b2 b3 : Bool} (h1 : PySem.W.exmOne K t c1 = some true) (h2 : PySem.W.exmOne K t c2 = some b2) (h3 : PySem.W.exmOne K t c3 = some b3) : PySem.W.exmAny K t [c1, c2, c3] = some true := by
  unfold PySem.W.exmAny PySem.W.exmAny PySem.W.exmAny PySem.W.exmAny
  rw [h1, h2, h3]
  rfl
set_option maxHeartbeats 4000000 in
theorem all_mk {l : PySem.W.OpenLaw} {w : World} {K : PySem.W.Frag} {h : Heap} {mg : Str → Option Value} {fa : Addr} (X : K.In h) (G : h.Ns mainGlobals mg) (hfa : mg "law" = some (.ref fa))
    {fNu fWT fWD fW fN fHd fA fHs fCe fPu fTa fWo fDr fOn fOw fSo fMa fTo fWl fPt fTw fLa CT fIn DI e0 CD fId fLd CE gT gC gN gL gF gB fE xN xcda xcc : Addr}
    {odNu anNu odWT anWT odWD anWD odW anW odN anN odHd anHd odA anA odHs anHs odCe anCe odPu anPu odTa anTa odWo anWo odDr anDr odOn anOn odOw anOw odSo anSo odMa anMa odTo anTo odWl anWl odPt anPt odTw anTw odLa anLa odIn anIn od0 odId anId odLd anLd xdd xod xan xcdd xcld : Option Addr}
    {slNu slWT slWD slW slN slHd slA slHs slCe slPu slTa slWo slDr slOn slOw slSo slMa slTo slWl slPt slTw slLa slIn sl0 slId slLd xosl xccs xcsl : Array (Option Value)}
    {ocNu kVNu dcNu pmNu cdNu ctNu ocWT kVWT dcWT pmWT cdWT ctWT ocWD kVWD dcWD pmWD cdWD ctWD ocW kVW dcW pmW cdW ctW ocN kVN dcN pmN cdN ctN ocHd kVHd dcHd pmHd cdHd ctHd ocA kVA dcA pmA cdA ctA ocHs kVHs dcHs pmHs cdHs ctHs ocCe kVCe dcCe pmCe cdCe ctCe ocPu kVPu dcPu pmPu cdPu ctPu ocTa kVTa dcTa pmTa cdTa ctTa ocWo kVWo dcWo pmWo cdWo ctWo ocDr kVDr dcDr pmDr cdDr ctDr ocOn kVOn dcOn pmOn cdOn ctOn ocOw kVOw dcOw pmOw cdOw ctOw ocSo kVSo dcSo pmSo cdSo ctSo ocMa kVMa dcMa pmMa cdMa ctMa ocTo kVTo dcTo pmTo cdTo ctTo ocWl kVWl dcWl pmWl cdWl ctWl ocPt kVPt dcPt pmPt cdPt ctPt ocTw kVTw dcTw pmTw cdTw ctTw ocLa kVLa dcLa pmLa cdLa ctLa ocIn dcIn pmIn cdIn ctIn ocId kVId dcId pmId cdId ctId ocLd kVLd dcLd pmLd cdLd ctLd xoc xdoc xpm xct xccl xcl2 : Value}
    {n0 : Nat}
    {w1 w2 w3 w4 w5 xtf : Tok}
    {xnm xq xfile : Str}
    {xbs xbm xsub : List Value}
    {xsn : List Str}
    {xab : Bool}
    {xcol : Option Bool}
    {xk0 xk1 xk2 xk3 xk5 : Option Value}
    {xvs : Array Value}
    (aNu : PySem.W.nsIn K mainGlobals "is_number" = some (some (.ref fNu)))
    (lNu : K.lookup fNu = some ⟨ocNu, odNu, .func (PySem.W.fnOf "is_number" "is_number" (defArgs sNumber) (defBody sNumber) (defScope sNumber) .none kVNu dcNu pmNu anNu cdNu ctNu), slNu⟩)
    (cNu : PySem.W.codeIn K cdNu "is_number" = true)
    (kNu : PySem.W.keepIn K (.ref fNu) = true)
    (aWT : PySem.W.nsIn K mainGlobals "wrong_in_task" = some (some (.ref fWT)))
    (lWT : K.lookup fWT = some ⟨ocWT, odWT, .func (PySem.W.fnOf "wrong_in_task" "wrong_in_task" (defArgs sWrongT) (defBody sWrongT) (defScope sWrongT) .none kVWT dcWT pmWT anWT cdWT ctWT), slWT⟩)
    (cWT : PySem.W.codeIn K cdWT "wrong_in_task" = true)
    (kWT : PySem.W.keepIn K (.ref fWT) = true)
    (aWD : PySem.W.nsIn K mainGlobals "wrong_in_door" = some (some (.ref fWD)))
    (lWD : K.lookup fWD = some ⟨ocWD, odWD, .func (PySem.W.fnOf "wrong_in_door" "wrong_in_door" (defArgs sWrongD) (defBody sWrongD) (defScope sWrongD) .none kVWD dcWD pmWD anWD cdWD ctWD), slWD⟩)
    (cWD : PySem.W.codeIn K cdWD "wrong_in_door" = true)
    (kWD : PySem.W.keepIn K (.ref fWD) = true)
    (aW : PySem.W.nsIn K mainGlobals "is_whole" = some (some (.ref fW)))
    (lW : K.lookup fW = some ⟨ocW, odW, .func (PySem.W.fnOf "is_whole" "is_whole" (defArgs sWhole) (defBody sWhole) (defScope sWhole) .none kVW dcW pmW anW cdW ctW), slW⟩)
    (cW : PySem.W.codeIn K cdW "is_whole" = true)
    (kW : PySem.W.keepIn K (.ref fW) = true)
    (aN : PySem.W.nsIn K mainGlobals "is_name" = some (some (.ref fN)))
    (lN : K.lookup fN = some ⟨ocN, odN, .func (PySem.W.fnOf "is_name" "is_name" (defArgs sName) (defBody sName) (defScope sName) .none kVN dcN pmN anN cdN ctN), slN⟩)
    (cN : PySem.W.codeIn K cdN "is_name" = true)
    (kN : PySem.W.keepIn K (.ref fN) = true)
    (aHd : PySem.W.nsIn K mainGlobals "is_hold" = some (some (.ref fHd)))
    (lHd : K.lookup fHd = some ⟨ocHd, odHd, .func (PySem.W.fnOf "is_hold" "is_hold" (defArgs sHold) (defBody sHold) (defScope sHold) .none kVHd dcHd pmHd anHd cdHd ctHd), slHd⟩)
    (cHd : PySem.W.codeIn K cdHd "is_hold" = true)
    (kHd : PySem.W.keepIn K (.ref fHd) = true)
    (aA : PySem.W.nsIn K mainGlobals "goes_ahead" = some (some (.ref fA)))
    (lA : K.lookup fA = some ⟨ocA, odA, .func (PySem.W.fnOf "goes_ahead" "goes_ahead" (defArgs sAhead) (defBody sAhead) (defScope sAhead) .none kVA dcA pmA anA cdA ctA), slA⟩)
    (cA : PySem.W.codeIn K cdA "goes_ahead" = true)
    (kA : PySem.W.keepIn K (.ref fA) = true)
    (aHs : PySem.W.nsIn K mainGlobals "are_holds" = some (some (.ref fHs)))
    (lHs : K.lookup fHs = some ⟨ocHs, odHs, .func (PySem.W.fnOf "are_holds" "are_holds" (defArgs sHolds) (defBody sHolds) (defScope sHolds) .none kVHs dcHs pmHs anHs cdHs ctHs), slHs⟩)
    (cHs : PySem.W.codeIn K cdHs "are_holds" = true)
    (kHs : PySem.W.keepIn K (.ref fHs) = true)
    (aCe : PySem.W.nsIn K mainGlobals "_law_cell" = some (some (.ref fCe)))
    (lCe : K.lookup fCe = some ⟨ocCe, odCe, .func (PySem.W.fnOf "_law_cell" "_law_cell" (defArgs sCell) (defBody sCell) (defScope sCell) .none kVCe dcCe pmCe anCe cdCe ctCe), slCe⟩)
    (cCe : PySem.W.codeIn K cdCe "_law_cell" = true)
    (kCe : PySem.W.keepIn K (.ref fCe) = true)
    (aPu : PySem.W.nsIn K mainGlobals "_law_purse" = some (some (.ref fPu)))
    (lPu : K.lookup fPu = some ⟨ocPu, odPu, .func (PySem.W.fnOf "_law_purse" "_law_purse" (defArgs sPurse) (defBody sPurse) (defScope sPurse) .none kVPu dcPu pmPu anPu cdPu ctPu), slPu⟩)
    (cPu : PySem.W.codeIn K cdPu "_law_purse" = true)
    (kPu : PySem.W.keepIn K (.ref fPu) = true)
    (aTa : PySem.W.nsIn K mainGlobals "_law_take" = some (some (.ref fTa)))
    (lTa : K.lookup fTa = some ⟨ocTa, odTa, .func (PySem.W.fnOf "_law_take" "_law_take" (defArgs sTake) (defBody sTake) (defScope sTake) .none kVTa dcTa pmTa anTa cdTa ctTa), slTa⟩)
    (cTa : PySem.W.codeIn K cdTa "_law_take" = true)
    (kTa : PySem.W.keepIn K (.ref fTa) = true)
    (aWo : PySem.W.nsIn K mainGlobals "_law_words" = some (some (.ref fWo)))
    (lWo : K.lookup fWo = some ⟨ocWo, odWo, .func (PySem.W.fnOf "_law_words" "_law_words" (defArgs sWords) (defBody sWords) (defScope sWords) .none kVWo dcWo pmWo anWo cdWo ctWo), slWo⟩)
    (cWo : PySem.W.codeIn K cdWo "_law_words" = true)
    (kWo : PySem.W.keepIn K (.ref fWo) = true)
    (aDr : PySem.W.nsIn K mainGlobals "_law_drawn" = some (some (.ref fDr)))
    (lDr : K.lookup fDr = some ⟨ocDr, odDr, .func (PySem.W.fnOf "_law_drawn" "_law_drawn" (defArgs sDrawn) (defBody sDrawn) (defScope sDrawn) .none kVDr dcDr pmDr anDr cdDr ctDr), slDr⟩)
    (cDr : PySem.W.codeIn K cdDr "_law_drawn" = true)
    (kDr : PySem.W.keepIn K (.ref fDr) = true)
    (aOn : PySem.W.nsIn K mainGlobals "_law_odd_names" = some (some (.ref fOn)))
    (lOn : K.lookup fOn = some ⟨ocOn, odOn, .func (PySem.W.fnOf "_law_odd_names" "_law_odd_names" (defArgs sOddN) (defBody sOddN) (defScope sOddN) .none kVOn dcOn pmOn anOn cdOn ctOn), slOn⟩)
    (cOn : PySem.W.codeIn K cdOn "_law_odd_names" = true)
    (kOn : PySem.W.keepIn K (.ref fOn) = true)
    (aOw : PySem.W.nsIn K mainGlobals "_law_odd_numbers" = some (some (.ref fOw)))
    (lOw : K.lookup fOw = some ⟨ocOw, odOw, .func (PySem.W.fnOf "_law_odd_numbers" "_law_odd_numbers" (defArgs sOddW) (defBody sOddW) (defScope sOddW) .none kVOw dcOw pmOw anOw cdOw ctOw), slOw⟩)
    (cOw : PySem.W.codeIn K cdOw "_law_odd_numbers" = true)
    (kOw : PySem.W.keepIn K (.ref fOw) = true)
    (aSo : PySem.W.nsIn K mainGlobals "_law_sort" = some (some (.ref fSo)))
    (lSo : K.lookup fSo = some ⟨ocSo, odSo, .func (PySem.W.fnOf "_law_sort" "_law_sort" (defArgs sSort) (defBody sSort) (defScope sSort) .none kVSo dcSo pmSo anSo cdSo ctSo), slSo⟩)
    (cSo : PySem.W.codeIn K cdSo "_law_sort" = true)
    (kSo : PySem.W.keepIn K (.ref fSo) = true)
    (aMa : PySem.W.nsIn K mainGlobals "_law_made" = some (some (.ref fMa)))
    (lMa : K.lookup fMa = some ⟨ocMa, odMa, .func (PySem.W.fnOf "_law_made" "_law_made" (defArgs sMade) (defBody sMade) (defScope sMade) .none kVMa dcMa pmMa anMa cdMa ctMa), slMa⟩)
    (cMa : PySem.W.codeIn K cdMa "_law_made" = true)
    (kMa : PySem.W.keepIn K (.ref fMa) = true)
    (aTo : PySem.W.nsIn K mainGlobals "_law_told" = some (some (.ref fTo)))
    (lTo : K.lookup fTo = some ⟨ocTo, odTo, .func (PySem.W.fnOf "_law_told" "_law_told" (defArgs sTold) (defBody sTold) (defScope sTold) .none kVTo dcTo pmTo anTo cdTo ctTo), slTo⟩)
    (cTo : PySem.W.codeIn K cdTo "_law_told" = true)
    (kTo : PySem.W.keepIn K (.ref fTo) = true)
    (aWl : PySem.W.nsIn K mainGlobals "_law_whole" = some (some (.ref fWl)))
    (lWl : K.lookup fWl = some ⟨ocWl, odWl, .func (PySem.W.fnOf "_law_whole" "_law_whole" (defArgs sWholeL) (defBody sWholeL) (defScope sWholeL) .none kVWl dcWl pmWl anWl cdWl ctWl), slWl⟩)
    (cWl : PySem.W.codeIn K cdWl "_law_whole" = true)
    (kWl : PySem.W.keepIn K (.ref fWl) = true)
    (aPt : PySem.W.nsIn K mainGlobals "_law_put_otherwise" = some (some (.ref fPt)))
    (lPt : K.lookup fPt = some ⟨ocPt, odPt, .func (PySem.W.fnOf "_law_put_otherwise" "_law_put_otherwise" (defArgs sPut) (defBody sPut) (defScope sPut) .none kVPt dcPt pmPt anPt cdPt ctPt), slPt⟩)
    (cPt : PySem.W.codeIn K cdPt "_law_put_otherwise" = true)
    (kPt : PySem.W.keepIn K (.ref fPt) = true)
    (aTw : PySem.W.nsIn K mainGlobals "_law_twins_right" = some (some (.ref fTw)))
    (lTw : K.lookup fTw = some ⟨ocTw, odTw, .func (PySem.W.fnOf "_law_twins_right" "_law_twins_right" (defArgs sTwins) (defBody sTwins) (defScope sTwins) .none kVTw dcTw pmTw anTw cdTw ctTw), slTw⟩)
    (cTw : PySem.W.codeIn K cdTw "_law_twins_right" = true)
    (kTw : PySem.W.keepIn K (.ref fTw) = true)
    (aLa : PySem.W.nsIn K mainGlobals "law" = some (some (.ref fLa)))
    (lLa : K.lookup fLa = some ⟨ocLa, odLa, .func (PySem.W.fnOf "law" "law" (defArgs sLaw) (defBody sLaw) (defScope sLaw) .none kVLa dcLa pmLa anLa cdLa ctLa), slLa⟩)
    (cLa : PySem.W.codeIn K cdLa "law" = true)
    (kLa : PySem.W.keepIn K (.ref fLa) = true)
    (aC : PySem.W.nsIn K mainGlobals "Task" = some (some (.ref CT)))
    (aIn : PySem.W.findIn K (.ref CT) "__init__" = some (some (.ref fIn)))
    (lIn : K.lookup fIn = some ⟨ocIn, odIn, .func (PySem.W.fnOf "__init__" "Task.__init__" (defArgs sInit) (defBody sInit) (defScope sInit) .none (.ref DI) dcIn pmIn anIn cdIn ctIn), slIn⟩)
    (cIn : PySem.W.codeIn K cdIn "Task.__init__" = true)
    (kIn : PySem.W.keepIn K (.ref fIn) = true)
    (iIn : PySem.W.isFn K (.ref fIn) = true)
    (q1 : PySem.W.nsIn K DI "due" = some (some .none))
    (q2 : PySem.W.nsIn K DI "holds" = some (some (.ref e0)))
    (q3 : K.lookup e0 = some ⟨.type "tuple", od0, .seq #[] n0, sl0⟩)
    (tg : PySem.W.specialIn K (.builtin "object.__class__") "__get__" = some (some (.builtin "getset_descriptor.__get__")))
    (tt : PySem.W.takesIn K (.builtin "object.__class__") = some true)
    (t_pg : PySem.W.plainGet K CT Str.empty = true)
    (t_hd : PySem.W.hasDictIn K CT = true)
    (t_po : PySem.W.plainOver K CT = true)
    (t_sa : PySem.W.findIn K (.ref CT) "__setattr__" = some (some (.builtin "object.__setattr__")))
    (t_mk : PySem.W.makesIn K CT = true)
    (t_kc : PySem.W.keepIn K (.ref CT) = true)
    (t_nN : PySem.W.findIn K (.ref CT) "name" = some none)
    (t_nC : PySem.W.findIn K (.ref CT) "cost" = some none)
    (t_nG : PySem.W.findIn K (.ref CT) "gap" = some none)
    (t_nD : PySem.W.findIn K (.ref CT) "due" = some none)
    (t_nH : PySem.W.findIn K (.ref CT) "holds" = some none)
    (t_tc : PySem.W.findIn K (.ref CT) "__class__" = some (some (.builtin "object.__class__")))
    (t_tm : PySem.W.mroIn K CT (.type "object") = some true)
    (t_kS : PySem.W.kitOne K (.ref CT) (.type "str") = some false)
    (t_kI : PySem.W.kitOne K (.ref CT) (.type "int") = some false)
    (aD : PySem.W.nsIn K mainGlobals "Door" = some (some (.ref CD)))
    (aId : PySem.W.findIn K (.ref CD) "__init__" = some (some (.ref fId)))
    (lId : K.lookup fId = some ⟨ocId, odId, .func (PySem.W.fnOf "__init__" "Door.__init__" (defArgs sDInit) (defBody sDInit) (defScope sDInit) .none kVId dcId pmId anId cdId ctId), slId⟩)
    (cId : PySem.W.codeIn K cdId "Door.__init__" = true)
    (kId : PySem.W.keepIn K (.ref fId) = true)
    (iId : PySem.W.isFn K (.ref fId) = true)
    (aLd : PySem.W.findIn K (.ref CD) "__len__" = some (some (.ref fLd)))
    (lLd : K.lookup fLd = some ⟨ocLd, odLd, .func (PySem.W.fnOf "__len__" "Door.__len__" (defArgs sDLen) (defBody sDLen) (defScope sDLen) .none kVLd dcLd pmLd anLd cdLd ctLd), slLd⟩)
    (cLd : PySem.W.codeIn K cdLd "Door.__len__" = true)
    (kLd : PySem.W.keepIn K (.ref fLd) = true)
    (iLd : PySem.W.isFn K (.ref fLd) = true)
    (d_pg : PySem.W.plainGet K CD Str.empty = true)
    (d_hd : PySem.W.hasDictIn K CD = true)
    (d_po : PySem.W.plainOver K CD = true)
    (d_sa : PySem.W.findIn K (.ref CD) "__setattr__" = some (some (.builtin "object.__setattr__")))
    (d_mk : PySem.W.makesIn K CD = true)
    (d_kc : PySem.W.keepIn K (.ref CD) = true)
    (d_nN : PySem.W.findIn K (.ref CD) "name" = some none)
    (d_nR : PySem.W.findIn K (.ref CD) "room" = some none)
    (d_nG : PySem.W.findIn K (.ref CD) "gap" = some none)
    (d_tc : PySem.W.findIn K (.ref CD) "__class__" = some (some (.builtin "object.__class__")))
    (d_tm : PySem.W.mroIn K CD (.type "object") = some true)
    (d_kS : PySem.W.kitOne K (.ref CD) (.type "str") = some false)
    (d_kI : PySem.W.kitOne K (.ref CD) (.type "int") = some false)
    (sb : PySem.W.findIn K (.ref CD) "__bool__" = some none)
    (v1 : PySem.W.nsIn K mainGlobals "LETTERS" = some (some (.str "abcdefghijklmnopqrstuvwxyz" w1)))
    (v2 : PySem.W.nsIn K mainGlobals "MOST_LETTERS" = some (some (.int 8 w2)))
    (v3 : PySem.W.nsIn K mainGlobals "MOST_COST" = some (some (.int 99 w3)))
    (v4 : PySem.W.nsIn K mainGlobals "MOST_GAP" = some (some (.int 600 w4)))
    (v5 : PySem.W.nsIn K mainGlobals "MOST_HOLDS" = some (some (.int 4 w5)))
    (e_CE : PySem.W.nsIn K mainGlobals "NoDoor" = some (some (.ref CE)))
    (e_gT : PySem.W.nsIn K mainGlobals "NoTask" = some (some (.ref gT)))
    (e_gC : PySem.W.nsIn K mainGlobals "NoCrew" = some (some (.ref gC)))
    (e_gN : PySem.W.nsIn K mainGlobals "NoNumber" = some (some (.ref gN)))
    (e_gL : PySem.W.nsIn K mainGlobals "LostError" = some (some (.ref gL)))
    (e_gF : PySem.W.nsIn K mainGlobals "FullError" = some (some (.ref gF)))
    (e_gB : PySem.W.nsIn K mainGlobals "TimeError" = some (some (.ref gB)))
    (x_iC : PySem.W.findIn K (.ref CE) "__init__" = some (some (.ref fE)))
    (x_cl : K.lookup CE = some (PySem.excClassObj xnm xq CE xN xbs xbm true xsn xsub xab xcol xdd xk0 xk1 xk2 xk3 xk5 "ValueError.__new__"))
    (x_ve : PySem.HandSPX.refsVE xbm = true)
    (x_sa : PySem.W.findIn K (.ref CE) "__setattr__" = some (some (.builtin "object.__setattr__")))
    (x_ga : PySem.W.findIn K (.ref CE) "__getattribute__" = some (some (.builtin "BaseException.__getattribute__")))
    (x_gg : PySem.W.findIn K (.ref CE) "__getattr__" = some none)
    (x_no : PySem.W.findIn K (.ref CE) "part" = some none)
    (x_tC : PySem.W.typeIn K (.ref fE) = some (.type "function"))
    (x_kC : PySem.W.keepIn K (.ref CE) = true)
    (x_ex : PySem.W.subIn K (.ref CE) (.type "BaseException") = some true)
    (x_vs : PySem.W.subIn K (.ref CE) (.type "ValueError") = some true)
    (x_ty : PySem.W.typeIn K (.ref CE) = some (.type "type"))
    (x_hd : PySem.W.hasDictIn K CE = true)
    (x_mr : PySem.W.mroIn K CE (.ref CE) = some true)
    (x_su : PySem.W.ks_superIn K CE CE "__init__" = some (some (.builtin "ValueError.__init__")))
    (x_an : PySem.W.nsIn K cStatics "thirdparty.any" = some none)
    (x_tp : (l.prog.main.scope.names.lookup ("super" : Str)).isSome = false)
    (x_fn : K.lookup fE = some ⟨xoc, xod, .func (PySem.W.ksFn "__init__" "NoDoor.__init__" (defArgs sNoTask) (defBody sNoTask) (defScope sNoTask) .none .none xdoc xpm xan (.ref xcda) xct xcc), xosl⟩)
    (x_co : PySem.W.codeIn K (.ref xcda) "NoDoor.__init__" = true)
    (x_cd : K.lookup xcda = some ⟨xccl, xcdd, .fields xvs, xccs⟩)
    (x_v2 : xvs[2]? = some (.str xfile xtf))
    (x_fi : ((l.prog.main.file : Str) == xfile) = true)
    (x_ce : K.lookup xcc = some ⟨xcl2, xcld, .cell (some (.ref CE)), xcsl⟩)
    (x_tc : PySem.W.findIn K (.ref CE) "__class__" = some (some (.builtin "object.__class__")))
    (x_tm : PySem.W.mroIn K CE (.type "object") = some true)
    (s_no : PySem.W.kitAny K (.ref CE) [.ref gT, .ref gC, .ref gN, .ref gL, .ref gF, .type "LookupError", .type "ArithmeticError"] = some false)
    (s_2 : PySem.W.kitOne K (.ref CE) (.ref gB) = some true)
    (s_3 : PySem.W.kitOne K (.ref CE) (.type "ValueError") = some true)
    (b_gB : PySem.W.subIn K (.ref gB) (.type "BaseException") = some true)
    (h_gB : PySem.W.hasDictIn K gB = true)
    (y_gB : PySem.W.typeIn K (.ref gB) = some (.type "type"))
    (u_gB : PySem.W.subIn K (.ref CE) (.ref gB) = some true)
    (b_gL : PySem.W.subIn K (.ref gL) (.type "BaseException") = some true)
    (h_gL : PySem.W.hasDictIn K gL = true)
    (y_gL : PySem.W.typeIn K (.ref gL) = some (.type "type"))
    (u_gL : PySem.W.subIn K (.ref CE) (.ref gL) = some false)
    (b_gF : PySem.W.subIn K (.ref gF) (.type "BaseException") = some true)
    (h_gF : PySem.W.hasDictIn K gF = true)
    (y_gF : PySem.W.typeIn K (.ref gF) = some (.type "type"))
    (u_gF : PySem.W.subIn K (.ref CE) (.ref gF) = some false)
    (z_isinstance : PySem.W.nsIn K mainGlobals "isinstance" = some none)
    (z_int : PySem.W.nsIn K mainGlobals "int" = some none)
    (z_bool : PySem.W.nsIn K mainGlobals "bool" = some none)
    (z_str : PySem.W.nsIn K mainGlobals "str" = some none)
    (z_tuple : PySem.W.nsIn K mainGlobals "tuple" = some none)
    (z_len : PySem.W.nsIn K mainGlobals "len" = some none)
    (z_all : PySem.W.nsIn K mainGlobals "all" = some none)
    (z_zip : PySem.W.nsIn K mainGlobals "zip" = some none)
    (z_range : PySem.W.nsIn K mainGlobals "range" = some none)
    (z_abs : PySem.W.nsIn K mainGlobals "abs" = some none)
    (z_max : PySem.W.nsIn K mainGlobals "max" = some none)
    (z_min : PySem.W.nsIn K mainGlobals "min" = some none)
    (z_list : PySem.W.nsIn K mainGlobals "list" = some none)
    (z_super : PySem.W.nsIn K mainGlobals "super" = some none)
    (z_LookupError : PySem.W.nsIn K mainGlobals "LookupError" = some none)
    (z_ArithmeticError : PySem.W.nsIn K mainGlobals "ArithmeticError" = some none)
    (z_ValueError : PySem.W.nsIn K mainGlobals "ValueError" = some none)
    : ∃ fd : FuncData, (∀ (s : Shared) (v : Value), BindsTo s fd ⟨[v], []⟩ [("_law_script", v)]) ∧ ∀ base : Heap, K.In base → base.Ns mainGlobals mg → LawOk l.prog w K mg base fa fd "_law_script" (spLaw K) := by
  have e := hfa.symm.trans (PySem.W.mg_of X G aLa)
  cases e
  have m_isinstance := PySem.W.mg_none_of X G z_isinstance
  have m_int := PySem.W.mg_none_of X G z_int
  have m_bool := PySem.W.mg_none_of X G z_bool
  have m_str := PySem.W.mg_none_of X G z_str
  have m_tuple := PySem.W.mg_none_of X G z_tuple
  have m_len := PySem.W.mg_none_of X G z_len
  have m_all := PySem.W.mg_none_of X G z_all
  have m_zip := PySem.W.mg_none_of X G z_zip
  have m_range := PySem.W.mg_none_of X G z_range
  have m_abs := PySem.W.mg_none_of X G z_abs
  have m_max := PySem.W.mg_none_of X G z_max
  have m_min := PySem.W.mg_none_of X G z_min
  have m_list := PySem.W.mg_none_of X G z_list
  have m_super := PySem.W.mg_none_of X G z_super
  have m_LookupError := PySem.W.mg_none_of X G z_LookupError
  have m_ArithmeticError := PySem.W.mg_none_of X G z_ArithmeticError
  have m_ValueError := PySem.W.mg_none_of X G z_ValueError
  have FNu := fun_mk (st := sNumber) lNu cNu kNu
  have bNu := FNu.binds (ps := ["thing"]) fun _ _ _ _ _ _ us hl => match us, hl with | [_], _ => rfl
  have FWT := fun_mk (st := sWrongT) lWT cWT kWT
  have bWT := FWT.binds (ps := ["name", "cost", "gap", "due", "holds"]) fun _ _ _ _ _ _ us hl => match us, hl with | [_, _, _, _, _], _ => rfl
  have FWD := fun_mk (st := sWrongD) lWD cWD kWD
  have bWD := FWD.binds (ps := ["name", "room", "gap"]) fun _ _ _ _ _ _ us hl => match us, hl with | [_, _, _], _ => rfl
  have FW := fun_mk (st := sWhole) lW cW kW
  have bW := FW.binds (ps := ["thing", "least", "most"]) fun _ _ _ _ _ _ us hl => match us, hl with | [_, _, _], _ => rfl
  have FN := fun_mk (st := sName) lN cN kN
  have bN := FN.binds (ps := ["thing"]) fun _ _ _ _ _ _ us hl => match us, hl with | [_], _ => rfl
  have FHd := fun_mk (st := sHold) lHd cHd kHd
  have bHd := FHd.binds (ps := ["thing", "cost"]) fun _ _ _ _ _ _ us hl => match us, hl with | [_, _], _ => rfl
  have FA := fun_mk (st := sAhead) lA cA kA
  have bA := FA.binds (ps := ["hold", "other"]) fun _ _ _ _ _ _ us hl => match us, hl with | [_, _], _ => rfl
  have FHs := fun_mk (st := sHolds) lHs cHs kHs
  have bHs := FHs.binds (ps := ["thing", "cost"]) fun _ _ _ _ _ _ us hl => match us, hl with | [_, _], _ => rfl
  have FCe := fun_mk (st := sCell) lCe cCe kCe
  have bCe := FCe.binds (ps := ["_law_script", "_law_k"]) fun _ _ _ _ _ _ us hl => match us, hl with | [_, _], _ => rfl
  have FPu := fun_mk (st := sPurse) lPu cPu kPu
  have bPu := FPu.binds (ps := ["_law_cell_here"]) fun _ _ _ _ _ _ us hl => match us, hl with | [_], _ => rfl
  have FTa := fun_mk (st := sTake) lTa cTa kTa
  have bTa := FTa.binds (ps := ["_law_purse_here", "_law_many"]) fun _ _ _ _ _ _ us hl => match us, hl with | [_, _], _ => rfl
  have FWo := fun_mk (st := sWords) lWo cWo kWo
  have bWo := FWo.binds (ps := ["_law_purse_here", "_law_many"]) fun _ _ _ _ _ _ us hl => match us, hl with | [_, _], _ => rfl
  have FDr := fun_mk (st := sDrawn) lDr cDr kDr
  have bDr := FDr.binds (ps := ["_law_purse_here"]) fun _ _ _ _ _ _ us hl => match us, hl with | [_], _ => rfl
  have FOn := fun_mk (st := sOddN) lOn cOn kOn
  have bOn := FOn.binds (ps := []) fun _ _ _ _ _ _ us hl => match us, hl with | [], _ => rfl
  have FOw := fun_mk (st := sOddW) lOw cOw kOw
  have bOw := FOw.binds (ps := ["_law_top"]) fun _ _ _ _ _ _ us hl => match us, hl with | [_], _ => rfl
  have FSo := fun_mk (st := sSort) lSo cSo kSo
  have bSo := FSo.binds (ps := ["_law_e"]) fun _ _ _ _ _ _ us hl => match us, hl with | [_], _ => rfl
  have FMa := fun_mk (st := sMade) lMa cMa kMa
  have bMa := FMa.binds (ps := ["_law_things", "_law_way"]) fun _ _ _ _ _ _ us hl => match us, hl with | [_, _], _ => rfl
  have FTo := fun_mk (st := sTold) lTo cTo kTo
  have bTo := FTo.binds (ps := ["_law_things", "_law_way"]) fun _ _ _ _ _ _ us hl => match us, hl with | [_, _], _ => rfl
  have FWl := fun_mk (st := sWholeL) lWl cWl kWl
  have bWl := FWl.binds (ps := ["_law_thing"]) fun _ _ _ _ _ _ us hl => match us, hl with | [_], _ => rfl
  have FPt := fun_mk (st := sPut) lPt cPt kPt
  have bPt := FPt.binds (ps := ["_law_purse_here", "_law_drawn_here"]) fun _ _ _ _ _ _ us hl => match us, hl with | [_, _], _ => rfl
  have FTw := fun_mk (st := sTwins) lTw cTw kTw
  have bTw := FTw.binds (ps := []) fun _ _ _ _ _ _ us hl => match us, hl with | [], _ => rfl
  have FLa := fun_mk (st := sLaw) lLa cLa kLa
  have FId := fun_mk (st := sDInit) lId cId kId
  have FLd := fun_mk (st := sDLen) lLd cLd kLd
  have bLd := FLd.binds (ps := ["self"]) fun _ _ _ _ _ _ us hl => match us, hl with | [_], _ => rfl
  have FI : FunI K e0 fIn _ := ⟨⟨_, _, _, _, _, _, _, _, _, _, rfl, lIn, cIn, .inl ⟨rfl, rfl⟩, .inr ⟨DI, rfl, fun q hq => by
    rcases List.mem_cons.mp hq with rfl | hq
    · exact ⟨_, q1, rfl⟩
    · rw [List.mem_singleton.mp hq]
      exact ⟨_, q2, rfl⟩⟩⟩, kIn⟩
  have hE : ∀ H : Hp, SqT K H e0 [] := fun H => .inr ⟨_, #[], _, q3, rfl, rfl, Nat.zero_le _, .nil⟩
  have T : TaskC K mg CT := ⟨⟨t_pg, t_hd, t_po, t_sa⟩, t_nN, t_nC, t_nG, t_nD, t_nH, PySem.W.mg_of X G aC, t_tc, tg, tt, t_tm, kit_self⟩
  have TD : DoorC K mg CD := ⟨⟨d_pg, d_hd, d_po, d_sa⟩, d_nN, d_nR, d_nG, PySem.W.mg_of X G aD, d_tc, tg, tt, d_tm⟩
  have MT : Mk K CT fIn := ⟨t_mk, aIn, iIn, t_kc⟩
  have MD : Mk K CD fId := ⟨d_mk, aId, iId, d_kc⟩
  have EC : ErrC l.prog K mg "NoDoor" "part" "NoDoor.__init__" sNoTask CE fE := ⟨PySem.W.mg_of X G e_CE, ⟨_, _, _, _, _, _, _, _, _, _, _, _, _, _, _, x_cl, x_ve⟩, x_sa, x_ga, x_gg, x_no, x_iC, x_tC, x_kC, x_ex, x_vs, x_ty, x_hd, x_mr, x_su, x_an, x_tp, m_super,
    ⟨_, _, _, _, _, _, _, _, _, _, _, _, _, _, _, _, _, _, x_fn, x_co, x_cd, x_v2, x_fi, x_ce⟩⟩
  have ER : Err l.prog w K mg "NoDoor" "part" CE := err_of EC
  have ES : ErrS K mg CE gT gC gN gL gF gB := ⟨PySem.W.mg_of X G e_gT, PySem.W.mg_of X G e_gC, PySem.W.mg_of X G e_gN, PySem.W.mg_of X G e_gL, PySem.W.mg_of X G e_gF, PySem.W.mg_of X G e_gB, PySem.W.mg_of X G e_CE, m_LookupError, m_ArithmeticError, m_ValueError, m_isinstance,
    ⟨x_ga, x_gg, x_ex, x_hd, x_tc, tg, tt, x_tm⟩, s_no, kit_self, s_2, s_3, x_no, exm3 (exm_of b_gB h_gB y_gB u_gB) (exm_of b_gL h_gL y_gL u_gL) (exm_of b_gF h_gF y_gF u_gF)⟩
  refine ⟨PySem.W.fnOf "law" "law" (defArgs sLaw) (defBody sLaw) (defScope sLaw) .none kVLa dcLa pmLa anLa cdLa ctLa, fun s v => .of_eq rfl, fun base _ _ => ?_⟩
  have DU : Dn l.prog w K mg base 1 "is_number" ["thing"] (spNumber K) := ⟨_, _, ok_number FNu m_isinstance m_int m_bool, PySem.W.mg_of X G aNu, kNu, bNu⟩
  have DW : Dn l.prog w K mg base 2 "is_whole" ["thing", "least", "most"] (spWhole K) := ⟨_, _, ok_whole FW DU, PySem.W.mg_of X G aW, kW, bW⟩
  have DN : Dn l.prog w K mg base 2 "is_name" ["thing"] (spName K) := ⟨_, _, ok_name FN m_isinstance m_str m_len m_all ⟨_, PySem.W.mg_of X G v2⟩ ⟨_, PySem.W.mg_of X G v1⟩, PySem.W.mg_of X G aN, kN, bN⟩
  have DHd : Dn l.prog w K mg base 3 "is_hold" ["thing", "cost"] (spHold K) := ⟨_, _, ok_hold FHd m_isinstance m_tuple m_len DN DW, PySem.W.mg_of X G aHd, kHd, bHd⟩
  have DA : Dn l.prog w K mg base 2 "goes_ahead" ["hold", "other"] (spAhead K) := ⟨_, _, ok_ahead FA, PySem.W.mg_of X G aA, kA, bA⟩
  have DHs : Dn l.prog w K mg base 4 "are_holds" ["thing", "cost"] (spHolds K) := ⟨_, _, ok_holds FHs m_isinstance m_tuple m_len m_all m_zip ⟨_, PySem.W.mg_of X G v5⟩ DHd DA, PySem.W.mg_of X G aHs, kHs, bHs⟩
  have DWT : Dn l.prog w K mg base 5 "wrong_in_task" ["name", "cost", "gap", "due", "holds"] (spWrongT K) := ⟨_, _, ok_wrongT FWT ⟨_, PySem.W.mg_of X G v3⟩ ⟨_, PySem.W.mg_of X G v4⟩ DN DW DHs, PySem.W.mg_of X G aWT, kWT, bWT⟩
  have DWD : Dn l.prog w K mg base 3 "wrong_in_door" ["name", "room", "gap"] (spWrongD K) := ⟨_, _, ok_wrongD FWD ⟨_, PySem.W.mg_of X G v3⟩ ⟨_, PySem.W.mg_of X G v4⟩ DN DW, PySem.W.mg_of X G aWD, kWD, bWD⟩
  have DCe : Dn l.prog w K mg base 3 "_law_cell" ["_law_script", "_law_k"] (spCellL K) := ⟨_, _, ok_cell FCe m_len, PySem.W.mg_of X G aCe, kCe, bCe⟩
  have DPu : Dn l.prog w K mg base 3 "_law_purse" ["_law_cell_here"] spPurse := ⟨_, _, ok_purse FPu m_abs, PySem.W.mg_of X G aPu, kPu, bPu⟩
  have DTa : Dn l.prog w K mg base 3 "_law_take" ["_law_purse_here", "_law_many"] spTake := ⟨_, _, ok_take FTa, PySem.W.mg_of X G aTa, kTa, bTa⟩
  have DWo : Dn l.prog w K mg base 4 "_law_words" ["_law_purse_here", "_law_many"] spWords := ⟨_, _, ok_words FWo m_len m_range DTa, PySem.W.mg_of X G aWo, kWo, bWo⟩
  have DDr : Dn l.prog w K mg base 5 "_law_drawn" ["_law_purse_here"] spDrawn := ⟨_, _, ok_drawn FDr DTa DWo, PySem.W.mg_of X G aDr, kDr, bDr⟩
  have TM : TaskM l.prog w K mg base CT := ⟨T, t_kS, e0, fIn, _, FI, MT, ok_init FI T DWT, hE⟩
  have DM : DoorM l.prog w K mg base CD CE := ⟨TD, d_kS, d_kI, fId, _, FId, MD, ok_dinit (funD_of FId) TD ER DWD⟩
  have DS : DoorS l.prog w K mg base CD := ⟨sb, fLd, _, ok_dlen FLd TD m_len m_range, bLd, aLd, iLd⟩
  have DOn : Dn l.prog w K mg base 8 "_law_odd_names" [] (spOddN K) := ⟨_, _, ok_oddN FOn DM TM, PySem.W.mg_of X G aOn, kOn, bOn⟩
  have DOw : Dn l.prog w K mg base 6 "_law_odd_numbers" ["_law_top"] (spOddW K) := ⟨_, _, ok_oddW FOw DM, PySem.W.mg_of X G aOw, kOw, bOw⟩
  have GM := ok_made FMa DM
  have GS := ok_sort (P := l.prog) (w := w) (base := base) FSo ES
  have DTo : Dn l.prog w K mg base 7 "_law_told" ["_law_things", "_law_way"] (spTold K) := ⟨_, _, ok_told FTo ES GM (PySem.W.mg_of X G aMa) kMa bMa GS (PySem.W.mg_of X G aSo) kSo bSo, PySem.W.mg_of X G aTo, kTo, bTo⟩
  have DWl : Dn l.prog w K mg base 3 "_law_whole" ["_law_thing"] spWholeL := ⟨_, _, ok_wholeL FWl m_isinstance m_int m_bool, PySem.W.mg_of X G aWl, kWl, bWl⟩
  have DPt : Dn l.prog w K mg base 9 "_law_put_otherwise" ["_law_purse_here", "_law_drawn_here"] (spPut K) := ⟨_, _, ok_put FPt m_list m_range m_len DTa DOn DOw, PySem.W.mg_of X G aPt, kPt, bPt⟩
  have DTw : Dn l.prog w K mg base 8 "_law_twins_right" [] spTwins := ⟨_, _, ok_twins FTw m_all DTo, PySem.W.mg_of X G aTw, kTw, bTw⟩
  exact ok_law FLa TD DS m_range m_max m_min m_len m_isinstance m_str DCe DPu DTa DDr GM (PySem.W.mg_of X G aMa) kMa bMa DTo DWl DPt DTw
end Du

set_option Elab.async false
set_option linter.all false
open PySem PySem.W PyProof.Rows
set_option maxRecDepth 100000 in
set_option maxHeartbeats 0 in
theorem PySem.Challenge.cw_duetimes_k04_doors_told_and_refused_holds : PySem.Challenge.rw_duetimes_k04_doors_told_and_refused.Holds := by
  w_on; o_law; k_head; (case hw => w_witness2)
  k_fill
  refine Du.walk_at (l := PySem.Challenge.rw_duetimes_k04_doors_told_and_refused) (n := 63) (x := "_law_script") (sp := fun w => Du.spLaw _) rfl (by decide) rfl (fun w h Y => PySem.W.kIn_of Y) ?F (fun _ _ a ns hl hS => ⟨a, ns, rfl, hS, fun _ => rfl⟩)
  case F =>
    intro w mg fa h KX G hmg
    refine' Du.all_mk KX G hmg ?aNu ?lNu ?cNu ?kNu ?aWT ?lWT ?cWT ?kWT ?aWD ?lWD ?cWD ?kWD ?aW ?lW ?cW ?kW ?aN ?lN ?cN ?kN ?aHd ?lHd ?cHd ?kHd ?aA ?lA ?cA ?kA ?aHs ?lHs ?cHs ?kHs ?aCe ?lCe ?cCe ?kCe ?aPu ?lPu ?cPu ?kPu ?aTa ?lTa ?cTa ?kTa ?aWo ?lWo ?cWo ?kWo ?aDr ?lDr ?cDr ?kDr ?aOn ?lOn ?cOn ?kOn ?aOw ?lOw ?cOw ?kOw ?aSo ?lSo ?cSo ?kSo ?aMa ?lMa ?cMa ?kMa ?aTo ?lTo ?cTo ?kTo ?aWl ?lWl ?cWl ?kWl ?aPt ?lPt ?cPt ?kPt ?aTw ?lTw ?cTw ?kTw ?aLa ?lLa ?cLa ?kLa ?aC ?aIn ?lIn ?cIn ?kIn ?iIn ?q1 ?q2 ?q3 ?tg ?tt ?t_pg ?t_hd ?t_po ?t_sa ?t_mk ?t_kc ?t_nN ?t_nC ?t_nG ?t_nD ?t_nH ?t_tc ?t_tm ?t_kS ?t_kI ?aD ?aId ?lId ?cId ?kId ?iId ?aLd ?lLd ?cLd ?kLd ?iLd ?d_pg ?d_hd ?d_po ?d_sa ?d_mk ?d_kc ?d_nN ?d_nR ?d_nG ?d_tc ?d_tm ?d_kS ?d_kI ?sb ?v1 ?v2 ?v3 ?v4 ?v5 ?e_CE ?e_gT ?e_gC ?e_gN ?e_gL ?e_gF ?e_gB ?x_iC ?x_cl ?x_ve ?x_sa ?x_ga ?x_gg ?x_no ?x_tC ?x_kC ?x_ex ?x_vs ?x_ty ?x_hd ?x_mr ?x_su ?x_an ?x_tp ?x_fn ?x_co ?x_cd ?x_v2 ?x_fi ?x_ce ?x_tc ?x_tm ?s_no ?s_2 ?s_3 ?b_gB ?h_gB ?y_gB ?u_gB ?b_gL ?h_gL ?y_gL ?u_gL ?b_gF ?h_gF ?y_gF ?u_gF ?z_isinstance ?z_int ?z_bool ?z_str ?z_tuple ?z_len ?z_all ?z_zip ?z_range ?z_abs ?z_max ?z_min ?z_list ?z_super ?z_LookupError ?z_ArithmeticError ?z_ValueError
    (case aNu => k_is)
    (case lNu => k_is)
    (case cNu => k_is)
    (case kNu => k_is)
    (case aWT => k_is)
    (case lWT => k_is)
    (case cWT => k_is)
    (case kWT => k_is)
    (case aWD => k_is)
    (case lWD => k_is)
    (case cWD => k_is)
    (case kWD => k_is)
    (case aW => k_is)
    (case lW => k_is)
    (case cW => k_is)
    (case kW => k_is)
    (case aN => k_is)
    (case lN => k_is)
    (case cN => k_is)
    (case kN => k_is)
    (case aHd => k_is)
    (case lHd => k_is)
    (case cHd => k_is)
    (case kHd => k_is)
    (case aA => k_is)
    (case lA => k_is)
    (case cA => k_is)
    (case kA => k_is)
    (case aHs => k_is)
    (case lHs => k_is)
    (case cHs => k_is)
    (case kHs => k_is)
    (case aCe => k_is)
    (case lCe => k_is)
    (case cCe => k_is)
    (case kCe => k_is)
    (case aPu => k_is)
    (case lPu => k_is)
    (case cPu => k_is)
    (case kPu => k_is)
    (case aTa => k_is)
    (case lTa => k_is)
    (case cTa => k_is)
    (case kTa => k_is)
    (case aWo => k_is)
    (case lWo => k_is)
    (case cWo => k_is)
    (case kWo => k_is)
    (case aDr => k_is)
    (case lDr => k_is)
    (case cDr => k_is)
    (case kDr => k_is)
    (case aOn => k_is)
    (case lOn => k_is)
    (case cOn => k_is)
    (case kOn => k_is)
    (case aOw => k_is)
    (case lOw => k_is)
    (case cOw => k_is)
    (case kOw => k_is)
    (case aSo => k_is)
    (case lSo => k_is)
    (case cSo => k_is)
    (case kSo => k_is)
    (case aMa => k_is)
    (case lMa => k_is)
    (case cMa => k_is)
    (case kMa => k_is)
    (case aTo => k_is)
    (case lTo => k_is)
    (case cTo => k_is)
    (case kTo => k_is)
    (case aWl => k_is)
    (case lWl => k_is)
    (case cWl => k_is)
    (case kWl => k_is)
    (case aPt => k_is)
    (case lPt => k_is)
    (case cPt => k_is)
    (case kPt => k_is)
    (case aTw => k_is)
    (case lTw => k_is)
    (case cTw => k_is)
    (case kTw => k_is)
    (case aLa => k_is)
    (case lLa => k_is)
    (case cLa => k_is)
    (case kLa => k_is)
    (case aC => k_is)
    (case aIn => k_is)
    (case lIn => k_is)
    (case cIn => k_is)
    (case kIn => k_is)
    (case iIn => k_is)
    (case q1 => k_is)
    (case q2 => k_is)
    (case q3 => k_is)
    (case tg => k_is)
    (case tt => k_is)
    (case t_pg => k_is)
    (case t_hd => k_is)
    (case t_po => k_is)
    (case t_sa => k_is)
    (case t_mk => k_is)
    (case t_kc => k_is)
    (case t_nN => k_is)
    (case t_nC => k_is)
    (case t_nG => k_is)
    (case t_nD => k_is)
    (case t_nH => k_is)
    (case t_tc => k_is)
    (case t_tm => k_is)
    (case t_kS => kit_is)
    (case t_kI => kit_is)
    (case aD => k_is)
    (case aId => k_is)
    (case lId => k_is)
    (case cId => k_is)
    (case kId => k_is)
    (case iId => k_is)
    (case aLd => k_is)
    (case lLd => k_is)
    (case cLd => k_is)
    (case kLd => k_is)
    (case iLd => k_is)
    (case d_pg => k_is)
    (case d_hd => k_is)
    (case d_po => k_is)
    (case d_sa => k_is)
    (case d_mk => k_is)
    (case d_kc => k_is)
    (case d_nN => k_is)
    (case d_nR => k_is)
    (case d_nG => k_is)
    (case d_tc => k_is)
    (case d_tm => k_is)
    (case d_kS => kit_is)
    (case d_kI => kit_is)
    (case sb => k_is)
    (case v1 => k_is)
    (case v2 => k_is)
    (case v3 => k_is)
    (case v4 => k_is)
    (case v5 => k_is)
    (case e_CE => k_is)
    (case e_gT => k_is)
    (case e_gC => k_is)
    (case e_gN => k_is)
    (case e_gL => k_is)
    (case e_gF => k_is)
    (case e_gB => k_is)
    (case x_iC => k_is)
    (case x_cl => k_is)
    (case x_ve => rfl)
    (case x_sa => k_is)
    (case x_ga => k_is)
    (case x_gg => k_is)
    (case x_no => k_is)
    (case x_tC => k_is)
    (case x_kC => k_is)
    (case x_ex => k_is)
    (case x_vs => k_is)
    (case x_ty => k_is)
    (case x_hd => k_is)
    (case x_mr => k_is)
    (case x_su => ks_is)
    (case x_an => k_is)
    (case x_tp => rfl)
    (case x_fn => k_is)
    (case x_co => k_is)
    (case x_cd => k_is)
    (case x_v2 => rfl)
    (case x_fi => rfl)
    (case x_ce => k_is)
    (case x_tc => k_is)
    (case x_tm => k_is)
    (case s_no => kit_is)
    (case s_2 => kit_is)
    (case s_3 => kit_is)
    (case b_gB => k_is)
    (case h_gB => k_is)
    (case y_gB => k_is)
    (case u_gB => k_is)
    (case b_gL => k_is)
    (case h_gL => k_is)
    (case y_gL => k_is)
    (case u_gL => k_is)
    (case b_gF => k_is)
    (case h_gF => k_is)
    (case y_gF => k_is)
    (case u_gF => k_is)
    (case z_isinstance => k_is)
    (case z_int => k_is)
    (case z_bool => k_is)
    (case z_str => k_is)
    (case z_tuple => k_is)
    (case z_len => k_is)
    (case z_all => k_is)
    (case z_zip => k_is)
    (case z_range => k_is)
    (case z_abs => k_is)
    (case z_max => k_is)
    (case z_min => k_is)
    (case z_list => k_is)
    (case z_super => k_is)
    (case z_LookupError => k_is)
    (case z_ArithmeticError => k_is)
    (case z_ValueError => k_is)

