import PyProof.Rows.All
import Wide.All
import OpenK.AllK
import Wide.FinOn
import HandS.ForMost
import HandS.ForExc
import HandS.IsInst
import HandS.OwnEq
import HandS.Style
import HandS.Flow
import HandS.Walk
import HandS.Zip
import HandS.TupAny
import HandS.Conv
import HandS.MakeKwOnly
import HandS.ExcInit
import HandS.ExcSuper
import KE.KExcSuper
import HandS.ExcCtx
import KE.KTryMore
import HandS.HotCalls
import KE.KExcIs
import OpenK.KOps
import PyProof.ReprReads
import KE.KExcInit
import HandS.FStr
import PyProof.ReprLen
import HandS.Wide
import HandS.TryOnly
import KE.RegKIsAll
import KE.RegKSuper
import PySem.Challenge.RW_duetimes_k08_loads_and_stretches
set_option Elab.async false
set_option linter.all false
set_option maxRecDepth 100000
namespace Du
open PySem L2
def topS (i : Nat) : Stmt := PySem.Challenge.pw_duetimes_k08_loads_and_stretches.main.body.getD i (.Pass ⟨0, 0, 0, 0⟩)
abbrev sNumber : Stmt := topS 22
abbrev sWhole : Stmt := topS 23
abbrev sName : Stmt := topS 25
/-- a def by its name -/
structure Dn (P : Program) (w : World) (K : PySem.W.Frag) (mg : Str → Option Value) (base : Heap) (k : Nat) (x : Str) (ps : List Str) (sp : Sp) : Prop where
  ex : ∃ (f : Addr) (fd : FuncData), FnOk P w K mg base CX0 k f fd ps sp ∧ mg x = some (.ref f) ∧ PySem.W.keepIn K (.ref f) = true ∧ Binds K fd ps []
theorem pcall {X : Cx} {k : Nat} {x : Str} {ps : List Str} {sp : Sp} {p pos : Pos} {e : Expr} {es : List Expr} {t : TA} (D : Dn X.prog X.w X.K X.mg X.base k x ps sp) (hr : Room k X.A) (hg : Gl X x) (ha : PA X (e :: es) t)
    (hdb : (x == ("__debug__" : Str)) = false := by decide) (he : starEach (e :: es) X.env = (false, eval e X.env) :: starEach es X.env := by rfl) (hpl : (backTo pos (starEach es X.env)).any (·.1) = false := by rfl) :
    PE X (.Call (.Name x p) (e :: es) [] pos) (tCall sp [] E0 t) := by
  obtain ⟨f, fd, F, hm, hk, hb⟩ := D.ex
  exact pe_call F hr hg hm hk hb .nil pass0 ha hdb he hpl
theorem Dn.mono {P : Program} {w : World} {K : PySem.W.Frag} {mg : Str → Option Value} {base : Heap} {j k : Nat} {x : Str} {ps : List Str} {sp : Sp} (D : Dn P w K mg base j x ps sp) (h : j ≤ k) : Dn P w K mg base k x ps sp := by
  obtain ⟨f, fd, F, hm, hk, hb⟩ := D.ex
  exact ⟨f, fd, F.mono h, hm, hk, hb⟩
section
variable {P : Program} {w : World} {K : PySem.W.Frag} {mg : Str → Option Value} {base : Heap}
/-! is_number -/
theorem scNumber : FnScope ["thing"] ["thing"] (defScope sNumber) := ⟨rfl, rfl, rfl, by decide +kernel, rfl, by decide +kernel, by decide +kernel⟩
def spNumber (K : PySem.W.Frag) : Sp := fun vs H Q _ => ∃ x : V, vs = [x] ∧
  ((∃ i : Int, x = .int i ∧ Q (.bl true) H) ∨ (∃ b : Bool, x = .bl b ∧ Q (.bl false) H) ∨ (∃ t, TyX K H x t ∧ PySem.W.kitOne K t (.type "int") = some false ∧ Q (.bl false) H))
theorem ok_number {f : Addr} {fd : FuncData} (F : Fun K "is_number" "is_number" sNumber f fd) (mI : mg "isinstance" = none) (mi : mg "int" = none) (mb : mg "bool" = none) :
    FnOk P w K mg base CX0 1 f fd ["thing"] (spNumber K) := by
  refine F.ok scNumber (fun vs H Q E h => ?_) (fun cdv A outer s H vs Q E hr h => ?_)
  · obtain ⟨x, rfl, _⟩ := h
    rfl
  · obtain ⟨x, rfl, h⟩ := h
    refine ⟨_, pss_one (ps_ret (pe_and (pe_callB call_isi (by rfl) mI (by decide +kernel) (pa_cons (pv 0) (pa_cons (pe_bltn (v := .ty "int") (by rfl) mi (by decide +kernel) rfl) pa_nil)))
      (pe_one (pe_not (pe_callB call_isi (by rfl) mI (by decide +kernel) (pa_cons (pv 0) (pa_cons (pe_bltn (v := .ty "bool") (by rfl) mb (by decide +kernel) rfl) pa_nil))))))), ?_⟩
    rcases h with ⟨i, rfl, q⟩ | ⟨b, rfl, q⟩ | ⟨t, ht, ht2, q⟩
    · refine ⟨_, rfl, _, _, _, _, true, rfl, .ty "int", .base (.int _), kit_ty (by decide +kernel), true, rfl, ?_⟩
      exact iteT ⟨_, rfl, _, _, _, _, false, rfl, .ty "bool", .base (.int _), kit_ty (by decide +kernel), false, rfl, q⟩
    · refine ⟨_, rfl, _, _, _, _, true, rfl, .ty "int", .base (.bl _), kit_ty (by decide +kernel), true, rfl, ?_⟩
      exact iteT ⟨_, rfl, _, _, _, _, true, rfl, .ty "bool", .base (.bl _), kit_ty (by decide +kernel), true, rfl, q⟩
    · refine ⟨_, rfl, _, _, _, _, false, rfl, .ty "int", ht, ht2, false, rfl, ?_⟩
      exact iteF q
/-! is_whole -/
theorem scWhole : FnScope ["thing", "least", "most"] ["thing", "least", "most"] (defScope sWhole) := ⟨rfl, rfl, rfl, by decide +kernel, rfl, by decide +kernel, by decide +kernel⟩
def spWhole (K : PySem.W.Frag) : Sp := fun vs H Q _ => ∃ (x : V) (lo hi : Int), vs = [x, .int lo, .int hi] ∧
  ((∃ i : Int, x = .int i ∧ Q (.bl (decide (lo ≤ i) && decide (i ≤ hi))) H) ∨ (∃ b : Bool, x = .bl b ∧ Q (.bl false) H) ∨ (∃ t, TyX K H x t ∧ PySem.W.kitOne K t (.type "int") = some false ∧ Q (.bl false) H))
theorem ok_whole {f : Addr} {fd : FuncData} (F : Fun K "is_whole" "is_whole" sWhole f fd) (DU : Dn P w K mg base 1 "is_number" ["thing"] (spNumber K)) :
    FnOk P w K mg base CX0 2 f fd ["thing", "least", "most"] (spWhole K) := by
  refine F.ok scWhole (fun vs H Q E h => ?_) (fun cdv A outer s H vs Q E hr h => ?_)
  · obtain ⟨x, lo, hi, rfl, _⟩ := h
    rfl
  · obtain ⟨x, lo, hi, rfl, h⟩ := h
    refine ⟨_, pss_one (ps_ret (pe_and (pcall DU hr (by rfl) (pa_cons (pv 0) pa_nil)) (pe_one (pe_chain op_le op_le (pv 1) (pv 0) (pv 2))))), ?_⟩
    rcases h with ⟨i, rfl, q⟩ | ⟨b, rfl, q⟩ | ⟨t, ht, ht2, q⟩
    · refine ⟨_, rfl, _, rfl, .inl ⟨i, rfl, true, rfl, ?_⟩⟩
      refine iteT ⟨_, rfl, _, rfl, _, _, rfl, rfl, _, rfl, ?_⟩
      by_cases h1 : lo ≤ i
      · rw [decide_eq_true h1] at q ⊢
        refine iteT ⟨_, rfl, _, _, rfl, rfl, ?_⟩
        simpa using q
      · rw [decide_eq_false h1] at q ⊢
        exact iteF (by simpa using q)
    · refine ⟨_, rfl, _, rfl, .inr (.inl ⟨b, rfl, false, rfl, ?_⟩)⟩
      exact iteF q
    · refine ⟨_, rfl, _, rfl, .inr (.inr ⟨t, ht, ht2, false, rfl, ?_⟩)⟩
      exact iteF q
end
end Du

set_option Elab.async false
set_option linter.all false
set_option maxRecDepth 100000
namespace Du
open PySem L2
section
variable {P : Program} {w : World} {K : PySem.W.Frag} {mg : Str → Option Value} {base : Heap}
theorem same_upd {H : Hp} {p : Addr} {o : HO} (h : H p = none) : Same H (upd H p o) := fun b x e => by
  rw [upd_ne (ne_of_none e h)]
  exact e
/-- all but one new address stays -/
theorem same_upd2 {H H1 : Hp} {p : Addr} {o : HO} (s : Same H H1) (h : H p = none) : Same H (upd H1 p o) := fun b x e => by
  rw [upd_ne (ne_of_none e h)]
  exact s _ _ e
theorem take_map1 {α β : Type} {l : List α} {i : Nat} {x : α} (f : α → β) (h : l[i]? = some x) : (l.take (i + 1)).map f = (l.take i).map f ++ [f x] := by
  rw [List.take_add_one, h, List.map_append]
  rfl
/-! is_name -/
def letters : Str := "abcdefghijklmnopqrstuvwxyz"
def isLetter (c : Nat) : Bool := decide (c ∈ letters.cps.toList)
def isNm (z : Str) : Bool := decide (1 ≤ z.length) && (decide (z.length ≤ 8) && z.cps.toList.all isLetter)
theorem scName : FnScope ["thing", "sign"] ["thing"] (defScope sName) := ⟨rfl, rfl, rfl, by decide +kernel, rfl, by decide +kernel, by decide +kernel⟩
def spName (K : PySem.W.Frag) : Sp := fun vs H Q _ => ∃ x : V, vs = [x] ∧
  ((∃ z : Str, x = .str z ∧ z.length ≤ sizeLine ∧ ∀ H', Same H H' → Q (.bl (isNm z)) H') ∨ (∃ t, TyX K H x t ∧ PySem.W.kitOne K t (.type "str") = some false ∧ Q (.bl false) H))
theorem ok_name {f : Addr} {fd : FuncData} (F : Fun K "is_name" "is_name" sName f fd) (mI : mg "isinstance" = none) (ms : mg "str" = none) (ml : mg "len" = none) (ma : mg "all" = none)
    (mM : ∃ t, mg "MOST_LETTERS" = some (.int 8 t)) (mL : ∃ t, mg "LETTERS" = some (.str letters t)) :
    FnOk P w K mg base CX0 2 f fd ["thing"] (spName K) := by
  obtain ⟨tM, mM⟩ := mM
  obtain ⟨tL, mL⟩ := mL
  refine F.ok scName (fun vs H Q E h => ?_) (fun cdv A outer s H vs Q E hr h => ?_)
  · obtain ⟨x, rfl, _⟩ := h
    rfl
  · obtain ⟨x, rfl, h⟩ := h
    refine ⟨_, pss_cons (ps_if (PW.pt (pw_or (pt_not (pt_val (pe_callB call_isi (by rfl) mI (by decide +kernel) (pa_cons (pv 0) (pa_cons (pe_bltn (v := .ty "str") (by rfl) ms (by decide +kernel) rfl) pa_nil)))))
        (pw_or1 (pt_not (pt_chain op_le op_le pe_int (pe_callB call_len_str (by rfl) ml (by decide +kernel) (pa_cons (pv 0) pa_nil)) (pe_glob (v := .int 8) rfl mM ⟨_, rfl⟩))))))
        (pss_one (ps_ret pe_bl)) pss_nil)
      (pss_one (ps_ret (pe_callB (cr_all rfl) (by rfl) ma (by decide +kernel) (pa_cons (pe_lc (own := [("sign", 1)]) (g := gName 1) (tt := tYes) rfl scName.nd (pi_str (pv 0))
        (blkOk_by (N := ["thing", "sign"]) (sc := defScope sName) (by decide +kernel)) (fun _ _ _ _ _ => pg_name (i := 1) scName.nd rfl (Or.inl rfl)) (fun _ _ _ _ _ => pts_nil)
        (fun _ _ _ _ _ => pe_cmpR op_in_sign (pv 1) (pe_glob (v := .str letters) rfl mL ⟨_, rfl⟩) (by rfl))) pa_nil)))), ?_⟩
    rcases h with ⟨z, rfl, hz, q⟩ | ⟨t, ht, ht2, q⟩
    · refine ⟨_, rfl, _, _, _, _, true, rfl, .ty "str", .base (.str _), kit_ty (by decide +kernel), true, rfl, ?_⟩
      refine iteF ⟨_, rfl, z, rfl, hz, _, _, rfl, rfl, _, rfl, ?_⟩
      by_cases h1 : 1 ≤ z.length
      · have e1 : decide ((1 : Int) ≤ ((z.length : Nat) : Int)) = true := decide_eq_true (by omega)
        rw [e1]
        refine iteT ⟨_, _, rfl, rfl, _, rfl, ?_⟩
        by_cases h2 : z.length ≤ 8
        · have e2 : decide (((z.length : Nat) : Int) ≤ 8) = true := decide_eq_true (by omega)
          rw [e2]
          refine iteF ?_
          -- the comprehension
          refine ⟨_, rfl, z, rfl, fun D nD => lc_it walk_str (fun i H' => Same H H' ∧ H' D = some (.lst ((z.cps.toList.take i).map fun c => V.bl (isLetter c)))) ⟨same_upd nD, upd_same⟩ (fun _ _ _ _ => trivial) ?_ ?_⟩
          · rintro i x H1 H2 hi ⟨s1, e⟩ ⟨rfl, c, hc, rfl⟩
            have hc' : z.cps.toList[i]? = some c := by simpa using hc
            refine ⟨rfl, _, rfl, c, letters, rfl, rfl, _, e, ?_, same_upd2 s1 nD, ?_⟩
            · rw [List.length_map, List.length_take]
              have : z.cps.toList.length = z.length := by simp [Str.length]
              have h9 : z.length < sizeLine := Nat.lt_of_le_of_lt h2 (by decide)
              omega
            · rw [upd_same, take_map1 _ hc']
              rfl
          · rintro H1 ⟨s1, e⟩
            have el : z.cps.toList.take z.cps.size = z.cps.toList := by
              rw [List.take_of_length_le]
              simp
            rw [el] at e
            refine ⟨D, z.cps.toList.map isLetter, rfl, SqL.of (by rw [e, List.map_map]; rfl), ?_⟩
            have q' := q H1 s1
            have eb : isNm z = (z.cps.toList.map isLetter).all id := by
              unfold isNm
              rw [decide_eq_true h1, decide_eq_true h2, List.all_map]
              rfl
            rw [eb] at q'
            exact q'
        · have e2 : decide (((z.length : Nat) : Int) ≤ 8) = false := decide_eq_false (by omega)
          rw [e2]
          refine iteT ?_
          have q' := q H (Same.refl _)
          unfold isNm at q'
          rw [decide_eq_false h2] at q'
          have q2 : Q (V.bl false) H := by simpa using q'
          exact q2
      · have e1 : decide ((1 : Int) ≤ ((z.length : Nat) : Int)) = false := decide_eq_false (by omega)
        rw [e1]
        refine iteF ⟨_, rfl, ?_⟩
        have q' := q H (Same.refl _)
        unfold isNm at q'
        rw [decide_eq_false h1] at q'
        have q2 : Q (V.bl false) H := by simpa using q'
        exact q2
    · refine ⟨_, rfl, _, _, _, _, false, rfl, .ty "str", ht, ht2, false, rfl, ?_⟩
      exact iteT (iteT q)
end
end Du

set_option Elab.async false
set_option linter.all false
set_option maxRecDepth 100000
namespace Du
open PySem L2
abbrev sHold : Stmt := topS 26
abbrev sAhead : Stmt := topS 27
abbrev sHolds : Stmt := topS 28
section
variable {P : Program} {w : World} {K : PySem.W.Frag} {mg : Str → Option Value} {base : Heap}
theorem tyx_tup {H : Hp} {a : Addr} {xs : List V} (h : SqT K H a xs) : TyX K H (.ref a) (.type "tuple") := by
  rcases h with (h | ⟨o, h⟩) | ⟨o, its, n, hk, hc, _⟩
  · exact .base (.tup h)
  · exact .fTuple h
  · exact .kTuple hk hc
theorem kit_tt : PySem.W.kitOne K (.type "tuple") (.type "tuple") = some true := kit_ty (by decide +kernel)
theorem walk_zipT {a b : Addr} {xs ys : List V} {n : Nat} (hn : n = min xs.length ys.length) : Walk (RZ.ItzT K a b) n (fun H => SqT K H a xs ∧ SqT K H b ys) (YPair (fun i => xs[i]?) (fun i => ys[i]?)) := by
  refine ⟨fun i H hi q => ?_, fun H q => ⟨xs, ys, q.1, q.2, by omega⟩, fun i H v H' hi q y => ?_⟩
  · exact ⟨xs, ys, xs[i]'(by omega), ys[i]'(by omega), q.1, q.2, List.getElem?_eq_getElem (by omega), List.getElem?_eq_getElem (by omega)⟩
  · obtain ⟨T, x, z, h1, h2, h3, h4, h5⟩ := y
    exact ⟨T, x, z, h1, h2, h3, h4 xs q.1, h5 ys q.2⟩
/-! is_hold -/
abbrev Hold := Str × Int × Int
def isHd (h : Hold) (cost : Int) : Bool := isNm h.1 && ((decide (0 ≤ h.2.1) && decide (h.2.1 ≤ cost)) && (decide (1 ≤ h.2.2) && decide (h.2.2 ≤ cost - h.2.1)))
def HdAt (K : PySem.W.Frag) (H : Hp) (v : V) (h : Hold) : Prop := ∃ a, v = .ref a ∧ SqT K H a [.str h.1, .int h.2.1, .int h.2.2]
theorem HdAt.same {H H' : Hp} {v : V} {h : Hold} (d : HdAt K H v h) (s : Same H H') : HdAt K H' v h := by
  obtain ⟨a, e, q⟩ := d
  exact ⟨a, e, q.ext s⟩
theorem scHold : FnScope ["thing", "cost", "tool", "start", "long"] ["thing", "cost"] (defScope sHold) := ⟨rfl, rfl, rfl, by decide +kernel, rfl, by decide +kernel, by decide +kernel⟩
def spHold (K : PySem.W.Frag) : Sp := fun vs H Q _ => ∃ (v : V) (h : Hold) (cost : Int), vs = [v, .int cost] ∧ HdAt K H v h ∧ h.1.length ≤ sizeLine ∧ ∀ H', Same H H' → Q (.bl (isHd h cost)) H'
theorem ok_hold {f : Addr} {fd : FuncData} (F : Fun K "is_hold" "is_hold" sHold f fd) (mI : mg "isinstance" = none) (mt : mg "tuple" = none) (ml : mg "len" = none)
    (DN : Dn P w K mg base 2 "is_name" ["thing"] (spName K)) (DW : Dn P w K mg base 2 "is_whole" ["thing", "least", "most"] (spWhole K)) :
    FnOk P w K mg base CX0 3 f fd ["thing", "cost"] (spHold K) := by
  refine F.ok scHold (fun vs H Q E h => ?_) (fun cdv A outer s H vs Q E hr h => ?_)
  · obtain ⟨v, h, cost, rfl, _⟩ := h
    rfl
  · obtain ⟨v, h, cost, rfl, ⟨a, rfl, hS⟩, hl, q⟩ := h
    refine ⟨_, pss_cons (ps_if (PW.pt (pw_or (pt_not (pt_val (pe_callB call_isi (by rfl) mI (by decide +kernel) (pa_cons (pv 0) (pa_cons (pe_bltn (v := .ty "tuple") (by rfl) mt (by decide +kernel) rfl) pa_nil)))))
        (pw_or1 (pt_cmpR op_ne (pe_callB call_len_seq (by rfl) ml (by decide +kernel) (pa_cons (pv 0) pa_nil)) pe_int (nomark _)))))
        (pss_one (ps_ret pe_bl)) pss_nil)
      (pss_cons (ps_asg (pv 0) (pg_tup rfl (pgs_cons (pg_name (i := 2) scHold.nd rfl (.inl rfl)) (pgs_cons (pg_name (i := 3) scHold.nd rfl (.inl rfl)) (pgs_cons (pg_name (i := 4) scHold.nd rfl (.inl rfl)) pgs_nil)))))
      (pss_one (ps_ret (pe_and (pcall DN hr (by rfl) (pa_cons (pv 2) pa_nil)) (pe_and (pcall DW hr (by rfl) (pa_cons (pv 3) (pa_cons pe_int (pa_cons (pv 1) pa_nil))))
        (pe_one (pcall DW hr (by rfl) (pa_cons (pv 4) (pa_cons pe_int (pa_cons (pe_op op_sub (pv 1) (pv 3)) pa_nil)))))))))), ?_⟩
    refine ⟨_, rfl, _, _, _, _, true, rfl, .ty "tuple", tyx_tup hS, kit_tt, true, rfl, ?_⟩
    refine ⟨_, rfl, a, _, rfl, .inr hS, rfl, _, rfl, ?_⟩
    show if (!decide ((V.int (3 : Nat)) = V.int 3)) = true then _ else _
    refine iteNS rfl ?_
    refine ⟨_, rfl, a, _, rfl, hS, rfl, _, _, rfl, _, _, rfl, _, _, rfl, rfl, ?_⟩
    -- the three questions
    refine ⟨_, rfl, _, rfl, .inl ⟨h.1, rfl, hl, fun H1 s1 => ⟨_, rfl, ?_⟩⟩⟩
    cases e1 : isNm h.1 with
    | false =>
      have q1 := q H1 s1
      unfold isHd at q1
      rw [e1] at q1
      exact q1
    | true =>
      refine ⟨_, rfl, _, rfl, _, _, _, rfl, .inl ⟨_, rfl, _, rfl, ?_⟩⟩
      cases e2 : (decide (0 ≤ h.2.1) && decide (h.2.1 ≤ cost)) with
      | false =>
        have q1 := q H1 s1
        unfold isHd at q1
        rw [e1, e2] at q1
        exact q1
      | true =>
        refine ⟨_, rfl, _, rfl, _, rfl, _, _, rfl, rfl, _, _, _, rfl, .inl ⟨_, rfl, ?_⟩⟩
        have q1 := q H1 s1
        unfold isHd at q1
        rw [e1, e2] at q1
        exact q1
/-! goes_ahead -/
def ahead (h g : Hold) : Bool := if h.1 = g.1 then decide (h.2.1 + h.2.2 ≤ g.2.1) else decide (h.1.cps.toList < g.1.cps.toList)
theorem scAhead : FnScope ["hold", "other", "tool", "start", "long"] ["hold", "other"] (defScope sAhead) := ⟨rfl, rfl, rfl, by decide +kernel, rfl, by decide +kernel, by decide +kernel⟩
def spAhead (K : PySem.W.Frag) : Sp := fun vs H Q _ => ∃ (v u : V) (h g : Hold), vs = [v, u] ∧ HdAt K H v h ∧ HdAt K H u g ∧ Q (.bl (ahead h g)) H
theorem ok_ahead {f : Addr} {fd : FuncData} (F : Fun K "goes_ahead" "goes_ahead" sAhead f fd) : FnOk P w K mg base CX0 2 f fd ["hold", "other"] (spAhead K) := by
  refine F.ok scAhead (fun vs H Q E h => ?_) (fun cdv A outer s H vs Q E hr h => ?_)
  · obtain ⟨v, u, h, g, rfl, _⟩ := h
    rfl
  · obtain ⟨v, u, h, g, rfl, ⟨a, rfl, hS⟩, ⟨b, rfl, hT⟩, q⟩ := h
    refine ⟨_, pss_cons (ps_asg (pv 0) (pg_tup rfl (pgs_cons (pg_name (i := 2) scAhead.nd rfl (.inl rfl)) (pgs_cons (pg_name (i := 3) scAhead.nd rfl (.inl rfl)) (pgs_cons (pg_name (i := 4) scAhead.nd rfl (.inl rfl)) pgs_nil)))))
      (pss_cons (ps_if (pt_cmpR op_eq (pv 2) (pe_ix ix_tup (pv 1) pe_int (fun _ _ => rfl)) (nomark _))
        (pss_one (ps_ret (pe_cmpR op_le (pe_op op_add (pv 3) (pv 4)) (pe_ix ix_tup (pv 1) pe_int (fun _ _ => rfl)) (nomark _)))) pss_nil)
      (pss_one (ps_ret (pe_cmpR op_lt_str (pv 2) (pe_ix ix_tup (pv 1) pe_int (fun _ _ => rfl)) (nomark _))))), ?_⟩
    refine ⟨_, rfl, a, _, rfl, hS, rfl, _, _, rfl, _, _, rfl, _, _, rfl, rfl, ?_⟩
    refine ⟨_, rfl, _, rfl, b, _, _, _, rfl, rfl, hT, at_of (j := 0) rfl rfl, rfl, _, rfl, ?_⟩
    by_cases hz : h.1 = g.1
    · have e1 : decide (V.str h.1 = V.str g.1) = true := decide_eq_true (by rw [hz])
      rw [e1]
      refine iteT ⟨_, rfl, _, rfl, _, _, rfl, rfl, _, rfl, b, _, _, _, rfl, rfl, hT, at_of (j := 1) rfl rfl, _, _, rfl, rfl, ?_⟩
      unfold ahead at q
      rw [if_pos hz] at q
      exact q
    · have e1 : decide (V.str h.1 = V.str g.1) = false := decide_eq_false (fun e => hz (V.str.inj e))
      rw [e1]
      refine iteF ⟨_, rfl, _, rfl, b, _, _, _, rfl, rfl, hT, at_of (j := 0) rfl rfl, _, _, rfl, rfl, ?_⟩
      unfold ahead at q
      rw [if_neg hz] at q
      exact q
end
end Du

set_option Elab.async false
set_option linter.all false
set_option maxRecDepth 100000
namespace Du
open PySem L2
section
variable {P : Program} {w : World} {K : PySem.W.Frag} {mg : Str → Option Value} {base : Heap}
/-! are_holds -/
def HdsAt (K : PySem.W.Frag) (H : Hp) (t : Addr) (hs : List Hold) : Prop := ∃ vs : List V, SqT K H t vs ∧ vs.length = hs.length ∧ ∀ (i : Nat) v h, vs[i]? = some v → hs[i]? = some h → HdAt K H v h
theorem HdsAt.same {H H' : Hp} {t : Addr} {hs : List Hold} (d : HdsAt K H t hs) (s : Same H H') : HdsAt K H' t hs := by
  obtain ⟨vs, h1, h2, h3⟩ := d
  exact ⟨vs, h1.ext s, h2, fun i v h e1 e2 => (h3 i v h e1 e2).same s⟩
def areHds (hs : List Hold) (cost : Int) : Bool := decide (hs.length ≤ 4) && (hs.all (fun h => isHd h cost) && (hs.zip (hs.drop 1)).all fun p => ahead p.1 p.2)
theorem scHolds : FnScope ["thing", "cost", "hold", "other"] ["thing", "cost"] (defScope sHolds) := ⟨rfl, rfl, rfl, by decide +kernel, rfl, by decide +kernel, by decide +kernel⟩
def spHolds (K : PySem.W.Frag) : Sp := fun vs H Q _ => ∃ (t : Addr) (hs : List Hold) (cost : Int), vs = [.ref t, .int cost] ∧ HdsAt K H t hs ∧ (∀ h ∈ hs, h.1.length ≤ sizeLine) ∧ ∀ H', Same H H' → Q (.bl (areHds hs cost)) H'
theorem cut1 (xs : List V) : cutV xs (some 1) none = xs.drop 1 := by
  unfold cutV
  rw [show HT.sIx xs.length 0 (some 1) = min 1 xs.length from HT.sIx_nat xs.length 0 1, HT.sIx_none]
  cases xs with
  | nil => rfl
  | cons x r =>
    rw [show min 1 (x :: r).length = 1 by rw [List.length_cons]; omega]
    show (List.take ((x :: r).length - 1) r) = r
    rw [List.length_cons, Nat.add_sub_cancel, List.take_length]
theorem getmem {α : Type} {l : List α} {i : Nat} {x : α} (h : l[i]? = some x) : x ∈ l := List.mem_of_getElem? h
theorem ok_holds {f : Addr} {fd : FuncData} (F : Fun K "are_holds" "are_holds" sHolds f fd) (mI : mg "isinstance" = none) (mt : mg "tuple" = none) (ml : mg "len" = none) (ma : mg "all" = none) (mz : mg "zip" = none)
    (mM : ∃ t, mg "MOST_HOLDS" = some (.int 4 t)) (DH : Dn P w K mg base 3 "is_hold" ["thing", "cost"] (spHold K)) (DA : Dn P w K mg base 2 "goes_ahead" ["hold", "other"] (spAhead K)) :
    FnOk P w K mg base CX0 4 f fd ["thing", "cost"] (spHolds K) := by
  obtain ⟨tM, mM⟩ := mM
  refine F.ok scHolds (fun vs H Q E h => ?_) (fun cdv A outer s H vs Q E hr h => ?_)
  · obtain ⟨t, hs, cost, rfl, _⟩ := h
    rfl
  · obtain ⟨t, hs, cost, rfl, ⟨vs, hS, hvl, hat⟩, hl, q⟩ := h
    have hr1 : Room 2 _ := hr.mono (by decide)
    refine ⟨_, pss_cons (ps_if (PW.pt (pw_or (pt_not (pt_val (pe_callB call_isi (by rfl) mI (by decide +kernel) (pa_cons (pv 0) (pa_cons (pe_bltn (v := .ty "tuple") (by rfl) mt (by decide +kernel) rfl) pa_nil)))))
        (pw_or1 (pt_cmpR op_gt (pe_callB call_len_seq (by rfl) ml (by decide +kernel) (pa_cons (pv 0) pa_nil)) (pe_glob (v := .int 4) rfl mM ⟨_, rfl⟩) (nomark _)))))
        (pss_one (ps_ret pe_bl)) pss_nil)
      (pss_cons (ps_if (pt_not (pt_val (pe_callB (cr_all rfl) (by rfl) ma (by decide +kernel) (pa_cons (pe_lc (own := [("hold", 2)]) (g := gName 2) (tt := tYes) rfl scHolds.nd (pi_tup (pv 0))
        (blkOk_by (N := ["thing", "cost", "hold", "other"]) (sc := defScope sHolds) (by decide +kernel)) (fun _ _ _ _ _ => pg_name (i := 2) scHolds.nd rfl (Or.inl rfl)) (fun _ _ _ _ _ => pts_nil)
        (fun _ _ _ _ _ => pcall DH hr (by rfl) (pa_cons (pv 2) (pa_cons (pv 1) pa_nil)))) pa_nil)))) (pss_one (ps_ret pe_bl)) pss_nil)
      (pss_one (ps_ret (pe_callB (cr_all rfl) (by rfl) ma (by decide +kernel) (pa_cons (pe_lc (own := [("hold", 2), ("other", 3)]) (g := gTup K 2 (gCons (gName 2) (gCons (gName 3) gNil))) (tt := tYes) rfl scHolds.nd
        (RZ.pi_zipA (by rfl) mz (pa_cons (pv 0) (pa_cons (pe_slice sl_tupA (pv 0) (po_some pe_int) po_none) pa_nil)))
        (blkOk_by (N := ["thing", "cost", "hold", "other"]) (sc := defScope sHolds) (by decide +kernel))
        (fun _ _ _ _ _ => pg_tup rfl (pgs_cons (pg_name (i := 2) scHolds.nd rfl (Or.inl rfl)) (pgs_cons (pg_name (i := 3) scHolds.nd rfl (Or.inl rfl)) pgs_nil))) (fun _ _ _ _ _ => pts_nil)
        (fun _ _ _ _ _ => pcall DA hr1 (by rfl) (pa_cons (pv 2) (pa_cons (pv 3) pa_nil)))) pa_nil))))), ?_⟩
    refine ⟨_, rfl, _, _, _, _, true, rfl, .ty "tuple", tyx_tup hS, kit_tt, true, rfl, ?_⟩
    refine ⟨_, rfl, t, _, rfl, .inr hS, _, _, rfl, rfl, _, rfl, ?_⟩
    rw [hvl]
    by_cases h4 : hs.length ≤ 4
    · have e1 : decide ((4 : Int) < ((hs.length : Nat) : Int)) = false := decide_eq_false (by omega)
      rw [e1]
      refine iteF ?_
      -- [is_hold(hold, cost) for hold in thing]
      refine ⟨_, rfl, t, rfl, ⟨vs, hS⟩, fun D nD => lc_tup (K := K) (a := t) (xs := vs) (fun i H' => Same H H' ∧ H' D = some (.lst ((hs.take i).map fun h => V.bl (isHd h cost)))) ⟨same_upd nD, upd_same⟩ (fun i H' _ z => hS.ext z.1) ?_ ?_⟩
      · rintro i x H1 hx ⟨s1, e⟩
        have hi : i < hs.length := by
          rw [← hvl]
          exact (List.getElem?_eq_some_iff.mp hx).1
        have hh : hs[i]? = some hs[i] := List.getElem?_eq_getElem hi
        refine ⟨rfl, _, rfl, _, rfl, x, hs[i], cost, rfl, (hat i x _ hx hh).same s1, hl _ (getmem hh), fun H2 s2 => ⟨_, s2 _ _ e, ?_, same_upd2 (s1.trans s2) nD, ?_⟩⟩
        · rw [List.length_map, List.length_take]
          exact Nat.lt_of_le_of_lt (Nat.min_le_right _ _) (Nat.lt_of_le_of_lt h4 (by decide))
        · rw [upd_same, take_map1 _ hh]
      · rintro H1 ⟨s1, e⟩
        rw [hvl, List.take_of_length_le (Nat.le_refl _)] at e
        refine ⟨D, hs.map (fun h => isHd h cost), rfl, SqL.of (by rw [e, List.map_map]; rfl), _, rfl, ?_⟩
        have ea : (hs.map fun h => isHd h cost).all id = hs.all fun h => isHd h cost := by
          rw [List.all_map]
          rfl
        rw [ea]
        cases eb : hs.all fun h => isHd h cost with
        | false =>
          have q1 := q H1 s1
          unfold areHds at q1
          rw [eb, decide_eq_true h4] at q1
          exact q1
        | true =>
          refine iteF ?_
          -- [goes_ahead(hold, other) for hold, other in zip(thing, thing[1:])]
          have fin : ∀ (b : Addr) (H2 : Hp), Same H H2 → SqT K H2 b (vs.drop 1) → ∀ (D : Addr), H2 D = none → ∃ W : Nat → Nat → Hp → Prop, (∃ m, W 0 m (upd H2 D (.lst []))) ∧ ∀ i m H, W i m H →
              ((RZ.ItzT K t b).stop i H ∧ rAll K [.ref D] H Q) ∨ ((RZ.ItzT K t b).go i H ∧ ∃ Nx : Hp → Prop, (∀ H', Nx H' → ∃ m', m' < m ∧ W (i + 1) m' H') ∧ ∀ x H', (RZ.ItzT K t b).yld i H x H' →
                gTup K 2 (gCons (gName 2) (gCons (gName 3) gNil)) x (wipe (L2.start ["thing", "cost", "hold", "other"] [V.ref t, V.int cost]) [2, 3]) H' fun σ2 H2 => wipe σ2 [2, 3] = wipe (L2.start ["thing", "cost", "hold", "other"] [V.ref t, V.int cost]) [2, 3] ∧ tYes σ2 H2 fun b H3 =>
                if b = true then tCall (spAhead K) [] E0 (tCons (tVar 2) (tCons (tVar 3) tNil)) σ2 H3 fun y H4 => ∃ acc, H4 D = some (.lst acc) ∧ acc.length < sizeLine ∧ Nx (upd H4 D (.lst (acc ++ [y]))) else Nx H3) := by
            intro b H2 s2 hb D2 nD2
            have hz : (hs.zip (hs.drop 1)).length = hs.length - 1 := by
              rw [List.length_zip, List.length_drop]
              omega
            refine lc_it (walk_zipT (xs := vs) (ys := vs.drop 1) (n := hs.length - 1) (by rw [List.length_drop, hvl]; omega)) (fun i H' => Same H2 H' ∧ H' D2 = some (.lst (((hs.zip (hs.drop 1)).take i).map fun p => V.bl (ahead p.1 p.2)))) ⟨same_upd nD2, upd_same⟩
              (fun i H' _ z => ⟨hS.ext (s2.trans z.1), hb.ext z.1⟩) ?_ ?_
            · rintro i x H3 H4 hi ⟨s3, e3⟩ ⟨T, x1, x2, rfl, nT, rfl, hx1, hx2⟩
              have hi1 : i < hs.length := by omega
              have hi2 : i + 1 < hs.length := by omega
              have g1 : hs[i]? = some hs[i] := List.getElem?_eq_getElem hi1
              have g2 : hs[i + 1]? = some hs[i + 1] := List.getElem?_eq_getElem hi2
              have hx2' : vs[i + 1]? = some x2 := by
                have z : (vs.drop 1)[i]? = some x2 := hx2
                rw [List.getElem?_drop, Nat.add_comm] at z
                exact z
              have sT : Same H3 (upd H3 T (.tup [x1, x2])) := same_upd nT
              have gz : (hs.zip (hs.drop 1))[i]? = some (hs[i], hs[i + 1]) := by
                rw [List.getElem?_zip_eq_some]
                refine ⟨g1, ?_⟩
                rw [List.getElem?_drop, Nat.add_comm]
                exact g2
              have s5 := (s2.trans s3).trans sT
              refine ⟨T, [x1, x2], rfl, SqT.of upd_same, rfl, x1, [x2], rfl, x2, [], rfl, rfl, rfl, _, rfl, _, rfl, x1, x2, hs[i], hs[i + 1], rfl, (hat _ _ _ hx1 g1).same s5, (hat _ _ _ hx2' g2).same s5, _, sT _ _ e3, ?_, same_upd2 (s3.trans sT) nD2, ?_⟩
              · rw [List.length_map, List.length_take]
                exact Nat.lt_of_le_of_lt (Nat.min_le_right _ _) (Nat.lt_of_le_of_lt (show _ ≤ 4 by omega) (by decide))
              · rw [upd_same, take_map1 _ gz]
            · rintro H3 ⟨s3, e3⟩
              rw [List.take_of_length_le (by omega)] at e3
              refine ⟨D2, (hs.zip (hs.drop 1)).map (fun p => ahead p.1 p.2), rfl, SqL.of (by rw [e3, List.map_map]; rfl), ?_⟩
              have q1 := q H3 (s2.trans s3)
              unfold areHds at q1
              rw [eb, decide_eq_true h4] at q1
              rw [List.all_map]
              exact q1
          refine ⟨_, rfl, _, rfl, 1, rfl, t, vs, rfl, hS.ext s1, fun hc => ?_, fun hc p np => ?_⟩
          · have e0 : vs = [] := by
              have h0 := hc.1
              rw [show HT.sIx vs.length 0 (some 1) = min 1 vs.length from HT.sIx_nat vs.length 0 1] at h0
              cases vs with
              | nil => rfl
              | cons x r =>
                rw [List.length_cons] at h0
                omega
            refine ⟨t, t, vs, vs.drop 1, rfl, .inr ⟨hS.ext s1, ?_, fin t H1 s1 ?_⟩⟩
            · rw [e0] at hS ⊢
              exact hS.ext s1
            · rw [e0] at hS ⊢
              exact hS.ext s1
          · have sp := same_upd (o := .tup (cutV vs (some 1) none)) np
            have hb : SqT K (upd H1 p (.tup (cutV vs (some 1) none))) p (vs.drop 1) := by
              rw [← cut1]
              exact SqT.of upd_same
            exact ⟨t, p, vs, vs.drop 1, rfl, .inr ⟨hS.ext (s1.trans sp), hb, fin p _ (s1.trans sp) hb⟩⟩
    · have e1 : decide ((4 : Int) < ((hs.length : Nat) : Int)) = true := decide_eq_true (by omega)
      rw [e1]
      refine iteT ?_
      have q1 := q H (Same.refl _)
      unfold areHds at q1
      rw [decide_eq_false h4] at q1
      exact q1
end
end Du

set_option Elab.async false
set_option linter.all false
set_option maxRecDepth 100000
namespace Du
open PySem L2 PyProof.Rows
section
variable {X : Cx} {CX : CXT} {k : Nat} {f C : Addr} {fd : FuncData} {ps : List Str} {sp : Sp} {pins : List (Addr × Obj)} {σ : L2.St} {H : Hp} {s : Shared}
/-- a call of an own def from somewhere below the body -/
theorem own_call {A : Around} {vs : List V} {us : List Value} {Q : VK} (F : FnOk X.prog X.w X.K X.mg X.base CX0 k f fd ps sp) (hb : Binds X.K fd ps []) (sb : Sub X k A) (I : Inv X pins σ H s) (r : Vals vs us) (h : sp vs H Q E0) :
    wpAny (model X.prog X.w) A (call (.ref f) us) (EP X pins σ Q) X.xe s := by
  have e := I.env0
  have e0 : Env0 X.prog X.w X.K X.mg X.base A X.stack s H := ⟨sb.fr.trans e.frames, e.mod, e.bs, e.bsz, e.funs, e.frf, e.hok, e.bare⟩
  have hl := F.len _ _ _ _ h
  have hu := hb s us I.kIn (by rw [List.append_nil, ← r.length, hl])
  rw [List.append_nil] at hu
  refine wpAny_call (codeAny_mono (F.run A X.stack s H ⟨us, []⟩ us vs Q E0 sb.room e0 hu r h) fun z s' hq => ?_)
  match z, hq with
  | .error _, hq => exact hq.elim
  | .ok (.ret u), hq => exact I.after hq
  | .ok .next, hq => exact hq.elim
  | .ok .brk, hq => exact hq.elim
  | .ok .cont, hq => exact hq.elim
/-- what len wants of an own __len__ -/
def rLenO (C : Addr) (sp : Sp) : List V → Hp → VK → Prop := fun xs H Q => ∃ (a dx : Addr) (fs : List (Str × V)), xs = [.ref a] ∧ H a = some (.ins C dx fs) ∧ sp [.ref a] H (fun v H' => ∃ n : Int, v = .int n ∧ 0 ≤ n ∧ n < 2 ^ 63 ∧ Q (.int n) H') E0
theorem call_lenO (F : FnOk X.prog X.w X.K X.mg X.base CX0 k f fd ps sp) (hb : Binds X.K fd ps []) (hr : Room (k + 1) X.A) (hs : PySem.W.findIn X.K (.ref C) "__len__" = some (some (.ref f))) (hf : PySem.W.isFn X.K (.ref f) = true) :
    CallR X (.builtin "len") (rLenO C sp) := by
  intro pins s σ H xs us Q I r h
  obtain ⟨a, dx, fs, rfl, ha, hsp⟩ := h
  obtain ⟨u, rfl, ru⟩ := vals1 r
  cases ru
  obtain ⟨mA, J, _⟩ := ins_get I.hok ha
  obtain ⟨od, J, _⟩ := J.look
  obtain ⟨m, hF⟩ := I.fr
  refine PySem.W.len_K hF I.ok.mod.kin J hs hf (wpAny_mono (own_call F hb ⟨hr.in1, rfl⟩ I (vs := [.ref a]) (.cons rfl .nil) hsp) (fun v s' q => ?_) fun _ _ z => z)
  obtain ⟨z, H', I', rz, n, rfl, h0, h1, q⟩ := q
  obtain ⟨t, rfl⟩ := rz
  exact ⟨⟨h0, h1⟩, .int n, H', I'.tok _, ⟨_, rfl⟩, q⟩
/-- the body of len over an own __len__ -/
theorem lenO_body {prog : Program} {w : World} {A : Around} {E : Value → Shared → Prop} {K : PySem.W.Frag} {x : Addr} {ox : Obj} {od : Option Obj} {Q : Value → Shared → Prop} (X : K.In s.heap) (I : PySem.W.InstAt s.heap x ox C od)
    (hs : PySem.W.findIn K (.ref C) "__len__" = some (some (.ref f))) (hf : PySem.W.isFn K (.ref f) = true) (h : wpAny (model prog w) A (call (.ref f) [.ref x]) (PySem.W.LenBack Q) E s) :
    wpAny (model prog w) A (Builtin.«len» ⟨[.ref x], []⟩) (fun fin s' => ∃ r, fin = .done (.ret r) ∧ Q r s') E s := by
  unfold Builtin.«len»
  refine wpAny_bind (m := oneArg "len" _) (wpAny_pure (wpAny_bind (m := callSpecial? (.ref x) (Str.ofString "__len__")) (PySem.W.special_fn X I hs (beq_iff_eq.mp hf) (wpAny_mono h (fun r s' hr => ?_) fun _ _ y => y))))
  match r, hr with
  | .int n u, ⟨⟨h0, h1⟩, hq⟩ =>
    refine wpAny_bind (wpAny_holding (wpAny_pure (wpAny_bind (wpAny_letGo ?_))))
    show wpAny _ _ (if n < 0 then _ else if n ≥ 2 ^ 63 then _ else _) _ _ _
    rw [if_neg (Int.not_lt.mpr h0), if_neg (Int.not_le.mpr h1)]; exact wpAny_bind (wpAny_mkInt (wpAny_pure ⟨_, rfl, hq⟩))
theorem truthyO {prog : Program} {w : World} {A : Around} {E : Value → Shared → Prop} {K : PySem.W.Frag} {x : Addr} {ox : Obj} {od : Option Obj} {Q : Bool → Shared → Prop} (X : K.In s.heap) (I : PySem.W.InstAt s.heap x ox C od)
    (hnb : PySem.W.findIn K (.ref C) "__bool__" = some none) (hs : PySem.W.findIn K (.ref C) "__len__" = some (some (.ref f))) (hf : PySem.W.isFn K (.ref f) = true)
    (h : wpAny (model prog w) A.in1 (call (.ref f) [.ref x]) (PySem.W.LenBack fun v s' => ∃ n t, v = .int n t ∧ Q (n != 0) s') E s) : wpAny (model prog w) A (truthy (.ref x)) Q E s := by
  have key : wpAny (model prog w) A (runValue (.builtin "len" ⟨[.ref x], []⟩)) (fun v s' => ∃ n t, v = .int n t ∧ Q (n != 0) s') E s := by
    refine wpAny_runValue (codeAny_builtin entry_len ?_)
    rw [Around.under_plainId plain_len _]
    exact wpAny_mono (lenO_body X I hs hf h) (fun fin s' h' => by obtain ⟨r, rfl, hq⟩ := h'; exact hq) fun _ _ e => e
  unfold truthy
  refine wpAny_bind (m := callSpecial? (.ref x) (Str.ofString "__bool__")) (wpAny_bind (wpAny_bind (I.type.here ((PySem.W.looks_findIn X hnb).here (wpAny_pure ?_)))))
  refine wpAny_bind (wpAny_bind (I.type.here ((PySem.W.looks_findIn X hs).here ?_)))
  refine wpAny_bind (wpAny_mono key (fun v s' q => ?_) fun _ _ e => e)
  obtain ⟨n, t, rfl, q⟩ := q
  exact wpAny_pure q
/-- the truth of an object with an own __len__, as a test -/
theorem pt_lenO {e : Expr} {te : TE} (F : FnOk X.prog X.w X.K X.mg X.base CX0 k f fd ps sp) (hb : Binds X.K fd ps []) (hr : Room (k + 1) X.A) (hnb : PySem.W.findIn X.K (.ref C) "__bool__" = some none)
    (hs : PySem.W.findIn X.K (.ref C) "__len__" = some (some (.ref f))) (hf : PySem.W.isFn X.K (.ref f) = true) (ha : PE X e te)
    (he : ∀ whole, isTrue e X.env whole = (do let v ← whole; standAt e.pos; holding [v] (truthy v)) := by intro _; rfl) :
    PT X e (fun σ H Q => te σ H fun x H' => ∃ (a dx : Addr) (fs : List (Str × V)), x = .ref a ∧ H' a = some (.ins C dx fs) ∧ sp [.ref a] H' (fun v H2 => ∃ n : Int, v = .int n ∧ 0 ≤ n ∧ n < 2 ^ 63 ∧ Q (n != 0) H2) E0) := by
  refine ⟨fun pins s σ H Q I h => isTrue_plain (thn (ha.run pins s σ H _ I h) fun v s1 ⟨x, H1, I1, r1, a, dx, fs, e1, h1, q1⟩ => ?_) (he _)⟩
  subst e1
  cases r1
  obtain ⟨mA, J, _⟩ := ins_get I1.hok h1
  obtain ⟨od, J, _⟩ := J.look
  refine truthyO I1.kIn J hnb hs hf (wpAny_mono (own_call F hb ⟨hr.in1, rfl⟩ I1 (vs := [.ref a]) (.cons rfl .nil) q1) (fun v s' q => ?_) fun _ _ z => z)
  obtain ⟨z, H', I', rz, n, rfl, h0, h2, q⟩ := q
  obtain ⟨t, rfl⟩ := rz
  exact ⟨⟨h0, h2⟩, n, _, rfl, H', I'.tok _, q⟩
/-- len(range(e)) -/
theorem pe_lenRg {e : Expr} {te : L2.St → Hp → (Int → Int → Hp → Prop) → Prop} {p pos : Pos} (hg : Gl X "len") (hm : X.mg "len" = none) (he : PRg X e te) (na : starEach [e] X.env = (false, eval e X.env) :: starEach [] X.env := by rfl) :
    PE X (.Call (.Name "len" p) [e] [] pos) (fun σ H Q => te σ H fun a b H1 => (((b - a).toNat : Nat) : Int) < 2 ^ 63 ∧ Q (.int ((b - a).toNat : Nat)) H1) := by
  refine ⟨fun pins s σ H Q I h => wpAny_Call_Name_kw (ld_blt I hg hm boot_len (callWith_builtin1 (args_cons (thn (he pins s σ H _ I h) fun x s1 ⟨r, a, b, t, u, v, H1, ex, hr, I1, ok, q⟩ => args_nil ?_) na) na))⟩
  subst ex
  exact call_len_range hr (rangeSize_nat a b) ok ⟨.int _, H1, I1.tok _, ⟨_, rfl⟩, q⟩
end
end Du

set_option Elab.async false
set_option linter.all false
set_option maxRecDepth 100000
namespace Du
open PySem L2 PyProof.Rows
section
variable {prog : Program} {w : World} {A : Around} {E : Value → Shared → Prop} {s : Shared} {K : PySem.W.Frag} {x y C f : Addr} {ox : Obj} {od : Option Obj}
/-- object's __ne__ over an own __eq__ -/
theorem neO_body {Q : Fin → Shared → Prop} (hu : A.units < cLine) (X : K.In s.heap) (I : PySem.W.InstAt s.heap x ox C od) (hs : PySem.W.findIn K (.ref C) "__eq__" = some (some (.ref f))) (hf : PySem.W.isFn K (.ref f) = true)
    (h : wpAny (model prog w) A (call (.ref f) [.ref x, .ref y]) (fun v s' => ∃ b, v = .bool b ∧ Q (.done (.ret (.bool (!b)))) s') E s) : wpAny (model prog w) A (Builtin.«object.__ne__» ⟨[.ref x, .ref y], []⟩) Q E s := by
  unfold Builtin.«object.__ne__»
  refine wpAny_bind (m := slotArgs "__ne__" 1 _) (wpAny_pure (wpAny_bind (wpAny_cRoomFor hu ?_)))
  refine wpAny_bind (m := callSpecialIfBound? (.ref x) (Str.ofString "__eq__") [.ref y]) (PySem.W.ifBound_K X I hs hf (wpAny_mono h (fun r s' hr => ?_) fun _ _ e => e))
  obtain ⟨b, rfl, hq⟩ := hr
  exact wpAny_bind (wpAny_truthy_bool (wpAny_pure hq))
theorem neO_try {Q : Option Value → Shared → Prop} (hu : A.units + 1 < cLine) (X : K.In s.heap) (I : PySem.W.InstAt s.heap x ox C od) (hn : PySem.W.findIn K (.ref C) "__ne__" = some (some (.builtin "object.__ne__")))
    (ho : PySem.W.subIn K (.ref C) (.type "object") = some true) (hs : PySem.W.findIn K (.ref C) "__eq__" = some (some (.ref f))) (hf : PySem.W.isFn K (.ref f) = true)
    (h : wpAny (model prog w) A.in1 (call (.ref f) [.ref x, .ref y]) (fun v s' => ∃ b, v = .bool b ∧ Q (some (.bool (!b))) s') E s) : wpAny (model prog w) A (tryCompare (.ref x) (Str.ofString "__ne__") (.ref y)) Q E s := by
  have S := F.cmp_object.ne
  have go : wpAny (model prog w) A (call (.builtin "object.__ne__") [.ref x, .ref y]) (fun v s' => ∃ b, v = .bool b ∧ Q (some (.bool b)) s') E s := by
    refine wpAny_call (codeAny_call_builtin S.plain F.cmpEntry_ne (PySem.W.check_slot F.cmpKind_ne F.cmpSplit_ne (I.type.andThen (PySem.W.looks_subIn X ho)) (F.cmpArgs_ne _ _) ?_))
    exact neO_body hu X I hs hf (wpAny_mono h (fun v s' z => by obtain ⟨b, rfl, q⟩ := z; exact ⟨b, rfl, !b, rfl, q⟩) fun _ _ e => e)
  have fin : wpAny (model prog w) A (call (.builtin "object.__ne__") ([.ref x] ++ [.ref y]) >>= fun v => pure (some v)) (fun r s' => ∃ b, r = some (Value.bool b) ∧ Q (some (.bool b)) s') E s :=
    wpAny_bind (wpAny_mono go (fun v s' z => by obtain ⟨b, rfl, q⟩ := z; exact wpAny_pure ⟨b, rfl, q⟩) fun _ _ e => e)
  unfold tryCompare
  refine wpAny_bind (m := callSpecialIfBound? (.ref x) (Str.ofString "__ne__") [.ref y]) ?_
  have step : wpAny (model prog w) A (callSpecialIfBound? (.ref x) (Str.ofString "__ne__") [.ref y]) (fun r s' => ∃ b, r = some (Value.bool b) ∧ Q (some (.bool b)) s') E s := by
    simp only [callSpecialIfBound?, bindSpecialIfBound?]
    refine wpAny_holding (wpAny_bind (wpAny_bind (wpAny_bind (I.type.here ((PySem.W.looks_findIn X hn).here (wpAny_bind (wpAny_askSetting (wpAny_ite ?_))))))))
    split
    · rw [S.bind]; exact wpAny_bind (wpAny_pure (wpAny_pure (by exact fin)))
    · rw [S.bind]; exact wpAny_tryCatch (wpAny_bind (wpAny_pure (wpAny_pure (by exact fin))))
  refine wpAny_mono step (fun r s' z => ?_) fun _ _ e => e
  obtain ⟨b, rfl, q⟩ := z
  exact wpAny_pure q
theorem neO_rich {Q : Value → Shared → Prop} (hu : A.units + 1 < cLine) (X : K.In s.heap) (I : PySem.W.InstAt s.heap x ox C od) (hy : PySem.W.Looks (model prog w) s.heap (typeOf (.ref y)) (.ref C)) (hn : PySem.W.findIn K (.ref C) "__ne__" = some (some (.builtin "object.__ne__")))
    (ho : PySem.W.subIn K (.ref C) (.type "object") = some true) (hs : PySem.W.findIn K (.ref C) "__eq__" = some (some (.ref f))) (hf : PySem.W.isFn K (.ref f) = true)
    (h : wpAny (model prog w) A.in1 (call (.ref f) [.ref x, .ref y]) (fun v s' => ∃ b, v = .bool b ∧ Q (.bool (!b)) s') E s) : wpAny (model prog w) A (richCompare .NotEq (.ref x) (.ref y)) Q E s := by
  have one : wpAny (model prog w) A (tryCompare (.ref x) (Str.ofString "__ne__") (.ref y)) (fun r s' => ∃ v, r = some v ∧ Q v s') E s :=
    neO_try hu X I hn ho hs hf (wpAny_mono h (fun v s' z => by obtain ⟨b, rfl, q⟩ := z; exact ⟨b, rfl, _, rfl, q⟩) fun _ _ e => e)
  unfold richCompare
  simp only [oneThing_ref, cmpInfo_NotEq]
  refine wpAny_holding (wpAny_bind (wpAny_cRoomFor (Nat.lt_of_succ_lt hu) (wpAny_bind (I.type.here (wpAny_bind (hy.here ?_))))))
  have e : (Value.ref C != Value.ref C) = false := by simp
  simp only [e, Bool.false_eq_true, if_false]
  refine wpAny_bind (wpAny_pure ?_)
  simp only [Bool.false_eq_true, if_false]
  refine wpAny_bind (wpAny_mono one (fun r s' z => ?_) fun _ _ e => e)
  obtain ⟨v, rfl, q⟩ := z
  exact wpAny_pure q
end
/-- x != y of two objects of one class with an own ==, that are equal -/
theorem op_neG {X : Cx} {n : Nat} {C f : Addr} {fd : FuncData} {ps : List Str} {R : Addr → Addr → Hp → Prop} (F : FnOk X.prog X.w X.K X.mg X.base CX0 n f fd ps (spEq R)) (hb : Binds X.K fd ps []) (hr : Room (n + 1) X.A)
    (hn : PySem.W.findIn X.K (.ref C) "__ne__" = some (some (.builtin "object.__ne__"))) (ho : PySem.W.subIn X.K (.ref C) (.type "object") = some true) (hs : PySem.W.findIn X.K (.ref C) "__eq__" = some (some (.ref f))) (hf : PySem.W.isFn X.K (.ref f) = true) :
    OpR X (compareOp .NotEq) (fun x y H Q => DIns C R x y H ∧ ∀ H', Ext H H' → Q (.bl false) H') := by
  intro pins s σ H x y v u Q I rx ry hq
  obtain ⟨⟨a, b, dx, dy, fs, gs, rfl, rfl, ha, hb', hR⟩, q⟩ := hq
  cases rx
  cases ry
  obtain ⟨mA, J, _⟩ := ins_get I.hok ha
  obtain ⟨mB, J', _⟩ := ins_get I.hok hb'
  obtain ⟨od, J, _⟩ := J.look
  obtain ⟨od', J', _⟩ := J'.look
  show wpAny _ _ (richCompare .NotEq (.ref a) (.ref b)) _ _ _
  refine neO_rich (hu_of hr) I.kIn J J'.type hn ho hs hf (wpAny_mono (own_call F hb ⟨hr.in1, rfl⟩ I (vs := [.ref a, .ref b]) (Q := fun v H' => v = .bl true ∧ Q (.bl false) H') (.cons rfl (.cons rfl .nil)) ⟨a, b, rfl, hR, fun H' e => ⟨rfl, q H' e⟩⟩) (fun r s' z => ?_) fun _ _ e => e)
  obtain ⟨v, H', I', rv, rfl, q'⟩ := z
  cases rv
  exact ⟨true, rfl, .bl false, H', I', rfl, q'⟩
/-- repr of data, where nothing is being shown -/
theorem call_reprD {X : Cx} (hg : X.A.guards = some []) (hu : X.A.units + 66 < cLine) : CallR X (.builtin "repr") (fun xs H Q => ∃ (a : Addr) (d : PyData), xs = [.ref a] ∧ Dp X.K H (.ref a) d ∧ d.showable = true ∧ d.hasDict = false ∧ d.depth ≤ 64 ∧ d.shown.length ≤ sizeLine ∧ Q (.str d.shown) H) := by
  intro pins s σ H xs us Q I r h
  obtain ⟨a, d, rfl, hd, h1, h2, h3, h4, q⟩ := h
  obtain ⟨u, rfl, ru⟩ := vals1 r
  cases ru
  obtain ⟨as, hr⟩ := Dp.reads I d _ _ hd rfl
  exact repr_of_reads' hr h1 (PyData.noDict_hsm h2) hg (by omega) (fun _ _ e => e) (fun h' u tk hk => ⟨.str d.shown, H, I.kept hk, ⟨_, rfl⟩, q⟩) h4
end Du

set_option Elab.async false
set_option linter.all false
set_option maxRecDepth 100000
namespace Du
open PySem L2
abbrev sWrongT : Stmt := topS 29
abbrev sInit : Stmt := inClass (topS 31) 0
abbrev sEq : Stmt := inClass (topS 31) 2
abbrev sLen : Stmt := inClass (topS 31) 3
def tf (n : Str) (c g d : Int) (t : Addr) : List (Str × V) := [("name", .str n), ("cost", .int c), ("gap", .int g), ("due", .int d), ("holds", .ref t)]
theorem tf_name (n : Str) (c g d : Int) (t : Addr) : (tf n c g d t).lookup ("name" : Str) = some (.str n) := rfl
theorem tf_cost (n : Str) (c g d : Int) (t : Addr) : (tf n c g d t).lookup ("cost" : Str) = some (.int c) := rfl
theorem tf_gap (n : Str) (c g d : Int) (t : Addr) : (tf n c g d t).lookup ("gap" : Str) = some (.int g) := rfl
theorem tf_due (n : Str) (c g d : Int) (t : Addr) : (tf n c g d t).lookup ("due" : Str) = some (.int d) := rfl
theorem tf_holds (n : Str) (c g d : Int) (t : Addr) : (tf n c g d t).lookup ("holds" : Str) = some (.ref t) := rfl
theorem tf_put (n : Str) (c g d : Int) (t : Addr) : putF "holds" (.ref t) (putF "due" (.int d) (putF "gap" (.int g) (putF "cost" (.int c) (putF "name" (.str n) [])))) = tf n c g d t := rfl
/-- what is asked of the class Task as the top has made it -/
structure TaskC (K : PySem.W.Frag) (mg : Str → Option Value) (C : Addr) : Prop where
  cl : Cls K C
  nN : NoAttr K C "name"
  nC : NoAttr K C "cost"
  nG : NoAttr K C "gap"
  nD : NoAttr K C "due"
  nH : NoAttr K C "holds"
  mg : mg "Task" = some (.ref C)
  kc : PySem.W.findIn K (.ref C) "__class__" = some (some (.builtin "object.__class__"))
  kg : PySem.W.specialIn K (.builtin "object.__class__") "__get__" = some (some (.builtin "getset_descriptor.__get__"))
  kt : PySem.W.takesIn K (.builtin "object.__class__") = some true
  km : PySem.W.mroIn K C (.type "object") = some true
  kk : PySem.W.kitOne K (.ref C) (.ref C) = some true
structure TaskV where
  name : Str
  cost : Int
  gap : Int
  due : Int
  holds : List Hold
/-- a good task -/
def TaskV.ok (t : TaskV) : Prop := isNm t.name = true ∧ (1 ≤ t.cost ∧ t.cost ≤ 99) ∧ (1 ≤ t.gap ∧ t.gap ≤ 600) ∧ (1 ≤ t.due ∧ t.due ≤ t.gap) ∧ areHds t.holds t.cost = true ∧ ∀ h ∈ t.holds, h.1.length ≤ sizeLine
/-- a task stands at x, its holds at h -/
def TaskAt (K : PySem.W.Frag) (C : Addr) (H : Hp) (x : Addr) (v : TaskV) (h : Addr) : Prop := (∃ dx, H x = some (.ins C dx (tf v.name v.cost v.gap v.due h))) ∧ HdsAt K H h v.holds
theorem TaskAt.same {K : PySem.W.Frag} {C : Addr} {H H' : Hp} {x h : Addr} {v : TaskV} (d : TaskAt K C H x v h) (s : Same H H') : TaskAt K C H' x v h := by
  obtain ⟨⟨dx, e⟩, q⟩ := d
  exact ⟨⟨dx, s _ _ e⟩, q.same s⟩
def dueV : Option Int → V
  | none => .non
  | some d => .int d
/-- the heap behind the five fields -/
def initH (H : Hp) (C x dx : Addr) (n : Str) (c g d : Int) (t : Addr) : Hp :=
  upd (upd (upd (upd (upd H x (.ins C dx (putF "name" (.str n) []))) x (.ins C dx (putF "cost" (.int c) (putF "name" (.str n) [])))) x (.ins C dx (putF "gap" (.int g) (putF "cost" (.int c) (putF "name" (.str n) []))))) x
    (.ins C dx (putF "due" (.int d) (putF "gap" (.int g) (putF "cost" (.int c) (putF "name" (.str n) [])))))) x (.ins C dx (putF "holds" (.ref t) (putF "due" (.int d) (putF "gap" (.int g) (putF "cost" (.int c) (putF "name" (.str n) []))))))
theorem initH_keep {H : Hp} {C x dx t b : Addr} {n : Str} {c g d : Int} (hb : b ≠ x) : initH H C x dx n c g d t b = H b := by
  unfold initH
  rw [upd_ne hb, upd_ne hb, upd_ne hb, upd_ne hb, upd_ne hb]
theorem initH_at {K : PySem.W.Frag} {H H2 : Hp} {C x dx h : Addr} {v : TaskV} (hx : H x = some (.ins C dx [])) (s : Same H H2) (hh : HdsAt K H h v.holds) :
    TaskAt K C (initH H2 C x dx v.name v.cost v.gap v.due h) x v h ∧ ∀ b o, H b = some o → b ≠ x → initH H2 C x dx v.name v.cost v.gap v.due h b = some o := by
  have keep : ∀ b o, H b = some o → b ≠ x → initH H2 C x dx v.name v.cost v.gap v.due h b = some o := fun b o e hb => by
    rw [initH_keep hb]
    exact s _ _ e
  refine ⟨⟨⟨dx, by unfold initH; rw [upd_same, tf_put]⟩, ?_⟩, keep⟩
  obtain ⟨vs, q1, q2, q3⟩ := hh
  have kT : ∀ a xs, SqT K H a xs → SqT K (initH H2 C x dx v.name v.cost v.gap v.due h) a xs := fun a xs z => by
    rcases z with (z | ⟨o, z⟩) | z
    · exact .inl (.inl (keep a _ z (ne_of z hx (by intro y; cases y))))
    · exact .inl (.inr ⟨o, keep a _ z (ne_of z hx (by intro y; cases y))⟩)
    · exact .inr z
  exact ⟨vs, kT _ _ q1, q2, fun i v h e1 e2 => by obtain ⟨a, ea, z⟩ := q3 i v h e1 e2; exact ⟨a, ea, kT _ _ z⟩⟩
section
variable {P : Program} {w : World} {K : PySem.W.Frag} {mg : Str → Option Value} {base : Heap}
/-! wrong_in_task of a good one -/
abbrev nWrongT : List Str := ["name", "cost", "gap", "due", "holds"]
theorem scWrongT : FnScope nWrongT nWrongT (defScope sWrongT) := ⟨rfl, rfl, rfl, by decide +kernel, rfl, by decide +kernel, by decide +kernel⟩
def spWrongT (K : PySem.W.Frag) : Sp := fun vs H Q _ => ∃ (h : Addr) (v : TaskV) (od : Option Int), vs = [.str v.name, .int v.cost, .int v.gap, dueV od, .ref h] ∧ v.due = od.getD v.gap ∧ v.ok ∧ HdsAt K H h v.holds ∧ ∀ H', Same H H' → Q .non H'
theorem ok_wrongT {f : Addr} {fd : FuncData} (F : Fun K "wrong_in_task" "wrong_in_task" sWrongT f fd) (mC : ∃ t, mg "MOST_COST" = some (.int 99 t)) (mG : ∃ t, mg "MOST_GAP" = some (.int 600 t))
    (DN : Dn P w K mg base 2 "is_name" ["thing"] (spName K)) (DW : Dn P w K mg base 2 "is_whole" ["thing", "least", "most"] (spWhole K)) (DH : Dn P w K mg base 4 "are_holds" ["thing", "cost"] (spHolds K)) :
    FnOk P w K mg base CX0 5 f fd nWrongT (spWrongT K) := by
  obtain ⟨uC, mC⟩ := mC
  obtain ⟨uG, mG⟩ := mG
  refine F.ok scWrongT (fun vs H Q E h => ?_) (fun cdv A outer s H vs Q E hr h => ?_)
  · obtain ⟨h, v, od, rfl, _⟩ := h
    rfl
  · obtain ⟨h, v, od, rfl, hdue, ⟨o1, o2, o3, o4, o5, o6⟩, hh, k⟩ := h
    have hr1 : Room 2 _ := hr.mono (by decide)
    refine ⟨_, (pss_cons (ps_if (pt_not (pt_val (pcall DN hr1 (by rfl) (pa_cons (pv 0) pa_nil)))) pss_never pss_nil) (pss_cons (ps_if (pt_not (pt_val (pcall DW hr1 (by rfl) (pa_cons (pv 1) (pa_cons pe_int (pa_cons (pe_glob (v := .int 99) rfl mC ⟨_, rfl⟩) pa_nil)))))) pss_never pss_nil) (pss_cons (ps_if (pt_not (pt_val (pcall DW hr1 (by rfl) (pa_cons (pv 2) (pa_cons pe_int (pa_cons (pe_glob (v := .int 600) rfl mG ⟨_, rfl⟩) pa_nil)))))) pss_never pss_nil) (pss_cons (ps_if (PW.pt (pw_and (pt_cmpR op_notN (pv 3) pe_non (nomark _)) (pw_and1 (pt_not (pt_val (pcall DW hr1 (by rfl) (pa_cons (pv 3) (pa_cons pe_int (pa_cons (pv 2) pa_nil))))))))) pss_never pss_nil) (pss_cons (ps_if (pt_not (pt_val (pcall DH hr (by rfl) (pa_cons (pv 4) (pa_cons (pv 1) pa_nil))))) pss_never pss_nil) (pss_one (ps_ret pe_non))))))), ?_⟩
    have hn8 : v.name.length ≤ sizeLine := by
      unfold isNm at o1
      simp only [Bool.and_eq_true, decide_eq_true_eq] at o1
      exact Nat.le_trans o1.2.1 (by decide)
    refine ⟨_, rfl, _, rfl, .inl ⟨_, rfl, hn8, fun H1 s1 => ⟨_, rfl, ?_⟩⟩⟩
    rw [o1]
    refine iteF ⟨_, rfl, _, _, _, rfl, .inl ⟨_, rfl, _, rfl, ?_⟩⟩
    rw [decide_eq_true o2.1, decide_eq_true o2.2]
    refine iteF ⟨_, rfl, _, _, _, rfl, .inl ⟨_, rfl, _, rfl, ?_⟩⟩
    rw [decide_eq_true o3.1, decide_eq_true o3.2]
    refine iteF ⟨_, rfl, rfl, _, rfl, ?_⟩
    cases od with
    | none =>
      refine ⟨_, rfl, _, rfl, h, v.holds, v.cost, rfl, hh.same s1, o6, fun H2 s2 => ⟨_, rfl, ?_⟩⟩
      rw [o5]
      exact iteF (k H2 (s1.trans s2))
    | some d =>
      have ed : v.due = d := hdue
      refine ⟨_, rfl, _, rfl, _, _, _, rfl, .inl ⟨_, rfl, _, rfl, ?_⟩⟩
      rw [ed] at o4
      rw [decide_eq_true o4.1, decide_eq_true o4.2]
      refine ⟨_, rfl, _, rfl, h, v.holds, v.cost, rfl, hh.same s1, o6, fun H2 s2 => ⟨_, rfl, ?_⟩⟩
      rw [o5]
      exact iteF (k H2 (s1.trans s2))
abbrev nInit : List Str := ["self", "name", "cost", "gap", "due", "holds", "part"]
theorem scInit : FnScope nInit ["self", "name", "cost", "gap", "due", "holds"] (defScope sInit) := ⟨rfl, rfl, rfl, by decide +kernel, rfl, by decide +kernel, by decide +kernel⟩
def spInit (K : PySem.W.Frag) (C : Addr) : Sp := fun vs H Q _ => ∃ (x dx h : Addr) (v : TaskV) (od : Option Int), vs = [.ref x, .str v.name, .int v.cost, .int v.gap, dueV od, .ref h] ∧ v.due = od.getD v.gap ∧ v.ok ∧ HdsAt K H h v.holds ∧ H x = some (.ins C dx []) ∧
  ∀ H', TaskAt K C H' x v h → (∀ b o, H b = some o → b ≠ x → H' b = some o) → Q .non H'
theorem ok_init {C f : Addr} {fd : FuncData} {kws : List (Str × V)} (F : FunD K "__init__" "Task.__init__" (defArgs sInit) (defBody sInit) (defScope sInit) [] kws f fd) (T : TaskC K mg C)
    (DT : Dn P w K mg base 5 "wrong_in_task" nWrongT (spWrongT K)) :
    FnOk P w K mg base CX0 6 f fd ["self", "name", "cost", "gap", "due", "holds"] (spInit K C) := by
  refine F.ok (CX := CX0) scInit (fun vs H Q E h => ?_) (fun cdv A outer s H vs Q E hr h => ?_)
  · obtain ⟨x, dx, h, v, od, rfl, _⟩ := h
    rfl
  · obtain ⟨x, dx, h, v, od, rfl, hdue, hok, hh, hx, k⟩ := h
    refine ⟨_, (pss_cons (ps_set (i := 6) scInit.nd rfl (.inl rfl) (pcall DT hr (by rfl) (pa_cons (pv 1) (pa_cons (pv 2) (pa_cons (pv 3) (pa_cons (pv 4) (pa_cons (pv 5) pa_nil))))))) (pss_cons (ps_if (pt_cmpR op_notN (pv 6) pe_non (nomark _)) pss_never pss_nil) (pss_cons (ps_fld (pv 0) (pv 1) rfl) (pss_cons (ps_fld (pv 0) (pv 2) rfl) (pss_cons (ps_fld (pv 0) (pv 3) rfl) (pss_cons (ps_fld (pv 0) (pe_ifExp (pt_cmpR op_isN (pv 4) pe_non (nomark _)) (pv 3) (pv 4)) rfl) (pss_one (ps_fld (pv 0) (pv 5) rfl)))))))), ?_⟩
    refine ⟨_, rfl, _, rfl, _, rfl, _, rfl, _, rfl, h, v, od, rfl, hdue, hok, hh, fun H2 s2 => ?_⟩
    refine ⟨_, rfl, rfl, _, rfl, ?_⟩
    refine iteF ?_
    refine ⟨_, rfl, _, rfl, x, C, dx, [], rfl, s2 _ _ hx, T.cl, T.nN, (by show 0 < 1000; decide), ?_⟩
    refine ⟨_, rfl, _, rfl, x, C, dx, _, rfl, upd_same, T.cl, T.nC, (by show 1 < 1000; decide), ?_⟩
    refine ⟨_, rfl, _, rfl, x, C, dx, _, rfl, upd_same, T.cl, T.nG, (by show 2 < 1000; decide), ?_⟩
    refine ⟨_, rfl, rfl, _, rfl, ?_⟩
    obtain ⟨z1, z2⟩ := initH_at hx s2 hh
    cases od with
    | none =>
      have ed : v.due = v.gap := hdue
      rw [ed] at z1 z2
      exact ⟨_, rfl, _, rfl, x, C, dx, _, rfl, upd_same, T.cl, T.nD, (by show 3 < 1000; decide), _, rfl, _, rfl, x, C, dx, _, rfl, upd_same, T.cl, T.nH, (by show 4 < 1000; decide), k _ z1 z2⟩
    | some d =>
      have ed : v.due = d := hdue
      rw [ed] at z1 z2
      exact ⟨_, rfl, _, rfl, x, C, dx, _, rfl, upd_same, T.cl, T.nD, (by show 3 < 1000; decide), _, rfl, _, rfl, x, C, dx, _, rfl, upd_same, T.cl, T.nH, (by show 4 < 1000; decide), k _ z1 z2⟩
end
end Du

set_option Elab.async false
set_option linter.all false
set_option maxRecDepth 100000
namespace Du
open PySem L2
section
variable {P : Program} {w : World} {K : PySem.W.Frag} {mg : Str → Option Value} {base : Heap}
def hdD (h : Hold) : PyData := .tuple [.str h.1, .int h.2.1, .int h.2.2]
theorem hd_dp {H : Hp} {v : V} {h : Hold} (d : HdAt K H v h) : Dp K H v (hdD h) := by
  obtain ⟨a, rfl, q⟩ := d
  exact .tup q (.cons (.str _) (.cons (.int _) (.cons (.int _) .nil)))
theorem hds_all {H : Hp} : ∀ {vs : List V} {hs : List Hold}, vs.length = hs.length → (∀ (i : Nat) v h, vs[i]? = some v → hs[i]? = some h → HdAt K H v h) → DpAll K H vs (hs.map hdD)
  | [], [], _, _ => .nil
  | v :: vs, h :: hs, hl, q => .cons (hd_dp (q 0 v h rfl rfl)) (hds_all (Nat.succ.inj hl) fun i a b e1 e2 => q (i + 1) a b e1 e2)
theorem hds_dp {H : Hp} {t : Addr} {hs : List Hold} (d : HdsAt K H t hs) : Dp K H (.ref t) (.tuple (hs.map hdD)) := by
  obtain ⟨vs, q1, q2, q3⟩ := d
  exact .tup q1 (hds_all q2 q3)
theorem letter_small {c : Nat} (h : isLetter c = true) : 97 ≤ c ∧ c ≤ 122 := by
  have z : ∀ c ∈ letters.cps.toList, 97 ≤ c ∧ c ≤ 122 := by decide +kernel
  exact z c (of_decide_eq_true h)
theorem nm_len {z : Str} (h : isNm z = true) : 1 ≤ z.length ∧ z.length ≤ 8 := by
  unfold isNm at h
  simp only [Bool.and_eq_true, decide_eq_true_eq] at h
  exact ⟨h.1, h.2.1⟩
theorem nm_codes {z : Str} (h : isNm z = true) : ∀ c ∈ z.cps.toList, 97 ≤ c ∧ c ≤ 122 := by
  unfold isNm at h
  simp only [Bool.and_eq_true, List.all_eq_true] at h
  exact fun c hc => letter_small (h.2.2 c hc)
theorem nm_strOk {z : Str} (h : isNm z = true) : PyData.strOk z = true := by
  unfold PyData.strOk
  rw [← Array.all_toList, List.all_eq_true]
  intro c hc
  have := nm_codes h c hc
  exact decide_eq_true (by omega)
theorem hds_lay : ∀ hs : List Hold, (∀ h ∈ hs, isNm h.1 = true) → PyData.canLayAll0 (hs.map hdD) = true
  | [], _ => rfl
  | h :: hs, q => by
    show (PyData.canLay0 (hdD h) && PyData.canLayAll0 (hs.map hdD)) = true
    rw [hds_lay hs fun g hg => q g (List.mem_cons_of_mem _ hg)]
    have e : PyData.canLay0 (hdD h) = PyData.strOk h.1 := by
      show (PyData.strOk h.1 && (true && (true && true))) = PyData.strOk h.1
      simp
    rw [e, nm_strOk (q h List.mem_cons_self)]
    rfl
theorem hds_depth : ∀ hs : List Hold, PyData.depthAll (hs.map hdD) ≤ 1
  | [] => Nat.zero_le _
  | h :: hs => by
    show max (PyData.depth (hdD h)) (PyData.depthAll (hs.map hdD)) ≤ 1
    have := hds_depth hs
    have e : PyData.depth (hdD h) = 1 := rfl
    omega
theorem hds_shaped {hs : List Hold} (q : ∀ h ∈ hs, isNm h.1 = true) : SeqAt.shaped (.tuple (hs.map hdD)) = true := by
  unfold SeqAt.shaped
  have h1 : PyData.canLay0 (.tuple (hs.map hdD)) = true := by
    simp only [PyData.canLay0]
    exact hds_lay hs q
  have h2 : PyData.depth (.tuple (hs.map hdD)) ≤ 64 := by
    have := hds_depth hs
    simp only [PyData.depth]
    omega
  rw [h1, decide_eq_true h2]
  rfl
theorem hds_eqv {hs : List Hold} (q : ∀ h ∈ hs, isNm h.1 = true) : PyData.eqv (.tuple (hs.map hdD)) (.tuple (hs.map hdD)) = true := SeqAt.eqv_refl _ (SeqAt.canLay_of_shaped (hds_shaped q))
/-! Task.__eq__ -/
theorem scEq : FnScope ["self", "other"] ["self", "other"] (defScope sEq) := ⟨rfl, rfl, rfl, by decide +kernel, rfl, by decide +kernel, by decide +kernel⟩
def TwoTasks (K : PySem.W.Frag) (C : Addr) (a b : Addr) (H : Hp) : Prop := ∃ (v : TaskV) (ha hb : Addr), TaskAt K C H a v ha ∧ TaskAt K C H b v hb ∧ ∀ h ∈ v.holds, isNm h.1 = true
theorem decV (x : V) : decide (x = x) = true := decide_eq_true rfl
theorem ok_eq {C f : Addr} {fd : FuncData} (F : Fun K "__eq__" "Task.__eq__" sEq f fd) (T : TaskC K mg C) (mI : mg "isinstance" = none) :
    FnOk P w K mg base CX0 3 f fd ["self", "other"] (spEq (TwoTasks K C)) := by
  refine F.ok scEq (fun vs H Q E h => ?_) (fun cdv A outer s H vs Q E hr h => ?_)
  · obtain ⟨a, b, rfl, _⟩ := h
    rfl
  · obtain ⟨a, b, rfl, ⟨v, ha, hb, ⟨⟨da, e1⟩, q1⟩, ⟨⟨db, e2⟩, q2⟩, hnm⟩, k⟩ := h
    refine ⟨_, pss_one (ps_ret (pe_and (pe_callB call_isi (by rfl) mI (by decide +kernel) (pa_cons (pv 1) (pa_cons (pe_glob (v := .ref C) rfl T.mg rfl) pa_nil)))
      (pe_and (pe_cmpR op_eq (pe_fld (pv 0) rfl) (pe_fld (pv 1) rfl) (nomark _)) (pe_and (pe_cmpR op_eq (pe_fld (pv 0) rfl) (pe_fld (pv 1) rfl) (nomark _)) (pe_and (pe_cmpR op_eq (pe_fld (pv 0) rfl) (pe_fld (pv 1) rfl) (nomark _))
      (pe_and (pe_cmpR op_eq (pe_fld (pv 0) rfl) (pe_fld (pv 1) rfl) (nomark _)) (pe_one (pe_cmpR (op_eqD hr.units) (pe_fld (pv 0) rfl) (pe_fld (pv 1) rfl) (nomark _))))))))), ?_⟩
    refine ⟨_, rfl, _, _, _, _, true, rfl, .own C, .base (.ins e2 T.cl T.kc T.kg T.kt T.km), T.kk, true, rfl, ?_⟩
    refine iteT ⟨_, rfl, a, C, da, _, _, rfl, e1, T.cl, T.nN, tf_name _ _ _ _ _, _, rfl, b, C, db, _, _, rfl, e2, T.cl, T.nN, tf_name _ _ _ _ _, rfl, _, rfl, ?_⟩
    rw [decV]
    refine iteT ⟨_, rfl, a, C, da, _, _, rfl, e1, T.cl, T.nC, tf_cost _ _ _ _ _, _, rfl, b, C, db, _, _, rfl, e2, T.cl, T.nC, tf_cost _ _ _ _ _, rfl, _, rfl, ?_⟩
    rw [decV]
    refine iteT ⟨_, rfl, a, C, da, _, _, rfl, e1, T.cl, T.nG, tf_gap _ _ _ _ _, _, rfl, b, C, db, _, _, rfl, e2, T.cl, T.nG, tf_gap _ _ _ _ _, rfl, _, rfl, ?_⟩
    rw [decV]
    refine iteT ⟨_, rfl, a, C, da, _, _, rfl, e1, T.cl, T.nD, tf_due _ _ _ _ _, _, rfl, b, C, db, _, _, rfl, e2, T.cl, T.nD, tf_due _ _ _ _ _, rfl, _, rfl, ?_⟩
    rw [decV]
    refine iteT ⟨_, rfl, a, C, da, _, _, rfl, e1, T.cl, T.nH, tf_holds _ _ _ _ _, _, rfl, b, C, db, _, _, rfl, e2, T.cl, T.nH, tf_holds _ _ _ _ _, _, _, hds_dp q1, hds_dp q2, hds_shaped hnm, hds_shaped hnm, ?_⟩
    rw [hds_eqv hnm]
    exact k H (Same.refl _)
/-! Task.__len__ -/
theorem scLen : FnScope ["self"] ["self"] (defScope sLen) := ⟨rfl, rfl, rfl, by decide +kernel, rfl, by decide +kernel, by decide +kernel⟩
def spLenT (K : PySem.W.Frag) (C : Addr) : Sp := fun vs H Q _ => ∃ (a h : Addr) (v : TaskV), vs = [.ref a] ∧ TaskAt K C H a v h ∧ 0 ≤ v.cost ∧ v.cost < 1000 ∧ Q (.int v.cost) H
theorem ok_len {C f : Addr} {fd : FuncData} (F : Fun K "__len__" "Task.__len__" sLen f fd) (T : TaskC K mg C) (ml : mg "len" = none) (mr : mg "range" = none) :
    FnOk P w K mg base CX0 3 f fd ["self"] (spLenT K C) := by
  refine F.ok scLen (fun vs H Q E h => ?_) (fun cdv A outer s H vs Q E hr h => ?_)
  · obtain ⟨a, h, v, rfl, _⟩ := h
    rfl
  · obtain ⟨a, h, v, rfl, ⟨⟨dx, e1⟩, _⟩, h0, h1, q⟩ := h
    refine ⟨_, pss_one (ps_ret (pe_lenRg (by rfl) ml (prg_1 (by rfl) mr (pe_fld (pv 0) rfl)))), ?_⟩
    have en : (((v.cost - 0).toNat : Nat) : Int) = v.cost := by omega
    refine ⟨_, rfl, a, C, dx, _, _, rfl, e1, T.cl, T.nC, tf_cost _ _ _ _ _, _, rfl, by omega, ?_⟩
    rw [en]
    exact q
end
end Du

set_option Elab.async false
set_option linter.all false
set_option maxRecDepth 100000
namespace Du
open PySem L2
abbrev sCell : Stmt := topS 45
abbrev sPurse : Stmt := topS 46
abbrev sTake : Stmt := topS 47
section
variable {P : Program} {w : World} {K : PySem.W.Frag} {mg : Str → Option Value} {base : Heap}
theorem cutV_mem {xs : List V} {lo hi : Option Int} {x : V} (h : x ∈ cutV xs lo hi) : x ∈ xs := List.mem_of_mem_drop (List.mem_of_mem_take h)
/-! _law_cell -/
theorem scCell : FnScope ["_law_script", "_law_k", "_law_state", "_law_cell_here"] ["_law_script", "_law_k"] (defScope sCell) := ⟨rfl, rfl, rfl, by decide +kernel, rfl, by decide +kernel, by decide +kernel⟩
def spCellL (K : PySem.W.Frag) : Sp := fun vs H Q _ => ∃ (a : Addr) (ns : List Int) (k : Nat), vs = [.ref a, .int (k : Int)] ∧ SqL K H a (ns.map V.int) ∧ k < 64 ∧ ∀ (n : Int) H', Same H H' → Q (.int n) H'
theorem ok_cell {f : Addr} {fd : FuncData} (F : Fun K "_law_cell" "_law_cell" sCell f fd) (ml : mg "len" = none) : FnOk P w K mg base CX0 3 f fd ["_law_script", "_law_k"] (spCellL K) := by
  refine F.ok scCell (fun vs H Q E h => ?_) (fun cdv A outer s H vs Q E hr h => ?_)
  · obtain ⟨a, ns, k, rfl, _⟩ := h
    rfl
  · obtain ⟨a, ns, k, rfl, hS, hk, q⟩ := h
    refine ⟨_, pss_cons (ps_if (pt_cmpR op_lt (pv 1) (pe_callB call_len_seq (by rfl) ml (by decide +kernel) (pa_cons (pv 0) pa_nil)) (nomark _)) (pss_one (ps_ret (pe_ix ix_list (pv 0) (pv 1) (fun _ _ => rfl)))) pss_nil)
      (pss_cons (ps_set (i := 2) scCell.nd rfl (.inl rfl) (pe_op op_mod (pe_op op_mul pe_int (pe_op op_add (pe_op op_add (pe_op op_mul (pv 1) (pv 1)) (pe_op op_mul pe_int (pv 1))) pe_int)) pe_int))
      (pss_cons (ps_for PassesOwn.never rfl (pi_list (pe_slice sl_list (pv 0) po_none (po_some pe_int))) (pg_name (i := 3) scCell.nd rfl (.inl rfl))
        (pss_one (ps_set (i := 2) scCell.nd rfl (.inl rfl) (pe_op op_mod (pe_op op_add (pe_op op_mul (pv 2) pe_int) (pv 3)) pe_int))))
      (pss_one (ps_ret (pv 2))))), ?_⟩
    refine ⟨_, rfl, _, rfl, a, _, rfl, .inl hS, _, _, rfl, rfl, _, rfl, ?_⟩
    by_cases hlt : k < ns.length
    · have e1 : decide ((k : Int) < (((ns.map V.int).length : Nat) : Int)) = true := decide_eq_true (by rw [List.length_map]; omega)
      rw [e1]
      have g : (ns.map V.int)[k]? = some (V.int ns[k]) := by
        rw [List.getElem?_map, List.getElem?_eq_getElem hlt]
        rfl
      exact iteT ⟨_, rfl, _, rfl, a, _, _, _, rfl, rfl, hS, at_of rfl g, q _ H (Same.refl _)⟩
    · have e1 : decide ((k : Int) < (((ns.map V.int).length : Nat) : Int)) = false := decide_eq_false (by rw [List.length_map]; omega)
      rw [e1]
      refine iteF ⟨_, rfl, _, rfl, _, _, rfl, rfl, .inl ⟨by omega, by omega⟩, _, rfl, _, _, rfl, rfl, .inl ⟨by decide, by decide⟩, _, _, rfl, rfl, _, _, rfl, rfl, _, _, rfl, rfl, .inl ⟨by decide, by decide⟩, _, _, rfl, rfl, (by show (0 : Int) < 1000000021; decide), ?_⟩
      refine ⟨_, rfl, 3, rfl, a, _, rfl, hS, fun c nc => ?_⟩
      refine ⟨c, rfl, ⟨_, SqL.of upd_same⟩, for_list (K := K) (a := c) (xs := cutV (ns.map V.int) none (some 3)) (fun i σ H' => ∃ (st : Int) (v : Option V), σ = [some (.ref a), some (.int (k : Int)), some (.int st), v] ∧ Same (upd H c (.lst (cutV (ns.map V.int) none (some 3)))) H')
        ⟨_, none, rfl, Same.refl _⟩ (fun i σ H' _ z => ?_) ?_ ?_⟩
      · obtain ⟨_, _, _, s1⟩ := z
        exact SqL.of (s1 _ _ upd_same)
      · rintro i x σ H' hi ⟨st, v, rfl, s1⟩
        obtain ⟨z, _, rfl⟩ := List.mem_map.mp (cutV_mem (List.mem_of_getElem? hi))
        refine ⟨_, rfl, _, _, rfl, rfl, .inr ⟨by decide, by decide⟩, _, rfl, _, _, rfl, rfl, _, _, rfl, rfl, (by show (0 : Int) < 1000000021; decide), ?_⟩
        exact ⟨_, _, rfl, s1⟩
      · rintro σ H' ⟨st, v, rfl, s1⟩
        exact ⟨_, rfl, q st H' ((same_upd nc).trans s1)⟩
/-! _law_purse -/
def Purse (H : Hp) (p : Addr) : Prop := ∃ a d c : Int, H p = some (.lst [.int a, .int d, .int c]) ∧ 0 ≤ a ∧ a < 1000000021 ∧ 0 ≤ d ∧ 0 ≤ c
theorem scPurse : FnScope ["_law_cell_here", "_law_digits"] ["_law_cell_here"] (defScope sPurse) := ⟨rfl, rfl, rfl, by decide +kernel, rfl, by decide +kernel, by decide +kernel⟩
def spPurse : Sp := fun vs H Q _ => ∃ n : Int, vs = [.int n] ∧ ∀ p H', Same H H' → H p = none → Purse H' p → Q (.ref p) H'
theorem ok_purse {f : Addr} {fd : FuncData} (F : Fun K "_law_purse" "_law_purse" sPurse f fd) (ma : mg "abs" = none) : FnOk P w K mg base CX0 3 f fd ["_law_cell_here"] spPurse := by
  refine F.ok scPurse (fun vs H Q E h => ?_) (fun cdv A outer s H vs Q E hr h => ?_)
  · obtain ⟨n, rfl, _⟩ := h
    rfl
  · obtain ⟨n, rfl, q⟩ := h
    refine ⟨_, pss_cons (ps_set (i := 1) scPurse.nd rfl (.inl rfl) pe_int)
      (pss_cons (ps_if (PW.pt (pw_or (pt_cmpR op_lt (pv 0) pe_int (nomark _)) (pw_or1 (pt_cmpR op_ge (pv 0) (pe_op op_pow pe_int pe_int) (nomark _)))))
        (pss_one (ps_set (i := 1) scPurse.nd rfl (.inl rfl) (pe_callB call_abs (by rfl) ma (by decide +kernel) (pa_cons (pv 0) pa_nil)))) pss_nil)
      (pss_one (ps_ret (pe_lst (pa_cons (pe_op op_mod (pv 0) pe_int) (pa_cons (pv 1) (pa_cons pe_int pa_nil))))))), ?_⟩
    have fin : ∀ d : Int, 0 ≤ d → tRet (fun σ H Q => tCons (tOp (rI (fun _ j => 0 < j) fun i j => .int (i % j)) (tVar 0) (tC (.int 1000000021))) (tCons (tVar 1) (tCons (tC (.int 0)) tNil)) σ H fun vs H1 => vs.length ≤ sizeLine ∧ ∀ p, H1 p = none → Q (.ref p) (upd H1 p (.lst vs)))
        { nx := fun _ H' => Q .non H', rt := Q } [some (.int n), some (.int d)] H := by
      intro d hd
      refine ⟨_, rfl, _, _, rfl, rfl, (by show (0 : Int) < 1000000021; decide), _, rfl, (by show 3 ≤ sizeLine; decide), fun p np => ?_⟩
      exact q p _ (same_upd np) np ⟨_, d, 0, upd_same, Int.emod_nonneg _ (by decide), Int.emod_lt_of_pos _ (by decide), hd, Int.le_refl _⟩
    refine ⟨_, rfl, _, _, rfl, rfl, _, rfl, ?_⟩
    by_cases h1 : n < 0
    · rw [decide_eq_true h1]
      refine ⟨_, rfl, n, rfl, ?_⟩
      exact fin _ (by split <;> omega)
    · rw [decide_eq_false h1]
      refine ⟨_, rfl, _, _, rfl, rfl, ⟨by decide, by decide, by decide⟩, _, _, rfl, rfl, _, rfl, ?_⟩
      by_cases h2 : (10 : Int) ^ (18 : Int).toNat ≤ n
      · rw [decide_eq_true h2]
        refine ⟨_, rfl, n, rfl, ?_⟩
        exact fin _ (by split <;> omega)
      · rw [decide_eq_false h2]
        exact fin 0 (Int.le_refl _)
/-! _law_take -/
/-- the purse goes on, all else that is tracked stays -/
structure Step (p : Addr) (H H' : Hp) : Prop where
  purse : Purse H' p
  keep : ∀ b o, b ≠ p → H b = some o → H' b = some o
theorem scTake : FnScope ["_law_purse_here", "_law_many", "_law_state", "_law_taken"] ["_law_purse_here", "_law_many"] (defScope sTake) := ⟨rfl, rfl, rfl, by decide +kernel, rfl, by decide +kernel, by decide +kernel⟩
def spTake : Sp := fun vs H Q _ => ∃ (p : Addr) (m : Int), vs = [.ref p, .int m] ∧ 0 < m ∧ m < 1073741824 ∧ Purse H p ∧ ∀ (r : Int) H', 0 ≤ r → r < m → Step p H H' → Q (.int r) H'
theorem ok_take {f : Addr} {fd : FuncData} (F : Fun K "_law_take" "_law_take" sTake f fd) : FnOk P w K mg base CX0 3 f fd ["_law_purse_here", "_law_many"] spTake := by
  refine F.ok scTake (fun vs H Q E h => ?_) (fun cdv A outer s H vs Q E hr h => ?_)
  · obtain ⟨p, m, rfl, _⟩ := h
    rfl
  · obtain ⟨p, m, rfl, hm, hm2, ⟨a, d, c, hp, a0, a1, d0, c0⟩, q⟩ := h
    refine ⟨_, pss_cons (ps_asg (pe_op op_add (pe_ix ix_list (pv 0) pe_int (fun _ _ => rfl)) pe_int) (pg_sub (pv 0) pe_int set_list))
      (pss_cons (ps_set (i := 2) scTake.nd rfl (.inl rfl) (pe_ix ix_list (pv 0) pe_int (fun _ _ => rfl)))
      (pss_cons (ps_asg (pe_op op_mod (pe_op op_add (pe_op op_add (pe_op op_mul (pv 2) (pe_op op_add (pe_op op_mod (pv 2) pe_int) pe_int)) (pe_op op_mul pe_int (pe_ix ix_list (pv 0) pe_int (fun _ _ => rfl)))) pe_int) pe_int) (pg_sub (pv 0) pe_int set_list))
      (pss_cons (ps_if (pt_cmpR op_gt (pe_ix ix_list (pv 0) pe_int (fun _ _ => rfl)) pe_int (nomark _))
        (pss_cons (ps_set (i := 3) scTake.nd rfl (.inl rfl) (pe_op op_mod (pe_ix ix_list (pv 0) pe_int (fun _ _ => rfl)) (pv 1)))
        (pss_cons (ps_asg (pe_op op_fdiv (pe_ix ix_list (pv 0) pe_int (fun _ _ => rfl)) (pv 1)) (pg_sub (pv 0) pe_int set_list)) (pss_one (ps_ret (pv 3))))) pss_nil)
      (pss_one (ps_ret (pe_op op_mod (pe_op op_fdiv (pe_ix ix_list (pv 0) pe_int (fun _ _ => rfl)) pe_int) (pv 1))))))), ?_⟩
    refine ⟨_, rfl, p, _, _, _, rfl, rfl, SqL.of hp, at_of (j := 2) rfl rfl, _, _, rfl, rfl, _, rfl, p, _, _, 2, rfl, rfl, hp, rfl, ?_⟩
    refine ⟨_, rfl, p, _, _, _, rfl, rfl, SqL.of upd_same, at_of (j := 0) rfl rfl, ?_⟩
    refine ⟨_, rfl, _, rfl, _, _, rfl, rfl, (by show (0 : Int) < 50021; decide), _, _, rfl, rfl, _, _, rfl, rfl, .inl ⟨by omega, by omega⟩, _, rfl, p, _, _, _, rfl, rfl, SqL.of upd_same, at_of (j := 2) rfl rfl, _, _, rfl, rfl, .inl ⟨by decide, by decide⟩, _, _, rfl, rfl, _, _, rfl, rfl, _, _, rfl, rfl, (by show (0 : Int) < 1000000021; decide), ?_⟩
    refine ⟨_, rfl, p, _, _, 0, rfl, rfl, upd_same, rfl, ?_⟩
    refine ⟨_, rfl, p, _, _, _, rfl, rfl, SqL.of upd_same, at_of (j := 1) rfl rfl, _, _, rfl, rfl, _, rfl, ?_⟩
    have keep : ∀ (o1 o2 : HO) b o, b ≠ p → H b = some o → upd (upd H p o1) p o2 b = some o := fun o1 o2 b o hb e => by rw [upd_ne hb, upd_ne hb]; exact e
    have n0 : ∀ z : Int, 0 ≤ z % 1000000021 := fun z => Int.emod_nonneg _ (by decide)
    have n1 : ∀ z : Int, z % 1000000021 < 1000000021 := fun z => Int.emod_lt_of_pos _ (by decide)
    by_cases hd : 0 < d
    · rw [decide_eq_true hd]
      refine ⟨_, rfl, p, _, _, _, rfl, rfl, SqL.of upd_same, at_of (j := 1) rfl rfl, _, rfl, _, _, rfl, rfl, hm, ?_⟩
      refine ⟨_, rfl, p, _, _, _, rfl, rfl, SqL.of upd_same, at_of (j := 1) rfl rfl, _, rfl, _, _, rfl, rfl, ⟨hm, hm2⟩, _, rfl, p, _, _, 1, rfl, rfl, upd_same, rfl, _, rfl, ?_⟩
      refine q _ _ (Int.emod_nonneg _ (by omega)) (Int.emod_lt_of_pos _ hm) ⟨⟨_, _, _, upd_same, n0 _, n1 _, Int.ediv_nonneg d0 (by omega), by omega⟩, fun b o hb e => ?_⟩
      rw [upd_ne hb]
      exact keep _ _ b o hb e
    · rw [decide_eq_false hd]
      refine ⟨_, rfl, p, _, _, _, rfl, rfl, SqL.of upd_same, at_of (j := 0) rfl rfl, _, _, rfl, rfl, ⟨by decide, by decide⟩, _, rfl, _, _, rfl, rfl, hm, ?_⟩
      exact q _ _ (Int.emod_nonneg _ (by omega)) (Int.emod_lt_of_pos _ hm) ⟨⟨_, _, _, upd_same, n0 _, n1 _, d0, by omega⟩, keep _ _⟩
end
end Du

set_option Elab.async false
set_option linter.all false
set_option maxRecDepth 100000
namespace Du
open PySem L2
/-- a text of these signs -/
def ofL (l : List Nat) : Str := ⟨l.toArray⟩
theorem ofL_codes (l : List Nat) : (ofL l).cps.toList = l := by simp [ofL]
theorem ofL_inj {l m : List Nat} (h : ofL l = ofL m) : l = m := by
  have := congrArg (fun z : Str => z.cps.toList) h
  simpa [ofL] using this
theorem ofL_len (l : List Nat) : (ofL l).length = l.length := by simp [ofL, Str.length]
theorem str_ofL (z : Str) : z = ofL z.cps.toList := by
  cases z
  simp [ofL]
theorem app_ofL (l m : List Nat) : ofL l ++ ofL m = ofL (l ++ m) := by
  show Str.append _ _ = _
  simp [Str.append, ofL]
def allL (l : List Nat) : Prop := ∀ c ∈ l, isLetter c = true
theorem nm_ofL {l : List Nat} (h1 : 1 ≤ l.length) (h8 : l.length ≤ 8) (h : allL l) : isNm (ofL l) = true := by
  unfold isNm
  rw [ofL_len, ofL_codes, decide_eq_true h1, decide_eq_true h8]
  show (l.all isLetter) = true
  exact List.all_eq_true.mpr h
theorem nodup_range_map {α : Type} {n : Nat} {f : Nat → α} (h : ∀ i j, i < n → j < n → i < j → f i ≠ f j) : ((List.range n).map f).Nodup := by
  unfold List.Nodup
  rw [List.pairwise_map]
  exact (List.pairwise_lt_range (n := n)).imp_of_mem fun {a b} ha hb hab => h a b (List.mem_range.mp ha) (List.mem_range.mp hb) hab
/-! the words of rows -/
def ownW : List Str := ["task", "door", "every", "let", "leave", "come", "serve", "end", "in", "soon", "none", "go"]
def ix (n : Int) (spot step : Int) (k : Nat) : Nat := ((spot + step * (k : Int)) % n).toNat
theorem ix_lt {n spot step : Int} {k : Nat} (h : 0 < n) : (ix n spot step k : Int) < n ∧ ((ix n spot step k : Nat) : Int) = (spot + step * (k : Int)) % n := by
  have h1 := Int.emod_nonneg (spot + step * (k : Int)) (show n ≠ 0 by omega)
  have h2 := Int.emod_lt_of_pos (spot + step * (k : Int)) h
  unfold ix
  omega
def Stp (step : Int) : Prop := step = 1 ∨ step = 5 ∨ step = 7 ∨ step = 11
theorem ix12 {spot step : Int} (hs : Stp step) {i j : Nat} (hj : j < 12) (hij : i < j) : ix 12 spot step i ≠ ix 12 spot step j := by
  have h1 := (ix_lt (n := 12) (spot := spot) (step := step) (k := i) (by decide)).2
  have h2 := (ix_lt (n := 12) (spot := spot) (step := step) (k := j) (by decide)).2
  rcases hs with rfl | rfl | rfl | rfl <;> omega
theorem ix26 {spot step : Int} (hs : Stp step) {i j : Nat} (hj : j < 12) (hij : i < j) : ix 26 spot step i ≠ ix 26 spot step j := by
  have h1 := (ix_lt (n := 26) (spot := spot) (step := step) (k := i) (by decide)).2
  have h2 := (ix_lt (n := 26) (spot := spot) (step := step) (k := j) (by decide)).2
  rcases hs with rfl | rfl | rfl | rfl <;> omega
def w1 (spot step : Int) (k : Nat) : Str := ownW.getD (ix 12 spot step k) ""
theorem ownW_nodup : ownW.Nodup := by decide +kernel
theorem ownW_nm : ∀ z ∈ ownW, isNm z = true := by decide +kernel
theorem w1_at (spot step : Int) (k : Nat) : ownW[ix 12 spot step k]? = some (w1 spot step k) := by
  have h := (ix_lt (n := 12) (spot := spot) (step := step) (k := k) (by decide)).1
  have hl : ix 12 spot step k < ownW.length := by
    show ix 12 spot step k < 12
    omega
  unfold w1
  rw [List.getD_eq_getElem?_getD, List.getElem?_eq_getElem hl]
  rfl
theorem w1_nm (spot step : Int) (k : Nat) : isNm (w1 spot step k) = true := ownW_nm _ (List.mem_of_getElem? (w1_at spot step k))
theorem w1_nodup {spot step : Int} (hs : Stp step) {n : Nat} (hn : n ≤ 12) : ((List.range n).map (w1 spot step)).Nodup :=
  nodup_range_map fun i j hi hj hij e => ix12 hs (by omega) hij (nd_ix ownW_nodup (w1_at spot step i) (by rw [e]; exact w1_at spot step j))
/-! words about a stem -/
def letterAt (begin step : Int) (k : Nat) : Nat := letters.cps.toList.getD (ix 26 begin step k) 0
theorem letters_nodup : letters.cps.toList.Nodup := by decide +kernel
theorem letters_len : letters.cps.toList.length = 26 := by decide +kernel
theorem letter_at (begin step : Int) (k : Nat) : letters.cps.toList[ix 26 begin step k]? = some (letterAt begin step k) := by
  have h := (ix_lt (n := 26) (spot := begin) (step := step) (k := k) (by decide)).1
  have hl : ix 26 begin step k < letters.cps.toList.length := by
    rw [letters_len]
    omega
  unfold letterAt
  rw [List.getD_eq_getElem?_getD, List.getElem?_eq_getElem hl]
  rfl
theorem letter_is {i c : Nat} (h : letters.cps.toList[i]? = some c) : isLetter c = true := decide_eq_true (List.mem_of_getElem? h)
def w2 (st : List Nat) (cut : Nat) (begin step : Int) (k : Nat) : Str := ofL (st.take cut ++ [letterAt begin step k] ++ st.drop cut)
theorem w2_nm {st : List Nat} {cut : Nat} {begin step : Int} {k : Nat} (h : allL st) (hl : st.length ≤ 7) : isNm (w2 st cut begin step k) = true := by
  refine nm_ofL ?_ ?_ ?_
  · simp
    omega
  · simp
    omega
  · intro c hc
    simp at hc
    rcases hc with hc | hc | hc
    · exact h c (List.mem_of_mem_take hc)
    · rw [hc]
      exact letter_is (letter_at begin step k)
    · exact h c (List.mem_of_mem_drop hc)
theorem w2_nodup {st : List Nat} {cut : Nat} {begin step : Int} (hs : Stp step) {n : Nat} (hn : n ≤ 12) : ((List.range n).map (w2 st cut begin step)).Nodup :=
  nodup_range_map fun i j hi hj hij e => by
    have e1 := ofL_inj e
    rw [List.append_assoc, List.append_assoc] at e1
    have e2 := List.append_cancel_left e1
    have e3 : letterAt begin step i = letterAt begin step j := by
      simpa using e2
    exact ix26 hs (by omega) hij (nd_ix letters_nodup (letter_at begin step i) (by rw [e3]; exact letter_at begin step j))
/-! cuts -/
theorem cutS_to (st : List Nat) (cut : Nat) (h : cut ≤ st.length) : cutS (ofL st) none (some (cut : Int)) = ofL (st.take cut) := by
  unfold cutS
  rw [ofL_codes, ofL_len, HT.sIx_none, HT.sIx_nat, Nat.min_eq_left h]
  rfl
theorem cutS_from (st : List Nat) (cut : Nat) (h : cut ≤ st.length) : cutS (ofL st) (some (cut : Int)) none = ofL (st.drop cut) := by
  unfold cutS
  rw [ofL_codes, ofL_len, HT.sIx_none, HT.sIx_nat, Nat.min_eq_left h, List.take_of_length_le (by rw [List.length_drop]; exact Nat.le_refl _)]
  rfl
theorem join_ones : ∀ l : List Nat, Str.join "" (l.map fun c => (⟨#[c]⟩ : Str)) = ofL l
  | [] => rfl
  | [c] => rfl
  | c :: d :: r => by
    have ih := join_ones (d :: r)
    show (⟨#[c]⟩ : Str) ++ "" ++ Str.join "" ((d :: r).map fun c => (⟨#[c]⟩ : Str)) = ofL (c :: d :: r)
    rw [ih]
    show (ofL [c] ++ ofL []) ++ ofL (d :: r) = ofL (c :: d :: r)
    rw [app_ofL, app_ofL]
    rfl
end Du

set_option Elab.async false
set_option linter.all false
set_option maxRecDepth 100000
namespace Du
open PySem L2
abbrev sWords : Stmt := topS 48
theorem Purse.ne {H : Hp} {p q : Addr} (h : Purse H p) (n : H q = none) : q ≠ p := by
  obtain ⟨_, _, _, e, _⟩ := h
  exact (ne_of_none e n).symm
theorem Step.refl {p : Addr} {H : Hp} (h : Purse H p) : Step p H H := ⟨h, fun _ _ _ e => e⟩
theorem Step.trans {p : Addr} {H H1 H2 : Hp} (a : Step p H H1) (b : Step p H1 H2) : Step p H H2 := ⟨b.purse, fun c o n e => b.keep c o n (a.keep c o n e)⟩
theorem Purse.upd {H : Hp} {p q : Addr} {o : HO} (h : Purse H p) (n : q ≠ p) : Purse (upd H q o) p := by
  obtain ⟨a, d, c, e, r⟩ := h
  exact ⟨a, d, c, by rw [upd_ne n.symm]; exact e, r⟩
theorem Step.put {p q : Addr} {H H1 : Hp} {o : HO} (s : Step p H H1) (n : H q = none) (hq : q ≠ p) : Step p H (upd H1 q o) :=
  ⟨s.purse.upd hq, fun b u nb e => by rw [upd_ne (ne_of_none e n)]; exact s.keep b u nb e⟩
theorem Step.new {p q : Addr} {H : Hp} {o : HO} (h : Purse H p) (n : H q = none) : Step p H (upd H q o) := (Step.refl h).put n (h.ne n)
theorem Step.of_same {p : Addr} {H H' : Hp} (h : Purse H p) (s : Same H H') : Step p H H' := by
  obtain ⟨a, d, c, e, r⟩ := h
  exact ⟨⟨a, d, c, s _ _ e, r⟩, fun b o _ e => s b o e⟩
theorem Step.free {p q : Addr} {H H' : Hp} (s : Step p H H') (n : H' q = none) : H q = none := by
  cases e : H q with
  | none => rfl
  | some o =>
    rw [s.keep q o (s.purse.ne n) e] at n
    cases n
section
variable {P : Program} {w : World} {K : PySem.W.Frag} {mg : Str → Option Value} {base : Heap}
abbrev nWords : List Str := ["_law_purse_here", "_law_many", "_law_own", "_law_spot", "_law_step", "_law_letters", "_law_stem", "_law_cut", "_law_begin", "_law_k"]
theorem scWords : FnScope nWords ["_law_purse_here", "_law_many"] (defScope sWords) := ⟨rfl, rfl, rfl, by decide +kernel, rfl, by decide +kernel, by decide +kernel⟩
def spWords : Sp := fun vs H Q _ => ∃ (p : Addr) (m : Nat), vs = [.ref p, .int (m : Int)] ∧ m ≤ 12 ∧ Purse H p ∧
  ∀ (l : Addr) (ws : List Str) H', Step p H H' → H l = none → H' l = some (.lst (ws.map V.str)) → ws.length = m → ws.Nodup → (∀ z ∈ ws, isNm z = true) → Q (.ref l) H'
theorem at_nat {α : Type} {xs : List α} {z : Int} {j : Nat} {v : α} (e : z = (j : Int)) (h : xs[j]? = some v) : atI xs z = some v := by
  rw [e]
  exact atI_nat h
theorem step_of {r : Int} (h0 : 0 ≤ r) (h1 : r < 4) : ∃ s : Int, Stp s ∧ atI [V.int 1, V.int 5, V.int 7, V.int 11] r = some (V.int s) := by
  have h : r = 0 ∨ r = 1 ∨ r = 2 ∨ r = 3 := by omega
  rcases h with rfl | rfl | rfl | rfl
  · exact ⟨1, .inl rfl, at_of (j := 0) rfl rfl⟩
  · exact ⟨5, .inr (.inl rfl), at_of (j := 1) rfl rfl⟩
  · exact ⟨7, .inr (.inr (.inl rfl)), at_of (j := 2) rfl rfl⟩
  · exact ⟨11, .inr (.inr (.inr rfl)), at_of (j := 3) rfl rfl⟩
theorem range_map_succ {α : Type} (f : Nat → α) (i : Nat) : (List.range (i + 1)).map f = (List.range i).map f ++ [f i] := by
  rw [List.range_succ, List.map_append]
  rfl
theorem stp_small {s : Int} (h : Stp s) : -18446744073709551616 < s ∧ s < 18446744073709551616 := by
  rcases h with rfl | rfl | rfl | rfl <;> decide
set_option maxHeartbeats 1000000 in
theorem ok_words {f : Addr} {fd : FuncData} (F : Fun K "_law_words" "_law_words" sWords f fd) (ml : mg "len" = none) (mr : mg "range" = none) (DT : Dn P w K mg base 3 "_law_take" ["_law_purse_here", "_law_many"] spTake) :
    FnOk P w K mg base CX0 4 f fd ["_law_purse_here", "_law_many"] spWords := by
  refine F.ok scWords (fun vs H Q E h => ?_) (fun cdv A outer s H vs Q E hr h => ?_)
  · obtain ⟨p, m, rfl, _⟩ := h
    rfl
  · obtain ⟨p, m, rfl, hm, hp, q⟩ := h
    refine ⟨_, pss_cons (ps_set (i := 2) scWords.nd rfl (.inr rfl) (pe_lst (pa_cons pe_str (pa_cons pe_str (pa_cons pe_str (pa_cons pe_str (pa_cons pe_str (pa_cons pe_str (pa_cons pe_str (pa_cons pe_str (pa_cons pe_str (pa_cons pe_str (pa_cons pe_str (pa_cons pe_str pa_nil))))))))))))))
      (pss_cons (ps_asg (pe_tup (pa_cons (pcall DT hr (by rfl) (pa_cons (pv 0) (pa_cons pe_int pa_nil))) (pa_cons (pe_ix ix_list (pe_lst (pa_cons pe_int (pa_cons pe_int (pa_cons pe_int (pa_cons pe_int pa_nil))))) (pcall DT hr (by rfl) (pa_cons (pv 0) (pa_cons pe_int pa_nil))) (fun _ _ => rfl)) pa_nil)))
        (pg_tup rfl (pgs_cons (pg_name (i := 3) scWords.nd rfl (.inr rfl)) (pgs_cons (pg_name (i := 4) scWords.nd rfl (.inr rfl)) pgs_nil))))
      (pss_cons (ps_if (pt_cmpR op_eq (pcall DT hr (by rfl) (pa_cons (pv 0) (pa_cons pe_int pa_nil))) pe_int (nomark _))
        (pss_one (ps_ret (pe_lc (own := [("_law_k", 9)]) (g := gName 9) (tt := tYes) rfl scWords.nd (pi_range1 (by rfl) mr (pa_cons (pv 1) pa_nil)) (blkOk_by (N := nWords) (sc := defScope sWords) (by decide +kernel))
          (fun _ _ _ _ _ => pg_name (i := 9) scWords.nd rfl (Or.inl rfl)) (fun _ _ _ _ _ => pts_nil) (fun _ _ _ _ _ => pe_ix (show IxR _ (rIxL K) from ix_list) (pv 2) (pe_op op_mod (pe_op op_add (pv 3) (pe_op op_mul (pv 4) (pv 9))) pe_int) (fun _ _ => rfl))))) pss_nil)
      (pss_cons (ps_set (i := 5) scWords.nd rfl (.inr rfl) pe_str)
      (pss_cons (ps_set (i := 6) scWords.nd rfl (.inr rfl) (pe_join pe_str (pe_lc (own := [("_law_k", 9)]) (g := gName 9) (tt := tYes) rfl scWords.nd (pi_range1 (by rfl) mr (pa_cons (pcall DT hr (by rfl) (pa_cons (pv 0) (pa_cons pe_int pa_nil))) pa_nil))
          (blkOk_by (N := nWords) (sc := defScope sWords) (by decide +kernel)) (fun _ _ _ _ _ => pg_name (i := 9) scWords.nd rfl (Or.inl rfl)) (fun _ _ _ _ _ => pts_nil)
          (fun _ _ _ _ _ => pe_ix ix_str (pv 5) (pcall DT hr (by rfl) (pa_cons (pv 0) (pa_cons pe_int pa_nil))) (fun _ _ => rfl)))))
      (pss_cons (ps_asg (pe_tup (pa_cons (pcall DT hr (by rfl) (pa_cons (pv 0) (pa_cons (pe_op op_add (pe_callB call_len_str (by rfl) ml (by decide +kernel) (pa_cons (pv 6) pa_nil)) pe_int) pa_nil))) (pa_cons (pcall DT hr (by rfl) (pa_cons (pv 0) (pa_cons pe_int pa_nil))) pa_nil)))
        (pg_tup rfl (pgs_cons (pg_name (i := 7) scWords.nd rfl (.inr rfl)) (pgs_cons (pg_name (i := 8) scWords.nd rfl (.inr rfl)) pgs_nil))))
      (pss_one (ps_ret (pe_lc (own := [("_law_k", 9)]) (g := gName 9) (tt := tYes) rfl scWords.nd (pi_range1 (by rfl) mr (pa_cons (pv 1) pa_nil)) (blkOk_by (N := nWords) (sc := defScope sWords) (by decide +kernel))
          (fun _ _ _ _ _ => pg_name (i := 9) scWords.nd rfl (Or.inl rfl)) (fun _ _ _ _ _ => pts_nil)
          (fun _ _ _ _ _ => pe_op op_add_str (pe_op op_add_str (pe_slice sl_str (pv 6) po_none (po_some (pv 7))) (pe_ix ix_str (pv 5) (pe_op op_mod (pe_op op_add (pv 8) (pe_op op_mul (pv 4) (pv 9))) pe_int) (fun _ _ => rfl))) (pe_slice sl_str (pv 6) (po_some (pv 7)) po_none)))))))))), ?_⟩
    -- the words of rows
    refine ⟨(by show 12 ≤ sizeLine; decide), fun o no => ?_⟩
    have so : Step p H (upd H o (.lst (ownW.map V.str))) := .new hp no
    -- spot, step
    refine ⟨_, rfl, p, 12, rfl, by decide, by decide, so.purse, fun spot H1 _ _ s1 => ?_⟩
    refine ⟨(by show 4 ≤ sizeLine; decide), fun l nl => ?_⟩
    have s2 := (so.trans s1).trans (Step.new (o := .lst [.int 1, .int 5, .int 7, .int 11]) s1.purse nl)
    refine ⟨_, rfl, p, 4, rfl, by decide, by decide, s2.purse, fun r H2 h0 h1 s3 => ?_⟩
    obtain ⟨step, hst, hat⟩ := step_of h0 h1
    have el : H2 l = some (.lst [.int 1, .int 5, .int 7, .int 11]) := s3.keep l _ (s1.purse.ne nl) upd_same
    refine ⟨l, _, _, _, rfl, rfl, SqL.of el, hat, ?_⟩
    refine ⟨(by show 2 ≤ sizeLine; decide), fun t nt => ?_⟩
    have s4 := (s2.trans s3).trans (Step.new (o := .tup [.int spot, .int step]) s3.purse nt)
    refine ⟨t, _, rfl, SqT.of upd_same, rfl, _, _, rfl, _, _, rfl, rfl, ?_⟩
    -- the way
    refine ⟨_, rfl, p, 4, rfl, by decide, by decide, s4.purse, fun r2 H3 _ _ s5 => ?_⟩
    have s6 := s4.trans s5
    have npo : o ≠ p := hp.ne no
    have eo : H3 o = some (.lst (ownW.map V.str)) := by
      refine s5.keep o _ npo ?_
      have e1 := s1.keep o _ npo (upd_same (H := H) (a := o) (o := .lst (ownW.map V.str)))
      rw [upd_ne (ne_of_none (s3.keep o _ npo (by rw [upd_ne (ne_of_none e1 nl)]; exact e1)) nt)]
      exact s3.keep o _ npo (by rw [upd_ne (ne_of_none e1 nl)]; exact e1)
    have hm62 : ((m : Nat) : Int).toNat = m := by omega
    refine ⟨rfl, _, rfl, ite2 (fun _ => ?_) (fun _ => ?_)⟩
    · refine ⟨_, rfl, (m : Int), rfl, by omega, by omega, fun D nD => ?_⟩
      rw [hm62]
      refine lc_range (lo := 0) (n := m) (fun i H' => Step p H3 H' ∧ H' D = some (.lst (((List.range i).map (w1 spot step)).map V.str))) ⟨.new s5.purse nD, upd_same⟩ ?_ ?_
      · rintro i H' hi ⟨s7, e7⟩
        have eo' := s7.keep o _ npo eo
        have hix := ix_lt (n := 12) (spot := spot) (step := step) (k := i) (by decide)
        refine ⟨rfl, _, rfl, _, rfl, _, rfl, _, rfl, _, _, rfl, rfl, .inl (stp_small hst), _, _, rfl, rfl, _, _, rfl, rfl, (by show (0 : Int) < 12; decide), o, _, _, V.str (w1 spot step i), rfl, rfl, SqL.of eo', at_of (j := ix 12 spot step i) (by rw [Int.zero_add]; exact hix.2.symm) (by rw [List.getElem?_map, w1_at]; rfl), _, e7, ?_, s7.put nD (s5.purse.ne nD), ?_⟩
        · rw [List.length_map, List.length_map, List.length_range]
          exact Nat.lt_of_le_of_lt (show i ≤ 12 by omega) (by decide)
        · rw [upd_same, range_map_succ, List.map_append]
          rfl
      · rintro H' ⟨s7, e7⟩
        refine q D _ H' (s6.trans s7) (s6.free nD) e7 (by rw [List.length_map, List.length_range]) (w1_nodup hst hm) fun z hz => ?_
        obtain ⟨k, _, rfl⟩ := List.mem_map.mp hz
        exact w1_nm spot step k
    · -- the stem
      refine ⟨⟨_, rfl⟩, _, rfl, p, 8, rfl, by decide, by decide, s5.purse, fun r3 H4 g0 g1 s7 => ?_⟩
      refine ⟨r3, rfl, by omega, by omega, fun D nD => ?_⟩
      refine lc_range (lo := 0) (n := r3.toNat) (fun i H' => Step p H4 H' ∧ ∃ cs : List Nat, cs.length = i ∧ allL cs ∧ H' D = some (.lst (cs.map fun c => V.str ⟨#[c]⟩))) ⟨.new s7.purse nD, [], rfl, (fun c h => absurd h (by simp)), upd_same⟩ ?_ ?_
      · rintro i H' hi ⟨s8, cs, hc, ha, e8⟩
        refine ⟨rfl, _, rfl, _, rfl, p, 26, rfl, by decide, by decide, s8.purse, fun r4 H5 k0 k1 s9 => ?_⟩
        have hk : r4.toNat < letters.cps.toList.length := by
          rw [letters_len]
          omega
        have hat2 := List.getElem?_eq_getElem hk
        have npD := s7.purse.ne nD
        refine ⟨letters, r4, _, rfl, rfl, by decide +kernel, at_nat (j := r4.toNat) (by omega) hat2, _, s9.keep D _ npD e8, ?_, (s8.trans s9).put nD npD, cs ++ [letters.cps.toList[r4.toNat]], ?_, ?_, ?_⟩
        · rw [List.length_map, hc]
          exact Nat.lt_of_le_of_lt (show i ≤ 8 by omega) (by decide)
        · rw [List.length_append, hc]
          rfl
        · intro c hcc
          rcases List.mem_append.mp hcc with z | z
          · exact ha c z
          · rw [List.mem_singleton.mp z]
            exact letter_is hat2
        · rw [upd_same, List.map_append]
          rfl
      · rintro H' ⟨s8, cs, hc, ha, e8⟩
        have s9 := (s6.trans s7).trans s8
        have hcs : cs.length ≤ 7 := by omega
        refine ⟨_, D, cs.map (fun c => (⟨#[c]⟩ : Str)), rfl, rfl, .inl (SqL.of (by rw [e8, List.map_map]; rfl)), ?_, ?_⟩
        · have hsum : ∀ l : List Nat, ((l.map fun c => (⟨#[c]⟩ : Str)).map (·.length)).sum = l.length := by
            intro l
            induction l with
            | nil => rfl
            | cons c r ih =>
              rw [List.map_cons, List.map_cons, List.sum_cons, ih, List.length_cons]
              show 1 + r.length = r.length + 1
              omega
          rw [hsum, List.length_map]
          show cs.length + cs.length * 0 ≤ 16777216
          omega
        · have ej : Txt.join "" (cs.map (fun c => (⟨#[c]⟩ : Str))) = ofL cs := (TL.join_eq _ _).trans (join_ones cs)
          rw [ej]
          -- cut, begin
          refine ⟨_, rfl, _, rfl, _, rfl, by rw [ofL_len]; exact Nat.le_trans hcs (by decide), _, _, rfl, rfl, p, _, rfl, ?_, ?_, s9.purse, fun cut H5 c0 c1 t1 => ?_⟩
          · omega
          · rw [ofL_len]
            omega
          rw [ofL_len] at c1
          refine ⟨_, rfl, p, 26, rfl, by decide, by decide, t1.purse, fun begin H6 b0 b1 t2 => ?_⟩
          refine ⟨(by show 2 ≤ sizeLine; decide), fun t2' nt2 => ?_⟩
          have t3 := ((s9.trans t1).trans t2).trans (Step.new (o := .tup [.int cut, .int begin]) t2.purse nt2)
          refine ⟨t2', _, rfl, SqT.of upd_same, rfl, _, _, rfl, _, _, rfl, rfl, ?_⟩
          refine ⟨_, rfl, (m : Int), rfl, by omega, by omega, fun D2 nD2 => ?_⟩
          rw [hm62]
          obtain ⟨cu, rfl⟩ : ∃ cu : Nat, cut = (cu : Int) := ⟨cut.toNat, by omega⟩
          have hcu : cu ≤ cs.length := by omega
          refine lc_range (lo := 0) (n := m) (fun i H' => Step p _ H' ∧ H' D2 = some (.lst (((List.range i).map (w2 cs cu begin step)).map V.str))) ⟨.new t3.purse nD2, upd_same⟩ ?_ ?_
          · rintro i H' hi ⟨u1, e7⟩
            have hix := ix_lt (n := 26) (spot := begin) (step := step) (k := i) (by decide)
            have hz : (ofL cs).length ≤ sizeLine := by rw [ofL_len]; exact Nat.le_trans hcs (by decide)
            refine ⟨rfl, _, rfl, _, rfl, (cu : Int), rfl, ofL cs, rfl, hz, _, rfl, _, rfl, _, rfl, _, rfl, _, _, rfl, rfl, .inl (stp_small hst), _, _, rfl, rfl, _, _, rfl, rfl, (by show (0 : Int) < 26; decide), letters, _, letterAt begin step i, rfl, rfl, by decide +kernel,
              at_nat (j := ix 26 begin step i) (by rw [Int.zero_add]; exact hix.2.symm) (letter_at begin step i), _, _, rfl, rfl, ?_, _, rfl, _, rfl, (cu : Int), rfl, ofL cs, rfl, hz, _, _, rfl, rfl, ?_, _, e7, ?_, u1.put nD2 (t3.purse.ne nD2), ?_⟩
            · rw [cutS_to cs cu hcu, ofL_len, List.length_take]
              show min cu cs.length + 1 ≤ sizeLine
              exact Nat.le_trans (show _ ≤ 8 by omega) (by decide)
            · rw [cutS_to cs cu hcu, cutS_from cs cu hcu, show (⟨#[letterAt begin step i]⟩ : Str) = ofL [letterAt begin step i] from rfl, app_ofL, ofL_len, ofL_len, List.length_append, List.length_take, List.length_drop]
              show min cu cs.length + 1 + (cs.length - cu) ≤ sizeLine
              exact Nat.le_trans (show _ ≤ 16 by omega) (by decide)
            · rw [List.length_map, List.length_map, List.length_range]
              exact Nat.lt_of_le_of_lt (show i ≤ 12 by omega) (by decide)
            · rw [upd_same, range_map_succ, List.map_append, cutS_to cs cu hcu, cutS_from cs cu hcu, show (⟨#[letterAt begin step i]⟩ : Str) = ofL [letterAt begin step i] from rfl, app_ofL, app_ofL]
              rfl
          · rintro H' ⟨u1, e7⟩
            refine q D2 _ H' (t3.trans u1) (t3.free nD2) e7 (by rw [List.length_map, List.length_range]) (w2_nodup hst hm) fun z hz => ?_
            obtain ⟨k, _, rfl⟩ := List.mem_map.mp hz
            exact w2_nm ha hcs
end
end Du

set_option Elab.async false
set_option linter.all false
set_option maxRecDepth 100000
namespace Du
open PySem L2
open PySem.Spec (ltCps)
theorem lt_tri : ∀ a b : List Nat, ltCps a b = false → a ≠ b → ltCps b a = true
  | [], [], _, h => absurd rfl h
  | [], _ :: _, h, _ => by simp [ltCps] at h
  | _ :: _, [], _, _ => rfl
  | a :: r, b :: t, h, hn => by
    simp only [ltCps, Bool.or_eq_false_iff, decide_eq_false_iff_not, Bool.and_eq_false_iff] at h
    simp only [ltCps, Bool.or_eq_true, decide_eq_true_eq, Bool.and_eq_true]
    by_cases e : a = b
    · subst e
      rcases h.2 with z | z
      · simp at z
      · exact .inr ⟨by simp, lt_tri r t z fun q => hn (by rw [q])⟩
    · exact .inl (by omega)
theorem lt_tra : ∀ a b c : List Nat, ltCps a b = true → ltCps b c = true → ltCps a c = true
  | [], [], _, h, _ => by simp [ltCps] at h
  | [], _ :: _, [], _, h => by simp [ltCps] at h
  | [], _ :: _, _ :: _, _, _ => rfl
  | _ :: _, [], _, h, _ => by simp [ltCps] at h
  | _ :: _, _ :: _, [], _, h => by simp [ltCps] at h
  | a :: r, b :: t, c :: u, h1, h2 => by
    simp only [ltCps, Bool.or_eq_true, decide_eq_true_eq, Bool.and_eq_true, beq_iff_eq] at h1 h2 ⊢
    rcases h1 with h1 | ⟨rfl, h1⟩ <;> rcases h2 with h2 | ⟨rfl, h2⟩
    · exact .inl (by omega)
    · exact .inl h1
    · exact .inl h2
    · exact .inr ⟨rfl, lt_tra r t u h1 h2⟩
theorem cps_inj {a b : Str} (h : a.cps.toList = b.cps.toList) : a = b := by
  rw [str_ofL a, str_ofL b, h]
theorem rising_pw : ∀ (p : Str) (r : List Str), PyProof.Rows.risingS p r = true → (p :: r).Nodup → (p :: r).Pairwise fun a b => ltCps a.cps.toList b.cps.toList = true
  | p, [], _, _ => by simp
  | p, x :: r, h, hn => by
    simp only [PyProof.Rows.risingS, Bool.and_eq_true, Bool.not_eq_true'] at h
    have hn' := List.nodup_cons.mp hn
    have ih := rising_pw x r h.2 hn'.2
    have hpx : ltCps p.cps.toList x.cps.toList = true := lt_tri _ _ h.1 fun e => hn'.1 (by rw [cps_inj e.symm]; exact List.mem_cons_self)
    refine List.pairwise_cons.mpr ⟨fun y hy => ?_, ih⟩
    rcases List.mem_cons.mp hy with rfl | hy
    · exact hpx
    · exact lt_tra _ _ _ hpx ((List.pairwise_cons.mp ih).1 y hy)
theorem sorted_pw {ys : List Str} (h : PyProof.Rows.sortedS ys = true) (hn : ys.Nodup) : ys.Pairwise fun a b => ltCps a.cps.toList b.cps.toList = true := by
  cases ys with
  | nil => simp
  | cons p r => exact rising_pw p r h hn
theorem pw_take {ys : List Str} (h : ys.Pairwise fun a b => ltCps a.cps.toList b.cps.toList = true) {i : Nat} {x y : Str} (hx : x ∈ ys.take i) (hy : ys[i]? = some y) : ltCps x.cps.toList y.cps.toList = true := by
  obtain ⟨j, hj⟩ := List.getElem?_of_mem hx
  obtain ⟨hl, e⟩ := List.getElem?_eq_some_iff.mp hj
  rw [List.getElem_take] at e
  rw [List.length_take] at hl
  obtain ⟨hi, e2⟩ := List.getElem?_eq_some_iff.mp hy
  rw [← e, ← e2]
  exact List.pairwise_iff_getElem.mp h j i (by omega) hi (by omega)
theorem ahead_lt {h g : Hold} (hn : ltCps h.1.cps.toList g.1.cps.toList = true) : ahead h g = true := by
  unfold ahead
  have ne : ¬ h.1 = g.1 := fun e => by
    rw [e] at hn
    rw [PyProof.Rows.ltCps_eq] at hn
    exact absurd (of_decide_eq_true hn) (by simp)
  rw [if_neg ne, ← PyProof.Rows.ltCps_eq]
  exact hn
theorem ahead_same {h g : Hold} (e : h.1 = g.1) (hl : h.2.1 + h.2.2 ≤ g.2.1) : ahead h g = true := by
  unfold ahead
  rw [if_pos e]
  exact decide_eq_true hl
def chain (hs : List Hold) : Bool := (hs.zip (hs.drop 1)).all fun p => ahead p.1 p.2
theorem chain_add : ∀ (hs : List Hold) (h : Hold), chain hs = true → (∀ g, hs.getLast? = some g → ahead g h = true) → chain (hs ++ [h]) = true
  | [], h, _, _ => rfl
  | [g], h, _, q => by
    show (ahead g h && true) = true
    rw [q g rfl]
    rfl
  | g :: k :: r, h, c, q => by
    have c' : (ahead g k && chain (k :: r)) = true := c
    rw [Bool.and_eq_true] at c'
    show (ahead g k && chain ((k :: r) ++ [h])) = true
    rw [c'.1, chain_add (k :: r) h c'.2 fun g hg => q g (by rw [List.getLast?_cons_cons]; exact hg)]
    rfl
/-- holds that are good, in the making -/
structure Good (hs : List Hold) (c : Int) : Prop where
  len : hs.length ≤ 4
  all : ∀ h ∈ hs, isHd h c = true
  ch : chain hs = true
theorem Good.ok {hs : List Hold} {c : Int} (g : Good hs c) : areHds hs c = true := by
  unfold areHds
  rw [decide_eq_true g.len]
  have e : (hs.all fun h => isHd h c) = true := List.all_eq_true.mpr g.all
  rw [e]
  exact g.ch
theorem Good.nm {hs : List Hold} {c : Int} (g : Good hs c) : ∀ h ∈ hs, isNm h.1 = true := fun h hh => by
  have z := g.all h hh
  unfold isHd at z
  exact (Bool.and_eq_true_iff.mp z).1
theorem Good.nil (c : Int) : Good [] c := ⟨by simp, by simp, rfl⟩
theorem Good.add {hs : List Hold} {c : Int} {h : Hold} (g : Good hs c) (hl : hs.length < 4) (hh : isHd h c = true) (q : ∀ g, hs.getLast? = some g → ahead g h = true) : Good (hs ++ [h]) c :=
  ⟨by rw [List.length_append]; show hs.length + 1 ≤ 4; omega, fun k hk => by
    rcases List.mem_append.mp hk with z | z
    · exact g.all k z
    · rw [List.mem_singleton.mp z]
      exact hh, chain_add hs h g.ch q⟩
theorem hd_of {z : Str} {s l c : Int} (hz : isNm z = true) (h0 : 0 ≤ s) (h1 : 1 ≤ l) (h2 : s + l ≤ c) : isHd (z, s, l) c = true := by
  unfold isHd
  rw [hz]
  simp
  omega
/-! under a step of the purse -/
theorem sqT_step {K : PySem.W.Frag} {p a : Addr} {H H' : Hp} {xs : List V} (hp : Purse H p) (s : Step p H H') (h : SqT K H a xs) : SqT K H' a xs := by
  obtain ⟨x, d, c, e, _⟩ := hp
  rcases h with (h | ⟨o, h⟩) | h
  · exact .inl (.inl (s.keep a _ (ne_of h e (by intro z; cases z)) h))
  · exact .inl (.inr ⟨o, s.keep a _ (ne_of h e (by intro z; cases z)) h⟩)
  · exact .inr h
theorem HdAt.step {K : PySem.W.Frag} {p : Addr} {H H' : Hp} {v : V} {h : Hold} (d : HdAt K H v h) (hp : Purse H p) (s : Step p H H') : HdAt K H' v h := by
  obtain ⟨a, e, q⟩ := d
  exact ⟨a, e, sqT_step hp s q⟩
theorem HdsAt.step {K : PySem.W.Frag} {p t : Addr} {H H' : Hp} {hs : List Hold} (d : HdsAt K H t hs) (hp : Purse H p) (s : Step p H H') : HdsAt K H' t hs := by
  obtain ⟨vs, h1, h2, h3⟩ := d
  exact ⟨vs, sqT_step hp s h1, h2, fun i v h e1 e2 => (h3 i v h e1 e2).step hp s⟩
end Du

set_option Elab.async false
set_option linter.all false
set_option maxRecDepth 100000
namespace Du
open PySem L2
abbrev pInit : List Str := ["self", "name", "cost", "gap", "due", "holds"]
abbrev FunI (K : PySem.W.Frag) (e0 f : Addr) (fd : FuncData) : Prop := FunD K "__init__" "Task.__init__" (defArgs sInit) (defBody sInit) (defScope sInit) [] [("due", .non), ("holds", .ref e0)] f fd
section
variable {K : PySem.W.Frag} {e0 f : Addr} {fd : FuncData}
def one {α : Type} (l : List α) (i : Nat) : List α := (l.drop i).take 1
theorem one_rel {vs : List V} {us : List Value} (r : Vals vs us) (i : Nat) : Vals (one vs i) (one us i) := (r.drop i).take 1
/-- all five by name -/
theorem kb5 (F : FunI K e0 f fd) : ∃ mv : List Value, KBn K fd pInit 1 ["holds", "gap", "name", "due", "cost"] (fun us ws => us ++ (one ws 2 ++ (one ws 4 ++ (one ws 1 ++ (one ws 3 ++ one ws 0))))) (fun us ws => us ++ (one ws 2 ++ (one ws 4 ++ (one ws 1 ++ (one ws 3 ++ one ws 0))))) :=
  F.kbinds0 1 _ [] (fun us _ ws => us ++ (one ws 2 ++ (one ws 4 ++ (one ws 1 ++ (one ws 3 ++ one ws 0))))) (by simp) (by simp)
    (fun r1 _ r3 => r1.append ((one_rel r3 2).append ((one_rel r3 4).append ((one_rel r3 1).append ((one_rel r3 3).append (one_rel r3 0))))))
    (fun D doc pm an cdv ct us mv ws h1 h2 h3 => match us, mv, ws, h1, h2, h3 with | [_], [], [_, _, _, _, _], _, _, _ => rfl)
/-- four by name -/
theorem kb4 (F : FunI K e0 f fd) : ∃ mv : List Value, KBn K fd pInit 2 ["gap", "due", "cost", "holds"] (fun us ws => us ++ (one ws 2 ++ (one ws 0 ++ (one ws 1 ++ one ws 3)))) (fun us ws => us ++ (one ws 2 ++ (one ws 0 ++ (one ws 1 ++ one ws 3)))) :=
  F.kbinds0 2 _ [] (fun us _ ws => us ++ (one ws 2 ++ (one ws 0 ++ (one ws 1 ++ one ws 3)))) (by simp) (by simp)
    (fun r1 _ r3 => r1.append ((one_rel r3 2).append ((one_rel r3 0).append ((one_rel r3 1).append (one_rel r3 3)))))
    (fun D doc pm an cdv ct us mv ws h1 h2 h3 => match us, mv, ws, h1, h2, h3 with | [_, _], [], [_, _, _, _], _, _, _ => rfl)
theorem kb3 (F : FunI K e0 f fd) : ∃ mv : List Value, KBn K fd pInit 3 ["holds", "due", "gap"] (fun us ws => us ++ (one ws 2 ++ (one ws 1 ++ one ws 0))) (fun us ws => us ++ (one ws 2 ++ (one ws 1 ++ one ws 0))) :=
  F.kbinds0 3 _ [] (fun us _ ws => us ++ (one ws 2 ++ (one ws 1 ++ one ws 0))) (by simp) (by simp)
    (fun r1 _ r3 => r1.append ((one_rel r3 2).append ((one_rel r3 1).append (one_rel r3 0))))
    (fun D doc pm an cdv ct us mv ws h1 h2 h3 => match us, mv, ws, h1, h2, h3 with | [_, _, _], [], [_, _, _], _, _, _ => rfl)
theorem kb2 (F : FunI K e0 f fd) : ∃ mv : List Value, KBn K fd pInit 4 ["due", "holds"] (fun us ws => us ++ ws) (fun us ws => us ++ ws) :=
  F.kbinds0 4 _ [] (fun us _ ws => us ++ ws) (by simp) (by simp) (fun r1 _ r3 => r1.append r3)
    (fun D doc pm an cdv ct us mv ws h1 h2 h3 => match us, mv, ws, h1, h2, h3 with | [_, _, _, _], [], [_, _], _, _, _ => rfl)
theorem kbD (F : FunI K e0 f fd) : ∃ mv : List Value, KBn K fd pInit 4 ["due"] (fun us ws => us ++ (ws ++ mv)) (fun us ws => us ++ (ws ++ [V.ref e0])) :=
  F.kbinds0 4 _ [("holds", V.ref e0)] (fun us mv ws => us ++ (ws ++ mv)) (by simp) (by simp) (fun r1 r2 r3 => r1.append (r3.append r2))
    (fun D doc pm an cdv ct us mv ws h1 h2 h3 => match us, mv, ws, h1, h2, h3 with | [_, _, _, _], [_], [_], _, _, _ => ⟨_, _, _, _, _, _, rfl, rfl, rfl⟩)
theorem kbH (F : FunI K e0 f fd) : ∃ mv : List Value, KBn K fd pInit 4 ["holds"] (fun us ws => us ++ (mv ++ ws)) (fun us ws => us ++ ([V.non] ++ ws)) :=
  F.kbinds0 4 _ [("due", V.non)] (fun us mv ws => us ++ (mv ++ ws)) (by simp) (by simp) (fun r1 r2 r3 => r1.append (r2.append r3))
    (fun D doc pm an cdv ct us mv ws h1 h2 h3 => match us, mv, ws, h1, h2, h3 with | [_, _, _, _], [_], [_], _, _, _ => ⟨_, _, _, _, _, _, rfl, rfl, rfl⟩)
theorem kb0 (F : FunI K e0 f fd) : ∃ ds, Vals [V.non, V.ref e0] ds ∧ Binds K fd pInit ds :=
  F.binds0 4 (by simp) rfl (fun D doc pm an cdv ct us ks h1 h2 => match us, ks, h1, h2 with | [_, _, _, _], [_, _], _, _ => ⟨_, _, _, _, _, _, rfl, rfl, _, _, _, _, _, _, rfl, rfl, rfl⟩)
end
end Du

set_option Elab.async false
set_option linter.all false
set_option maxRecDepth 100000
namespace Du
open PySem L2 PyProof.Rows
section
variable {P : Program} {w : World} {K : PySem.W.Frag} {mg : Str → Option Value} {base : Heap} {k : Nat} {f : Addr} {N ps : List Str} {A : Around} {outer : List Env} {s : Shared} {H : Hp} {args : Args} {us : List Value} {vs : List V} {Q : VK}
/-- a def's call where one stands, by its body there -/
theorem fn_at {name qual : Str} {params : Arguments} {body : List Stmt} {scope : Scope} {dV kV doc pm cdv ct oc : Value} {an od : Option Addr} {osl : Array (Option Value)}
    (lk : K.lookup f = some ⟨oc, od, .func (PySem.W.fnOf name qual params body scope dV kV doc pm an cdv ct), osl⟩) (hcd : PySem.W.codeIn K cdv qual = true) (S : FnScope N ps scope) (hr : Room (k + 1) A) (e0 : Env0 P w K mg base A outer s H)
    (hb : BindsTo s (PySem.W.fnOf name qual params body scope dV kV doc pm an cdv ct) args (ps.zip us)) (r : Vals vs us) (hl : vs.length = ps.length)
    (go : ∃ t, PSs (cxOf CX0 P w K mg base N qual scope f cdv A outer s H E0).nox body t ∧ t { nx := fun _ H' => Q .non H', rt := Q } (L2.start N vs) H) : codeAny (model P w) A (.call (.ref f) args) (CR CX0 outer P w H s Q E0) s := by
  have kept := fun b o e => (e0.bs b o e).1
  have KX : K.In s.heap := e0.mod.kin.keeps kept
  refine codeAny_call_function hr.depth (KX _ _ lk) rfl S.co S.gen rfl (PySem.W.codeRec_of KX hcd) (hb _ _ _ _ (wpAny_newFunctionEnv_cells S.kind (fun y hy => (S.par y.1 (List.of_mem_zip hy).1).imp id fun q => ⟨q, PySem.W.cellsFrom_some _ _ _ (.inl q)⟩) fun env he s1 x => ?_))
  subst he
  obtain ⟨t, ht, hq⟩ := go
  have I := inv_start (CX := CX0) (E := E0) S hr.hd e0 hl r x
  refine ⟨(e0.mod.nolimit.keeps kept).keeps x.toInCall.keep, codeAny_func (wpAny_mono (ht.nox.run [] s1 _ H _ I hq) (fun fl s' hs => ?_) fun _ _ z => z)⟩
  match fl, hs with
  | .ret u, ⟨v, σ', H', J, rv, q⟩ => exact ⟨v, H', J.os, J.bare, J.base, J.hok, rv, q⟩
  | .next, ⟨σ', H', J, q⟩ => exact ⟨V.non, H', J.os, J.bare, J.base, J.hok, rfl, q⟩
  | .brk, ⟨_, _, _, q⟩ => exact q.elim
  | .cont, ⟨_, _, _, q⟩ => exact q.elim
end
/-- the law's def, called by the claim's own caller -/
def LawOk (P : Program) (w : World) (K : PySem.W.Frag) (mg : Str → Option Value) (base : Heap) (fa : Addr) (fd : FuncData) (x : Str) (sp : Sp) : Prop :=
  ∀ (s : Shared) (H : Hp) (u : Value) (v : V) (Q : VK), Env0 P w K mg base callerA [] s H → BindsTo s fd ⟨[u], []⟩ [(x, u)] → RelV v u → sp [v] H Q E0 → codeAny (model P w) callerA (.call (.ref fa) ⟨[u], []⟩) (CR CX0 [] P w H s Q E0) s
theorem law_at {P : Program} {w : World} {K : PySem.W.Frag} {mg mb : Str → Option Value} {fa a : Addr} {fd : FuncData} {x : Str} {sp : Sp} {s1 : Shared} {vs : List Value} {ns : List Int}
    (KX : K.In s1.heap) (hns : s1.heap.Ns mainGlobals mg) (hb : s1.heap.Ns builtinsNs mb) (hbb : ∀ y : Str, y ≠ "__name__" → mb y = bootBuiltins y) (hlim : s1.heap.NoLimit) (hg : s1.gens = #[])
    (ha : s1.heap.get? a = some { cls := .type "list", data := .seq vs.toArray }) (hi : IntsAre vs ns) (hl : ns.length ≤ sizeLine)
    (F : ∀ base : Heap, K.In base → base.Ns mainGlobals mg → LawOk P w K mg base fa fd x sp) (hbind : ∀ (s : Shared) (u : Value), BindsTo s fd ⟨[u], []⟩ [(x, u)])
    (hsp : ∀ H : Hp, SqL K H a (ns.map V.int) → sp [.ref a] H (fun v _ => v = .bl true) E0) :
    codeAny (model P w) callerA (.call (.ref fa) ⟨[.ref a], []⟩) (fun r s' => r = .ok (.ret (.bool true)) ∧ OldK s1.heap s'.heap ∧ s'.os = s1.os ∧ AllBare s'.gens) s1 := by
  have rv := vals_ints hi
  let H : Hp := fun b => if b = a ∧ K.lookup a = none then some (.frz { cls := .type "list", data := .seq vs.toArray } (.lst (ns.map V.int))) else none
  have hH : ∀ b u, H b = some u → b = a ∧ K.lookup a = none ∧ u = .frz { cls := .type "list", data := .seq vs.toArray } (.lst (ns.map V.int)) := fun b u e => by
    by_cases hc : b = a ∧ K.lookup a = none
    · have e' := (if_pos hc).symm.trans e
      exact ⟨hc.1, hc.2, (Option.some.inj e').symm⟩
    · have e' := (if_neg hc).symm.trans e
      cases e'
  have hS : SqL K H a (ns.map V.int) := by
    cases hk : K.lookup a with
    | none => exact .inl (.inr ⟨_, if_pos ⟨rfl, hk⟩⟩)
    | some o =>
      have eo := (KX a o hk).symm.trans ha
      cases eo
      exact .inr ⟨_, vs.toArray, _, hk, rfl, rfl, rfl, by rw [List.size_toArray, hi.length]; exact hl, by simpa using rv⟩
  have hok : HOk P w H s1.heap := fun b u e => by
    obtain ⟨rfl, _, rfl⟩ := hH b u e
    exact ⟨ha, by rw [List.length_map]; exact hl, vs, _, rv, ha⟩
  have noD : ∀ {b : Addr} {o : Obj} {es : Array DictEntry} {ep : Nat}, s1.heap.get? b = some o → o.data = .dict es ep → H b = none := fun {b o es ep} e d => by
    cases q : H b with
    | none => rfl
    | some u =>
      obtain ⟨rfl, _⟩ := hH b u q
      cases ha.symm.trans e
      cases (show Data.seq vs.toArray _ = Data.dict es ep from d)
  have ns' : ∀ {b : Addr} {m : Str → Option Value}, s1.heap.Ns b m → (hidT s1.heap H).Ns b m := fun ⟨o, es, ep, e, d, z⟩ => ⟨o, es, ep, hidT_get e (noD e d), d, z⟩
  have hKb : K.In (hidT s1.heap H) := fun b o e => hidT_get (KX b o e) (by
    cases q : H b with
    | none => rfl
    | some u =>
      obtain ⟨rfl, hk, _⟩ := hH b u q
      rw [hk] at e
      cases e)
  obtain ⟨mc, l1, l2⟩ := hlim
  have e0 : Env0 P w K mg (hidT s1.heap H) callerA [] s1 H := ⟨rfl, ⟨hKb, ns' hns, ⟨mb, ns' hb, hbb⟩, ⟨mc, ns' l1, l2⟩⟩, fun b o e => of_hidT e, Nat.le_of_eq (hidT_size _ _), trivial, (fun b z => nomatch z), hok, .of_eq hg⟩
  refine codeAny_mono (F _ hKb (ns' hns) s1 H (.ref a) (.ref a) _ e0 (hbind s1 (.ref a)) rfl (hsp H hS)) fun r s' h => ?_
  match r, h with
  | .error _, h => exact h.elim
  | .ok .next, h => exact h.elim
  | .ok .brk, h => exact h.elim
  | .ok .cont, h => exact h.elim
  | .ok (.ret u), ⟨v, H', os, bare, un, hok', rvu, q⟩ =>
    have q' : v = .bl true := q
    subst q'
    obtain rfl : u = Value.bool true := rvu
    refine ⟨rfl, OldK.of_keep fun b o e => ?_, os, bare⟩
    cases z : H b with
    | none => exact un.keep b o e z (fun y => nomatch y) (fun y => nomatch y)
    | some y =>
      obtain ⟨rfl, hk, rfl⟩ := hH b y z
      have e2 := (hok' _ _ (un.frzs _ _ _ z)).1
      rw [← Option.some.inj (ha.symm.trans e)]
      exact e2
theorem walk_at {l : PySem.W.OpenLaw} {n : Nat} {q : Program} {loose : List Str} {XP : (Str → Option Value) → Heap → Prop} {YP : World → Heap → Prop} {d : DefRec} {K : Params → PySem.W.Frag} {sp : World → Sp} {x : Str} (hn : l.most = some n) (hn2 : n ≤ sizeLine) (hdf : d.params.defaults = [])
    (hY : ∀ (w : World) (h : Heap), YP w h → (K w.params).In h)
    (F : ∀ (w : World) (mg : Str → Option Value) (fa : Addr) (h : Heap), (K w.params).In h → h.Ns mainGlobals mg → mg d.name = some (.ref fa) →
      ∃ fd : FuncData, (∀ (s : Shared) (u : Value), BindsTo s fd ⟨[u], []⟩ [(x, u)]) ∧ ∀ base : Heap, (K w.params).In base → base.Ns mainGlobals mg → LawOk l.prog w (K w.params) mg base fa fd x (sp w))
    (hsp : ∀ (w : World) (H : Hp) (a : Addr) (ns : List Int), ns.length ≤ n → SqL (K w.params) H a (ns.map V.int) → sp w [.ref a] H (fun v _ => v = .bl true) E0) :
    PySem.W.WalkO q loose XP YP l.row.toRowW d [] (fun f vs => PySem.call f vs) := by
  refine Att.attach_call hn hdf fun w s0 s1 mg mb fa o pm cd doc a vs ns G Y ho hd hcd hmg hobj hints hlen hg => ?_
  obtain ⟨fd, hb, hF⟩ := F w mg fa _ (hY w _ Y) G.T.g hmg
  exact law_at (hY w _ Y) G.T.g G.T.b G.T.builtins G.T.nolimit hg hobj hints (Nat.le_trans hlen hn2) hF hb fun H hS => hsp w H a ns hlen hS
end Du

set_option Elab.async false
set_option linter.all false
set_option maxRecDepth 100000
set_option maxHeartbeats 1000000
namespace Du
open PySem PySem.W PySem.Calls PyProof.Rows PySem.HandSPX
open L2 (defArgs defBody defScope inClass)
/-- what the written part says of an error class over ValueError with one field -/
structure ErrC (P : Program) (K : Frag) (mg : Str → Option Value) (x fld qual : Str) (st : Stmt) (C fI : Addr) : Prop where
  gC : mg x = some (.ref C)
  cls : ∃ nm q N bs bm sn sub ab col dd k0 k1 k2 k3 k5, K.lookup C = some (excClassObj nm q C N bs bm true sn sub ab col dd k0 k1 k2 k3 k5 "ValueError.__new__") ∧ refsVE bm = true
  sa : findIn K (.ref C) "__setattr__" = some (some (.builtin "object.__setattr__"))
  ga : findIn K (.ref C) "__getattribute__" = some (some (.builtin "BaseException.__getattribute__"))
  gg : findIn K (.ref C) "__getattr__" = some none
  noN : findIn K (.ref C) fld = some none
  iC : findIn K (.ref C) "__init__" = some (some (.ref fI))
  tC : typeIn K (.ref fI) = some (.type "function")
  kC : keepIn K (.ref C) = true
  exC : subIn K (.ref C) (.type "BaseException") = some true
  veC : subIn K (.ref C) (.type "ValueError") = some true
  tyC : typeIn K (.ref C) = some (.type "type")
  hdC : hasDictIn K C = true
  mro : mroIn K C (.ref C) = some true
  sup : ks_superIn K C C "__init__" = some (some (.builtin "ValueError.__init__"))
  any : nsIn K cStatics "thirdparty.any" = some none
  top : (P.main.scope.names.lookup ("super" : Str)).isSome = false
  mS : mg "super" = none
  fn : ∃ (oc : Value) (od : Option Addr) (doc pm : Value) (an : Option Addr) (cda cc : Addr) (ct : Value) (osl : Array (Option Value)) (ccl cl : Value) (cdd cld : Option Addr) (ccs csl : Array (Option Value)) (vs : Array Value) (file : Str) (tf : Tok),
    K.lookup fI = some ⟨oc, od, .func (ksFn "__init__" qual (defArgs st) (defBody st) (defScope st) .none .none doc pm an (.ref cda) ct cc), osl⟩ ∧ codeIn K (.ref cda) qual = true ∧
    K.lookup cda = some ⟨ccl, cdd, .fields vs, ccs⟩ ∧ vs[2]? = some (.str file tf) ∧ ((P.main.file : Str) == file) = true ∧ K.lookup cc = some ⟨cl, cld, .cell (some (.ref C)), csl⟩
/-- what __init__ leaves of a fresh exception at x -/
structure ErrEnd (h h' : Heap) (x C dx : Addr) (fld : Str) (v : Value) : Prop where
  keep : ∀ b o, b ≠ x → h.get? b = some o → h'.get? b = some o
  obj : ∃ t1 : Addr, h'.get? x = some { cls := .ref C, dict := some dx, data := .fields #[.ref t1, .none, .none, .none, .bool false, .none] }
  dbig : h.objs.size ≤ dx
  dne : dx ≠ x
  ns : h'.Ns1 dx (fun y => if y = fld then some v else none)
section
variable {prog : Program} {w : World} {A : Around} {E : Value → Shared → Prop} {h : Heap} {g : Array GenState} {d : Drawn} {t : Nat} {os : OsState}
variable {nm q : Str} {C N : Addr} {bs bm : List Value} {hdct : Bool} {sn : List Str} {sub : List Value} {ab : Bool} {col : Option Bool} {dd : Option Addr} {k0 k1 k2 k3 k5 : Option Value} {B newId i : String} {bmB : List Value}
/-- the bound __init__ of the built-in base, called -/
theorem call_mw (FB : ExcBaseFacts B newId i bmB) {u e t0 : Addr} {rest : List Value} {Q : Value → Shared → Prop} (hC : h.get? C = some (excClassObj nm q C N bs bm hdct sn sub ab col dd k0 k1 k2 k3 k5 newId)) (he : h.get? e = some (excO C t0)) (hu : h.get? u = some (kxs_mw i e))
    (hrest : rest.length ≤ sizeLine) (hq : ∀ h' t1, (∀ b o, b ≠ e → h.get? b = some o → h'.get? b = some o) → h'.get? e = some (excO C t1) → Q .none ⟨h', g, d, t, os⟩) : wpAny (model prog w) A (call (.ref u) rest) Q E ⟨h, g, d, t, os⟩ := by
  refine wpAny_call (codeAny_of_tree ?_)
  show wpAny _ A.in1 (callAny (.ref u) ⟨rest, []⟩) _ _ _
  simp only [callAny]
  refine wpAny_bind (wpAny_load hu (KFB.if_so (show (Value.type "method-wrapper" == Value.type "method" || Value.type "method-wrapper" == Value.type "builtin_function_or_method" || Value.type "method-wrapper" == Value.type "method-wrapper") = true by decide) (wpAny_bind (check_bound_init FB.toExcCallFacts hC he rfl (wpAny_bind (wpAny_pure (wpAny_pure ⟨plainId_quiet FB.init.plain _, codeAny_builtin FB.initEntry ?_⟩)))))))
  exact exc_init_tree (cls := .ref C) (t0 := t0) (dv := none) (c2 := .none) (c3 := .none) (b4 := .bool false) he hrest fun h' k e' _ => hq h' _ k e'
end
abbrev sNoTask : Stmt := inClass (topS 3) 0
section
variable {prog : Program} {w : World} {A : Around} {E : Value → Shared → Prop} {R : Result → Shared → Prop} {s : Shared} {K : Frag} {mg mb : Str → Option Value} {C fI : Addr} {nm qual : Str}
theorem init_NoTask (T : ErrC prog K mg nm "part" qual sNoTask C fI) {x t0 : Addr} {v : Value} (X : K.In s.heap) (hlim : s.heap.NoLimit) (G : s.heap.Ns mainGlobals mg) (Bn : s.heap.Ns builtinsNs mb) (hbb : ∀ y : Str, y ≠ "__name__" → mb y = bootBuiltins y)
    (hx : s.heap.get? x = some (excO C t0)) (hnx : K.lookup x = none) (hroom : A.depth < recursionLimit) (hq : ∀ h' tk dx, ErrEnd s.heap h' x C dx "part" v → R (.ok (.ret .none)) { s with heap := h', toks := tk }) : codeAny (model prog w) A (.call (.ref fI) ⟨[.ref x, v], []⟩) R s := by
  obtain ⟨oc, od, doc, pm, an, cda, cc, ct, osl, ccl, cl, cdd, cld, ccs, csl, vs, file, tf, lk, hcd, hcode, hvs, hfile, hcell⟩ := T.fn
  obtain ⟨nm', q', N', bs, bm, sn, sub, ab, col, dd, k0, k1, k2, k3, k5, hC, hbm⟩ := T.cls
  have hcl : clsIn K C = some { name := nm', bases := bs, mro := .ref C :: bm, ns := N', qualname := q', hasDict := true, slotNames := sn, subclasses := sub, abstract := ab, collection := col, hasDel := false } := by unfold clsIn; rw [hC] <;> rfl
  have nocell : ∀ y ∈ (defScope sNoTask).names, y.2 ≠ .cell := by decide +kernel
  refine ks_codeAny_call_defAt (binds := [(("self" : Str), Value.ref x), ("part", v)]) hroom (X _ _ lk) rfl hlim (codeRec_of X hcd) rfl (BindsTo.of_eq rfl) nocell (fun y hy => ?_) (fun h1 hn k => ?_)
  · rcases List.mem_cons.mp hy with rfl | hy
    · rfl
    · rw [List.mem_singleton.mp hy]
      rfl
  have X1 : K.In h1 := X.keeps k
  have hx1 := k _ _ hx
  have I1 : InstAt h1 x (excO C t0) C none := ⟨hx1, rfl, rfl, trivial⟩
  obtain ⟨oD, hD1, cdD, hD2⟩ : ∃ oD, h1.get? C = some oD ∧ ∃ cd, oD.data = .cls cd := ⟨_, X1 _ _ hC, _, rfl⟩
  refine ks_wpAt_execs_cons (ks_wpAt_Expr_any (ks_wpAt_MethodCall ?_))
  refine ks_wpAt_super_base rfl rfl (by decide) rfl (X1 _ _ lk) rfl rfl rfl (X1 _ _ hcode) rfl hvs hfile T.top ?_
  refine ks_loadName_global rfl rfl (loadGlobal_builtin (G.keeps k) T.mS (Bn.keeps k) ((hbb _ (by decide)).trans PyProof.Rows.Boot.«super») ⟨rfl, ?_⟩)
  refine wpAny_loadName_free rfl rfl rfl ⟨_, X1 _ _ hcell, rfl⟩ ?_
  refine wpAny_loadName_local rfl rfl hn rfl ?_
  refine ks_wpAny_isType_cls hD1 hD2 ⟨rfl, ?_⟩
  refine ks_wpAny_call_super hD1 hD2 hx1 rfl (fun c e => by cases e) (looks_mroIn X1 T.mro) (fun h2 hso k2 => ?_)
  have X2 : K.In h2 := X1.keeps k2
  have hx2 := k2 _ _ hx1
  have I2 : InstAt h2 x (excO C t0) C none := ⟨hx2, rfl, rfl, trivial⟩
  have hm := T.sup
  unfold ks_superIn at hm
  rw [hcl] at hm
  have hmro : W.Looks (model prog w) h2 (mroOf (.ref C)) (.ref C :: bm) := (looks_clsIn X2 hcl).andThen .now
  refine kxs_getMethod kxs_ValueError hso (looks_opaque X2 T.any) hmro rfl X2 hm (I2.type.andThen (looks_subIn X2 T.veC)) (ks_ne X2 I2 hcl) (by decide) ?_
  have k3 : ∀ b o, h2.get? b = some o → (h2.push (kxs_mw "ValueError.__init__" x)).get? b = some o := fun b o e => Heap.get?_push_of_some _ e
  refine kxs_callWith (i := "ValueError.__init__") (x := x) rfl (evalArgs_plain (args_cons (Calls.Constant_str (args_nil ⟨Heap.get?_push_at rfl rfl, ?_⟩))))
  refine call_mw F.excBase_ValueError (k3 _ _ (X2 _ _ hC)) (k3 _ _ hx2) (Heap.get?_push_at rfl rfl) (by show 1 ≤ sizeLine; decide) fun h4 t1 k4 hx4 => ?_
  -- the field
  have kx : ∀ b o, b ≠ x → h1.get? b = some o → h4.get? b = some o := fun b o hb e => k4 b o hb (k3 b o (k2 b o e))
  have X4 : K.In h4 := fun b o e => kx b o (fun z => by rw [z, hnx] at e; cases e) (X1 b o e)
  have hL : s.heap.objs.size ≠ x := Nat.ne_of_gt (Heap.lt_size hx)
  obtain ⟨oL, esL, epL, eL, rL⟩ := id hn
  have hn4 : h4.Ns s.heap.objs.size _ := ⟨oL, esL, epL, kx _ _ hL eL, rL⟩
  refine ks_wpAt_execs_cons (ks_wpAt_Assign_Attr (wpAt_of_wpAny (wpAny_Name (wpAny_loadName_local rfl rfl hn4 rfl (wpAny_Name (wpAny_loadName_local rfl rfl hn4 rfl ?_) (by decide))) (by decide))))
  refine set_plain X4 (ox := excO C t1) (od := none) ⟨hx4, rfl, rfl, trivial⟩ T.sa ?_
  refine exc_osa X4 hx4 hcl (show refsVE (.ref C :: bm) = true from hbm) rfl T.noN (fun h5 tk5 dx k5 dn dne hx5 hn5 => ?_)
  refine wpAt_of_wpAny (wpAny_execs_nil (hq h5 tk5 dx ⟨fun b o hb e => k5 b o hb (kx b o hb (k b o e)), ⟨t1, hx5⟩, ?_, dne, hn5⟩))
  have z : s.heap.objs.size < h4.objs.size := hn4.lt
  have dn' : h4.objs.size ≤ dx := dn
  omega
/-- the error made -/
structure ErrMade (h h' : Heap) (e C d : Addr) (fld : Str) (v : Value) : Prop where
  keep : ∀ b o, h.get? b = some o → h'.get? b = some o
  new : h.objs.size ≤ e
  obj : ∃ oe vs, h'.get? e = some oe ∧ oe.cls = .ref C ∧ oe.dict = some d ∧ oe.data = .fields vs ∧ vs[1]? = some .none ∧ vs[2]? = some .none
  dbig : h.objs.size ≤ d
  dne : d ≠ e
  ns : h'.Ns1 d (fun y => if y = fld then some v else none)
theorem made_NoTask (T : ErrC prog K mg nm "part" qual sNoTask C fI) {v : Value} (X : K.In s.heap) (hlim : s.heap.NoLimit) (G : s.heap.Ns mainGlobals mg) (Bn : s.heap.Ns builtinsNs mb) (hbb : ∀ y : Str, y ≠ "__name__" → mb y = bootBuiltins y) (hroom : A.depth + 1 < recursionLimit)
    (hq : ∀ h' tk e d, ErrMade s.heap h' e C d "part" v → R (.ok (.ret (.ref e))) { s with heap := h', toks := tk }) : codeAny (model prog w) A (.call (.ref C) ⟨[v], []⟩) R s := by
  obtain ⟨nm', q', N', bs, bm, sn, sub, ab, col, dd, k0, k1, k2, k3, k5, hC, hbm⟩ := T.cls
  obtain ⟨hp, g, dr, tk, os⟩ := s
  have k : ∀ b o, hp.get? b = some o → ((hp.push (kdv_tup [v])).push (excO C hp.objs.size)).get? b = some o := fun b o e => Heap.get?_push_of_some _ (Heap.get?_push_of_some _ e)
  have hget : ((hp.push (kdv_tup [v])).push (excO C hp.objs.size)).get? (hp.objs.size + 1) = some (excO C hp.objs.size) := by heap_get
  have hnx : K.lookup (hp.objs.size + 1) = none := by
    cases e : K.lookup (hp.objs.size + 1) with
    | none => rfl
    | some o => exact absurd (Nat.lt_of_succ_lt (Heap.lt_size (show hp.get? (hp.objs.size + 1) = some o from X _ _ e))) (Nat.lt_irrefl _)
  refine call_own F.excBase_ValueError (fun X => refsVE_contains X bm hbm) (X _ _ hC) (looks_findIn X T.iC) (fun self => bind_fn X self T.tC) (by show 1 ≤ sizeLine; decide) ?_
  refine init_NoTask (s := ⟨(hp.push (kdv_tup [v])).push (excO C hp.objs.size), g, dr, tk, os⟩) T (X.keeps k) (hlim.keeps k) (G.keeps k) (Bn.keeps k) hbb hget hnx hroom fun h' tk' dx m => ?_
  obtain ⟨k', ⟨t1, hx⟩, dn, dne, hns⟩ := m
  have z : hp.objs.size + 1 + 1 ≤ dx := by
    have q := dn
    rw [Heap.size_push, Heap.size_push] at q
    exact q
  exact ⟨rfl, hq h' tk' (hp.objs.size + 1) dx ⟨fun b o e => k' b o (Nat.ne_of_lt (Nat.lt_succ_of_lt (Heap.lt_size e))) (k b o e), Nat.le_succ _, ⟨_, _, hx, rfl, rfl, rfl, rfl, rfl⟩, Nat.le_trans (Nat.le_trans (Nat.le_succ _) (Nat.le_succ _)) z, dne, hns⟩⟩
end
end Du

set_option Elab.async false
set_option linter.all false
set_option maxRecDepth 100000
set_option maxHeartbeats 1000000
namespace Du
open PySem PySem.Spec PyProof.Rows L2
open L2N (Zn)
/-- an object's classes as a tuple: how a clause's match is seen -/
def Mat (K : PySem.W.Frag) (cs : List Value) : Prop := ∀ {M : Model} {h : Heap} {cls : Value} {tp e : Addr}, K.In h → PySem.W.Looks M h (typeOf (.ref e)) cls → h.get? tp = some { cls := .type "tuple", data := .seq cs.toArray } → PySem.W.exmAny K cls cs = some true → PySem.W.Looks M h (excMatches (.ref e) (.ref tp)) true
theorem mat2 {K : PySem.W.Frag} {c1 c2 : Value} : Mat K [c1, c2] := fun X L hp hx => PySem.W.exm_tup2 X L hp hx
theorem mat3 {K : PySem.W.Frag} {c1 c2 c3 : Value} : Mat K [c1, c2, c3] := fun X L hp hx => PySem.W.exm_tup3 X L hp hx
/-- the clause's tuple, laid where the error is handled -/
def Lays (X : Cx) (te : Expr) (cs : List Value) : Prop := ∀ (a : Addr) (oe : Obj) (pn : List (Addr × Obj)) (σ : L2.St) (H : Hp) (s : Shared) (Q : Value → Shared → Prop) (E : Value → Shared → Prop), Inv (X.suite a ((a, oe) :: pn)) [] σ H s →
  (∀ tp h', h'.get? tp = some { cls := .type "tuple", data := .seq cs.toArray } → (∀ b o, s.heap.get? b = some o → h'.get? b = some o) → Q (.ref tp) { s with heap := h' }) → wpAny (model X.prog X.w) (X.A.mark (some (.ref a))) (eval te X.env) Q E s
theorem name_at {X : Cx} {x : Str} {c : Value} {np : Pos} (hc : Names X x c) {a : Addr} {oe : Obj} {pn : List (Addr × Obj)} {σ : L2.St} {H : Hp} {s : Shared} {Q : Value → Shared → Prop} {E : Value → Shared → Prop} (S : Inv (X.suite a ((a, oe) :: pn)) [] σ H s) (q : Q c s) :
    wpAny (model X.prog X.w) (X.A.mark (some (.ref a))) (eval (.Name x np) X.env) Q E s := by
  obtain ⟨hg, hd, hm | ⟨hm, hv, hn⟩⟩ := hc
  · exact ld_glob (X := X.suite a ((a, oe) :: pn)) S hg hm q hd
  · exact ld_blt (X := X.suite a ((a, oe) :: pn)) S hg hm hv q hn hd
theorem lays2 {X : Cx} {x1 x2 : Str} {c1 c2 : Value} {n1 n2 tp : Pos} {kk : Nat} (h1 : Names X x1 c1) (h2 : Names X x2 c2) : Lays X (.Tuple [.Name x1 n1, .Name x2 n2] kk tp) [c1, c2] := fun a oe pn σ H s Q E S q =>
  wpAny_Tuple_spliced (args_cons (name_at h1 S (args_cons (name_at h2 S (args_nil ⟨by show 2 ≤ sizeLine; decide, q _ _ (Heap.get?_push_size _ rfl) fun b o e => Heap.get?_push_of_some _ e⟩)))))
theorem lays3 {X : Cx} {x1 x2 x3 : Str} {c1 c2 c3 : Value} {n1 n2 n3 tp : Pos} {kk : Nat} (h1 : Names X x1 c1) (h2 : Names X x2 c2) (h3 : Names X x3 c3) : Lays X (.Tuple [.Name x1 n1, .Name x2 n2, .Name x3 n3] kk tp) [c1, c2, c3] := fun a oe pn σ H s Q E S q =>
  wpAny_Tuple_spliced (args_cons (name_at h1 S (args_cons (name_at h2 S (args_cons (name_at h3 S (args_nil ⟨by show 3 ≤ sizeLine; decide, q _ _ (Heap.get?_push_size _ rfl) fun b o e => Heap.get?_push_of_some _ e⟩)))))))
theorem flying_push {B h h' : Heap} {l : List Env} {a : Addr} {Z : Obj → Prop} (k : ∀ b o, h.get? b = some o → h'.get? b = some o) (f : HandSPX.FlyingZ B l a Z h) : HandSPX.FlyingZ B l a Z h' := by
  obtain ⟨f1, f2, f3, oe, vs, T, oT, ts, t1, t2, t3, t4, t5, t6, t7, t8, t9⟩ := f
  exact ⟨fun b o e => k b o (f1 b o e), f2, Heap.FunFrames.of_keeps (fun b o e _ => ⟨o, k b o e, rfl⟩) f3, oe, vs, T, oT, ts, k _ _ t1, t2, t3, t4, t5, t6, k _ _ t7, t8, t9⟩
/-- what 'except (..) as n' wishes of an exception of the body, each of which it takes -/
def wTup (K : PySem.W.Frag) (cs : List Value) (i : Nat) (ts : Addr → Value → Option Addr → TS) (D : Ends) : WX := fun cls d σ H =>
  PySem.W.exmAny K cls cs = some true ∧ ∀ a, H a = none → ts a cls d { nx := fun σ' H' => D.nx (σ'.set i none) H', rt := D.rt, bk := fun σ' H' => D.bk (σ'.set i none) H', ct := fun σ' H' => D.ct (σ'.set i none) H' } (σ.set i (some (.ref a))) H
theorem ps_try_tup {X : Cx} {n : Str} {i : Nat} {te : Expr} {cs : List Value} {body suite : List Stmt} {b0 : Stmt} {pos pos' : Pos} {tb : WX → TS} {ts : Addr → Value → Option Addr → TS} (hs : X.stack = X.env :: X.outer) (hf : X.env.frame = some X.env.locals) (hN : X.N.Nodup) (hi : X.N[i]? = some n)
    (hln : X.env.kindOf n = some .local) (hl : Lays X te cs) (hm : Mat X.K cs)
    (hb : ∀ (W : WX) (pn : List (Addr × Obj)) (xe : Value → Shared → Prop), L2N.Takes (X.tr pn xe) W → PassesOwn (model X.prog X.w) X.A X.env xe → PSs (X.tr pn xe) body (tb W))
    (hsu : ∀ (a : Addr) (oe : Obj) (cls : Value) (d : Option Addr) (pn : List (Addr × Obj)), Zn cls d oe → (∃ vs, oe.data = .fields vs) → PSs (X.suite a ((a, oe) :: pn)) (b0 :: suite) (ts a cls d)) :
    PS X (.Try body [.ExceptHandler (some te) (some n) (b0 :: suite) pos'] [] [] pos) (fun D σ H => tb (wTup X.K cs i ts D) D σ H) := by
  refine ⟨fun pins s σ H D I h => ?_⟩
  have ok := I.ok
  refine wpAny_Try_except (wpAny_mono ((hb (wTup X.K cs i ts D) (X.pn ++ pins) (fun e s1 => wpAny (model X.prog X.w) X.A (noteFrame e X.env) (fun _ s2 => wpAny (model X.prog X.w) X.A (setFlight e none) (fun _ s3 =>
    wpAny (model X.prog X.w) X.A (handleBy e X.env [.ExceptHandler (some te) (some n) (b0 :: suite) pos']) (SP X pins D) X.xe s3) X.xe s2) X.xe s1) (fun u s' xx => ?_) PassesOwn.looking).run [] s σ H D (I.toTry _) h) (fun f s1 hsp => ?_) (fun _ _ he => he))
  · obtain ⟨a, B, sI, pins', σ', H', cls, d, rfl, J', nb, up, sky, na, os, ag, hyes, go⟩ := xx
    have J : Inv X pins σ' H' sI := J'.ofTry ok
    have hfr : X.A.frames = some (X.env :: X.outer) := by rw [ok.frames, hs]
    show wpAny (model X.prog X.w) X.A (noteFrame (.ref a) X.env) _ _ _
    refine L2N.Sky.land Zn.steady hfr hf (by rw [← hs]; exact sky) fun h3 fl3 up3 => ?_
    obtain ⟨oe3, vs3, he3, hz3, hd3⟩ := fl3.there
    have nfr : a ∉ frs (X.env :: X.outer) := fun m => by
      obtain ⟨_, o', e', hnf⟩ := fl3.2.2.1.mem m
      cases he3.symm.trans e'
      exact hnf _ hd3
    have nL : a ≠ X.env.locals := fun z => nfr (List.mem_filterMap.mpr ⟨X.env, List.mem_cons_self, by rw [hf, z]⟩)
    have nF : a ∉ X.fs := fun m => by
      obtain ⟨e, he, q⟩ := List.mem_filterMap.mp m
      exact nfr (List.mem_filterMap.mpr ⟨e, List.mem_cons_of_mem _ he, q⟩)
    have J3 : Inv X pins σ' H' { s' with heap := h3 } := J.landed nb fl3.1 (up.trans up3) os ag
    refine wpAny_handleBy_cons (codeAny_handlers_test ?_) (by intro q; cases q)
    refine hl a oe3 (X.pn ++ pins) σ' H' _ _ _ (J3.suite he3 hd3 na nL nF) fun tp h4 ht k4 => ?_
    have fl4 := flying_push k4 fl3
    have up4 : h3.UpToSlots h4 := Heap.UpToSlots.of_keeps k4
    have LT : PySem.W.Looks (model X.prog X.w) h4 (typeOf (.ref a)) cls := fun A Q E s k q => wpAny_typeOf_ref (k _ _ (k4 _ _ he3)) (by rw [hz3.1]; exact q)
    refine (hm (J3.kIn.keeps k4) LT ht hyes).here ?_
    show codeAny (model X.prog X.w) (X.A.mark (some (.ref a))) (.handlers (.ref a) [.ExceptHandler none (some n) (b0 :: suite) pos'] X.env) _ _
    refine codeAny_handlers_suite_as (HandSPX.lands_againZ (s := { s' with heap := h4 }) fl4 fun h5 fl5 up5 => ?_)
    have J5 : Inv X pins σ' H' { s' with heap := h5 } := J.landed nb fl5.1 (((up.trans up3).trans up4).trans up5) os ag
    obtain ⟨oe5, vs5, he5, hz5, hd5⟩ := fl5.there
    refine store_ok (X := X.suite a ((a, oe5) :: (X.pn ++ pins))) (v := .ref a) (J5.suite he5 hd5 na nL nF) hN hi (.inl hln) rfl (fun s6 S6 => ?_) (.inr hln)
    refine wpAny_mono ((hsu a oe5 cls d (X.pn ++ pins) hz5 ⟨_, hd5⟩).run [] s6 _ H' _ S6 (go a na)) (fun f s7 hsp => ?_) (fun _ _ z => False.elim z)
    match f, hsp with
    | .next, ⟨σ6, H6, S7, q6⟩ => exact gone_ok (S7.unsuite ok) hN hi hln fun s8 J8 => ⟨_, _, J8, q6⟩
    | .brk, ⟨σ6, H6, S7, q6⟩ => exact gone_ok (S7.unsuite ok) hN hi hln fun s8 J8 => ⟨_, _, J8, q6⟩
    | .cont, ⟨σ6, H6, S7, q6⟩ => exact gone_ok (S7.unsuite ok) hN hi hln fun s8 J8 => ⟨_, _, J8, q6⟩
    | .ret u, ⟨v6, σ6, H6, S7, r6, q6⟩ => exact gone_ok (S7.unsuite ok) hN hi hln fun s8 J8 => ⟨_, _, _, J8, r6, q6⟩
  · match f, hsp with
    | .next, ⟨σ', H', J', q⟩ => exact wpAny_execs_nil ⟨σ', H', J'.ofTry ok, q⟩
    | .brk, ⟨σ', H', J', q⟩ => exact ⟨σ', H', J'.ofTry ok, q⟩
    | .cont, ⟨σ', H', J', q⟩ => exact ⟨σ', H', J'.ofTry ok, q⟩
    | .ret u, ⟨v, σ', H', J', r, q⟩ => exact ⟨v, σ', H', J'.ofTry ok, r, q⟩
end Du

set_option Elab.async false
set_option linter.all false
set_option maxRecDepth 100000
set_option maxHeartbeats 1000000
namespace Du
open PySem PySem.Spec PyProof.Rows L2
open L2N (Zn)
/-- an error class with one field, by its making -/
structure Err (P : Program) (w : World) (K : PySem.W.Frag) (mg : Str → Option Value) (x fld : Str) (C : Addr) : Prop where
  gC : mg x = some (.ref C)
  kC : PySem.W.keepIn K (.ref C) = true
  exC : PySem.W.subIn K (.ref C) (.type "BaseException") = some true
  tyC : PySem.W.typeIn K (.ref C) = some (.type "type")
  ga : PySem.W.findIn K (.ref C) "__getattribute__" = some (some (.builtin "BaseException.__getattribute__"))
  gg : PySem.W.findIn K (.ref C) "__getattr__" = some none
  noN : PySem.W.findIn K (.ref C) fld = some none
  hdC : PySem.W.hasDictIn K C = true
  made : ∀ {A : Around} {R : Result → Shared → Prop} {s : Shared} {mb : Str → Option Value} {v : Value}, K.In s.heap → s.heap.NoLimit → s.heap.Ns mainGlobals mg → s.heap.Ns builtinsNs mb → (∀ y : Str, y ≠ "__name__" → mb y = bootBuiltins y) → A.depth + 1 < recursionLimit →
    (∀ h' tk e d, ErrMade s.heap h' e C d fld v → R (.ok (.ret (.ref e))) { s with heap := h', toks := tk }) → codeAny (model P w) A (.call (.ref C) ⟨[v], []⟩) R s
theorem relO_fld {v : V} {u : Value} {fld : Str} (r : RelV v u) (f : Str) : RelO (List.lookup f [(fld, v)]) (if f = fld then some u else none) := by
  by_cases h : f = fld
  · subst h
    rw [if_pos rfl, show List.lookup f [(f, v)] = some v by simp [List.lookup]]
    exact r
  · have e : (f == fld) = false := by simpa using h
    rw [if_neg h, show List.lookup f [(fld, v)] = none by simp [List.lookup, e]]
    trivial
def tMkErr (C : Addr) (fld : Str) (ta : TA) : L2.St → Hp → XK → Prop := fun σ H Q => ta σ H fun vs H1 => ∃ v, vs = [v] ∧ ∀ d, H1 d = none → Q (.ref C) (some d) (upd H1 d (.xd [(fld, v)]))
theorem pmk_err {X : Cx} {C : Addr} {x fld : Str} {a : Expr} {ta : TA} {p pos : Pos} {k : Nat} (T : Err X.prog X.w X.K X.mg x fld C) (hr : Room k X.A) (hg : Gl X x) (ha : PA X [a] ta) (hdb : (x == ("__debug__" : Str)) = false := by decide)
    (he : starEach (a :: []) X.env = (false, eval a X.env) :: starEach [] X.env := by rfl) (hpl : (backTo pos (starEach [] X.env)).any (·.1) = false := by rfl) : L2N.PMk X (.Call (.Name x p) [a] [] pos) (tMkErr C fld ta) := by
  intro pins s σ H Q I h
  refine wpAny_Call_Name_kw (ld_glob I hg T.gC (PySem.W.callWith_K (h₀ := X.base) I.ok.mod.kin T.kC (thn (ha.run pos pins s σ H _ I h) fun us s1 hh => ?_) he hpl) hdb)
  obtain ⟨vs, H1, I1, r1, v, rfl, q1⟩ := hh
  obtain ⟨v', rfl, rv⟩ := vals1 r1
  refine ⟨I1.kIn, ?_⟩
  obtain ⟨mb, hb, hbb⟩ := I1.ok.mod.blt
  have hlim := I1.nolimit
  have G := I1.ok.mod.glob.keeps I1.bk
  have B := hb.keeps I1.bk
  show wpAny _ _ (call (.ref C) [v']) _ _ _
  refine wpAny_call (T.made I1.kIn hlim G B hbb (by have := hr.dp; omega) fun h' tk' e d M => ?_)
  obtain ⟨hp, g, dr, tk, os⟩ := s1
  show L2N.MkP X pins σ Q (.ref e) ⟨h', g, dr, tk', os⟩
  obtain ⟨oe, fv, hoe, hc, hd, hdat, h1, h2⟩ := M.obj
  obtain ⟨G', g1, g2⟩ := restrict h' fun b => decide (b ≠ e)
  have gk : ∀ b, b ≠ e → G'.get? b = h'.get? b := fun b hb => g1 b (decide_eq_true hb)
  have ge : G'.get? e = none := g2 e (by simp)
  have old : ∀ b o, hp.get? b = some o → G'.get? b = some o := fun b o q => (gk b (Nat.ne_of_lt (Nat.lt_of_lt_of_le (Heap.lt_size q) M.new))).trans (M.keep b o q)
  have J : Inv X pins σ (upd H1 d (.xd [(fld, v)])) ⟨G', g, dr, tk', os⟩ := I1.laid (t' := tk') old M.dbig ⟨_, M.ns.at (fun o q => (gk d M.dne).trans q), fun f => relO_fld rv f⟩
  refine ⟨e, oe, fv, ⟨G', g, dr, tk', os⟩, _, .ref C, some d, rfl, J, fun b o q => ?_, ge, hoe, ⟨hc, hd, fun vs ev => ?_⟩, hdat, h1, ?_, rfl, I1.bare, raises_own T.exC T.tyC, q1 d (I1.hok.fresh M.dbig)⟩
  · by_cases hb : b = e
    · rw [hb] at q
      cases ge.symm.trans q
    · exact (gk b hb).symm.trans q
  · cases hdat.symm.trans ev
    exact h2
  · rw [upd_ne (Ne.symm M.dne)]
    exact I1.hok.fresh M.new
/-- raise X(e) -/
theorem ps_raiseErr {X : Cx} {C : Addr} {x fld : Str} {a : Expr} {ta : TA} {W : WX} {p pos pos2 : Pos} {k : Nat} (hc : X.calm = true) (T : Err X.prog X.w X.K X.mg x fld C) (hr : Room k X.A) (tk : L2N.Takes X W) (hg : Gl X x) (ha : PA X [a] ta) (hdb : (x == ("__debug__" : Str)) = false := by decide)
    (he : starEach (a :: []) X.env = (false, eval a X.env) :: starEach [] X.env := by rfl) (hpl : (backTo pos (starEach [] X.env)).any (·.1) = false := by rfl) :
    PS X (.Raise (some (.Call (.Name x p) [a] [] pos)) none pos2) (fun _ σ H => tMkErr C fld ta σ H fun cls d H' => W cls d σ H') := L2N.ps_raise hc tk (pmk_err T hr hg ha hdb he hpl)
theorem err_of {P : Program} {w : World} {K : PySem.W.Frag} {mg : Str → Option Value} {x qual : Str} {C fI : Addr} (T : ErrC P K mg x "part" qual sNoTask C fI) : Err P w K mg x "part" C :=
  ⟨T.gC, T.kC, T.exC, T.tyC, T.ga, T.gg, T.noN, T.hdC, fun X l G B hb hr q => made_NoTask T X l G B hb hr q⟩
end Du

set_option Elab.async false
set_option linter.all false
set_option maxRecDepth 100000
set_option maxHeartbeats 1000000
namespace Du
open PySem PySem.Spec PyProof.Rows L2
open L2N (Zn)
open L2H (RoomH Hot1 PinOk cxH inv_startH roomH_of)
/-- what isinstance asks of an error's class -/
structure ErrI (K : PySem.W.Frag) (C : Addr) : Prop where
  ga : PySem.W.findIn K (.ref C) "__getattribute__" = some (some (.builtin "BaseException.__getattribute__"))
  gg : PySem.W.findIn K (.ref C) "__getattr__" = some none
  exC : PySem.W.subIn K (.ref C) (.type "BaseException") = some true
  hdC : PySem.W.hasDictIn K C = true
  ha : PySem.W.findIn K (.ref C) "__class__" = some (some (.builtin "object.__class__"))
  hn : PySem.W.specialIn K (.builtin "object.__class__") "__get__" = some (some (.builtin "getset_descriptor.__get__"))
  ht : PySem.W.takesIn K (.builtin "object.__class__") = some true
  hm : PySem.W.mroIn K C (.type "object") = some true
/-- a pinned error with its dict -/
theorem err_at {X : Cx} {pins : List (Addr × Obj)} {σ : L2.St} {H : Hp} {s : Shared} {a C dd : Addr} {oe : Obj} {fs : List (Str × V)} (hp : (a, oe) ∈ X.pn) (hz : Zn (.ref C) (some dd) oe) (hf : ∃ vs, oe.data = .fields vs) (I : Inv X pins σ H s) (hd : H dd = some (.xd fs)) :
    ∃ (od : Obj) (mA : Str → Option Value), PySem.W.InstAt s.heap a oe C (some od) ∧ (∀ f, RelO (fs.lookup f) (mA f)) ∧ ∀ f, PySem.W.lookIn f od = some (mA f) := by
  obtain ⟨ha, _⟩ := I.pin (a, oe) (List.mem_append_left _ hp)
  obtain ⟨vs, hv⟩ := hf
  obtain ⟨mA, hns, hr⟩ := (show ObjOk X.prog X.w H s.heap dd (.xd fs) from I.hok dd _ hd)
  obtain ⟨od, ho, hl⟩ := lookIn_ns hns
  exact ⟨od, mA, ⟨ha, hz.1, by unfold PySem.W.notCls; rw [hv] <;> rfl, by rw [hz.2.1]; exact ho⟩, hr, hl⟩
/-- isinstance(e, c), isinstance(e, (c, ..)), e a pinned error -/
def rIsX (K : PySem.W.Frag) (C a dd : Addr) : List V → Hp → VK → Prop := fun xs H Q => ∃ fs : List (Str × V), H dd = some (.xd fs) ∧
  ((∃ (c : V) (cv : Value) (b : Bool), xs = [.ref a, c] ∧ ClsV c cv ∧ PySem.W.kitOne K (.ref C) cv = some b ∧ Q (.bl b) H) ∨ (∃ (tp : Addr) (cs : List V) (us : List Value) (b : Bool), xs = [.ref a, .ref tp] ∧ H tp = some (.tup cs) ∧ Paired ClsV cs us ∧ PySem.W.kitAny K (.ref C) us = some b ∧ Q (.bl b) H))
theorem call_isX {X : Cx} {a C dd : Addr} {oe : Obj} (T : ErrI X.K C) (hp : (a, oe) ∈ X.pn) (hz : Zn (.ref C) (some dd) oe) (hf : ∃ vs, oe.data = .fields vs) : CallR X (.builtin "isinstance") (rIsX X.K C a dd) := by
  intro pins s σ H xs us Q I r h
  obtain ⟨fs, hd, h⟩ := h
  obtain ⟨od, mA, J, _, _⟩ := err_at hp hz hf I hd
  have Z := PySem.W.kitx_exc (x := a) (ox := oe) (od := some od) (by obtain ⟨cd, hc, _⟩ := PySem.W.any_some T.hdC; rw [hc]; rfl) T.ga T.gg T.exC T.ha T.hn T.ht T.hm
  rcases h with ⟨c, cv, b, rfl, k, e, q⟩ | ⟨tp, cs, ws, b, rfl, hT, k, e, q⟩
  · obtain ⟨u1, u2, rfl, r1, r2⟩ := vals2 r
    cases (show u1 = Value.ref a from r1)
    cases k.eq r2
    exact PySem.W.kia_one Z I.kIn J e (fun z => nomatch z) fun tk => ⟨.bl b, H, I.tok tk, rfl, q⟩
  · obtain ⟨u1, u2, rfl, r1, r2⟩ := vals2 r
    cases (show u1 = Value.ref a from r1)
    cases (show u2 = Value.ref tp from r2)
    obtain ⟨_, its, rv, ⟨oc, odd, dt, sl⟩, h1, h2, n, h3⟩ := (show ObjOk X.prog X.w H s.heap tp (.tup cs) from I.hok tp _ hT)
    cases ClsV.all k rv
    simp only at h2 h3
    subst h2 h3
    exact PySem.W.kia_tup Z I.kIn J h1 e (fun z => nomatch z) fun tk => ⟨.bl b, H, I.tok tk, rfl, q⟩
/-- e.fld, e a pinned error -/
theorem pe_fldX {X : Cx} {a C dd : Addr} {oe : Obj} {fld : Str} {e : Expr} {te : TE} {pos : Pos} (T : ErrI X.K C) (hno : PySem.W.findIn X.K (.ref C) fld = some none) (hp : (a, oe) ∈ X.pn) (hz : Zn (.ref C) (some dd) oe) (hf : ∃ vs, oe.data = .fields vs) (he : PE X e te)
    (hb : attributeBase e fld X.env (eval e X.env) = eval e X.env := by rfl) : PE X (.Attribute e fld pos) (fun σ H Q => te σ H fun x H1 => x = .ref a ∧ ∃ (fs : List (Str × V)) (v : V), H1 dd = some (.xd fs) ∧ fs.lookup fld = some v ∧ Q v H1) := by
  refine ⟨fun pins s σ H Q I h => attr_of hb (thn (he.run pins s σ H _ I h) fun u s1 hh => ?_)⟩
  obtain ⟨x, H1, I1, rx, rfl, fs, v, hd, hl, q⟩ := hh
  cases (show u = Value.ref a from rx)
  obtain ⟨od, mA, J, hr, hlk⟩ := err_at hp hz hf I1 hd
  obtain ⟨u, hu, ru⟩ := RelO.some_of (v := v) (o := mA fld) (by rw [← hl]; exact hr fld)
  exact HandSPX.exc_get I1.kIn J T.ga T.gg T.exC (PySem.W.findObj_own T.hdC hno rfl (by rw [hlk, hu])) (handed_of ru) ⟨v, H1, I1.tok _, ru, q⟩
/-! a def that is handed the error that is being handled -/
structure FnE (P : Program) (w : World) (K : PySem.W.Frag) (mg : Str → Option Value) (base : Heap) (k : Nat) (f : Addr) (fd : FuncData) (ps : List Str) (sp : Addr × Obj → Sp) : Prop where
  len : ∀ p vs H Q, sp p vs H Q E0 → vs.length = ps.length
  run : ∀ (A : Around) (outer : List Env) (s : Shared) (H : Hp) (args : Args) (us : List Value) (vs : List V) (Q : VK) (p : Addr × Obj), RoomH k A → Hot1 A p → PinOk outer H s p → Env0 P w K mg base A outer s H → BindsTo s fd args (ps.zip us) → Vals vs us → sp p vs H Q E0 →
    codeAny (model P w) A (.call (.ref f) args) (CR CX0 outer P w H s Q E0) s
theorem fnE_of {P : Program} {w : World} {K : PySem.W.Frag} {mg : Str → Option Value} {base : Heap} {k : Nat} {x qual : Str} {st : Stmt} {f : Addr} {fd : FuncData} {N ps : List Str} {sp : Addr × Obj → Sp} (F : Fun K x qual st f fd) (S : FnScope N ps (defScope st)) (len : ∀ p vs H Q, sp p vs H Q E0 → vs.length = ps.length)
    (hbody : ∀ (cdv : Value) (A : Around) (outer : List Env) (s : Shared) (H : Hp) (vs : List V) (Q : VK) (p : Addr × Obj), Hot1 A p → RoomH k (A.deeper (envOfC qual (defScope st) s.heap.objs.size f cdv)) → sp p vs H Q E0 →
      ∃ t, PSs (cxH CX0 P w K mg base N qual (defScope st) f cdv A outer s H E0 p).nox (defBody st) t ∧ t { nx := fun _ H' => Q .non H', rt := Q } (L2.start N vs) H) : FnE P w K mg base (k + 1) f fd ps sp := by
  obtain ⟨oc, od, kV, doc, pm, an, cdv, ct, osl, rfl, lk, hcd⟩ := F.ex
  refine ⟨len, fun A outer s H args us vs Q p hr hot hpin e0 hb r hsp => ?_⟩
  have kept := fun b o e => (e0.bs b o e).1
  have KX : K.In s.heap := e0.mod.kin.keeps kept
  refine codeAny_call_function hr.depth (KX _ _ lk) rfl S.co S.gen rfl (PySem.W.codeRec_of KX hcd) (hb _ _ _ _ (wpAny_newFunctionEnv_cells S.kind (fun y hy => (S.par y.1 (List.of_mem_zip hy).1).imp id fun q => ⟨q, PySem.W.cellsFrom_some _ _ _ (.inl q)⟩) fun env he s1 x => ?_))
  subst he
  obtain ⟨t, ht, hq⟩ := hbody cdv A outer s H vs Q p hot (hr.deeper _) hsp
  have I := inv_startH (CX := CX0) (E := E0) S hpin e0 (len p vs H Q hsp) r x
  refine ⟨(e0.mod.nolimit.keeps kept).keeps x.toInCall.keep, codeAny_func (wpAny_mono (ht.nox.run [] s1 _ H _ I hq) (fun fl s' hs => ?_) fun _ _ z => z)⟩
  match fl, hs with
  | .ret u, ⟨v, σ', H', J, rv, q⟩ => exact ⟨v, H', J.os, J.bare, J.base, J.hok, rv, q⟩
  | .next, ⟨σ', H', J, q⟩ => exact ⟨V.non, H', J.os, J.bare, J.base, J.hok, rfl, q⟩
  | .brk, ⟨_, _, _, q⟩ => exact q.elim
  | .cont, ⟨_, _, _, q⟩ => exact q.elim
/-- f(e), e the error that is being handled -/
theorem pe_callE {X : Cx} {k : Nat} {f : Addr} {fd : FuncData} {ps : List Str} {sp : Addr × Obj → Sp} {x : Str} {q pos : Pos} {e : Expr} {es : List Expr} {t : TA} {p : Addr × Obj} (F : FnE X.prog X.w X.K X.mg X.base k f fd ps sp) (hr : RoomH k X.A) (hot : Hot1 X.A p) (hp : p ∈ X.pn) (hg : Gl X x) (hm : X.mg x = some (.ref f))
    (hk : PySem.W.keepIn X.K (.ref f) = true) (hb : Binds X.K fd ps []) (ha : PA X (e :: es) t) (hdb : (x == ("__debug__" : Str)) = false := by decide) (he : starEach (e :: es) X.env = (false, eval e X.env) :: starEach es X.env := by rfl) (hpl : (backTo pos (starEach es X.env)).any (·.1) = false := by rfl) :
    PE X (.Call (.Name x q) (e :: es) [] pos) (fun σ H Q => t σ H fun vs H1 => sp p vs H1 Q E0) := by
  refine ⟨fun pins s σ H Q I h => wpAny_Call_Name_kw (ld_glob I hg hm (PySem.W.callWith_K (h₀ := X.base) I.ok.mod.kin hk (thn (ha.run pos pins s σ H _ I h) fun us s1 ⟨vs, H1, I1, r, q⟩ => ⟨I1.kIn, ?_⟩) he hpl) hdb)⟩
  have b := hb s1 us I1.kIn (by rw [List.append_nil, ← r.length]; exact F.len _ _ _ _ q)
  rw [List.append_nil] at b
  have P1 := I1.pin p (List.mem_append_left _ hp)
  refine wpAny_call (codeAny_mono (F.run X.A X.stack s1 H1 ⟨us, []⟩ us vs Q p hr hot ⟨P1.1, P1.2.1, fun m => (List.mem_cons.mp (I1.stkSub p.1 m)).elim P1.2.2.1 P1.2.2.2.1, P1.2.2.2.2⟩ I1.env0 b r q) fun z s' hq => ?_)
  match z, hq with
  | .error _, hq => exact hq.elim
  | .ok (.ret u), hq => exact I1.after hq
  | .ok .next, hq => exact hq.elim
  | .ok .brk, hq => exact hq.elim
  | .ok .cont, hq => exact hq.elim
end Du

set_option Elab.async false
set_option linter.all false
set_option maxRecDepth 100000
set_option maxHeartbeats 1000000
namespace Du
open PySem L2 PyProof.Rows
section
variable {X : Cx} {k : Nat} {f C : Addr} {fd : FuncData} {ps : List Str} {sp : Sp}
/-- what an own __repr__ promises of the object at a: the text t -/
def ReprSp (sp : Sp) (H0 : Hp) (a : Addr) (t : Str) : Prop := ∀ H, Same H0 H → ∀ Q : VK, (∀ H', Same H H' → Q (.str t) H') → sp [.ref a] H Q E0
/-- a class with an own __repr__ -/
structure OwnR (P : Program) (w : World) (K : PySem.W.Frag) (mg : Str → Option Value) (base : Heap) (k : Nat) (C : Addr) (sp : Sp) : Prop where
  ex : ∃ (f : Addr) (fd : FuncData) (ps : List Str), FnOk P w K mg base CX0 k f fd ps sp ∧ Binds K fd ps [] ∧ PySem.W.findIn K (.ref C) "__repr__" = some (some (.ref f)) ∧ PySem.W.isFn K (.ref f) = true
/-- repr(x), x of an own class -/
theorem call_reprO (R : OwnR X.prog X.w X.K X.mg X.base k C sp) (hr : Room (k + 1) X.A) : CallR X (.builtin "repr") (fun xs H Q => ∃ (a dx : Addr) (fs : List (Str × V)) (t : Str), xs = [.ref a] ∧ H a = some (.ins C dx fs) ∧ ReprSp sp H a t ∧ ∀ H', Same H H' → Q (.str t) H') := by
  obtain ⟨f, fd, ps, F, hb, hs, hf⟩ := R.ex
  intro pins s σ H xs us Q I r h
  obtain ⟨a, dx, fs, t, rfl, ha, hsp, q⟩ := h
  obtain ⟨u, rfl, ru⟩ := vals1 r
  cases ru
  obtain ⟨mA, J, _⟩ := ins_get I.hok ha
  obtain ⟨od, J, _⟩ := J.look
  obtain ⟨m, hF⟩ := I.fr
  refine PySem.W.repr_K (by have := hr.un; show X.A.units + 1 < cLine; omega) hF I.ok.mod.kin J hs hf (wpAny_mono (own_call F hb ⟨hr.in1, rfl⟩ I (vs := [.ref a]) (Q := fun v H' => v = .str t ∧ Q (.str t) H') (.cons rfl .nil) (hsp H (Same.refl _) _ fun H' s' => ⟨rfl, q H' s'⟩)) (fun v s' q => ?_) fun _ _ z => z)
  obtain ⟨z, H', I', rz, rfl, q⟩ := q
  obtain ⟨tk, rfl⟩ := rz
  exact ⟨.str t, H', I', ⟨_, rfl⟩, q⟩
/-- v is shown as t by repr, whatever else is being shown -/
def SItem (X : Cx) (n : Nat) (H0 : Hp) (v : V) (t : Str) : Prop := ∀ (A : Around) (g : List Code) (pins : List (Addr × Obj)) (σ : L2.St) (s : Shared) (H : Hp) (u : Value) (Q : Str → Shared → Prop) (base : Nat), A.guards = some g → (∀ b, v = .ref b → Clear g b) → Same H0 H → base + t.length ≤ sizeLine → Sub X n A → Inv X pins σ H s → RelV v u →
  (∀ s' H', Same H H' → Inv X pins σ H' s' → Q t s') → wpAny (model X.prog X.w) A (pyReprUnder base u) Q X.xe s
theorem SItem.of_is {n : Nat} {H0 : Hp} {v : V} {t : Str} (h : ∀ u, RelV v u → ReprIs X.prog X.w u t) : SItem X n H0 v t := fun A g pins σ s H u Q base _ _ _ hb _ I r q => h u r base hb A X.xe s Q fun tk => q _ H (Same.refl _) (I.tok tk)
theorem SItem.int {n : Nat} {H0 : Hp} {i : Int} (h : i.natAbs.log2 < 1920) : SItem X n H0 (.int i) (toString i) := .of_is fun u r => by
  obtain ⟨t, rfl⟩ := r
  exact ReprIs.int t h
theorem SItem.str {n : Nat} {H0 : Hp} {z : Str} (h : (reprText z).length ≤ sizeLine) : SItem X n H0 (.str z) (reprText z) := .of_is fun u r => by
  obtain ⟨t, rfl⟩ := r
  exact ReprIs.str z t h
theorem SItem.bl {n : Nat} {H0 : Hp} {b : Bool} : SItem X n H0 (.bl b) (if b then "True" else "False") := .of_is fun u r => by
  cases r
  exact ReprIs.bool b
theorem SItem.non {n : Nat} {H0 : Hp} : SItem X n H0 .non "None" := .of_is fun u r => by
  cases r
  exact ReprIs.none
theorem SItem.own {H0 : Hp} {a dx : Addr} {fs : List (Str × V)} {t : Str} (R : OwnR X.prog X.w X.K X.mg X.base k C sp) (ha : H0 a = some (.ins C dx fs)) (hsp : ReprSp sp H0 a t) : SItem X k H0 (.ref a) t := by
  obtain ⟨f, fd, ps, F, hb, hs, hf⟩ := R.ex
  intro A g pins σ s H u Q base _ _ s0 hbase sb I r q
  cases (show u = Value.ref a from r)
  obtain ⟨mA, J, _⟩ := ins_get I.hok (s0 _ _ ha)
  obtain ⟨od, J, _⟩ := J.look
  have hu : A.units < cLine := by have := sb.room.un; omega
  refine wpAny_pyReprUnder_ref (by omega) ?_
  unfold pyReprObjUnder pyReprObjBy
  refine wpAny_bind (wpAny_cRoomFor hu (wpAny_bind (wpAny_bind (J.type.here ((PySem.W.looks_findIn I.kIn hs).here ?_)))))
  show wpAny _ _ (if (some (Value.ref f)).isNone = true then _ else _) _ _ _
  rw [if_neg (by simp)]
  have go : wpAny (model X.prog X.w) A (call (.ref f) [.ref a]) (fun v s' => ∃ tk, v = .str t tk ∧ Q t s') X.xe s := wpAny_mono (own_call F hb sb I (vs := [.ref a]) (Q := fun v H' => v = .str t ∧ Same H H') (.cons rfl .nil) (hsp H s0 _ fun H' s' => ⟨rfl, s'⟩)) (fun v s' z => by
    obtain ⟨z, H', I', rz, rfl, sm⟩ := z
    obtain ⟨tk, rfl⟩ := rz
    exact ⟨tk, rfl, q s' H' sm I'⟩) fun _ _ z => z
  refine wpAny_bind (m := callSpecialIfBoundBy? _ (.ref a) (Str.ofString "__repr__")) ?_
  simp only [callSpecialIfBoundBy?, bindSpecialIfBound?]
  refine wpAny_holding (wpAny_bind (wpAny_bind (wpAny_bind (J.type.here ((PySem.W.looks_findIn I.kIn hs).here (wpAny_bind (wpAny_askSetting (wpAny_ite ?_))))))))
  have fin : wpAny (model X.prog X.w) A (call (.ref f) ([.ref a] ++ []) >>= fun v => pure (some v)) (fun r s' => wpAny (model X.prog X.w) A (match r with
      | some r => do
        if ← isInstance r (.type "str") then pure r else raiseError "TypeError" s!"__repr__ returned non-string (type {← typeNameOf r})"
      | none => unsupported "repr:special-get-raises") (fun v s' => ∃ x u, v = .str x u ∧ Q x s') X.xe s') X.xe s := by
    refine wpAny_bind (wpAny_mono go (fun v s' z => ?_) fun _ _ z => z)
    obtain ⟨tk, rfl, q'⟩ := z
    exact wpAny_pure (wpAny_bind (wpAny_isInstance (T := "str") (b := true) rfl isSubtype_str_str (wpAny_pure ⟨t, tk, rfl, q'⟩)))
  split
  · exact wpAny_bind ((PySem.W.bind_fn I.kIn _ (beq_iff_eq.mp hf)).here (wpAny_pure (by exact fin)))
  · exact wpAny_tryCatch (wpAny_bind ((PySem.W.bind_fn I.kIn _ (beq_iff_eq.mp hf)).here (wpAny_pure (by exact fin))))
/-- item by item -/
inductive SItems (X : Cx) (n : Nat) (H : Hp) : List V → List Str → Prop
  | nil : SItems X n H [] []
  | cons {v : V} {t : Str} {vs : List V} {ts : List Str} : SItem X n H v t → SItems X n H vs ts → SItems X n H (v :: vs) (t :: ts)
theorem SItems.len {n : Nat} {H : Hp} {vs : List V} {ts : List Str} (h : SItems X n H vs ts) : ts.length = vs.length := by
  induction h with
  | nil => rfl
  | cons _ _ ih => simp [ih]
theorem tupFoldJ {n : Nat} {H0 : Hp} {A : Around} {g : List Code} {pins : List (Addr × Obj)} {σ : L2.St} (sb : Sub X n A) (hg : A.guards = some g) : ∀ (vs : List V) (ts : List Str) (us : List Value) (acc : Array Str) (m : Nat) (s : Shared) (H : Hp) (Q : (Array Str × Nat) → Shared → Prop), SItems X n H0 vs ts → (∀ v ∈ vs, ∀ b, v = .ref b → Clear g b) → Vals vs us → Same H0 H → Inv X pins σ H s → m + piled ts ≤ sizeLine →
    (∀ s' H', Same H H' → Inv X pins σ H' s' → Q ⟨acc ++ ts.toArray, m + piled ts⟩ s') → wpAny (model X.prog X.w) A (forIn us (⟨acc, m⟩ : (Array Str × Nat)) tupBody) Q X.xe s := by
  intro vs
  induction vs with
  | nil =>
    intro ts us acc m s H Q hT _ hv _ I hn q
    cases hT
    cases hv
    rw [List.forIn_nil]
    exact wpAny_pure (by simpa [piled] using q s H (Same.refl _) I)
  | cons v vs ih =>
    intro ts us acc m s H Q hT hc hv s0 I hn q
    cases hT with
    | cons hx hl =>
      rename_i t ts'
      cases hv with
      | cons r rs =>
        rw [piled_cons] at hn
        rw [List.forIn_cons]
        refine wpAny_bind (wpAny_bind (hx A g pins σ s H _ _ (m + 1) hg (hc v List.mem_cons_self) s0 (by omega) sb I r fun s' H' sm I' => wpAny_pure ?_))
        refine ih ts' _ (acc.push t) (m + (t.length + 2)) s' H' Q hl (fun v hv => hc v (List.mem_cons_of_mem _ hv)) rs (s0.trans sm) I' (by omega) fun s2 H2 sm2 I2 => ?_
        have e : m + piled (t :: ts') = m + (t.length + 2) + piled ts' := by
          rw [piled_cons]
          omega
        have q' := q s2 H2 (sm.trans sm2) I2
        rw [e] at q'
        simpa using q'
/-- repr of a tuple, shown item by item, where nothing is being shown -/
theorem call_reprT {n : Nat} (hg : X.A.guards = some []) (hr : Room (n + 2) X.A) : CallR X (.builtin "repr") (fun xs H Q => ∃ (a : Addr) (vs : List V) (ts : List Str), xs = [.ref a] ∧ H a = some (.tup vs) ∧ SItems X n H vs ts ∧ (∀ v ∈ vs, v ≠ .ref a) ∧ (tupleText ts).length ≤ sizeLine ∧ ∀ H', Same H H' → Q (.str (tupleText ts)) H') := by
  intro pins s σ H xs us Q I r h
  obtain ⟨a, vs, ts, rfl, ha, hT, hne, hz, q⟩ := h
  obtain ⟨u, rfl, ru⟩ := vals1 r
  cases ru
  obtain ⟨_, its, rv, ⟨oc, odd, dt, sl⟩, h1, h2, m, h3⟩ := (show ObjOk X.prog X.w H s.heap a (.tup vs) from I.hok a _ ha)
  simp only at h2 h3
  subst h2 h3
  have hTy : s.TypeIs (.ref a) "tuple" := ⟨_, h1, rfl⟩
  have hun := hr.un
  have hp := piled_le_tupleText ts
  have hlen : ts.length = its.length := hT.len.trans rv.length
  refine call_repr_slot (by omega) hTy F.slot_tuple_repr ?_
  refine wpAny_call (codeAny_call_builtin_own (Code.quiet_builtin _ (by decide +kernel)) F.entry_tuple_repr (F.slot_tuple_repr.check _ _ _ _ _ _ _ _ hTy (F.args_tuple_repr_1 _) ?_))
  show wpOwn _ _ _ (Builtin.tupleReprAt 0 ⟨[.ref a], []⟩) _ _ _
  rw [tuple_repr_tree, tupleReprUnderWay_eq]
  refine wpOwn_bind (wpOwn_stackTailAny (A := X.A.in1) hg (tupGuardF_off _) (tupGuardF_pos _) (wpOwn_of_wpAny ?_))
  show wpAny _ _ (tupleReprRest 0 (.ref a)) _ _ s
  unfold tupleReprRest Builtin.Tuple.tupleItemsOf
  refine wpAny_bind (wpAny_bind (wpAny_seqItems h1 rfl (wpAny_pure ?_)))
  rw [← Array.forIn_toList]
  have sb : Sub X n (X.A.in1.under (.builtin "tuple.__repr__" ⟨[.ref a], []⟩)) := by
    refine ⟨⟨hr.hd, ?_, ?_⟩, rfl⟩
    · have := hr.dp
      have hw : (Code.builtin "tuple.__repr__" ⟨[.ref a], []⟩).weight = 1 := by first | rfl | (show 0 + 0 + (if (Code.builtin "tuple.__repr__" ⟨[.ref a], []⟩).isGuard then 1 else 0) + 0 = 1; rw [isGuard_tuple_repr]; rfl)
      show X.A.depth + (Code.builtin "tuple.__repr__" ⟨[.ref a], []⟩).weight + 3 * n + 5 < _
      omega
    · rw [units_under_tuple_repr]
      show X.A.units + 1 + 1 + 16 * n + 200 < _
      omega
  refine wpAny_bind (tupFoldJ sb (guards_under_guard (isGuard_tuple_repr _) hg) vs ts _ _ _ s H _ hT (fun v hv b e => (Clear.nil b).cons (a := a) fun z => hne v hv (by rw [e, z])) rv (Same.refl _) I (by omega) fun s' H' sm I' => ?_)
  refine wpAny_bind (wpAny_mkStr (wpAny_pure ?_) (by simpa [tupleText, hlen] using hz))
  have q' := q H' sm
  refine ⟨_, _, rfl, .str (tupleText ts), H', I'.tok _, ⟨s'.toks, ?_⟩, q'⟩
  simp [tupleText, hlen]
end
end Du

set_option Elab.async false
set_option linter.all false
set_option maxRecDepth 100000
set_option maxHeartbeats 1000000
namespace Du
open PySem L2 PyProof.Rows
/-- what is shown whatever else is being shown: as t -/
inductive It (P : Program) (w : World) (K : PySem.W.Frag) (mg : Str → Option Value) (base : Heap) (n : Nat) (H : Hp) : V → Str → Prop
  | non : It P w K mg base n H .non "None"
  | bl (b : Bool) : It P w K mg base n H (.bl b) (if b then "True" else "False")
  | int (i : Int) : i.natAbs.log2 < 1920 → It P w K mg base n H (.int i) (toString i)
  | str (z : Str) : (reprText z).length ≤ sizeLine → It P w K mg base n H (.str z) (reprText z)
  | own {C a dx : Addr} {k : Nat} {sp : Sp} {fs : List (Str × V)} {t : Str} : OwnR P w K mg base k C sp → k ≤ n → H a = some (.ins C dx fs) → ReprSp sp H a t → It P w K mg base n H (.ref a) t
  | emp {a : Addr} : H a = some (.dK []) → It P w K mg base n H (.ref a) "{}"
inductive Its (P : Program) (w : World) (K : PySem.W.Frag) (mg : Str → Option Value) (base : Heap) (n : Nat) (H : Hp) : List V → List Str → Prop
  | nil : Its P w K mg base n H [] []
  | cons {v : V} {t : Str} {vs : List V} {ts : List Str} : It P w K mg base n H v t → Its P w K mg base n H vs ts → Its P w K mg base n H (v :: vs) (t :: ts)
/-- v is shown as t by repr -/
inductive Sh (P : Program) (w : World) (K : PySem.W.Frag) (mg : Str → Option Value) (base : Heap) (n : Nat) (H : Hp) : V → Str → Prop
  | it {v : V} {t : Str} : It P w K mg base n H v t → Sh P w K mg base n H v t
  | dat {a : Addr} {d : PyData} : Dp K H (.ref a) d → d.showable = true → d.hasDict = false → d.depth ≤ 64 → d.shown.length ≤ sizeLine → Sh P w K mg base n H (.ref a) d.shown
  | tup {a : Addr} {vs : List V} {ts : List Str} : H a = some (.tup vs) → Its P w K mg base n H vs ts → (∀ v ∈ vs, v ≠ .ref a) → (tupleText ts).length ≤ sizeLine → Sh P w K mg base n H (.ref a) (tupleText ts)
section
variable {P : Program} {w : World} {K : PySem.W.Frag} {mg : Str → Option Value} {base : Heap} {n : Nat} {H H' : Hp} {v : V} {t : Str}
theorem ReprSp.same {sp : Sp} {a : Addr} (h : ReprSp sp H a t) (s : Same H H') : ReprSp sp H' a t := fun H2 s2 => h H2 (s.trans s2)
theorem It.same (h : It P w K mg base n H v t) (s : Same H H') : It P w K mg base n H' v t := by
  cases h with
  | non => exact .non
  | bl b => exact .bl b
  | int i h => exact .int i h
  | str z h => exact .str z h
  | own R hk ha hs => exact .own R hk (s _ _ ha) (hs.same s)
  | emp h => exact .emp (s _ _ h)
theorem Its.same {vs : List V} {ts : List Str} (h : Its P w K mg base n H vs ts) (s : Same H H') : Its P w K mg base n H' vs ts := by
  induction h with
  | nil => exact .nil
  | cons h _ ih => exact .cons (h.same s) ih
mutual
theorem dp_same (s : Same H H') : ∀ (d : PyData) (v : V), Dp K H v d → Dp K H' v d
  | .none, _, h => by cases h; exact .non
  | .bool _, _, h => by cases h; exact .bl _
  | .int _, _, h => by cases h; exact .int _
  | .str _, _, h => by cases h; exact .str _
  | .list ds, _, h => by
    cases h with
    | lst q a => exact .lst (q.ext s) (dps_same s ds _ a)
  | .tuple ds, _, h => by
    cases h with
    | tup q a => exact .tup (q.ext s) (dps_same s ds _ a)
  | .dict _, _, h => nomatch h
theorem dps_same (s : Same H H') : ∀ (ds : List PyData) (vs : List V), DpAll K H vs ds → DpAll K H' vs ds
  | [], _, h => by cases h; exact .nil
  | d :: ds, _, h => by
    cases h with
    | cons h1 h2 => exact .cons (dp_same s d _ h1) (dps_same s ds _ h2)
end
theorem Sh.same (h : Sh P w K mg base n H v t) (s : Same H H') : Sh P w K mg base n H' v t := by
  cases h with
  | it h => exact .it (h.same s)
  | dat h a b c d => exact .dat (dp_same s _ _ h) a b c d
  | tup h i a b => exact .tup (s _ _ h) (i.same s) a b
end
section
variable {X : Cx} {n : Nat} {H : Hp} {v : V} {t : Str}
theorem emp_reprK {pins : List (Addr × Obj)} {σ : L2.St} {s : Shared} {a : Addr} (I : Inv X pins σ H s) (h : H a = some (.dK [])) : ReprK X.prog X.w [a] s.heap 1 (.ref a) "{}" := by
  obtain ⟨_, hsm, vs, hkv, o, es, ep, ho, hx, hd, _, hp, _⟩ := dk_of I.hok h
  cases hkv
  have e : es.toList = [] := by
    generalize es.toList = l at hp
    cases hp
    rfl
  have z : dictText [] = ("{}" : Str) := by decide +kernel
  rw [← z]
  exact ReprK.dict ho hx.1 hd hsm (fun q => nomatch q) (by rw [e]; exact .nil)
theorem It.item (h : It X.prog X.w X.K X.mg X.base n H v t) : SItem X n H v t := by
  cases h with
  | non => exact .non
  | bl b => exact .bl
  | int i h => exact .int h
  | str z h => exact .str h
  | own R hk ha hs => exact fun A g pins σ s H2 u Q base hg hc s0 hb sb I r q => SItem.own R ha hs A g pins σ s H2 u Q base hg hc s0 hb (sb.mono hk) I r q
  | emp h =>
    intro A g pins σ s H2 u Q base hg hc s0 hb sb I r q
    cases (show u = Value.ref _ from r)
    have hun := sb.room.un
    exact emp_reprK I (s0 _ _ h) base hb A g X.xe s Q hg (fun b hb => by rw [List.mem_singleton.mp hb]; exact hc _ rfl) (by omega) (fun _ _ e => e) fun h' tk k => q _ H2 (Same.refl _) (I.kept k)
theorem Its.items {vs : List V} {ts : List Str} (h : Its X.prog X.w X.K X.mg X.base n H vs ts) : SItems X n H vs ts := by
  induction h with
  | nil => exact .nil
  | cons h _ ih => exact .cons h.item ih
/-- repr(v) -/
theorem call_repr (hg : X.A.guards = some []) (hr : Room (n + 2) X.A) : CallR X (.builtin "repr") (fun xs H Q => ∃ (v : V) (t : Str), xs = [v] ∧ Sh X.prog X.w X.K X.mg X.base n H v t ∧ ∀ H', Same H H' → Q (.str t) H') := by
  intro pins s σ H xs us Q I r h
  obtain ⟨v, t, rfl, hs, q⟩ := h
  have hun := hr.un
  cases hs with
  | it h =>
    cases h with
    | non =>
      obtain ⟨u, rfl, ru⟩ := vals1 r
      cases ru
      exact P.repr_of_none ⟨.str "None", H, I.tok _, ⟨_, rfl⟩, q H (Same.refl _)⟩
    | bl b =>
      obtain ⟨u, rfl, ru⟩ := vals1 r
      cases ru
      exact P.repr_of_bool ⟨.str _, H, I.tok _, ⟨_, rfl⟩, q H (Same.refl _)⟩
    | int i h =>
      obtain ⟨u, rfl, ru⟩ := vals1 r
      obtain ⟨tk, rfl⟩ := ru
      exact P.repr_of_int h ⟨.str _, H, I.tok _, ⟨_, rfl⟩, q H (Same.refl _)⟩
    | str z h =>
      obtain ⟨u, rfl, ru⟩ := vals1 r
      obtain ⟨tk, rfl⟩ := ru
      exact P.repr_of_str ⟨.str _, H, I.tok _, ⟨_, rfl⟩, q H (Same.refl _)⟩ h
    | own R hk ha hs => exact call_reprO R (hr.mono (by omega)) pins s σ H _ us Q I r ⟨_, _, _, _, rfl, ha, hs, q⟩
    | emp h =>
      obtain ⟨u, rfl, ru⟩ := vals1 r
      cases ru
      obtain ⟨_, hsm, vs, hkv, o, es, ep, ho, hx, hd, _, hp, _⟩ := dk_of I.hok h
      cases hkv
      have e : es.toList = [] := by
        generalize es.toList = l at hp
        cases hp
        rfl
      have rd : Reads s.heap (.ref _) (.dict []) _ := .dict (kvs := []) ho hx.1 hd (by rw [e]; exact .nil) (by rw [e]; exact .nil)
      have z : PyData.shown (.dict []) = ("{}" : Str) := by decide +kernel
      refine repr_of_reads' rd rfl (fun _ hm => ?_) hg (by show X.A.units + (0 + 1 + 1) < cLine; omega) (fun _ _ e => e) (fun h' u tk hk => ⟨.str "{}", H, I.kept hk, ⟨u, by rw [z]⟩, q H (Same.refl _)⟩) (by rw [z]; decide +kernel)
      simp only [List.append_nil, List.mem_singleton] at hm
      rw [← hm] at hsm
      simp at hsm
  | dat h a b c d => exact call_reprD hg (by omega) pins s σ H _ us Q I r ⟨_, _, rfl, h, a, b, c, d, q H (Same.refl _)⟩
  | tup h i a b => exact call_reprT hg hr pins s σ H _ us Q I r ⟨_, _, _, rfl, h, i.items, a, b, q⟩
end
end Du

set_option Elab.async false
set_option linter.all false
set_option maxRecDepth 100000
set_option maxHeartbeats 1000000
namespace Du
open PySem L2 PyProof.Rows
open L2N (Zn)
open L2H (RoomH Hot1 PinOk cxH roomH_of)
/-- o.m(k = v, ..) -/
def tMethK (C : Addr) (m : Str) (n : Nat) (sp : Sp) (gV : List V → List V → List V) (E : XK) (ta : TE) (tk : TA) : TE := fun σ H Q => ta σ H fun x H1 => ∃ a dx fs, x = .ref a ∧ H1 a = some (.ins C dx fs) ∧ fs.lookup m = none ∧ tk σ H1 fun zs H2 => zs.length = n ∧ sp (gV [.ref a] zs) H2 Q E
theorem pe_methK0 {X : Cx} {CX : CXT} {k : Nat} {f C : Addr} {fd : FuncData} {ps ks : List Str} {sp : Sp} {E : XK} {m : Str} {o : Expr} {kws : List Keyword} {ta : TE} {tk : TA} {apos pos : Pos} {g : List Value → List Value → List Value} {gV : List V → List V → List V} {pl : Sem Bool}
    (he : PE X o ta) (c : Cls X.K C) (hm : Meth X.K C m f) (F : FnOk X.prog X.w X.K X.mg X.base CX k f fd ps sp) (hr : Room k X.A) (hb : KBn X.K fd ps 1 ks g gV) (hx : Passes CX X E) (hkw : PK X kws tk)
    (hall : (backToKw pos (keywordEach kws X.env)).all (·.1.isSome) = true := by rfl) (hks : (backToKw pos (keywordEach kws X.env)).filterMap (·.1) = ks := by rfl)
    (hpl : ((backTo pos (starEach [] X.env)).any (·.1) || (backToKw pos (keywordEach kws X.env)).any (·.1.isNone)) = false := by rfl)
    (ht : eval (.Call (.Attribute o m apos) [] kws pos) X.env = (do
      let ov ← eval o X.env
      standAt apos.atName
      let (f, first) ← holding [ov] (getMethod ov m pl)
      callWith pos f first (backTo pos (starEach [] X.env)) (backToKw pos (keywordEach kws X.env))) := by rfl) : PE X (.Call (.Attribute o m apos) [] kws pos) (tMethK C m ks.length sp gV E ta tk) := by
  refine ⟨fun pins s σ H Q I h => PySem.W.methodCall_KW (pl := pl) (thn (he.run pins s σ H _ I h) fun u s1 ⟨x, H1, I1, rx, a, dx, fs, ex, ea, l, q⟩ => ?_) ht⟩
  subst ex
  obtain rfl : u = Value.ref a := rx
  refine getmeth_ok I1 ea c hm l (PySem.W.callWith_KW0 (first := [.ref a]) (h₀ := X.base) I.ok.mod.kin hm.kp hall ?_ hpl)
  refine thn (hkw.run pos pins s1 σ H1 _ I1 q) fun ws s2 ⟨zs, H2, I2, rz, l2, q2⟩ => ⟨I2.kIn, ?_⟩
  rw [hks]
  have r1 : Vals [V.ref a] [Value.ref a] := .cons rfl .nil
  refine wpAny_call (codeAny_mono (F.run X.A X.stack s2 H2 ⟨[Value.ref a], ks.zip ws⟩ (g [Value.ref a] ws) (gV [.ref a] zs) Q E hr I2.env0 (hb.to s2 [Value.ref a] ws I2.kIn rfl (rz.length.symm.trans l2)) (hb.rel r1 rz) q2) fun r s' hq => ?_)
  match r, hq with
  | .error e, hq => exact hx pins σ H2 s2 e s' I2 hq
  | .ok (.ret u), hq => exact I2.after hq
  | .ok .next, hq => exact hq.elim
  | .ok .brk, hq => exact hq.elim
  | .ok .cont, hq => exact hq.elim
/-- o.m(k = v, ..) in a try: what is raised may be seen with the slots as they are -/
def tMethKT (C : Addr) (m : Str) (n : Nat) (sp : Sp) (gV : List V → List V → List V) (E : L2.St → XK) (ta : TE) (tk : TA) : TE := fun σ H Q => ta σ H fun x H1 => ∃ a dx fs, x = .ref a ∧ H1 a = some (.ins C dx fs) ∧ fs.lookup m = none ∧ tk σ H1 fun zs H2 => zs.length = n ∧ sp (gV [.ref a] zs) H2 Q (E σ)
theorem pe_methKT0 {X : Cx} {CX : CXT} {k : Nat} {f C : Addr} {fd : FuncData} {ps ks : List Str} {sp : Sp} {E : L2.St → XK} {m : Str} {o : Expr} {kws : List Keyword} {ta : TE} {tk : TA} {apos pos : Pos} {g : List Value → List Value → List Value} {gV : List V → List V → List V} {pl : Sem Bool}
    (he : PE X o ta) (c : Cls X.K C) (hm : Meth X.K C m f) (F : FnOk X.prog X.w X.K X.mg X.base CX k f fd ps sp) (hr : Room k X.A) (hb : KBn X.K fd ps 1 ks g gV) (hx : ∀ σ, PassesAt CX X σ (E σ)) (hkw : PK X kws tk)
    (hall : (backToKw pos (keywordEach kws X.env)).all (·.1.isSome) = true := by rfl) (hks : (backToKw pos (keywordEach kws X.env)).filterMap (·.1) = ks := by rfl)
    (hpl : ((backTo pos (starEach [] X.env)).any (·.1) || (backToKw pos (keywordEach kws X.env)).any (·.1.isNone)) = false := by rfl)
    (ht : eval (.Call (.Attribute o m apos) [] kws pos) X.env = (do
      let ov ← eval o X.env
      standAt apos.atName
      let (f, first) ← holding [ov] (getMethod ov m pl)
      callWith pos f first (backTo pos (starEach [] X.env)) (backToKw pos (keywordEach kws X.env))) := by rfl) : PE X (.Call (.Attribute o m apos) [] kws pos) (tMethKT C m ks.length sp gV E ta tk) := by
  refine ⟨fun pins s σ H Q I h => PySem.W.methodCall_KW (pl := pl) (thn (he.run pins s σ H _ I h) fun u s1 ⟨x, H1, I1, rx, a, dx, fs, ex, ea, l, q⟩ => ?_) ht⟩
  subst ex
  obtain rfl : u = Value.ref a := rx
  refine getmeth_ok I1 ea c hm l (PySem.W.callWith_KW0 (first := [.ref a]) (h₀ := X.base) I.ok.mod.kin hm.kp hall ?_ hpl)
  refine thn (hkw.run pos pins s1 σ H1 _ I1 q) fun ws s2 ⟨zs, H2, I2, rz, l2, q2⟩ => ⟨I2.kIn, ?_⟩
  rw [hks]
  have r1 : Vals [V.ref a] [Value.ref a] := .cons rfl .nil
  refine wpAny_call (codeAny_mono (F.run X.A X.stack s2 H2 ⟨[Value.ref a], ks.zip ws⟩ (g [Value.ref a] ws) (gV [.ref a] zs) Q (E σ) hr I2.env0 (hb.to s2 [Value.ref a] ws I2.kIn rfl (rz.length.symm.trans l2)) (hb.rel r1 rz) q2) fun r s' hq => ?_)
  match r, hq with
  | .error e, hq => exact hx σ pins H2 s2 e s' I2 hq
  | .ok (.ret u), hq => exact I2.after hq
  | .ok .next, hq => exact hq.elim
  | .ok .brk, hq => exact hq.elim
  | .ok .cont, hq => exact hq.elim
/-- o.m(e, ..) in a try -/
def tMethT (C : Addr) (m : Str) (sp : Sp) (E : L2.St → XK) (ta : TE) (t : TA) : TE := fun σ H Q => ta σ H fun x H1 => ∃ a dx fs, x = .ref a ∧ H1 a = some (.ins C dx fs) ∧ fs.lookup m = none ∧ t σ H1 fun vs H2 => sp (.ref a :: vs) H2 Q (E σ)
theorem pe_methT {X : Cx} {CX : CXT} {k : Nat} {f C : Addr} {fd : FuncData} {ps : List Str} {sp : Sp} {E : L2.St → XK} {m : Str} {o e : Expr} {es : List Expr} {ta : TE} {t : TA} {apos pos : Pos} {pl : Sem Bool}
    (he : PE X o ta) (c : Cls X.K C) (hm : Meth X.K C m f) (F : FnOk X.prog X.w X.K X.mg X.base CX k f fd ps sp) (hr : Room k X.A) (hb : Binds X.K fd ps []) (hx : ∀ σ, PassesAt CX X σ (E σ)) (ha : PA X (e :: es) t)
    (hst : starEach (e :: es) X.env = (false, eval e X.env) :: starEach es X.env := by rfl) (hpl : (backTo pos (starEach es X.env)).any (·.1) = false := by rfl)
    (ht : eval (.Call (.Attribute o m apos) (e :: es) [] pos) X.env = (do
      let ov ← eval o X.env
      standAt apos.atName
      let (f, first) ← holding [ov] (getMethod ov m pl)
      callWith pos f first (backTo pos (starEach (e :: es) X.env)) (backToKw pos (keywordEach [] X.env))) := by rfl) : PE X (.Call (.Attribute o m apos) (e :: es) [] pos) (tMethT C m sp E ta t) := by
  refine ⟨fun pins s σ H Q I h => PySem.W.methodCall_KW (pl := pl) (thn (he.run pins s σ H _ I h) fun u s1 ⟨x, H1, I1, rx, a, dx, fs, ex, ea, l, q⟩ => ?_) ht⟩
  subst ex
  obtain rfl : u = Value.ref a := rx
  refine getmeth_ok I1 ea c hm l (PySem.W.callWith_K (first := [.ref a]) (h₀ := X.base) I.ok.mod.kin hm.kp (thn (ha.run pos pins s1 σ H1 _ I1 q) fun us s2 ⟨vs, H2, I2, r, q2⟩ => ⟨I2.kIn, ?_⟩) hst hpl)
  exact run_fnS (us := .ref a :: us) (vs := .ref a :: vs) F hr hb (hx σ) I2 (.cons rfl r) q2
/-- o.m() in a try -/
theorem pe_methT0 {X : Cx} {CX : CXT} {k : Nat} {f C : Addr} {fd : FuncData} {ps : List Str} {sp : Sp} {E : L2.St → XK} {m : Str} {o : Expr} {ta : TE} {apos pos : Pos} {pl : Sem Bool}
    (he : PE X o ta) (c : Cls X.K C) (hm : Meth X.K C m f) (F : FnOk X.prog X.w X.K X.mg X.base CX k f fd ps sp) (hr : Room k X.A) (hb : Binds X.K fd ps []) (hx : ∀ σ, PassesAt CX X σ (E σ))
    (ht : eval (.Call (.Attribute o m apos) [] [] pos) X.env = (do
      let ov ← eval o X.env
      standAt apos.atName
      let (f, first) ← holding [ov] (getMethod ov m pl)
      callWith pos f first (backTo pos (starEach [] X.env)) (backToKw pos (keywordEach [] X.env))) := by rfl) : PE X (.Call (.Attribute o m apos) [] [] pos) (tMethT C m sp E ta tNil) := by
  refine ⟨fun pins s σ H Q I h => PySem.W.methodCall_KW (pl := pl) (thn (he.run pins s σ H _ I h) fun u s1 ⟨x, H1, I1, rx, a, dx, fs, ex, ea, l, q⟩ => ?_) ht⟩
  subst ex
  obtain rfl : u = Value.ref a := rx
  exact getmeth_ok I1 ea c hm l (PySem.W.callWith_K0 (first := [.ref a]) I1.kIn hm.kp (run_fnS (us := [.ref a]) (vs := [.ref a]) F hr hb (hx σ) I1 (.cons rfl .nil) q))
/-- a block by what it is seen to do -/
theorem pss_of {X : Cx} {st : List Stmt} {t' : TS} (h : ∀ (pins : List (Addr × Obj)) (s : Shared) (σ : L2.St) (H : Hp) (D : Ends), Inv X pins σ H s → t' D σ H → ∃ t, PSs X st t ∧ t D σ H) : PSs X st t' := ⟨fun pins s σ H D I q => by
  obtain ⟨t, ht, q'⟩ := h pins s σ H D I q
  exact ht.run pins s σ H D I q'⟩
/-! a def that must know that nothing is being shown -/
structure FnG (P : Program) (w : World) (K : PySem.W.Frag) (mg : Str → Option Value) (base : Heap) (k : Nat) (f : Addr) (fd : FuncData) (ps : List Str) (sp : Sp) : Prop where
  len : ∀ vs H Q, sp vs H Q E0 → vs.length = ps.length
  run : ∀ (A : Around) (outer : List Env) (s : Shared) (H : Hp) (args : Args) (us : List Value) (vs : List V) (Q : VK), A.guards = some [] → Room k A → Env0 P w K mg base A outer s H → BindsTo s fd args (ps.zip us) → Vals vs us → sp vs H Q E0 →
    codeAny (model P w) A (.call (.ref f) args) (CR CX0 outer P w H s Q E0) s
theorem fnG_of {P : Program} {w : World} {K : PySem.W.Frag} {mg : Str → Option Value} {base : Heap} {k : Nat} {x qual : Str} {st : Stmt} {f : Addr} {fd : FuncData} {N ps : List Str} {sp : Sp} (F : Fun K x qual st f fd) (S : FnScope N ps (defScope st)) (len : ∀ vs H Q, sp vs H Q E0 → vs.length = ps.length)
    (hbody : ∀ (cdv : Value) (A : Around) (outer : List Env) (s : Shared) (H : Hp) (vs : List V) (Q : VK), (A.deeper (envOfC qual (defScope st) s.heap.objs.size f cdv)).guards = some [] → Room k (A.deeper (envOfC qual (defScope st) s.heap.objs.size f cdv)) → sp vs H Q E0 →
      ∃ t, PSs (cxOf CX0 P w K mg base N qual (defScope st) f cdv A outer s H E0).nox (defBody st) t ∧ t { nx := fun _ H' => Q .non H', rt := Q } (L2.start N vs) H) : FnG P w K mg base (k + 1) f fd ps sp := by
  obtain ⟨oc, od, kV, doc, pm, an, cdv, ct, osl, rfl, lk, hcd⟩ := F.ex
  exact ⟨len, fun A outer s H args us vs Q hg hr e0 hb r hsp => fn_at lk hcd S hr e0 hb r (len vs H Q hsp) (hbody cdv A outer s H vs Q hg (hr.deeper _) hsp)⟩
structure DnG (P : Program) (w : World) (K : PySem.W.Frag) (mg : Str → Option Value) (base : Heap) (k : Nat) (x : Str) (ps : List Str) (sp : Sp) : Prop where
  ex : ∃ (f : Addr) (fd : FuncData), FnG P w K mg base k f fd ps sp ∧ mg x = some (.ref f) ∧ PySem.W.keepIn K (.ref f) = true ∧ Binds K fd ps []
theorem pcallG {X : Cx} {k : Nat} {x : Str} {ps : List Str} {sp : Sp} {p pos : Pos} {e : Expr} {es : List Expr} {t : TA} (D : DnG X.prog X.w X.K X.mg X.base k x ps sp) (hG : X.A.guards = some []) (hr : Room k X.A) (hg : Gl X x) (ha : PA X (e :: es) t)
    (hdb : (x == ("__debug__" : Str)) = false := by decide) (he : starEach (e :: es) X.env = (false, eval e X.env) :: starEach es X.env := by rfl) (hpl : (backTo pos (starEach es X.env)).any (·.1) = false := by rfl) :
    PE X (.Call (.Name x p) (e :: es) [] pos) (tCall sp [] E0 t) := by
  obtain ⟨f, fd, F, hm, hk, hb⟩ := D.ex
  refine ⟨fun pins s σ H Q I h => wpAny_Call_Name_kw (ld_glob I hg hm (PySem.W.callWith_K (h₀ := X.base) I.ok.mod.kin hk (thn (ha.run pos pins s σ H _ I h) fun us s1 ⟨vs, H1, I1, r, q⟩ => ⟨I1.kIn, ?_⟩) he hpl) hdb)⟩
  have q : sp vs H1 Q E0 := by
    have z : sp (vs ++ []) H1 Q E0 := q
    rwa [List.append_nil] at z
  have b := hb s1 us I1.kIn (by rw [List.append_nil, ← r.length]; exact F.len _ _ _ q)
  rw [List.append_nil] at b
  refine wpAny_call (codeAny_mono (F.run X.A X.stack s1 H1 ⟨us, []⟩ us vs Q hG hr I1.env0 b r q) fun z s' hq => ?_)
  match z, hq with
  | .error _, hq => exact hq.elim
  | .ok (.ret u), hq => exact I1.after hq
  | .ok .next, hq => exact hq.elim
  | .ok .brk, hq => exact hq.elim
  | .ok .cont, hq => exact hq.elim
/-- repr(x), x of an own class, while an error is being handled -/
theorem call_reprOE {X : Cx} {k : Nat} {f C : Addr} {fd : FuncData} {sp : Sp} {p : Addr × Obj} (F : FnE X.prog X.w X.K X.mg X.base k f fd ["self"] (fun _ => sp)) (hb : Binds X.K fd ["self"] []) (hs : PySem.W.findIn X.K (.ref C) "__repr__" = some (some (.ref f))) (hf : PySem.W.isFn X.K (.ref f) = true)
    (hr : RoomH (k + 1) X.A) (hot : Hot1 X.A p) (hp : p ∈ X.pn) : CallR X (.builtin "repr") (fun xs H Q => ∃ (a dx : Addr) (fs : List (Str × V)) (t : Str), xs = [.ref a] ∧ H a = some (.ins C dx fs) ∧ ReprSp sp H a t ∧ ∀ H', Same H H' → Q (.str t) H') := by
  intro pins s σ H xs us Q I r h
  obtain ⟨a, dx, fs, t, rfl, ha, hsp, q⟩ := h
  obtain ⟨u, rfl, ru⟩ := vals1 r
  cases ru
  obtain ⟨mA, J, _⟩ := ins_get I.hok ha
  obtain ⟨od, J, _⟩ := J.look
  obtain ⟨m, hF⟩ := I.fr
  have hu := hr.un
  have hd := hr.dp
  refine PySem.W.repr_K (by show X.A.units + 1 < cLine; omega) hF I.ok.mod.kin J hs hf ?_
  have e := I.env0
  have e0 : Env0 X.prog X.w X.K X.mg X.base X.A.in1 X.stack s H := ⟨e.frames, e.mod, e.bs, e.bsz, e.funs, e.frf, e.hok, e.bare⟩
  have b := hb s [Value.ref a] I.kIn (by rfl)
  rw [List.append_nil] at b
  have P1 := I.pin p (List.mem_append_left _ hp)
  refine wpAny_call (codeAny_mono (F.run X.A.in1 X.stack s H ⟨[Value.ref a], []⟩ [Value.ref a] [V.ref a] (fun v H' => v = .str t ∧ Q (.str t) H') p ⟨by show X.A.depth + 3 * k + 5 < _; omega, by show X.A.units + 1 + 16 * k + 200 < _; omega⟩ hot
    ⟨P1.1, P1.2.1, fun m => (List.mem_cons.mp (I.stkSub p.1 m)).elim P1.2.2.1 P1.2.2.2.1, P1.2.2.2.2⟩ e0 b (.cons rfl .nil) (hsp H (Same.refl _) _ fun H' s' => ⟨rfl, q H' s'⟩)) fun z s' hq => ?_)
  match z, hq with
  | .error _, hq => exact hq.elim
  | .ok .next, hq => exact hq.elim
  | .ok .brk, hq => exact hq.elim
  | .ok .cont, hq => exact hq.elim
  | .ok (.ret u), hq =>
    obtain ⟨v, H', I', rv, rfl, q'⟩ := I.after hq
    obtain ⟨tk, rfl⟩ := rv
    exact ⟨.str t, H', I', ⟨_, rfl⟩, q'⟩
/-- repr of plain things, while an error is being handled too -/
theorem call_reprP {X : Cx} (hg : X.A.guards = some []) (hu : X.A.units + 66 < cLine) : CallR X (.builtin "repr") (fun xs H Q => ∃ (v : V) (t : Str), xs = [v] ∧ (v = .non ∧ t = "None" ∨ (∃ b : Bool, v = .bl b ∧ t = (if b then ("True" : Str) else ("False" : Str))) ∨ (∃ i : Int, v = .int i ∧ i.natAbs.log2 < 1920 ∧ t = toString i) ∨ (∃ z : Str, v = .str z ∧ (reprText z).length ≤ sizeLine ∧ t = reprText z) ∨
    (∃ a, v = .ref a ∧ H a = some (.dK []) ∧ t = "{}") ∨ (∃ a d, v = .ref a ∧ Dp X.K H (.ref a) d ∧ d.showable = true ∧ d.hasDict = false ∧ d.depth ≤ 64 ∧ d.shown.length ≤ sizeLine ∧ t = d.shown)) ∧ Q (.str t) H) := by
  intro pins s σ H xs us Q I r h
  obtain ⟨v, t, rfl, hs, q⟩ := h
  obtain ⟨u, rfl, ru⟩ := vals1 r
  rcases hs with ⟨rfl, rfl⟩ | ⟨b, rfl, rfl⟩ | ⟨i, rfl, hi, rfl⟩ | ⟨z, rfl, hz, rfl⟩ | ⟨a, rfl, h, rfl⟩ | ⟨a, d, rfl, hd, h1, h2, h3, h4, rfl⟩
  · cases ru
    exact P.repr_of_none ⟨.str "None", H, I.tok _, ⟨_, rfl⟩, q⟩
  · cases ru
    exact P.repr_of_bool ⟨.str _, H, I.tok _, ⟨_, rfl⟩, q⟩
  · obtain ⟨tk, rfl⟩ := ru
    exact P.repr_of_int hi ⟨.str _, H, I.tok _, ⟨_, rfl⟩, q⟩
  · obtain ⟨tk, rfl⟩ := ru
    exact P.repr_of_str ⟨.str _, H, I.tok _, ⟨_, rfl⟩, q⟩ hz
  · cases ru
    obtain ⟨_, hsm, vs, hkv, o, es, ep, ho, hx, hd, _, hp, _⟩ := dk_of I.hok h
    cases hkv
    have e : es.toList = [] := by
      generalize es.toList = l at hp
      cases hp
      rfl
    have rd : Reads s.heap (.ref _) (.dict []) _ := .dict (kvs := []) ho hx.1 hd (by rw [e]; exact .nil) (by rw [e]; exact .nil)
    have z : PyData.shown (.dict []) = ("{}" : Str) := by decide +kernel
    refine repr_of_reads' rd rfl (fun _ hm => ?_) hg (by show X.A.units + (0 + 1 + 1) < cLine; omega) (fun _ _ e => e) (fun h' u tk hk => ⟨.str "{}", H, I.kept hk, ⟨u, by rw [z]⟩, q⟩) (by rw [z]; decide +kernel)
    simp only [List.append_nil, List.mem_singleton] at hm
    rw [← hm] at hsm
    simp at hsm
  · exact call_reprD hg (by omega) pins s σ H _ [u] Q I (.cons ru .nil) ⟨_, _, rfl, hd, h1, h2, h3, h4, q⟩
end Du

set_option Elab.async false
set_option linter.all false
set_option maxRecDepth 100000
set_option maxHeartbeats 1000000
namespace Du
open PySem PySem.W PySem.Calls PyProof.Rows PySem.HandSPX Builtin Builtin.ObjectAttr
open L2 (defArgs defBody defScope inClass)
/-- what is known of a built-in base -/
structure BaseB (B new ini : String) (bm : List Value) : Prop where
  exc : ExcBaseFacts B new ini bm
  kxs : KxsFacts B ini
  sto : StoreFacts B bm "object.__setattr__" "object"
abbrev veM : List Value := [.type "ValueError", .type "Exception", .type "BaseException", .type "object"]
abbrev leM : List Value := [.type "LookupError", .type "Exception", .type "BaseException", .type "object"]
abbrev aeM : List Value := [.type "ArithmeticError", .type "Exception", .type "BaseException", .type "object"]
theorem base_VE : BaseB "ValueError" "ValueError.__new__" "ValueError.__init__" veM := ⟨F.excBase_ValueError, kxs_ValueError, F.store_ValueError⟩
theorem base_LE : BaseB "LookupError" "LookupError.__new__" "LookupError.__init__" leM := ⟨F.excBase_LookupError, kxs_LookupError, F.store_LookupError⟩
theorem base_AE : BaseB "ArithmeticError" "ArithmeticError.__new__" "ArithmeticError.__init__" aeM := ⟨F.excBase_ArithmeticError, kxs_ArithmeticError, F.store_ArithmeticError⟩
section
variable {prog : Program} {w : World} {A : Around} {R : Result → Shared → Prop} {hp : Heap} {g : Array GenState} {d : Drawn} {t : Nat} {os : OsState} {K : Frag} {B new ini : String} {bm : List Value} {C x : Addr} {cd : ClassData} {fv : Array Value} {name : Str} {tk : Tok} {v : Value}
theorem taker_none (h : findIn K (.ref C) name = some none) : takerIn K C name = some none := by
  unfold takerIn
  rw [h]
  rfl
/-- the first field of an error -/
theorem osaN (b : BaseB B new ini bm) (X : K.In hp) (hx : hp.get? x = some { cls := .ref C, data := .fields fv }) (hcd : clsIn K C = some cd) (hh : cd.hasDict = true) (ho : excOver K C bm = true) (ha : findIn K (.ref C) name = some none)
    (hq : ∀ h' tk' dx, (∀ b o, b ≠ x → hp.get? b = some o → h'.get? b = some o) → hp.objs.size ≤ dx → dx ≠ x → h'.get? x = some { cls := .ref C, dict := some dx, data := .fields fv } → h'.Ns1 dx (fun y => if y = name then some v else none) → R (.ok (.ret .none)) ⟨h', g, d, tk', os⟩) :
    codeAny (model prog w) A (.call (.builtin "object.__setattr__") ⟨[.ref x, .str name tk, v], []⟩) R ⟨hp, g, d, t, os⟩ := by
  have hxs : x ≠ hp.objs.size := Nat.ne_of_lt (Heap.lt_size hx)
  have hcls : Looks (model prog w) hp (classData C) cd := looks_clsIn X hcd
  refine osa_openX b.sto X (ox := { cls := .ref C, data := .fields fv }) (od := none) ⟨hx, rfl, rfl, trivial⟩ ho (taker_none ha) fun c => ?_
  obtain ⟨c1, c2, c3, c4, c5, c6, c7, c8, c9, c10, c11⟩ := cd
  cases (show c6 = true from hh)
  simp only [storeInOwnDict, ownDictForStores]
  repeat (first | (with_reducible refine store_in_new ?_ ?_) | (with_reducible refine wpAny_loadPart_at hx ?_) | (with_reducible refine hcls.at ?_) | wp_step)
  · exact ⟨_, #[], _, (Heap.get?_update_ne _ _ _ _ hxs.symm).trans (Heap.get?_push_at rfl rfl), rfl, (fun e he => absurd he (by simp)), fun _ => rfl⟩
  · exact fun h' tk' hn' hs => hq h' tk' hp.objs.size (fun b o hb ho => (hs.2 b (Nat.ne_of_lt (Heap.lt_size ho))).trans ((Heap.get?_update_ne _ _ _ _ hb).trans (Heap.get?_push_of_some _ ho))) (Nat.le_refl _) hxs.symm ((hs.2 x hxs).trans (Heap.get?_update_self _ (Heap.get?_push_of_some _ hx) rfl)) hn'
/-- a further field of an error -/
theorem osaM {dx : Addr} {m0 : Str → Option Value} {nl : List Str} (b : BaseB B new ini bm) (X : K.In hp) (hx : hp.get? x = some { cls := .ref C, dict := some dx, data := .fields fv }) (hns : hp.Ns1 dx m0) (hw : Within m0 nl) (hz : nl.length ≤ 1000) (hcd : clsIn K C = some cd) (hh : cd.hasDict = true) (ho : excOver K C bm = true) (ha : findIn K (.ref C) name = some none)
    (hq : ∀ h' tk', (∀ b o, b ≠ dx → hp.get? b = some o → h'.get? b = some o) → h'.Ns1 dx (fun y => if y = name then some v else m0 y) → R (.ok (.ret .none)) ⟨h', g, d, tk', os⟩) :
    codeAny (model prog w) A (.call (.builtin "object.__setattr__") ⟨[.ref x, .str name tk, v], []⟩) R ⟨hp, g, d, t, os⟩ := by
  obtain ⟨oD, esD, epD, hoD, _⟩ := hns.count hw
  have hcls : Looks (model prog w) hp (classData C) cd := looks_clsIn X hcd
  refine osa_openX b.sto X (ox := { cls := .ref C, dict := some dx, data := .fields fv }) (od := some oD) ⟨hx, rfl, rfl, hoD⟩ ho (taker_none ha) fun c => ?_
  obtain ⟨c1, c2, c3, c4, c5, c6, c7, c8, c9, c10, c11⟩ := cd
  cases (show c6 = true from hh)
  simp only [storeInOwnDict, ownDictForStores]
  repeat (first | (with_reducible refine PySem.OEX.store_in_old hns hw hz ?_) | (with_reducible refine wpAny_loadPart_at hx ?_) | (with_reducible refine hcls.at ?_) | wp_step)
  exact fun h' tk' hn' hs => hq h' tk' (fun b o hb ho => (hs.2 b hb).trans ho) hn'
end
/-- what the written part says of an error class over a built-in base -/
structure ErrB (P : Program) (K : Frag) (mg : Str → Option Value) (B new ini : String) (bm : List Value) (x : Str) (flds : List Str) (qual : Str) (st : Stmt) (C fI : Addr) : Prop where
  gC : mg x = some (.ref C)
  cls : ∃ nm q N bs bc sn sub ab col dd k0 k1 k2 k3 k5, K.lookup C = some (excClassObj nm q C N bs bc true sn sub ab col dd k0 k1 k2 k3 k5 new) ∧ excTail bm bc = true
  sa : findIn K (.ref C) "__setattr__" = some (some (.builtin "object.__setattr__"))
  ga : findIn K (.ref C) "__getattribute__" = some (some (.builtin "BaseException.__getattribute__"))
  gg : findIn K (.ref C) "__getattr__" = some none
  noN : ∀ f ∈ flds, findIn K (.ref C) f = some none
  iC : findIn K (.ref C) "__init__" = some (some (.ref fI))
  tC : typeIn K (.ref fI) = some (.type "function")
  kC : keepIn K (.ref C) = true
  exC : subIn K (.ref C) (.type "BaseException") = some true
  veC : subIn K (.ref C) (.type B) = some true
  tyC : typeIn K (.ref C) = some (.type "type")
  hdC : hasDictIn K C = true
  mro : mroIn K C (.ref C) = some true
  sup : ks_superIn K C C "__init__" = some (some (.builtin ini))
  any : nsIn K cStatics "thirdparty.any" = some none
  top : (P.main.scope.names.lookup ("super" : Str)).isSome = false
  mS : mg "super" = none
  fn : ∃ (oc : Value) (od : Option Addr) (doc pm : Value) (an : Option Addr) (cda cc : Addr) (ct : Value) (osl : Array (Option Value)) (ccl cl : Value) (cdd cld : Option Addr) (ccs csl : Array (Option Value)) (vs : Array Value) (file : Str) (tf : Tok),
    K.lookup fI = some ⟨oc, od, .func (ksFn "__init__" qual (defArgs st) (defBody st) (defScope st) .none .none doc pm an (.ref cda) ct cc), osl⟩ ∧ codeIn K (.ref cda) qual = true ∧
    K.lookup cda = some ⟨ccl, cdd, .fields vs, ccs⟩ ∧ vs[2]? = some (.str file tf) ∧ ((P.main.file : Str) == file) = true ∧ K.lookup cc = some ⟨cl, cld, .cell (some (.ref C)), csl⟩
end Du

set_option Elab.async false
set_option linter.all false
set_option maxRecDepth 100000
set_option maxHeartbeats 1000000
namespace Du
open PySem PySem.W PySem.Calls PyProof.Rows PySem.HandSPX
open L2 (defArgs defBody defScope inClass)
abbrev sNoNumber : Stmt := inClass (topS 6) 0
section
variable {prog : Program} {w : World} {A : Around} {E : Value → Shared → Prop} {R : Result → Shared → Prop} {s : Shared} {K : Frag} {mg mb : Str → Option Value} {C fI : Addr} {nm qual : Str}
theorem init_NoNumber (T : ErrC prog K mg nm "number" qual sNoNumber C fI) {x t0 : Addr} {v : Value} (X : K.In s.heap) (hlim : s.heap.NoLimit) (G : s.heap.Ns mainGlobals mg) (Bn : s.heap.Ns builtinsNs mb) (hbb : ∀ y : Str, y ≠ "__name__" → mb y = bootBuiltins y)
    (hx : s.heap.get? x = some (excO C t0)) (hnx : K.lookup x = none) (hroom : A.depth < recursionLimit) (hq : ∀ h' tk dx, ErrEnd s.heap h' x C dx "number" v → R (.ok (.ret .none)) { s with heap := h', toks := tk }) : codeAny (model prog w) A (.call (.ref fI) ⟨[.ref x, v], []⟩) R s := by
  obtain ⟨oc, od, doc, pm, an, cda, cc, ct, osl, ccl, cl, cdd, cld, ccs, csl, vs, file, tf, lk, hcd, hcode, hvs, hfile, hcell⟩ := T.fn
  obtain ⟨nm', q', N', bs, bm, sn, sub, ab, col, dd, k0, k1, k2, k3, k5, hC, hbm⟩ := T.cls
  have hcl : clsIn K C = some { name := nm', bases := bs, mro := .ref C :: bm, ns := N', qualname := q', hasDict := true, slotNames := sn, subclasses := sub, abstract := ab, collection := col, hasDel := false } := by unfold clsIn; rw [hC] <;> rfl
  have nocell : ∀ y ∈ (defScope sNoNumber).names, y.2 ≠ .cell := by decide +kernel
  refine ks_codeAny_call_defAt (binds := [(("self" : Str), Value.ref x), ("number", v)]) hroom (X _ _ lk) rfl hlim (codeRec_of X hcd) rfl (BindsTo.of_eq rfl) nocell (fun y hy => ?_) (fun h1 hn k => ?_)
  · rcases List.mem_cons.mp hy with rfl | hy
    · rfl
    · rw [List.mem_singleton.mp hy]
      rfl
  have X1 : K.In h1 := X.keeps k
  have hx1 := k _ _ hx
  have I1 : InstAt h1 x (excO C t0) C none := ⟨hx1, rfl, rfl, trivial⟩
  obtain ⟨oD, hD1, cdD, hD2⟩ : ∃ oD, h1.get? C = some oD ∧ ∃ cd, oD.data = .cls cd := ⟨_, X1 _ _ hC, _, rfl⟩
  refine ks_wpAt_execs_cons (ks_wpAt_Expr_any (ks_wpAt_MethodCall ?_))
  refine ks_wpAt_super_base rfl rfl (by decide) rfl (X1 _ _ lk) rfl rfl rfl (X1 _ _ hcode) rfl hvs hfile T.top ?_
  refine ks_loadName_global rfl rfl (loadGlobal_builtin (G.keeps k) T.mS (Bn.keeps k) ((hbb _ (by decide)).trans PyProof.Rows.Boot.«super») ⟨rfl, ?_⟩)
  refine wpAny_loadName_free rfl rfl rfl ⟨_, X1 _ _ hcell, rfl⟩ ?_
  refine wpAny_loadName_local rfl rfl hn rfl ?_
  refine ks_wpAny_isType_cls hD1 hD2 ⟨rfl, ?_⟩
  refine ks_wpAny_call_super hD1 hD2 hx1 rfl (fun c e => by cases e) (looks_mroIn X1 T.mro) (fun h2 hso k2 => ?_)
  have X2 : K.In h2 := X1.keeps k2
  have hx2 := k2 _ _ hx1
  have I2 : InstAt h2 x (excO C t0) C none := ⟨hx2, rfl, rfl, trivial⟩
  have hm := T.sup
  unfold ks_superIn at hm
  rw [hcl] at hm
  have hmro : W.Looks (model prog w) h2 (mroOf (.ref C)) (.ref C :: bm) := (looks_clsIn X2 hcl).andThen .now
  refine kxs_getMethod kxs_ValueError hso (looks_opaque X2 T.any) hmro rfl X2 hm (I2.type.andThen (looks_subIn X2 T.veC)) (ks_ne X2 I2 hcl) (by decide) ?_
  have k3 : ∀ b o, h2.get? b = some o → (h2.push (kxs_mw "ValueError.__init__" x)).get? b = some o := fun b o e => Heap.get?_push_of_some _ e
  refine kxs_callWith (i := "ValueError.__init__") (x := x) rfl (evalArgs_plain (args_cons (Calls.Constant_str (args_nil ⟨Heap.get?_push_at rfl rfl, ?_⟩))))
  refine call_mw F.excBase_ValueError (k3 _ _ (X2 _ _ hC)) (k3 _ _ hx2) (Heap.get?_push_at rfl rfl) (by show 1 ≤ sizeLine; decide) fun h4 t1 k4 hx4 => ?_
  -- the field
  have kx : ∀ b o, b ≠ x → h1.get? b = some o → h4.get? b = some o := fun b o hb e => k4 b o hb (k3 b o (k2 b o e))
  have X4 : K.In h4 := fun b o e => kx b o (fun z => by rw [z, hnx] at e; cases e) (X1 b o e)
  have hL : s.heap.objs.size ≠ x := Nat.ne_of_gt (Heap.lt_size hx)
  obtain ⟨oL, esL, epL, eL, rL⟩ := id hn
  have hn4 : h4.Ns s.heap.objs.size _ := ⟨oL, esL, epL, kx _ _ hL eL, rL⟩
  refine ks_wpAt_execs_cons (ks_wpAt_Assign_Attr (wpAt_of_wpAny (wpAny_Name (wpAny_loadName_local rfl rfl hn4 rfl (wpAny_Name (wpAny_loadName_local rfl rfl hn4 rfl ?_) (by decide))) (by decide))))
  refine set_plain X4 (ox := excO C t1) (od := none) ⟨hx4, rfl, rfl, trivial⟩ T.sa ?_
  refine exc_osa X4 hx4 hcl (show refsVE (.ref C :: bm) = true from hbm) rfl T.noN (fun h5 tk5 dx k5 dn dne hx5 hn5 => ?_)
  refine wpAt_of_wpAny (wpAny_execs_nil (hq h5 tk5 dx ⟨fun b o hb e => k5 b o hb (kx b o hb (k b o e)), ⟨t1, hx5⟩, ?_, dne, hn5⟩))
  have z : s.heap.objs.size < h4.objs.size := hn4.lt
  have dn' : h4.objs.size ≤ dx := dn
  omega
theorem made_NoNumber (T : ErrC prog K mg nm "number" qual sNoNumber C fI) {v : Value} (X : K.In s.heap) (hlim : s.heap.NoLimit) (G : s.heap.Ns mainGlobals mg) (Bn : s.heap.Ns builtinsNs mb) (hbb : ∀ y : Str, y ≠ "__name__" → mb y = bootBuiltins y) (hroom : A.depth + 1 < recursionLimit)
    (hq : ∀ h' tk e d, ErrMade s.heap h' e C d "number" v → R (.ok (.ret (.ref e))) { s with heap := h', toks := tk }) : codeAny (model prog w) A (.call (.ref C) ⟨[v], []⟩) R s := by
  obtain ⟨nm', q', N', bs, bm, sn, sub, ab, col, dd, k0, k1, k2, k3, k5, hC, hbm⟩ := T.cls
  obtain ⟨hp, g, dr, tk, os⟩ := s
  have k : ∀ b o, hp.get? b = some o → ((hp.push (kdv_tup [v])).push (excO C hp.objs.size)).get? b = some o := fun b o e => Heap.get?_push_of_some _ (Heap.get?_push_of_some _ e)
  have hget : ((hp.push (kdv_tup [v])).push (excO C hp.objs.size)).get? (hp.objs.size + 1) = some (excO C hp.objs.size) := by heap_get
  have hnx : K.lookup (hp.objs.size + 1) = none := by
    cases e : K.lookup (hp.objs.size + 1) with
    | none => rfl
    | some o => exact absurd (Nat.lt_of_succ_lt (Heap.lt_size (show hp.get? (hp.objs.size + 1) = some o from X _ _ e))) (Nat.lt_irrefl _)
  refine call_own F.excBase_ValueError (fun X => refsVE_contains X bm hbm) (X _ _ hC) (looks_findIn X T.iC) (fun self => bind_fn X self T.tC) (by show 1 ≤ sizeLine; decide) ?_
  refine init_NoNumber (s := ⟨(hp.push (kdv_tup [v])).push (excO C hp.objs.size), g, dr, tk, os⟩) T (X.keeps k) (hlim.keeps k) (G.keeps k) (Bn.keeps k) hbb hget hnx hroom fun h' tk' dx m => ?_
  obtain ⟨k', ⟨t1, hx⟩, dn, dne, hns⟩ := m
  have z : hp.objs.size + 1 + 1 ≤ dx := by
    have q := dn
    rw [Heap.size_push, Heap.size_push] at q
    exact q
  exact ⟨rfl, hq h' tk' (hp.objs.size + 1) dx ⟨fun b o e => k' b o (Nat.ne_of_lt (Nat.lt_succ_of_lt (Heap.lt_size e))) (k b o e), Nat.le_succ _, ⟨_, _, hx, rfl, rfl, rfl, rfl, rfl⟩, Nat.le_trans (Nat.le_trans (Nat.le_succ _) (Nat.le_succ _)) z, dne, hns⟩⟩
theorem err_ofNumber {P : Program} {w : World} {K : PySem.W.Frag} {mg : Str → Option Value} {x qual : Str} {C fI : Addr} (T : ErrC P K mg x "number" qual sNoNumber C fI) : Err P w K mg x "number" C :=
  ⟨T.gC, T.kC, T.exC, T.tyC, T.ga, T.gg, T.noN, T.hdC, fun X l G B hb hr q => made_NoNumber T X l G B hb hr q⟩
end
end Du

set_option Elab.async false
set_option linter.all false
set_option maxRecDepth 100000
namespace Du
open PySem L2
/-! things of any kind, known for good -/
/-- neither a purse nor a list of five -/
def Fix (o : HO) : Prop := (∀ i j k : Int, o ≠ .lst [.int i, .int j, .int k]) ∧ ∀ ys : List V, o = .lst ys → ys.length ≠ 5
def Kp (H H' : Hp) : Prop := ∀ a o, H a = some o → Fix o → H' a = some o
def ObT (K : PySem.W.Frag) (H : Hp) (x : V) (t : Value) : Prop := ∃ (a : Addr) (o : HO), x = .ref a ∧ H a = some o ∧ Fix o ∧ ∀ H' : Hp, H' a = some o → TyX K H' (.ref a) t
def Ty2 (K : PySem.W.Frag) (H : Hp) (x : V) (t : Value) : Prop := (∀ H' : Hp, TyX K H' x t) ∨ ObT K H x t
section
variable {K : PySem.W.Frag} {H H' : Hp} {x : V} {t : Value} {p a : Addr} {lo hi : Int} {b : Bool} {xs : List V}
theorem Kp.trans {H H1 H2 : Hp} (a : Kp H H1) (b : Kp H1 H2) : Kp H H2 := fun x o e n => b x o (a x o e n) n
theorem Kp.of_same (s : Same H H') : Kp H H' := fun a o e _ => s a o e
theorem Kp.of_step (hp : Purse H p) (s : Step p H H') : Kp H H' := fun a o e n => by
  obtain ⟨i, j, l, ep, _⟩ := id hp
  exact s.keep a o (ne_of e ep (n.1 i j l)) e
theorem Kp.upd {T : Addr} {ys : List V} {o' : HO} (h : H T = some (.lst ys)) (h5 : ys.length = 5) : Kp H (upd H T o') := fun a o e n => by
  rw [upd_ne (ne_of e h (fun z => n.2 _ z h5))]
  exact e
theorem Fix.tup : Fix (.tup xs) := ⟨(fun _ _ _ z => nomatch z), (fun _ z => nomatch z)⟩
theorem Fix.frz {o : Obj} {u : HO} : Fix (.frz o u) := ⟨(fun _ _ _ z => nomatch z), (fun _ z => nomatch z)⟩
theorem Fix.dK {ks : List (Key × V)} : Fix (.dK ks) := ⟨(fun _ _ _ z => nomatch z), (fun _ z => nomatch z)⟩
theorem Fix.ins {C dx : Addr} {fs : List (Str × V)} : Fix (.ins C dx fs) := ⟨(fun _ _ _ z => nomatch z), (fun _ z => nomatch z)⟩
theorem Ty2.ty (h : Ty2 K H x t) : TyX K H x t := by
  rcases h with h | ⟨a, o, rfl, e, _, k⟩
  · exact h H
  · exact k H e
theorem Ty2.kp (h : Ty2 K H x t) (s : Kp H H') : Ty2 K H' x t := by
  rcases h with h | ⟨a, o, rfl, e, n, k⟩
  · exact .inl h
  · exact .inr ⟨a, o, rfl, s _ _ e n, n, k⟩
theorem sqT_kp (h : SqT K H a xs) (s : Kp H H') : SqT K H' a xs := by
  rcases h with (z | ⟨o, z⟩) | z
  · exact .inl (.inl (s _ _ z .tup))
  · exact .inl (.inr ⟨o, s _ _ z .frz⟩)
  · exact .inr z
theorem HdAt.kp {v : V} {h : Hold} (d : HdAt K H v h) (s : Kp H H') : HdAt K H' v h := by
  obtain ⟨a, e, q⟩ := d
  exact ⟨a, e, sqT_kp q s⟩
theorem HdsAt.kp {t : Addr} {hs : List Hold} (d : HdsAt K H t hs) (s : Kp H H') : HdsAt K H' t hs := by
  obtain ⟨vs, h1, h2, h3⟩ := d
  exact ⟨vs, sqT_kp h1 s, h2, fun i v h e1 e2 => (h3 i v h e1 e2).kp s⟩
def BadN (K : PySem.W.Frag) (H : Hp) (x : V) : Prop := (∃ z : Str, x = .str z ∧ z.length ≤ sizeLine ∧ isNm z = false) ∨ (∃ t, Ty2 K H x t ∧ PySem.W.kitOne K t (.type "str") = some false)
def BadL (K : PySem.W.Frag) (H : Hp) (x : V) (lo hi : Int) : Prop := (∃ i : Int, x = .int i ∧ (decide (lo ≤ i) && decide (i ≤ hi)) = false) ∨ (∃ b : Bool, x = .bl b) ∨ (∃ t, Ty2 K H x t ∧ PySem.W.kitOne K t (.type "int") = some false)
def GoodN (x : V) : Prop := ∃ z : Str, x = .str z ∧ isNm z = true
def GoodL (x : V) (lo hi : Int) : Prop := ∃ i : Int, x = .int i ∧ lo ≤ i ∧ i ≤ hi
def NmV (K : PySem.W.Frag) (H : Hp) (x : V) (b : Bool) : Prop := (b = false ∧ GoodN x) ∨ (b = true ∧ BadN K H x)
def WhV (K : PySem.W.Frag) (H : Hp) (x : V) (lo hi : Int) (b : Bool) : Prop := (b = false ∧ GoodL x lo hi) ∨ (b = true ∧ BadL K H x lo hi)
theorem BadN.kp (h : BadN K H x) (s : Kp H H') : BadN K H' x := h.imp id fun ⟨t, a, b⟩ => ⟨t, a.kp s, b⟩
theorem BadL.kp (h : BadL K H x lo hi) (s : Kp H H') : BadL K H' x lo hi := h.imp id fun h => h.imp id fun ⟨t, a, b⟩ => ⟨t, a.kp s, b⟩
theorem NmV.kp (h : NmV K H x b) (s : Kp H H') : NmV K H' x b := h.imp id fun h => ⟨h.1, h.2.kp s⟩
theorem WhV.kp (h : WhV K H x lo hi b) (s : Kp H H') : WhV K H' x lo hi b := h.imp id fun h => ⟨h.1, h.2.kp s⟩
theorem NmV.good (h : NmV K H x false) : GoodN x := by
  rcases h with h | h
  · exact h.2
  · cases h.1
theorem WhV.good (h : WhV K H x lo hi false) : GoodL x lo hi := by
  rcases h with h | h
  · exact h.2
  · cases h.1
/-- is_name, asked -/
theorem ask_name {Q : VK} {E : XK} (h : NmV K H x b) (q : ∀ H', Same H H' → Q (.bl (!b)) H') : spName K [x] H Q E := by
  refine ⟨x, rfl, ?_⟩
  rcases h with ⟨rfl, z, rfl, hz⟩ | ⟨rfl, ⟨z, rfl, hl, hz⟩ | ⟨t, ht, hk⟩⟩
  · refine .inl ⟨z, rfl, Nat.le_trans (nm_len hz).2 (by decide), fun H' s => ?_⟩
    rw [hz]
    exact q H' s
  · refine .inl ⟨z, rfl, hl, fun H' s => ?_⟩
    rw [hz]
    exact q H' s
  · exact .inr ⟨t, ht.ty, hk, q H (Same.refl _)⟩
theorem ask_whole {Q : VK} {E : XK} (h : WhV K H x lo hi b) (q : Q (.bl (!b)) H) : spWhole K [x, .int lo, .int hi] H Q E := by
  refine ⟨x, lo, hi, rfl, ?_⟩
  rcases h with ⟨rfl, i, rfl, h1, h2⟩ | ⟨rfl, ⟨i, rfl, hz⟩ | ⟨c, rfl⟩ | ⟨t, ht, hk⟩⟩
  · refine .inl ⟨i, rfl, ?_⟩
    rw [decide_eq_true h1, decide_eq_true h2]
    exact q
  · refine .inl ⟨i, rfl, ?_⟩
    rw [hz]
    exact q
  · exact .inr (.inl ⟨c, rfl, q⟩)
  · exact .inr (.inr ⟨t, ht.ty, hk, q⟩)
/-- no hold -/
def BadH (K : PySem.W.Frag) (H : Hp) (v : V) (cost : Int) : Prop := (∃ t, Ty2 K H v t ∧ PySem.W.kitOne K t (.type "tuple") = some false) ∨ (∃ a xs, v = .ref a ∧ SqT K H a xs ∧ xs.length ≠ 3) ∨
  (∃ a x0 x1 x2, v = .ref a ∧ SqT K H a [x0, x1, x2] ∧ (BadN K H x0 ∨ (GoodN x0 ∧ BadL K H x1 0 cost) ∨ (GoodN x0 ∧ ∃ s : Int, x1 = .int s ∧ 0 ≤ s ∧ s ≤ cost ∧ BadL K H x2 1 (cost - s))))
theorem BadH.kp {v : V} {cost : Int} (h : BadH K H v cost) (s : Kp H H') : BadH K H' v cost := by
  rcases h with ⟨t, a, b⟩ | ⟨a, xs, e, q, n⟩ | ⟨a, x0, x1, x2, e, q, h⟩
  · exact .inl ⟨t, a.kp s, b⟩
  · exact .inr (.inl ⟨a, xs, e, sqT_kp q s, n⟩)
  · refine .inr (.inr ⟨a, x0, x1, x2, e, sqT_kp q s, ?_⟩)
    rcases h with h | ⟨g, h⟩ | ⟨g, n, e, h1, h2, h⟩
    · exact .inl (h.kp s)
    · exact .inr (.inl ⟨g, h.kp s⟩)
    · exact .inr (.inr ⟨g, n, e, h1, h2, h.kp s⟩)
/-- a hold or none -/
def ElV (K : PySem.W.Frag) (H : Hp) (cost : Int) (v : V) (r : Bool) : Prop := (∃ h : Hold, HdAt K H v h ∧ h.1.length ≤ sizeLine ∧ r = isHd h cost) ∨ (r = false ∧ BadH K H v cost)
theorem ElV.kp {v : V} {r : Bool} {cost : Int} (h : ElV K H cost v r) (s : Kp H H') : ElV K H' cost v r := by
  rcases h with ⟨h, a, b, c⟩ | ⟨a, b⟩
  · exact .inl ⟨h, a.kp s, b, c⟩
  · exact .inr ⟨a, b.kp s⟩
/-- no row of holds -/
def BadHs (K : PySem.W.Frag) (H : Hp) (x : V) (cost : Int) : Prop := (∃ t, Ty2 K H x t ∧ PySem.W.kitOne K t (.type "tuple") = some false) ∨ (∃ a xs, x = .ref a ∧ SqT K H a xs ∧ 4 < xs.length) ∨
  (∃ (a : Addr) (xs : List V) (rs : List Bool), x = .ref a ∧ SqT K H a xs ∧ xs.length ≤ 4 ∧ rs.length = xs.length ∧ (∀ (i : Nat) v r, xs[i]? = some v → rs[i]? = some r → ElV K H cost v r) ∧ false ∈ rs) ∨
  (∃ (t : Addr) (hs : List Hold), x = .ref t ∧ HdsAt K H t hs ∧ (∀ h ∈ hs, h.1.length ≤ sizeLine) ∧ areHds hs cost = false)
theorem BadHs.kp {cost : Int} (h : BadHs K H x cost) (s : Kp H H') : BadHs K H' x cost := by
  rcases h with ⟨t, a, b⟩ | ⟨a, xs, e, q, n⟩ | ⟨a, xs, rs, e, q, n, l, h, m⟩ | ⟨t, hs, e, q, l, h⟩
  · exact .inl ⟨t, a.kp s, b⟩
  · exact .inr (.inl ⟨a, xs, e, sqT_kp q s, n⟩)
  · exact .inr (.inr (.inl ⟨a, xs, rs, e, sqT_kp q s, n, l, fun i v r e1 e2 => (h i v r e1 e2).kp s, m⟩))
  · exact .inr (.inr (.inr ⟨t, hs, e, q.kp s, l, h⟩))
def GoodHs (K : PySem.W.Frag) (H : Hp) (x : V) (cost : Int) : Prop := ∃ (t : Addr) (hs : List Hold), x = .ref t ∧ HdsAt K H t hs ∧ (∀ h ∈ hs, h.1.length ≤ sizeLine) ∧ areHds hs cost = true
def HoV (K : PySem.W.Frag) (H : Hp) (x : V) (cost : Int) (b : Bool) : Prop := (b = false ∧ GoodHs K H x cost) ∨ (b = true ∧ BadHs K H x cost)
theorem HoV.kp {cost : Int} (h : HoV K H x cost b) (s : Kp H H') : HoV K H' x cost b := h.imp (fun ⟨e, t, hs, e1, q, l, h⟩ => ⟨e, t, hs, e1, q.kp s, l, h⟩) fun h => ⟨h.1, h.2.kp s⟩
/-- a due: None or a number -/
def DuV (K : PySem.W.Frag) (H : Hp) (x : V) (g : Int) (b : Bool) : Prop := (x = .non ∧ b = false) ∨ (x ≠ .non ∧ WhV K H x 1 g b)
theorem DuV.kp {g : Int} (h : DuV K H x g b) (s : Kp H H') : DuV K H' x g b := h.imp id fun h => ⟨h.1, h.2.kp s⟩
end
section
variable {P : Program} {w : World} {K : PySem.W.Frag} {mg : Str → Option Value} {base : Heap}
def spOr (a b : Sp) : Sp := fun vs H Q E => a vs H Q E ∨ b vs H Q E
theorem fnOr {CX : CXT} {k : Nat} {f : Addr} {fd : FuncData} {ps : List Str} {a b : Sp} (x : FnOk P w K mg base CX k f fd ps a) (y : FnOk P w K mg base CX k f fd ps b) : FnOk P w K mg base CX k f fd ps (spOr a b) :=
  ⟨fun vs H Q E h => h.elim (x.len vs H Q E) (y.len vs H Q E), fun A outer s H args us vs Q E hr e0 hb r h => h.elim (x.run A outer s H args us vs Q E hr e0 hb r) (y.run A outer s H args us vs Q E hr e0 hb r)⟩
/-! is_hold of what is none -/
def spHoldB (K : PySem.W.Frag) : Sp := fun vs H Q _ => ∃ (v : V) (cost : Int), vs = [v, .int cost] ∧ BadH K H v cost ∧ ∀ H', Same H H' → Q (.bl false) H'
theorem ok_holdB {f : Addr} {fd : FuncData} (F : Fun K "is_hold" "is_hold" sHold f fd) (mI : mg "isinstance" = none) (mt : mg "tuple" = none) (ml : mg "len" = none)
    (DN : Dn P w K mg base 3 "is_name" ["thing"] (spName K)) (DW : Dn P w K mg base 3 "is_whole" ["thing", "least", "most"] (spWhole K)) :
    FnOk P w K mg base CX0 4 f fd ["thing", "cost"] (spHoldB K) := by
  refine F.ok scHold (fun vs H Q E h => ?_) (fun cdv A outer s H vs Q E hr h => ?_)
  · obtain ⟨v, cost, rfl, _⟩ := h
    rfl
  · obtain ⟨v, cost, rfl, hb, q⟩ := h
    refine ⟨_, (pss_cons (ps_if (PW.pt (pw_or (pt_not (pt_val (pe_callB call_isi (by rfl) mI (by decide +kernel) (pa_cons (pv 0) (pa_cons (pe_bltn (v := .ty "tuple") (by rfl) mt (by decide +kernel) rfl) pa_nil))))) (pw_or1 (pt_cmpR op_ne (pe_callB call_len_seq (by rfl) ml (by decide +kernel) (pa_cons (pv 0) pa_nil)) pe_int (nomark _))))) (pss_one (ps_ret pe_bl)) pss_nil) (pss_cons (ps_asg (pv 0) (pg_tup rfl (pgs_cons (pg_name (i := 2) scHold.nd rfl (.inl rfl)) (pgs_cons (pg_name (i := 3) scHold.nd rfl (.inl rfl)) (pgs_cons (pg_name (i := 4) scHold.nd rfl (.inl rfl)) pgs_nil))))) (pss_one (ps_ret (pe_and (pcall DN hr (by rfl) (pa_cons (pv 2) pa_nil)) (pe_and (pcall DW hr (by rfl) (pa_cons (pv 3) (pa_cons pe_int (pa_cons (pv 1) pa_nil)))) (pe_one (pcall DW hr (by rfl) (pa_cons (pv 4) (pa_cons pe_int (pa_cons (pe_op op_sub (pv 1) (pv 3)) pa_nil))))))))))), ?_⟩
    rcases hb with ⟨t, ht, hk⟩ | ⟨a, xs, rfl, hS, hn⟩ | ⟨a, x0, x1, x2, rfl, hS, h⟩
    · exact ⟨_, rfl, _, _, _, _, false, rfl, .ty "tuple", ht.ty, hk, false, rfl, iteT (q H (Same.refl _))⟩
    · refine ⟨_, rfl, _, _, _, _, true, rfl, .ty "tuple", tyx_tup hS, kit_tt, true, rfl, ?_⟩
      refine ⟨_, rfl, a, _, rfl, .inr hS, rfl, _, rfl, ?_⟩
      have e : (!decide (V.int (xs.length : Nat) = V.int 3)) = true := by
        have : ¬ (V.int (xs.length : Nat) = V.int 3) := fun z => hn (by have := V.int.inj z; omega)
        rw [decide_eq_false this]
        rfl
      rw [e]
      exact iteT (q H (Same.refl _))
    · refine ⟨_, rfl, _, _, _, _, true, rfl, .ty "tuple", tyx_tup hS, kit_tt, true, rfl, ?_⟩
      refine ⟨_, rfl, a, _, rfl, .inr hS, rfl, _, rfl, ?_⟩
      show if (!decide ((V.int (3 : Nat)) = V.int 3)) = true then _ else _
      refine iteNS rfl ?_
      refine ⟨_, rfl, a, _, rfl, hS, rfl, _, _, rfl, _, _, rfl, _, _, rfl, rfl, ?_⟩
      refine ⟨_, rfl, ?_⟩
      unfold tNil
      rcases h with h | ⟨g, h⟩ | ⟨g, n, rfl, h1, h2, h⟩
      · refine ask_name (.inr ⟨rfl, h⟩) fun H1 s1 => ⟨_, rfl, ?_⟩
        exact iteF (q H1 s1)
      · refine ask_name (.inl ⟨rfl, g⟩) fun H1 s1 => ⟨_, rfl, iteT ⟨_, rfl, ?_⟩⟩
        unfold tCons tC
        refine ⟨_, rfl, ?_⟩
        refine ask_whole (.inr ⟨rfl, h.kp (.of_same s1)⟩) ?_
        exact ⟨_, rfl, iteF (q H1 s1)⟩
      · refine ask_name (.inl ⟨rfl, g⟩) fun H1 s1 => ⟨_, rfl, iteT ⟨_, rfl, ?_⟩⟩
        unfold tCons tC
        refine ⟨_, rfl, ?_⟩
        refine ask_whole (.inl ⟨rfl, n, rfl, h1, h2⟩) ?_
        refine ⟨_, rfl, iteT ⟨_, rfl, _, rfl, _, rfl, _, _, rfl, rfl, ?_⟩⟩
        refine ask_whole (.inr ⟨rfl, h.kp (.of_same s1)⟩) ?_
        exact q H1 s1
end
end Du

set_option Elab.async false
set_option linter.all false
set_option maxRecDepth 100000
namespace Du
open PySem L2
abbrev sWrongD : Stmt := topS 30
abbrev sDInit : Stmt := inClass (topS 32) 0
abbrev sTRepr : Stmt := inClass (topS 31) 5
abbrev sDRepr : Stmt := inClass (topS 32) 4
/-! all but lists stay -/
def Kt (H H' : Hp) : Prop := ∀ a o, H a = some o → (∀ ys : List V, o ≠ .lst ys) → H' a = some o
section
variable {K : PySem.W.Frag} {H H1 H2 H' : Hp} {p a : Addr} {xs : List V}
theorem Kt.refl : Kt H H := fun _ _ e _ => e
theorem Kt.trans (a : Kt H H1) (b : Kt H1 H2) : Kt H H2 := fun x o e n => b x o (a x o e n) n
theorem Kt.of_same (s : Same H H') : Kt H H' := fun a o e _ => s a o e
theorem Kt.of_step (hp : Purse H p) (s : Step p H H') : Kt H H' := fun a o e n => by
  obtain ⟨i, j, l, ep, _⟩ := id hp
  exact s.keep a o (ne_of e ep (n _)) e
theorem Kt.put {ys zs : List V} (h : H a = some (.lst ys)) : Kt H (upd H a (.lst zs)) := fun b o e n => by
  rw [upd_ne (ne_of e h (n _))]
  exact e
theorem Kt.lst {a : Addr} {zs : List V} (s : Kt H H') (n : H a = none) : Kt H (upd H' a (.lst zs)) := fun b o e h => by
  rw [upd_ne (ne_of_none e n)]
  exact s b o e h
theorem sqT_kt (h : SqT K H a xs) (s : Kt H H') : SqT K H' a xs := by
  rcases h with (z | ⟨o, z⟩) | z
  · exact .inl (.inl (s _ _ z (fun _ q => nomatch q)))
  · exact .inl (.inr ⟨o, s _ _ z (fun _ q => nomatch q)⟩)
  · exact .inr z
theorem HdAt.kt {v : V} {h : Hold} (d : HdAt K H v h) (s : Kt H H') : HdAt K H' v h := by
  obtain ⟨a, e, q⟩ := d
  exact ⟨a, e, sqT_kt q s⟩
theorem HdsAt.kt {t : Addr} {hs : List Hold} (d : HdsAt K H t hs) (s : Kt H H') : HdsAt K H' t hs := by
  obtain ⟨vs, h1, h2, h3⟩ := d
  exact ⟨vs, sqT_kt h1 s, h2, fun i v h e1 e2 => (h3 i v h e1 e2).kt s⟩
theorem TaskAt.kt {C x h : Addr} {v : TaskV} (d : TaskAt K C H x v h) (s : Kt H H') : TaskAt K C H' x v h := by
  obtain ⟨⟨dx, e⟩, q⟩ := d
  exact ⟨⟨dx, s _ _ e (fun _ q => nomatch q)⟩, q.kt s⟩
end
/-! doors -/
def df (n : Str) (r g : Int) : List (Str × V) := [("name", .str n), ("room", .int r), ("gap", .int g)]
theorem df_name (n : Str) (r g : Int) : (df n r g).lookup ("name" : Str) = some (.str n) := rfl
theorem df_room (n : Str) (r g : Int) : (df n r g).lookup ("room" : Str) = some (.int r) := rfl
theorem df_gap (n : Str) (r g : Int) : (df n r g).lookup ("gap" : Str) = some (.int g) := rfl
structure DoorC (K : PySem.W.Frag) (mg : Str → Option Value) (C : Addr) : Prop where
  cl : Cls K C
  nN : NoAttr K C "name"
  nR : NoAttr K C "room"
  nG : NoAttr K C "gap"
  mg : mg "Door" = some (.ref C)
  kc : PySem.W.findIn K (.ref C) "__class__" = some (some (.builtin "object.__class__"))
  kg : PySem.W.specialIn K (.builtin "object.__class__") "__get__" = some (some (.builtin "getset_descriptor.__get__"))
  kt : PySem.W.takesIn K (.builtin "object.__class__") = some true
  km : PySem.W.mroIn K C (.type "object") = some true
abbrev pD : List Str := ["self", "name", "room", "gap"]
def DoorAt (C : Addr) (H : Hp) (x : Addr) (n : Str) (r g : Int) : Prop := ∃ dx, H x = some (.ins C dx (df n r g))
section
variable {P : Program} {w : World} {K : PySem.W.Frag} {mg : Str → Option Value} {base : Heap}
/-! wrong_in_door of a good one -/
abbrev nWrongD : List Str := ["name", "room", "gap"]
theorem scWrongD : FnScope nWrongD nWrongD (defScope sWrongD) := ⟨rfl, rfl, rfl, by decide +kernel, rfl, by decide +kernel, by decide +kernel⟩
def spWrongD : Sp := fun vs H Q _ => ∃ (n : Str) (r g : Int), vs = [.str n, .int r, .int g] ∧ isNm n = true ∧ (1 ≤ r ∧ r ≤ 99) ∧ (1 ≤ g ∧ g ≤ 600) ∧ ∀ H', Same H H' → Q .non H'
theorem ok_wrongD {f : Addr} {fd : FuncData} (F : Fun K "wrong_in_door" "wrong_in_door" sWrongD f fd) (mC : ∃ t, mg "MOST_COST" = some (.int 99 t)) (mG : ∃ t, mg "MOST_GAP" = some (.int 600 t))
    (DN : Dn P w K mg base 2 "is_name" ["thing"] (spName K)) (DW : Dn P w K mg base 2 "is_whole" ["thing", "least", "most"] (spWhole K)) : FnOk P w K mg base CX0 3 f fd nWrongD spWrongD := by
  obtain ⟨uC, mC⟩ := mC
  obtain ⟨uG, mG⟩ := mG
  refine F.ok scWrongD (fun vs H Q E h => ?_) (fun cdv A outer s H vs Q E hr h => ?_)
  · obtain ⟨n, r, g, rfl, _⟩ := h
    rfl
  · obtain ⟨n, r, g, rfl, hn, hr1, hg1, k⟩ := h
    refine ⟨_, (pss_cons (ps_if (pt_not (pt_val (pcall DN hr (by rfl) (pa_cons (pv 0) pa_nil)))) pss_never pss_nil) (pss_cons (ps_if (pt_not (pt_val (pcall DW hr (by rfl) (pa_cons (pv 1) (pa_cons pe_int (pa_cons (pe_glob (v := .int 99) rfl mC ⟨_, rfl⟩) pa_nil)))))) pss_never pss_nil) (pss_cons (ps_if (pt_not (pt_val (pcall DW hr (by rfl) (pa_cons (pv 2) (pa_cons pe_int (pa_cons (pe_glob (v := .int 600) rfl mG ⟨_, rfl⟩) pa_nil)))))) pss_never pss_nil) (pss_one (ps_ret pe_non))))), ?_⟩
    refine ⟨_, rfl, ?_⟩
    unfold tNil
    refine ask_name (.inl ⟨rfl, n, rfl, hn⟩) fun H1 s1 => ⟨_, rfl, iteF ⟨_, rfl, ?_⟩⟩
    unfold tCons tC
    refine ask_whole (.inl ⟨rfl, r, rfl, hr1.1, hr1.2⟩) ?_
    refine ⟨_, rfl, iteF ⟨_, rfl, ?_⟩⟩
    refine ask_whole (.inl ⟨rfl, g, rfl, hg1.1, hg1.2⟩) ?_
    exact ⟨_, rfl, iteF (k H1 s1)⟩
abbrev nDInit : List Str := ["self", "name", "room", "gap", "part"]
theorem scDInit : FnScope nDInit pD (defScope sDInit) := ⟨rfl, rfl, rfl, by decide +kernel, rfl, by decide +kernel, by decide +kernel⟩
/-- a good door's __init__ -/
def spDInit (C : Addr) : Sp := fun vs H Q _ => ∃ (x dx : Addr) (n : Str) (r g : Int), vs = [.ref x, .str n, .int r, .int g] ∧ isNm n = true ∧ (1 ≤ r ∧ r ≤ 99) ∧ (1 ≤ g ∧ g ≤ 600) ∧ H x = some (.ins C dx []) ∧
  ∀ H', DoorAt C H' x n r g → (∀ b o, H b = some o → b ≠ x → H' b = some o) → Q .non H'
theorem ok_dinit {C f : Addr} {fd : FuncData} (F : Fun K "__init__" "Door.__init__" sDInit f fd) (T : DoorC K mg C) (DD : Dn P w K mg base 3 "wrong_in_door" nWrongD spWrongD) : FnOk P w K mg base CX0 4 f fd pD (spDInit C) := by
  refine F.ok scDInit (fun vs H Q E h => ?_) (fun cdv A outer s H vs Q E hr h => ?_)
  · obtain ⟨x, dx, n, r, g, rfl, _⟩ := h
    rfl
  · obtain ⟨x, dx, n, r, g, rfl, hn, hr1, hg1, hx, k⟩ := h
    refine ⟨_, (pss_cons (ps_set (i := 4) scDInit.nd rfl (.inl rfl) (pcall DD hr (by rfl) (pa_cons (pv 1) (pa_cons (pv 2) (pa_cons (pv 3) pa_nil))))) (pss_cons (ps_if (pt_cmpR op_notN (pv 4) pe_non (nomark _)) pss_never pss_nil) (pss_cons (ps_fld (pv 0) (pv 1) rfl) (pss_cons (ps_fld (pv 0) (pv 2) rfl) (pss_one (ps_fld (pv 0) (pv 3) rfl)))))), ?_⟩
    refine ⟨_, rfl, _, rfl, _, rfl, n, r, g, rfl, hn, hr1, hg1, fun H1 s1 => ?_⟩
    refine ⟨_, rfl, rfl, _, rfl, ?_⟩
    refine iteF ?_
    refine ⟨_, rfl, _, rfl, x, C, dx, [], rfl, s1 _ _ hx, T.cl, T.nN, (by show 0 < 1000; decide), ?_⟩
    refine ⟨_, rfl, _, rfl, x, C, dx, _, rfl, upd_same, T.cl, T.nR, (by show 1 < 1000; decide), ?_⟩
    refine ⟨_, rfl, _, rfl, x, C, dx, _, rfl, upd_same, T.cl, T.nG, (by show 2 < 1000; decide), ?_⟩
    refine k _ ⟨dx, upd_same⟩ fun b o eb hb => ?_
    rw [upd_ne hb, upd_ne hb, upd_ne hb]
    exact s1 _ _ eb
theorem doorSp {C : Addr} {H : Hp} {n : Str} {r g : Int} {Q : Addr → Hp → Prop} (hn : isNm n = true) (hr : 1 ≤ r ∧ r ≤ 99) (hg : 1 ≤ g ∧ g ≤ 600) (k : ∀ x H', Same H H' → H x = none → DoorAt C H' x n r g → Q x H') :
    ∀ x dx, H x = none → H dx = none → dx ≠ x → spDInit C [.ref x, .str n, .int r, .int g] (upd (upd H dx (.own x)) x (.ins C dx [])) (fun u H3 => u = .non ∧ Q x H3) E0 := by
  intro x dx nx ndx hne
  have s1 : Same H (upd (upd H dx (.own x)) x (.ins C dx [])) := same_upd2 (same_upd ndx) nx
  exact ⟨x, dx, n, r, g, rfl, hn, hr, hg, upd_same, fun H' hi keep => ⟨rfl, k x H' (fun b o e => keep b o (s1 b o e) (ne_of_none e nx)) nx hi⟩⟩
theorem taskSp {C h : Addr} {H : Hp} {v : TaskV} {od : Option Int} {Q : Addr → Hp → Prop} (hh : HdsAt K H h v.holds) (ho : v.ok) (hd : v.due = od.getD v.gap) (q : ∀ x H', Same H H' → H x = none → TaskAt K C H' x v h → Q x H') :
    ∀ x dx, H x = none → H dx = none → dx ≠ x → spInit K C [.ref x, .str v.name, .int v.cost, .int v.gap, dueV od, .ref h] (upd (upd H dx (.own x)) x (.ins C dx [])) (fun u H3 => u = .non ∧ Q x H3) E0 := by
  intro x dx nx ndx hne
  have s1 : Same H (upd (upd H dx (.own x)) x (.ins C dx [])) := same_upd2 (same_upd ndx) nx
  exact ⟨x, dx, h, v, od, rfl, hd, ho, hh.same s1, upd_same, fun H' tk keep => ⟨rfl, q x H' (fun b o e => keep b o (s1 b o e) (ne_of_none e nx)) nx tk⟩⟩
/-! repr of tasks and doors -/
def inText (a n : Str) : Str := Str.empty ++ a ++ n ++ ")"
theorem inText_len (a n : Str) (ha : a.length ≤ 10) (h : n.length ≤ 1000) : (inText a n).length ≤ sizeLine := by
  unfold inText
  rw [strLen_append, strLen_append, strLen_append]
  have e1 : Str.empty.length ≤ 10 := by decide +kernel
  have e2 : ((")" : Str)).length ≤ 10 := by decide +kernel
  exact Nat.le_trans (show _ ≤ 1100 by omega) (by decide)
theorem inText_len2 (a n : Str) (ha : a.length ≤ 10) (h : n.length ≤ 1000) : (Str.empty ++ a ++ n).length ≤ sizeLine := by
  have z := inText_len a n ha h
  unfold inText at z
  rw [strLen_append] at z
  omega
theorem scTRepr : FnScope ["self"] ["self"] (defScope sTRepr) := ⟨rfl, rfl, rfl, by decide +kernel, rfl, by decide +kernel, by decide +kernel⟩
theorem scDRepr : FnScope ["self"] ["self"] (defScope sDRepr) := ⟨rfl, rfl, rfl, by decide +kernel, rfl, by decide +kernel, by decide +kernel⟩
def spTRepr (K : PySem.W.Frag) (C : Addr) : Sp := fun vs H Q _ => ∃ (x h : Addr) (v : TaskV), vs = [.ref x] ∧ TaskAt K C H x v h ∧ v.name.length ≤ 1000 ∧ Q (.str (inText "Task(" v.name)) H
def spDRepr (C : Addr) : Sp := fun vs H Q _ => ∃ (x : Addr) (n : Str) (r g : Int), vs = [.ref x] ∧ DoorAt C H x n r g ∧ n.length ≤ 1000 ∧ Q (.str (inText "Door(" n)) H
theorem ok_trepr {C f : Addr} {fd : FuncData} (F : Fun K "__repr__" "Task.__repr__" sTRepr f fd) (T : TaskC K mg C) : FnOk P w K mg base CX0 3 f fd ["self"] (spTRepr K C) := by
  refine F.ok scTRepr (fun vs H Q E h => ?_) (fun cdv A outer s H vs Q E hr h => ?_)
  · obtain ⟨x, h, v, rfl, _⟩ := h
    rfl
  · obtain ⟨x, h, v, rfl, ⟨⟨dx, hx⟩, hh⟩, hn, q⟩ := h
    refine ⟨_, (pss_one (ps_ret (pe_joined (.cons pe_str (.cons (pe_fmt (pe_fld (pv 0) rfl)) (.cons pe_str .nil)))))), ?_⟩
    refine ⟨_, rfl, by decide +kernel, ?_⟩
    exact ⟨_, rfl, x, C, dx, _, _, rfl, hx, T.cl, T.nN, tf_name _ _ _ _ _, .inl ⟨v.name, rfl, Nat.le_trans hn (by decide), v.name, rfl, inText_len2 _ _ (by decide +kernel) hn, _, rfl, inText_len _ _ (by decide +kernel) hn, q⟩⟩
theorem ok_drepr {C f : Addr} {fd : FuncData} (F : Fun K "__repr__" "Door.__repr__" sDRepr f fd) (T : DoorC K mg C) : FnOk P w K mg base CX0 3 f fd ["self"] (spDRepr C) := by
  refine F.ok scDRepr (fun vs H Q E h => ?_) (fun cdv A outer s H vs Q E hr h => ?_)
  · obtain ⟨x, n, r, g, rfl, _⟩ := h
    rfl
  · obtain ⟨x, n, r, g, rfl, ⟨dx, hx⟩, hn, q⟩ := h
    refine ⟨_, (pss_one (ps_ret (pe_joined (.cons pe_str (.cons (pe_fmt (pe_fld (pv 0) rfl)) (.cons pe_str .nil)))))), ?_⟩
    refine ⟨_, rfl, by decide +kernel, ?_⟩
    exact ⟨_, rfl, x, C, dx, _, _, rfl, hx, T.cl, T.nN, df_name _ _ _, .inl ⟨n, rfl, Nat.le_trans hn (by decide), n, rfl, inText_len2 _ _ (by decide +kernel) hn, _, rfl, inText_len _ _ (by decide +kernel) hn, q⟩⟩
end
/-! members -/
inductive Mem
  | task (v : TaskV)
  | door (n : Str) (r g : Int)
def Mem.name : Mem → Str
  | .task v => v.name
  | .door n _ _ => n
def Mem.ok : Mem → Prop
  | .task v => v.ok
  | .door n r g => isNm n = true ∧ (1 ≤ r ∧ r ≤ 99) ∧ (1 ≤ g ∧ g ≤ 600)
theorem Mem.nm {m : Mem} (h : m.ok) : isNm m.name = true := by
  cases m with
  | task v => exact h.1
  | door n r g => exact h.1
def MemAt (K : PySem.W.Frag) (CT CD : Addr) (H : Hp) (x : Addr) : Mem → Prop
  | .task v => ∃ h, TaskAt K CT H x v h
  | .door n r g => DoorAt CD H x n r g
/-- members in a row: the things of a list or tuple -/
def Mems (K : PySem.W.Frag) (CT CD : Addr) (H : Hp) (vs : List V) (ms : List Mem) : Prop := vs.length = ms.length ∧ ∀ (i : Nat) v m, vs[i]? = some v → ms[i]? = some m → ∃ x, v = .ref x ∧ MemAt K CT CD H x m
def MemsAt (K : PySem.W.Frag) (CT CD : Addr) (H : Hp) (t : Addr) (ms : List Mem) : Prop := ∃ vs : List V, SqT K H t vs ∧ Mems K CT CD H vs ms
def crewF (t : Addr) : List (Str × V) := [("members", .ref t)]
def CrewAt (K : PySem.W.Frag) (CT CD CC : Addr) (H : Hp) (c : Addr) (ms : List Mem) : Prop := ∃ dx t, H c = some (.ins CC dx (crewF t)) ∧ MemsAt K CT CD H t ms
structure CrewOk (ms : List Mem) : Prop where
  len : ms.length ≤ 8
  nd : (ms.map Mem.name).Nodup
  all : ∀ m ∈ ms, m.ok
section
variable {K : PySem.W.Frag} {CT CD CC : Addr} {H H' : Hp} {x t c : Addr} {m : Mem} {ms : List Mem} {vs : List V}
theorem MemAt.kt (h : MemAt K CT CD H x m) (s : Kt H H') : MemAt K CT CD H' x m := by
  cases m with
  | task v => exact h.imp fun a q => q.kt s
  | door n r g => exact h.imp fun a q => s _ _ q (fun _ q => nomatch q)
theorem Mems.kt (h : Mems K CT CD H vs ms) (s : Kt H H') : Mems K CT CD H' vs ms := ⟨h.1, fun i v m e1 e2 => (h.2 i v m e1 e2).imp fun x q => ⟨q.1, q.2.kt s⟩⟩
theorem MemsAt.kt (h : MemsAt K CT CD H t ms) (s : Kt H H') : MemsAt K CT CD H' t ms := h.imp fun vs q => ⟨sqT_kt q.1 s, q.2.kt s⟩
theorem CrewAt.kt (h : CrewAt K CT CD CC H c ms) (s : Kt H H') : CrewAt K CT CD CC H' c ms := by
  obtain ⟨dx, t, e, q⟩ := h
  exact ⟨dx, t, s _ _ e (fun _ q => nomatch q), q.kt s⟩
theorem Mems.nil : Mems K CT CD H [] [] := ⟨rfl, fun i v m e _ => by simp at e⟩
theorem Mems.add (h : Mems K CT CD H vs ms) (q : MemAt K CT CD H x m) : Mems K CT CD H (vs ++ [.ref x]) (ms ++ [m]) := by
  refine ⟨by rw [List.length_append, List.length_append, h.1]; rfl, fun i v n e1 e2 => ?_⟩
  by_cases hi : i < vs.length
  · rw [List.getElem?_append_left hi] at e1
    rw [List.getElem?_append_left (h.1 ▸ hi)] at e2
    exact h.2 i v n e1 e2
  · rw [List.getElem?_append_right (by omega)] at e1
    rw [List.getElem?_append_right (by rw [← h.1]; omega), ← h.1] at e2
    have z : i - vs.length = 0 := by
      have := (List.getElem?_eq_some_iff.mp e1).1
      simp at this
      omega
    rw [z] at e1 e2
    cases e1
    cases e2
    exact ⟨x, rfl, q⟩
theorem Mems.at (h : Mems K CT CD H vs ms) {i : Nat} {v : V} (e : vs[i]? = some v) : ∃ (x : Addr) (m : Mem), v = .ref x ∧ ms[i]? = some m ∧ MemAt K CT CD H x m := by
  have hi : i < ms.length := by
    rw [← h.1]
    exact (List.getElem?_eq_some_iff.mp e).1
  have e2 : ms[i]? = some ms[i] := List.getElem?_eq_getElem hi
  obtain ⟨x, ex, q⟩ := h.2 i v _ e e2
  exact ⟨x, _, ex, e2, q⟩
end
end Du

set_option Elab.async false
set_option linter.all false
set_option maxRecDepth 100000
namespace Du
open PySem L2
abbrev sIsMem : Stmt := topS 37
abbrev sAreMem : Stmt := topS 38
abbrev sTwice : Stmt := topS 39
abbrev sCInit : Stmt := inClass (topS 43) 0
abbrev sNames : Stmt := inClass (topS 43) 1
abbrev sCRepr : Stmt := inClass (topS 43) 11
/-- the classes of members -/
structure MemC (K : PySem.W.Frag) (mg : Str → Option Value) (CT CD : Addr) : Prop where
  T : TaskC K mg CT
  D : DoorC K mg CD
  aT : PySem.W.kitAny K (.ref CT) [.ref CT, .ref CD] = some true
  aD : PySem.W.kitAny K (.ref CD) [.ref CT, .ref CD] = some true
  oT : PySem.W.kitOne K (.ref CT) (.ref CT) = some true
  oD : PySem.W.kitOne K (.ref CD) (.ref CT) = some false
structure CrewC (K : PySem.W.Frag) (mg : Str → Option Value) (CC : Addr) : Prop where
  cl : Cls K CC
  nM : NoAttr K CC "members"
  mg : mg "Crew" = some (.ref CC)
  kc : PySem.W.findIn K (.ref CC) "__class__" = some (some (.builtin "object.__class__"))
  kg : PySem.W.specialIn K (.builtin "object.__class__") "__get__" = some (some (.builtin "getset_descriptor.__get__"))
  kt : PySem.W.takesIn K (.builtin "object.__class__") = some true
  km : PySem.W.mroIn K CC (.type "object") = some true
section
variable {P : Program} {w : World} {K : PySem.W.Frag} {mg : Str → Option Value} {base : Heap} {CT CD CC : Addr}
theorem mem_name {H : Hp} {x : Addr} {m : Mem} (M : MemC K mg CT CD) (h : MemAt K CT CD H x m) : ∃ (C dx : Addr) (fs : List (Str × V)), H x = some (.ins C dx fs) ∧ Cls K C ∧ NoAttr K C "name" ∧ fs.lookup ("name" : Str) = some (V.str m.name) := by
  cases m with
  | task v =>
    obtain ⟨a, ⟨dx, e⟩, _⟩ := h
    exact ⟨CT, dx, _, e, M.T.cl, M.T.nN, tf_name _ _ _ _ _⟩
  | door n r g =>
    obtain ⟨dx, e⟩ := h
    exact ⟨CD, dx, _, e, M.D.cl, M.D.nN, df_name _ _ _⟩
theorem mem_ty {H : Hp} {x : Addr} {m : Mem} (M : MemC K mg CT CD) (h : MemAt K CT CD H x m) : ∃ t, TyX K H (.ref x) t ∧ PySem.W.kitAny K t [.ref CT, .ref CD] = some true ∧ PySem.W.kitOne K t (.ref CT) = some (match m with | .task _ => true | .door _ _ _ => false) := by
  cases m with
  | task v =>
    obtain ⟨a, ⟨dx, e⟩, _⟩ := h
    exact ⟨.ref CT, .base (.ins e M.T.cl M.T.kc M.T.kg M.T.kt M.T.km), M.aT, M.oT⟩
  | door n r g =>
    obtain ⟨dx, e⟩ := h
    exact ⟨.ref CD, .base (.ins e M.D.cl M.D.kc M.D.kg M.D.kt M.D.km), M.aD, M.oD⟩
/-! is_member -/
theorem scIsMem : FnScope ["thing"] ["thing"] (defScope sIsMem) := ⟨rfl, rfl, rfl, by decide +kernel, rfl, by decide +kernel, by decide +kernel⟩
def spIsMem (K : PySem.W.Frag) (CT CD : Addr) : Sp := fun vs H Q _ => ∃ (x : Addr) (m : Mem), vs = [.ref x] ∧ MemAt K CT CD H x m ∧ ∀ H', Same H H' → Q (.bl true) H'
theorem ok_isMem {f : Addr} {fd : FuncData} (F : Fun K "is_member" "is_member" sIsMem f fd) (M : MemC K mg CT CD) (mI : mg "isinstance" = none) : FnOk P w K mg base CX0 3 f fd ["thing"] (spIsMem K CT CD) := by
  refine F.ok scIsMem (fun vs H Q E h => ?_) (fun cdv A outer s H vs Q E hr h => ?_)
  · obtain ⟨x, m, rfl, _⟩ := h
    rfl
  · obtain ⟨x, m, rfl, hm, q⟩ := h
    refine ⟨_, (pss_one (ps_ret (pe_callB call_isiT (by rfl) mI (by decide +kernel) (pa_cons (pv 0) (pa_cons (pe_tup (pa_cons (pe_glob (v := .ref CT) rfl M.T.mg rfl) (pa_cons (pe_glob (v := .ref CD) rfl M.D.mg rfl) pa_nil))) pa_nil))))), ?_⟩
    refine ⟨_, rfl, (by show 2 ≤ sizeLine; decide), fun t nt => ?_⟩
    obtain ⟨ty, h1, h2, _⟩ := mem_ty M (hm.kt (.of_same (same_upd (o := .tup [.ref CT, .ref CD]) nt)))
    exact ⟨_, t, _, ty, _, true, rfl, upd_same, .cons (.own _) (.cons (.own _) .nil), h1, h2, q _ (same_upd nt)⟩
/-! are_members -/
theorem scAreMem : FnScope ["thing", "member"] ["thing"] (defScope sAreMem) := ⟨rfl, rfl, rfl, by decide +kernel, rfl, by decide +kernel, by decide +kernel⟩
def spAreMem (K : PySem.W.Frag) (CT CD : Addr) : Sp := fun vs H Q _ => ∃ (t : Addr) (ms : List Mem), vs = [.ref t] ∧ MemsAt K CT CD H t ms ∧ ms.length ≤ 8 ∧ ∀ H', Same H H' → Q (.bl true) H'
theorem ok_areMem {f : Addr} {fd : FuncData} (F : Fun K "are_members" "are_members" sAreMem f fd) (mI : mg "isinstance" = none) (mt : mg "tuple" = none) (ml : mg "len" = none) (ma : mg "all" = none) (mM : ∃ t, mg "MOST_MEMBERS" = some (.int 8 t)) (DI : Dn P w K mg base 3 "is_member" ["thing"] (spIsMem K CT CD)) :
    FnOk P w K mg base CX0 4 f fd ["thing"] (spAreMem K CT CD) := by
  obtain ⟨tM, mM⟩ := mM
  refine F.ok scAreMem (fun vs H Q E h => ?_) (fun cdv A outer s H vs Q E hr h => ?_)
  · obtain ⟨t, ms, rfl, _⟩ := h
    rfl
  · obtain ⟨t, ms, rfl, ⟨vs, hS, hl, hm⟩, h8, q⟩ := h
    refine ⟨_, (pss_cons (ps_if (PW.pt (pw_or (pt_not (pt_val (pe_callB call_isi (by rfl) mI (by decide +kernel) (pa_cons (pv 0) (pa_cons (pe_bltn (v := .ty "tuple") (by rfl) mt (by decide +kernel) rfl) pa_nil))))) (pw_or1 (pt_cmpR op_gt (pe_callB call_len_seq (by rfl) ml (by decide +kernel) (pa_cons (pv 0) pa_nil)) (pe_glob (v := .int 8) rfl mM ⟨_, rfl⟩) (nomark _))))) pss_never pss_nil) (pss_one (ps_ret (pe_callB (cr_all rfl) (by rfl) ma (by decide +kernel) (pa_cons (pe_lc (own := [("member", 1)]) (g := gName 1) (tt := tYes) rfl scAreMem.nd (pi_tup (pv 0))
        (blkOk_by (N := ["thing", "member"]) (sc := defScope sAreMem) (by decide +kernel)) (fun _ _ _ _ _ => pg_name (i := 1) scAreMem.nd rfl (Or.inl rfl)) (fun _ _ _ _ _ => pts_nil)
        (fun _ _ _ _ _ => pcall DI hr (by rfl) (pa_cons (pv 1) pa_nil))) pa_nil))))), ?_⟩
    refine ⟨_, rfl, _, _, _, _, true, rfl, .ty "tuple", tyx_tup hS, kit_tt, true, rfl, ?_⟩
    refine ⟨_, rfl, t, _, rfl, .inr hS, _, _, rfl, rfl, _, rfl, ?_⟩
    rw [decide_eq_false (show ¬ (8 : Int) < ((vs.length : Nat) : Int) by omega)]
    refine iteF ?_
    refine ⟨_, rfl, t, rfl, ⟨vs, hS⟩, fun D nD => lc_tup (K := K) (a := t) (xs := vs) (fun i H' => Same H H' ∧ H' D = some (.lst ((List.replicate i true).map V.bl))) ⟨same_upd nD, upd_same⟩ (fun i H' _ z => hS.ext z.1) ?_ ?_⟩
    · rintro i y H1 hy ⟨s1, e⟩
      obtain ⟨x, m, rfl, em, hx⟩ := Mems.at ⟨hl, hm⟩ hy
      refine ⟨rfl, _, rfl, x, m, rfl, hx.kt (.of_same s1), fun H2 s2 => ⟨_, s2 _ _ e, ?_, same_upd2 (s1.trans s2) nD, ?_⟩⟩
      · rw [List.length_map, List.length_replicate]
        have := (List.getElem?_eq_some_iff.mp hy).1
        exact Nat.lt_of_lt_of_le (show i < 8 by omega) (by decide)
      · rw [upd_same, List.replicate_succ', List.map_append]
        rfl
    · rintro H1 ⟨s1, e⟩
      refine ⟨D, _, rfl, SqL.of e, ?_⟩
      rw [show (List.replicate vs.length true).all id = true from List.all_eq_true.mpr fun b hb => (List.mem_replicate.mp hb).2]
      exact q H1 s1
/-! name_twice, of unlike names -/
theorem in_strs {z : Str} {xs : List Str} : inV (.str z) (xs.map V.str) = decide (z ∈ xs) := by
  unfold inV
  rw [List.any_map]
  by_cases h : z ∈ xs
  · rw [decide_eq_true h]
    exact List.any_eq_true.mpr ⟨z, h, by show (z == z) = true; simp⟩
  · rw [decide_eq_false h]
    refine List.any_eq_false.mpr fun y hy => ?_
    show ¬ (y == z) = true
    rw [beq_iff_eq]
    exact fun e => h (e ▸ hy)
theorem flat_strs {xs : List Str} : (xs.map V.str).all flatV = true := by
  rw [List.all_map]
  exact List.all_eq_true.mpr fun _ _ => rfl
theorem scTwice : FnScope ["members", "ahead", "member"] ["members"] (defScope sTwice) := ⟨rfl, rfl, rfl, by decide +kernel, rfl, by decide +kernel, by decide +kernel⟩
def spTwice (K : PySem.W.Frag) (CT CD : Addr) : Sp := fun vs H Q _ => ∃ (t : Addr) (ms : List Mem), vs = [.ref t] ∧ MemsAt K CT CD H t ms ∧ ms.length ≤ 8 ∧ (ms.map Mem.name).Nodup ∧ ∀ H', Same H H' → Q .non H'
theorem ok_twice {f : Addr} {fd : FuncData} (F : Fun K "name_twice" "name_twice" sTwice f fd) (M : MemC K mg CT CD) : FnOk P w K mg base CX0 3 f fd ["members"] (spTwice K CT CD) := by
  refine F.ok scTwice (fun vs H Q E h => ?_) (fun cdv A outer s H vs Q E hr h => ?_)
  · obtain ⟨t, ms, rfl, _⟩ := h
    rfl
  · obtain ⟨t, ms, rfl, ⟨vs, hS, hms⟩, h8, hnd, q⟩ := h
    refine ⟨_, (pss_cons (ps_set (i := 1) scTwice.nd rfl (.inl rfl) (pe_lst pa_nil)) (pss_cons (ps_for PassesOwn.never rfl (pi_tup (pv 0)) (pg_name (i := 2) scTwice.nd rfl (.inl rfl))
        (pss_cons (ps_if (pt_cmpR op_in_seq (pe_fld (pv 2) rfl) (pv 1) (by rfl)) pss_never pss_nil) (pss_one (ps_expr (pe_bm PySem.F.plainAttrs_list PySem.F.slot_list_append PySem.F.type_list_append mt_append (pv 1) (pa_cons (pe_fld (pv 2) rfl) pa_nil)))))) (pss_one (ps_ret pe_non)))), ?_⟩
    refine ⟨Nat.zero_le _, fun L nL => ?_⟩
    refine ⟨_, rfl, t, rfl, ⟨vs, hS.ext (same_upd nL)⟩, for_tup (K := K) (a := t) (xs := vs) (fun j σ H' => ∃ v2 : Option V, σ = [some (.ref t), some (.ref L), v2] ∧ Same H H' ∧ H' L = some (.lst (((ms.take j).map Mem.name).map V.str))) ⟨_, rfl, same_upd nL, upd_same⟩ ?_ ?_ ?_⟩
    · rintro j σ H1 _ ⟨_, _, s1, _⟩
      exact hS.ext s1
    · rintro j y σ H1 hy ⟨v2, rfl, s1, eL⟩
      obtain ⟨x, m, rfl, em, hx⟩ := hms.at hy
      have hx1 := hx.kt (.of_same s1)
      obtain ⟨C, dx, fs, ex, c1, c2, c3⟩ := mem_name M hx1
      have et : (ms.take (j + 1)).map Mem.name = (ms.take j).map Mem.name ++ [m.name] := by
        rw [List.take_add_one, em, List.map_append]
        rfl
      have nin : m.name ∉ (ms.take j).map Mem.name := fun hm => by
        have z : ((ms.take (j + 1)).map Mem.name).Nodup := hnd.sublist ((List.take_sublist _ _).map _)
        rw [et] at z
        exact (List.nodup_append.mp z).2.2 _ hm _ (List.mem_singleton.mpr rfl) rfl
      refine ⟨_, rfl, x, C, dx, _, _, rfl, ex, c1, c2, c3, _, rfl, L, _, rfl, .inl (SqL.of eL), rfl, flat_strs, _, rfl, ?_⟩
      have eN : (if false = true then !inV (.str m.name) (((ms.take j).map Mem.name).map V.str) else inV (.str m.name) (((ms.take j).map Mem.name).map V.str)) = false := by
        show inV (.str m.name) (((ms.take j).map Mem.name).map V.str) = false
        rw [in_strs, decide_eq_false nin]
      rw [eN]
      refine iteF ⟨_, rfl, .inl ⟨rfl, _, SqL.of eL⟩, _, rfl, x, C, dx, _, _, rfl, ex, c1, c2, c3, L, _, _, rfl, rfl, eL, ?_, ?_⟩
      · rw [List.length_map, List.length_map]
        have := (List.getElem?_eq_some_iff.mp hy).1
        have h2 := hms.1
        exact Nat.lt_of_le_of_lt (List.length_take_le _ _) (Nat.lt_of_lt_of_le (show j < 8 by omega) (by decide))
      · refine ⟨_, rfl, same_upd2 s1 nL, ?_⟩
        rw [upd_same, et, List.map_append]
        rfl
    · rintro σ H1 ⟨v2, rfl, s1, eL⟩
      exact q H1 s1
/-! a crew's __init__ -/
theorem scCInit : FnScope ["self", "members", "twice"] ["self", "members"] (defScope sCInit) := ⟨rfl, rfl, rfl, by decide +kernel, rfl, by decide +kernel, by decide +kernel⟩
def spCInit (K : PySem.W.Frag) (CT CD CC : Addr) : Sp := fun vs H Q _ => ∃ (c dx t : Addr) (ms : List Mem), vs = [.ref c, .ref t] ∧ MemsAt K CT CD H t ms ∧ ms.length ≤ 8 ∧ (ms.map Mem.name).Nodup ∧ H c = some (.ins CC dx []) ∧
  ∀ H', H' c = some (.ins CC dx (crewF t)) → (∀ b o, H b = some o → b ≠ c → H' b = some o) → Q .non H'
abbrev FunCI (K : PySem.W.Frag) (e0 f : Addr) (fd : FuncData) : Prop := FunD K "__init__" "Crew.__init__" (defArgs sCInit) (defBody sCInit) (defScope sCInit) [.ref e0] [] f fd
theorem ok_cinit {f e0 : Addr} {fd : FuncData} (F : FunCI K e0 f fd) (T : CrewC K mg CC) (DA : Dn P w K mg base 4 "are_members" ["thing"] (spAreMem K CT CD)) (DT : Dn P w K mg base 3 "name_twice" ["members"] (spTwice K CT CD)) : FnOk P w K mg base CX0 5 f fd ["self", "members"] (spCInit K CT CD CC) := by
  refine F.ok (CX := CX0) scCInit (fun vs H Q E h => ?_) (fun cdv A outer s H vs Q E hr h => ?_)
  · obtain ⟨c, dx, t, ms, rfl, _⟩ := h
    rfl
  · obtain ⟨c, dx, t, ms, rfl, hm, h8, hnd, hc, k⟩ := h
    have hr1 : Room 3 _ := hr.mono (by decide)
    refine ⟨_, (pss_cons (ps_if (pt_not (pt_val (pcall DA hr (by rfl) (pa_cons (pv 1) pa_nil)))) pss_never pss_nil) (pss_cons (ps_set (i := 2) scCInit.nd rfl (.inl rfl) (pcall DT hr1 (by rfl) (pa_cons (pv 1) pa_nil))) (pss_cons (ps_if (pt_cmpR op_notN (pv 2) pe_non (nomark _)) pss_never pss_nil) (pss_one (ps_fld (pv 0) (pv 1) rfl))))), ?_⟩
    refine ⟨_, rfl, t, ms, rfl, hm, h8, fun H1 s1 => ⟨_, rfl, iteF ⟨_, rfl, t, ms, rfl, hm.kt (.of_same s1), h8, hnd, fun H2 s2 => ?_⟩⟩⟩
    refine ⟨_, rfl, rfl, _, rfl, ?_⟩
    rw [decide_eq_true rfl]
    have s12 := s1.trans s2
    refine iteF ⟨_, rfl, _, rfl, c, CC, dx, [], rfl, s12 _ _ hc, T.cl, T.nM, (by show 0 < 1000; decide), ?_⟩
    refine k _ upd_same fun b o eb hb => ?_
    rw [upd_ne hb]
    exact s12 _ _ eb
theorem crewSp {H : Hp} {t : Addr} {ms : List Mem} {Q : Addr → Hp → Prop} (hm : MemsAt K CT CD H t ms) (h8 : ms.length ≤ 8) (hnd : (ms.map Mem.name).Nodup) (q : ∀ c H', Same H H' → H c = none → CrewAt K CT CD CC H' c ms → Q c H') :
    ∀ x dx, H x = none → H dx = none → dx ≠ x → spCInit K CT CD CC [.ref x, .ref t] (upd (upd H dx (.own x)) x (.ins CC dx [])) (fun u H3 => u = .non ∧ Q x H3) E0 := by
  intro x dx nx ndx hne
  have s1 : Same H (upd (upd H dx (.own x)) x (.ins CC dx [])) := same_upd2 (same_upd ndx) nx
  refine ⟨x, dx, t, ms, rfl, hm.kt (.of_same s1), h8, hnd, upd_same, fun H' e keep => ?_⟩
  have s2 : Same H H' := fun b o e => keep b o (s1 b o e) (ne_of_none e nx)
  exact ⟨rfl, q x H' s2 nx ⟨dx, t, e, hm.kt (.of_same s2)⟩⟩
/-! names, repr -/
theorem crew_members {H : Hp} {c t dx : Addr} (e : H c = some (.ins CC dx (crewF t))) : (crewF t).lookup ("members" : Str) = some (.ref t) := rfl
theorem scNames : FnScope ["self", "member"] ["self"] (defScope sNames) := ⟨rfl, rfl, rfl, by decide +kernel, rfl, by decide +kernel, by decide +kernel⟩
def spNames (K : PySem.W.Frag) (CT CD CC : Addr) : Sp := fun vs H Q _ => ∃ (c : Addr) (ms : List Mem), vs = [.ref c] ∧ CrewAt K CT CD CC H c ms ∧ ms.length ≤ 8 ∧ ∀ r H', Same H H' → H r = none → H' r = some (.tup ((ms.map Mem.name).map V.str)) → Q (.ref r) H'
theorem ok_names {f : Addr} {fd : FuncData} (F : Fun K "names" "Crew.names" sNames f fd) (M : MemC K mg CT CD) (T : CrewC K mg CC) (mt : mg "tuple" = none) : FnOk P w K mg base CX0 3 f fd ["self"] (spNames K CT CD CC) := by
  refine F.ok scNames (fun vs H Q E h => ?_) (fun cdv A outer s H vs Q E hr h => ?_)
  · obtain ⟨c, ms, rfl, _⟩ := h
    rfl
  · obtain ⟨c, ms, rfl, ⟨dx, t, ec, vs, hS, hms⟩, h8, q⟩ := h
    refine ⟨_, (pss_one (ps_ret (pe_callTy call_tuple_of (by rfl) mt (by decide +kernel) (pa_cons (pe_lc (own := [("member", 1)]) (g := gName 1) (tt := tYes) (te := tFld K (tVar 1) "name") rfl scNames.nd (pi_tup (pe_fld (pv 0) rfl)) (blkOk_by (N := ["self", "member"]) (sc := defScope sNames) (by decide +kernel))
        (fun _ _ _ _ _ => pg_name (i := 1) scNames.nd rfl (Or.inl rfl)) (fun _ _ _ _ _ => pts_nil) (fun _ _ _ _ _ => pe_fld (pv 1) rfl)) pa_nil)))), ?_⟩
    refine ⟨_, rfl, c, CC, dx, _, _, rfl, ec, T.cl, T.nM, rfl, t, rfl, ⟨vs, hS⟩, fun D nD => lc_tup (K := K) (a := t) (xs := vs) (fun j H' => Same H H' ∧ H' D = some (.lst (((ms.take j).map Mem.name).map V.str))) ⟨same_upd nD, upd_same⟩ (fun j H' _ z => hS.ext z.1) ?_ ?_⟩
    · rintro j y H1 hy ⟨s1, e⟩
      obtain ⟨x, m, rfl, em, hx⟩ := hms.at hy
      obtain ⟨C, dx', fs, ex, c1, c2, c3⟩ := mem_name M (hx.kt (.of_same s1))
      refine ⟨rfl, _, rfl, x, C, dx', _, _, rfl, ex, c1, c2, c3, _, e, ?_, same_upd2 s1 nD, ?_⟩
      · rw [List.length_map, List.length_map]
        have := (List.getElem?_eq_some_iff.mp hy).1
        have h2 := hms.1
        exact Nat.lt_of_le_of_lt (List.length_take_le _ _) (Nat.lt_of_lt_of_le (show j < 8 by omega) (by decide))
      · rw [upd_same, List.take_add_one, em, List.map_append, List.map_append]
        rfl
    · rintro H1 ⟨s1, e⟩
      rw [hms.1, List.take_length] at e
      exact ⟨D, _, rfl, .inl ⟨SqL.of e, fun r nr => q r _ (s1.trans (same_upd nr)) (s1.free nr) upd_same⟩⟩
def crewText (ms : List Mem) : Str := inText "Crew(" (Txt.join ", " (ms.map Mem.name))
theorem crew_len {ms : List Mem} (h : CrewOk ms) : (Txt.join ", " (ms.map Mem.name)).length ≤ 1000 ∧ ((ms.map Mem.name).map (·.length)).sum + (ms.map Mem.name).length * (", " : Str).length ≤ 16777216 := by
  have a : ((ms.map Mem.name).map (·.length)).sum ≤ ms.length * 8 := by
    have := h.all
    clear h
    induction ms with
    | nil => simp
    | cons m r ih =>
      have h1 := (nm_len (Mem.nm (this m (by simp)))).2
      have h2 := ih fun k hk => this k (by simp [hk])
      simp only [List.map_cons, List.sum_cons, List.length_cons]
      omega
  have b := h.len
  have c : ((", " : Str)).length = 2 := rfl
  have d : (Txt.join ", " (ms.map Mem.name)).length ≤ ((ms.map Mem.name).map (·.length)).sum + (ms.map Mem.name).length * (", " : Str).length := by
    show (Builtin.Str.glued ", " (ms.map Mem.name)).length ≤ _
    rw [StrLaws.glued_eq_join]
    exact StrLaws.join_length_le ", " _
  rw [List.length_map, c] at d
  rw [List.length_map, c]
  omega
theorem scCRepr : FnScope ["self"] ["self"] (defScope sCRepr) := ⟨rfl, rfl, rfl, by decide +kernel, rfl, by decide +kernel, by decide +kernel⟩
def spCRepr (K : PySem.W.Frag) (CT CD CC : Addr) : Sp := fun vs H Q _ => ∃ (c : Addr) (ms : List Mem), vs = [.ref c] ∧ CrewAt K CT CD CC H c ms ∧ CrewOk ms ∧ ∀ H', Same H H' → Q (.str (crewText ms)) H'
theorem ok_crepr {f fn : Addr} {fd fdn : FuncData} (F : Fun K "__repr__" "Crew.__repr__" sCRepr f fd) (T : CrewC K mg CC) (mn : Meth K CC "names" fn) (G : FnOk P w K mg base CX0 3 fn fdn ["self"] (spNames K CT CD CC)) (bn : Binds K fdn ["self"] []) : FnOk P w K mg base CX0 4 f fd ["self"] (spCRepr K CT CD CC) := by
  refine F.ok scCRepr (fun vs H Q E h => ?_) (fun cdv A outer s H vs Q E hr h => ?_)
  · obtain ⟨c, ms, rfl, _⟩ := h
    rfl
  · obtain ⟨c, ms, rfl, hc, hok, q⟩ := h
    obtain ⟨dx, t, ec, hms⟩ := id hc
    obtain ⟨l1, l2⟩ := crew_len hok
    refine ⟨_, (pss_one (ps_ret (pe_joined (.cons pe_str (.cons (pe_fmt (pe_join pe_str (pe_meth0 (pv 0) T.cl mn G hr bn .nil pass0))) (.cons pe_str .nil)))))), ?_⟩
    refine ⟨_, rfl, by decide +kernel, ?_⟩
    refine ⟨⟨_, rfl⟩, _, rfl, c, dx, _, rfl, ec, rfl, c, ms, rfl, hc, hok.len, fun r H1 s1 nr er => ?_⟩
    refine ⟨_, r, ms.map Mem.name, rfl, rfl, .inr (SqT.of er), l2, ?_⟩
    exact .inl ⟨_, rfl, Nat.le_trans l1 (by decide), _, rfl, inText_len2 _ _ (by decide +kernel) l1, _, rfl, inText_len _ _ (by decide +kernel) l1, q H1 s1⟩
end
end Du

set_option Elab.async false
set_option linter.all false
set_option maxRecDepth 100000
namespace Du
open PySem L2
abbrev sMust : Stmt := topS 24
/-- a def that may raise, by its name -/
structure DnX (P : Program) (w : World) (K : PySem.W.Frag) (mg : Str → Option Value) (base : Heap) (k : Nat) (x : Str) (ps : List Str) (sp : Sp) : Prop where
  ex : ∃ (f : Addr) (fd : FuncData), FnOk P w K mg base (L2N.CX P w) k f fd ps sp ∧ mg x = some (.ref f) ∧ PySem.W.keepIn K (.ref f) = true ∧ Binds K fd ps []
theorem pcallX {X : Cx} {k : Nat} {x : Str} {ps : List Str} {sp : Sp} {E : XK} {p pos : Pos} {e : Expr} {es : List Expr} {t : TA} (D : DnX X.prog X.w X.K X.mg X.base k x ps sp) (hr : Room k X.A) (hg : Gl X x) (hx : Passes (L2N.CX X.prog X.w) X E) (ha : PA X (e :: es) t)
    (hdb : (x == ("__debug__" : Str)) = false := by decide) (he : starEach (e :: es) X.env = (false, eval e X.env) :: starEach es X.env := by rfl) (hpl : (backTo pos (starEach es X.env)).any (·.1) = false := by rfl) :
    PE X (.Call (.Name x p) (e :: es) [] pos) (tCall sp [] E t) := by
  obtain ⟨f, fd, F, hm, hk, hb⟩ := D.ex
  exact pe_call F hr hg hm hk hb .nil hx ha hdb he hpl
section
variable {P : Program} {w : World} {K : PySem.W.Frag} {mg : Str → Option Value} {base : Heap}
theorem scMust : FnScope ["thing", "least", "most"] ["thing", "least", "most"] (defScope sMust) := ⟨rfl, rfl, rfl, by decide +kernel, rfl, by decide +kernel, by decide +kernel⟩
def spMust (K : PySem.W.Frag) (CN : Addr) : Sp := fun vs H Q E => ∃ (x : V) (lo hi : Int), vs = [x, .int lo, .int hi] ∧
  ((GoodL x lo hi ∧ Q .non H) ∨ (BadL K H x lo hi ∧ ∀ dd H', Same H H' → H' dd = some (.xd [("number", x)]) → E (.ref CN) (some dd) H'))
theorem ok_must {CN f : Addr} {fd : FuncData} (F : Fun K "must_be_whole" "must_be_whole" sMust f fd) (TN : Err P w K mg "NoNumber" "number" CN) (DW : Dn P w K mg base 2 "is_whole" ["thing", "least", "most"] (spWhole K)) :
    FnOk P w K mg base (L2N.CX P w) 3 f fd ["thing", "least", "most"] (spMust K CN) := by
  obtain ⟨oc, od, kV, doc, pm, an, cdv, ct, osl, rfl, lk, hcd⟩ := F.ex
  refine fn_of lk hcd scMust (fun vs H Q E h => ?_) fun A outer s H vs Q E hr h => ?_
  · obtain ⟨x, lo, hi, rfl, _⟩ := h
    rfl
  · obtain ⟨x, lo, hi, rfl, k⟩ := h
    have tk := L2N.takes_of (X := cxOf (L2N.CX P w) P w K mg base ["thing", "least", "most"] "must_be_whole" (defScope sMust) f cdv A outer s H E) (E := E) rfl rfl rfl rfl
    refine ⟨_, (pss_one (ps_if (pt_not (pt_val (pcall DW hr (by rfl) (pa_cons (pv 0) (pa_cons (pv 1) (pa_cons (pv 2) pa_nil)))))) (pss_one (ps_raiseErr rfl TN hr tk (by rfl) (pa_cons (pv 0) pa_nil))) pss_nil)), ?_⟩
    refine ⟨_, rfl, _, rfl, _, rfl, ?_⟩
    unfold tNil
    rcases k with ⟨hg, q⟩ | ⟨hb, e⟩
    · refine ask_whole (.inl ⟨rfl, hg⟩) ?_
      exact ⟨_, rfl, iteF q⟩
    · refine ask_whole (.inr ⟨rfl, hb⟩) ?_
      exact ⟨_, rfl, iteT ⟨_, rfl, _, rfl, fun d nd => e d _ (same_upd nd) upd_same⟩⟩
end
end Du

set_option Elab.async false
set_option linter.all false
set_option maxRecDepth 100000
namespace Du
open PySem L2
/-- a thing of any kind, that is shown as t -/
inductive Tg (K : PySem.W.Frag) (CT CD CC : Addr) (H : Hp) : V → Str → Prop
  | non : Tg K CT CD CC H .non "None"
  | bl (b : Bool) : Tg K CT CD CC H (.bl b) (if b then ("True" : Str) else ("False" : Str))
  | int (i : Int) : i.natAbs.log2 < 1920 → Tg K CT CD CC H (.int i) (toString i)
  | str (z : Str) : Tg K CT CD CC H (.str z) (reprText z)
  | emp {a : Addr} : H a = some (.dK []) → Tg K CT CD CC H (.ref a) "{}"
  | dat {a : Addr} {d : PyData} : (∀ H', Kp H H' → Dp K H' (.ref a) d) → d.showable = true → d.hasDict = false → d.depth ≤ 60 → Tg K CT CD CC H (.ref a) d.shown
  | task {a h : Addr} {v : TaskV} : TaskAt K CT H a v h → v.name.length ≤ 1000 → Tg K CT CD CC H (.ref a) (inText "Task(" v.name)
  | door {a : Addr} {n : Str} {r g : Int} : DoorAt CD H a n r g → n.length ≤ 1000 → Tg K CT CD CC H (.ref a) (inText "Door(" n)
  | crew {a : Addr} {ms : List Mem} : CrewAt K CT CD CC H a ms → CrewOk ms → Tg K CT CD CC H (.ref a) (crewText ms)
theorem Kt.of_kp {H H' : Hp} (s : Kp H H') : Kt H H' := fun a o e n => s a o e ⟨fun _ _ _ z => n _ z, fun ys z => absurd z (n ys)⟩
section
variable {P : Program} {w : World} {K : PySem.W.Frag} {mg : Str → Option Value} {base : Heap} {CT CD CC : Addr} {H H' : Hp} {x : V} {t : Str}
theorem Tg.kp (h : Tg K CT CD CC H x t) (s : Kp H H') : Tg K CT CD CC H' x t := by
  cases h with
  | non => exact .non
  | bl b => exact .bl b
  | int i h => exact .int i h
  | str z => exact .str z
  | emp h => exact .emp (s _ _ h .dK)
  | dat h a b c => exact .dat (fun H2 s2 => h H2 (s.trans s2)) a b c
  | task h n => exact .task (h.kt (.of_kp s)) n
  | door h n => exact .door (h.imp fun dx e => s _ _ e .ins) n
  | crew h n => exact .crew (h.kt (.of_kp s)) n
/-- how own things are shown -/
structure OwnS (P : Program) (w : World) (K : PySem.W.Frag) (mg : Str → Option Value) (base : Heap) (CT CD CC : Addr) : Prop where
  rT : OwnR P w K mg base 3 CT (spTRepr K CT)
  rD : OwnR P w K mg base 3 CD (spDRepr CD)
  rC : OwnR P w K mg base 4 CC (spCRepr K CT CD CC)
theorem two_len (a b : Str) : (tupleText [a, b]).length = a.length + b.length + 4 := by
  unfold tupleText
  rw [strLen_append, strLen_append]
  show 1 + (a ++ ", " ++ b).length + 1 = _
  rw [strLen_append, strLen_append]
  have : ((", " : String) : Str).length = 2 := rfl
  omega
theorem big_line : 20000 ≤ sizeLine := by decide
theorem int_log {i : Int} {k : Nat} (h : i.natAbs < 2 ^ k) (hk : k ≤ 1920 := by decide) : i.natAbs.log2 < 1920 := by
  by_cases h0 : i.natAbs = 0
  · rw [h0]
    decide
  · exact Nat.lt_of_lt_of_le ((Nat.log2_lt h0).mpr h) hk
theorem int_len {i : Int} (h : i.natAbs.log2 < 1920) : (Str.ofString (toString i)).length ≤ 2000 := Nat.le_trans (PyProof.Rows.int_text_len_1921 h) (by decide)
/-- (word, x) as it is shown -/
theorem Tg.pair {wd : Str} (hw : (reprText wd).length ≤ 100) (S : OwnS P w K mg base CT CD CC) (h : Tg K CT CD CC H x t) (hl : t.length ≤ 10000) {r : Addr} (s : Same H H') (nr : H r = none) (er : H' r = some (.tup [.str wd, x])) : Sh P w K mg base 4 H' (.ref r) (tupleText [reprText wd, t]) := by
  have hz : (tupleText [reprText wd, t]).length ≤ sizeLine := by
    rw [two_len]
    exact Nat.le_trans (show _ ≤ 20000 by omega) big_line
  have hs : It P w K mg base 4 H' (.str wd) (reprText wd) := .str _ (Nat.le_trans hw (Nat.le_trans (by decide) big_line))
  have tup : It P w K mg base 4 H' x t → x ≠ .ref r → Sh P w K mg base 4 H' (.ref r) (tupleText [reprText wd, t]) := fun i n => .tup er (.cons hs (.cons i .nil)) (fun v hv => by
    simp only [List.mem_cons, List.not_mem_nil, or_false] at hv
    rcases hv with rfl | rfl
    · exact fun z => nomatch z
    · exact n) hz
  have ne : ∀ {a : Addr} {o : HO}, H a = some o → V.ref a ≠ V.ref r := fun e z => by
    cases z
    rw [nr] at e
    cases e
  cases h with
  | non => exact tup .non (fun z => nomatch z)
  | bl b => exact tup (.bl b) (fun z => nomatch z)
  | int i h => exact tup (.int i h) (fun z => nomatch z)
  | str z => exact tup (.str z (Nat.le_trans hl (Nat.le_trans (by decide) big_line))) (fun z => nomatch z)
  | emp h => exact tup (.emp (s _ _ h)) (ne h)
  | dat h a b c =>
    rename_i d
    have e : (PyData.tuple [.str wd, d]).shown = tupleText [reprText wd, d.shown] := by simp [PyData.shown, PyData.shownAll]
    rw [← e]
    refine .dat (.tup (SqT.of er) (.cons (.str _) (.cons (h H' (.of_same s)) .nil))) ?_ ?_ ?_ (by rw [e]; exact hz)
    · simp [PyData.showable, PyData.showableAll, a]
    · simp [PyData.hasDict, PyData.hasDictAll, b]
    · simp only [PyData.depth, PyData.depthAll]
      omega
  | task h n =>
    obtain ⟨⟨dx, e⟩, _⟩ := id h
    exact tup (.own S.rT (by decide) (s _ _ e) fun H2 s2 Q q => ⟨_, _, _, rfl, h.kt (.of_same (s.trans s2)), n, q H2 (Same.refl _)⟩) (ne e)
  | door h n =>
    obtain ⟨dx, e⟩ := id h
    exact tup (.own S.rD (by decide) (s _ _ e) fun H2 s2 Q q => ⟨_, _, _, _, rfl, ⟨dx, s2 _ _ (s _ _ e)⟩, n, q H2 (Same.refl _)⟩) (ne e)
  | crew h n =>
    obtain ⟨dx, tt, e, _⟩ := id h
    exact tup (.own S.rC (by decide) (s _ _ e) fun H2 s2 Q q => ⟨_, _, rfl, h.kt (.of_same (s.trans s2)), n, q⟩) (ne e)
/-- (i, j) as it is shown -/
theorem ints_sh {i j : Int} {r : Addr} (hi : i.natAbs.log2 < 1920) (hj : j.natAbs.log2 < 1920) (er : H r = some (.tup [.int i, .int j])) : Sh P w K mg base 4 H (.ref r) (tupleText [toString i, toString j]) := by
  refine .tup er (.cons (.int i hi) (.cons (.int j hj) .nil)) (fun v hv => by
    simp only [List.mem_cons, List.not_mem_nil, or_false] at hv
    rcases hv with rfl | rfl <;> exact fun z => nomatch z) ?_
  rw [two_len]
  have := int_len hi
  have := int_len hj
  exact Nat.le_trans (show _ ≤ 20000 by omega) big_line
/-- (word, (i, j)) as it is shown -/
theorem many_sh {wd : Str} (hw : (reprText wd).length ≤ 100) {i j : Int} {r r2 : Addr} (hi : i.natAbs.log2 < 1920) (hj : j.natAbs.log2 < 1920) (er : H r = some (.tup [.str wd, .ref r2])) (er2 : H r2 = some (.tup [.int i, .int j])) : Sh P w K mg base 4 H (.ref r) (tupleText [reprText wd, tupleText [toString i, toString j]]) := by
  have e : (PyData.tuple [.str wd, .tuple [.int i, .int j]]).shown = tupleText [reprText wd, tupleText [toString i, toString j]] := by simp [PyData.shown, PyData.shownAll]
  rw [← e]
  refine .dat (.tup (SqT.of er) (.cons (.str _) (.cons (.tup (SqT.of er2) (.cons (.int _) (.cons (.int _) .nil))) .nil))) ?_ ?_ ?_ ?_
  · simp [PyData.showable, PyData.showableAll, hi, hj]
  · simp [PyData.hasDict, PyData.hasDictAll]
  · simp only [PyData.depth, PyData.depthAll]
    omega
  · rw [e, two_len, two_len]
    have := int_len hi
    have := int_len hj
    exact Nat.le_trans (show _ ≤ 20000 by omega) big_line
theorem fix_lst {xs : List V} (h3 : xs.length ≠ 3) (h5 : xs.length ≠ 5) : Fix (.lst xs) := ⟨fun i j k z => by
  cases z
  exact h3 rfl, fun ys z => by
  cases z
  exact h5⟩
theorem crewText_len {ms : List Mem} (h : CrewOk ms) : (crewText ms).length ≤ 10000 := by
  have z := (crew_len h).1
  unfold crewText inText
  rw [strLen_append, strLen_append, strLen_append]
  have e1 : Str.empty.length ≤ 10 := by decide +kernel
  have e2 : ((")" : Str)).length ≤ 10 := by decide +kernel
  have e3 : (("Crew(" : Str)).length ≤ 10 := by decide +kernel
  omega
end
end Du

set_option Elab.async false
set_option linter.all false
set_option maxRecDepth 100000
set_option maxHeartbeats 1000000
namespace Du
open PySem PySem.Spec PyProof.Rows L2
open L2N (Zn)
/-- what __init__ leaves of a fresh exception at x, with two fields -/
structure ErrEnd2 (h h' : Heap) (x C dx : Addr) (f1 f2 : Str) (v u : Value) : Prop where
  keep : ∀ b o, b ≠ x → h.get? b = some o → h'.get? b = some o
  obj : ∃ t1 : Addr, h'.get? x = some { cls := .ref C, dict := some dx, data := .fields #[.ref t1, .none, .none, .none, .bool false, .none] }
  dbig : h.objs.size ≤ dx
  dne : dx ≠ x
  ns : h'.Ns1 dx (fun y => if y = f2 then some u else if y = f1 then some v else none)
structure ErrMade2 (h h' : Heap) (e C d : Addr) (f1 f2 : Str) (v u : Value) : Prop where
  keep : ∀ b o, h.get? b = some o → h'.get? b = some o
  new : h.objs.size ≤ e
  obj : ∃ oe vs, h'.get? e = some oe ∧ oe.cls = .ref C ∧ oe.dict = some d ∧ oe.data = .fields vs ∧ vs[1]? = some .none ∧ vs[2]? = some .none
  dbig : h.objs.size ≤ d
  dne : d ≠ e
  ns : h'.Ns1 d (fun y => if y = f2 then some u else if y = f1 then some v else none)
structure Err2 (P : Program) (w : World) (K : PySem.W.Frag) (mg : Str → Option Value) (x f1 f2 : Str) (C : Addr) : Prop where
  gC : mg x = some (.ref C)
  kC : PySem.W.keepIn K (.ref C) = true
  exC : PySem.W.subIn K (.ref C) (.type "BaseException") = some true
  tyC : PySem.W.typeIn K (.ref C) = some (.type "type")
  ga : PySem.W.findIn K (.ref C) "__getattribute__" = some (some (.builtin "BaseException.__getattribute__"))
  gg : PySem.W.findIn K (.ref C) "__getattr__" = some none
  noN : ∀ f ∈ [f1, f2], PySem.W.findIn K (.ref C) f = some none
  hdC : PySem.W.hasDictIn K C = true
  made : ∀ {A : Around} {R : Result → Shared → Prop} {s : Shared} {mb : Str → Option Value} {v u : Value}, K.In s.heap → s.heap.NoLimit → s.heap.Ns mainGlobals mg → s.heap.Ns builtinsNs mb → (∀ y : Str, y ≠ "__name__" → mb y = bootBuiltins y) → A.depth + 1 < recursionLimit →
    (∀ h' tk e d, ErrMade2 s.heap h' e C d f1 f2 v u → R (.ok (.ret (.ref e))) { s with heap := h', toks := tk }) → codeAny (model P w) A (.call (.ref C) ⟨[v, u], []⟩) R s
theorem relO_fld2 {v u : V} {v' u' : Value} {f1 f2 : Str} (r : RelV v v') (q : RelV u u') (f : Str) : RelO (List.lookup f [(f2, u), (f1, v)]) (if f = f2 then some u' else if f = f1 then some v' else none) := by
  by_cases h : f = f2
  · subst h
    rw [if_pos rfl, show List.lookup f [(f, u), (f1, v)] = some u by simp [List.lookup]]
    exact q
  · have e : (f == f2) = false := by simpa using h
    rw [if_neg h, show List.lookup f [(f2, u), (f1, v)] = List.lookup f [(f1, v)] by simp [List.lookup, e]]
    exact relO_fld r f
def tMkErr2 (C : Addr) (f1 f2 : Str) (ta : TA) : L2.St → Hp → XK → Prop := fun σ H Q => ta σ H fun vs H1 => ∃ v u, vs = [v, u] ∧ ∀ d, H1 d = none → Q (.ref C) (some d) (upd H1 d (.xd [(f2, u), (f1, v)]))
theorem pmk_err2 {X : Cx} {C : Addr} {x f1 f2 : Str} {a a' : Expr} {ta : TA} {p pos : Pos} {k : Nat} (T : Err2 X.prog X.w X.K X.mg x f1 f2 C) (hr : Room k X.A) (hg : Gl X x) (ha : PA X [a, a'] ta) (hdb : (x == ("__debug__" : Str)) = false := by decide)
    (he : starEach (a :: [a']) X.env = (false, eval a X.env) :: starEach [a'] X.env := by rfl) (hpl : (backTo pos (starEach [a'] X.env)).any (·.1) = false := by rfl) : L2N.PMk X (.Call (.Name x p) [a, a'] [] pos) (tMkErr2 C f1 f2 ta) := by
  intro pins s σ H Q I h
  refine wpAny_Call_Name_kw (ld_glob I hg T.gC (PySem.W.callWith_K (h₀ := X.base) I.ok.mod.kin T.kC (thn (ha.run pos pins s σ H _ I h) fun us s1 hh => ?_) he hpl) hdb)
  obtain ⟨vs, H1, I1, r1, v, u, rfl, q1⟩ := hh
  obtain ⟨v', u', rfl, rv, ru⟩ := vals2 r1
  refine ⟨I1.kIn, ?_⟩
  obtain ⟨mb, hb, hbb⟩ := I1.ok.mod.blt
  have hlim := I1.nolimit
  have G := I1.ok.mod.glob.keeps I1.bk
  have B := hb.keeps I1.bk
  show wpAny _ _ (call (.ref C) [v', u']) _ _ _
  refine wpAny_call (T.made I1.kIn hlim G B hbb (by have := hr.dp; omega) fun h' tk' e d M => ?_)
  obtain ⟨hp, g, dr, tk, os⟩ := s1
  show L2N.MkP X pins σ Q (.ref e) ⟨h', g, dr, tk', os⟩
  obtain ⟨oe, fv, hoe, hc, hd, hdat, h1, h2⟩ := M.obj
  obtain ⟨G', g1, g2⟩ := restrict h' fun b => decide (b ≠ e)
  have gk : ∀ b, b ≠ e → G'.get? b = h'.get? b := fun b hb => g1 b (decide_eq_true hb)
  have ge : G'.get? e = none := g2 e (by simp)
  have old : ∀ b o, hp.get? b = some o → G'.get? b = some o := fun b o q => (gk b (Nat.ne_of_lt (Nat.lt_of_lt_of_le (Heap.lt_size q) M.new))).trans (M.keep b o q)
  have J : Inv X pins σ (upd H1 d (.xd [(f2, u), (f1, v)])) ⟨G', g, dr, tk', os⟩ := I1.laid (t' := tk') old M.dbig ⟨_, M.ns.at (fun o q => (gk d M.dne).trans q), fun f => relO_fld2 rv ru f⟩
  refine ⟨e, oe, fv, ⟨G', g, dr, tk', os⟩, _, .ref C, some d, rfl, J, fun b o q => ?_, ge, hoe, ⟨hc, hd, fun vs ev => ?_⟩, hdat, h1, ?_, rfl, I1.bare, raises_own T.exC T.tyC, q1 d (I1.hok.fresh M.dbig)⟩
  · by_cases hb : b = e
    · rw [hb] at q
      cases ge.symm.trans q
    · exact (gk b hb).symm.trans q
  · cases hdat.symm.trans ev
    exact h2
  · rw [upd_ne (Ne.symm M.dne)]
    exact I1.hok.fresh M.new
/-- raise X(e, e') -/
theorem ps_raiseErr2 {X : Cx} {C : Addr} {x f1 f2 : Str} {a a' : Expr} {ta : TA} {W : WX} {p pos pos2 : Pos} {k : Nat} (hc : X.calm = true) (T : Err2 X.prog X.w X.K X.mg x f1 f2 C) (hr : Room k X.A) (tk : L2N.Takes X W) (hg : Gl X x) (ha : PA X [a, a'] ta) (hdb : (x == ("__debug__" : Str)) = false := by decide)
    (he : starEach (a :: [a']) X.env = (false, eval a X.env) :: starEach [a'] X.env := by rfl) (hpl : (backTo pos (starEach [a'] X.env)).any (·.1) = false := by rfl) :
    PS X (.Raise (some (.Call (.Name x p) [a, a'] [] pos)) none pos2) (fun _ σ H => tMkErr2 C f1 f2 ta σ H fun cls d H' => W cls d σ H') := L2N.ps_raise hc tk (pmk_err2 T hr hg ha hdb he hpl)
end Du

set_option Elab.async false
set_option linter.all false
set_option maxRecDepth 100000
set_option maxHeartbeats 1000000
namespace Du
open PySem PySem.W PySem.Calls PyProof.Rows PySem.HandSPX
open L2 (defArgs defBody defScope inClass)
abbrev sTooMany : Stmt := inClass (topS 10) 0
section
variable {prog : Program} {w : World} {A : Around} {E : Value → Shared → Prop} {R : Result → Shared → Prop} {s : Shared} {K : Frag} {mg mb : Str → Option Value} {C fI : Addr} {nm qual : Str}
theorem init_TooMany (T : ErrB prog K mg "ArithmeticError" "ArithmeticError.__new__" "ArithmeticError.__init__" aeM nm ["many", "most"] qual sTooMany C fI) {x t0 : Addr} {v u : Value} (X : K.In s.heap) (hlim : s.heap.NoLimit) (G : s.heap.Ns mainGlobals mg) (Bn : s.heap.Ns builtinsNs mb) (hbb : ∀ y : Str, y ≠ "__name__" → mb y = bootBuiltins y)
    (hx : s.heap.get? x = some (excO C t0)) (hnx : K.lookup x = none) (hroom : A.depth < recursionLimit) (hq : ∀ h' tk dx, ErrEnd2 s.heap h' x C dx "many" "most" v u → R (.ok (.ret .none)) { s with heap := h', toks := tk }) : codeAny (model prog w) A (.call (.ref fI) ⟨[.ref x, v, u], []⟩) R s := by
  obtain ⟨oc, od, doc, pm, an, cda, cc, ct, osl, ccl, cl, cdd, cld, ccs, csl, vs, file, tf, lk, hcd, hcode, hvs, hfile, hcell⟩ := T.fn
  obtain ⟨nm', q', N', bs, bc, sn, sub, ab, col, dd, k0, k1, k2, k3, k5, hC, hbm⟩ := T.cls
  have hcl : clsIn K C = some { name := nm', bases := bs, mro := .ref C :: bc, ns := N', qualname := q', hasDict := true, slotNames := sn, subclasses := sub, abstract := ab, collection := col, hasDel := false } := by unfold clsIn; rw [hC] <;> rfl
  have hov : excOver K C aeM = true := by
    unfold excOver
    rw [hcl]
    show (C == C && excTail aeM bc) = true
    rw [hbm]
    simp
  have nocell : ∀ y ∈ (defScope sTooMany).names, y.2 ≠ .cell := by decide +kernel
  refine ks_codeAny_call_defAt (binds := [(("self" : Str), Value.ref x), ("many", v), ("most", u)]) hroom (X _ _ lk) rfl hlim (codeRec_of X hcd) rfl (BindsTo.of_eq rfl) nocell (fun y hy => ?_) (fun h1 hn k => ?_)
  · simp only [List.mem_cons, List.not_mem_nil, or_false] at hy
    rcases hy with rfl | rfl | rfl
    · rfl
    · rfl
    · rfl
  have X1 : K.In h1 := X.keeps k
  have hx1 := k _ _ hx
  have I1 : InstAt h1 x (excO C t0) C none := ⟨hx1, rfl, rfl, trivial⟩
  obtain ⟨oD, hD1, cdD, hD2⟩ : ∃ oD, h1.get? C = some oD ∧ ∃ cd, oD.data = .cls cd := ⟨_, X1 _ _ hC, _, rfl⟩
  refine ks_wpAt_execs_cons (ks_wpAt_Expr_any (ks_wpAt_MethodCall ?_))
  refine ks_wpAt_super_base rfl rfl (by decide) rfl (X1 _ _ lk) rfl rfl rfl (X1 _ _ hcode) rfl hvs hfile T.top ?_
  refine ks_loadName_global rfl rfl (loadGlobal_builtin (G.keeps k) T.mS (Bn.keeps k) ((hbb _ (by decide)).trans PyProof.Rows.Boot.«super») ⟨rfl, ?_⟩)
  refine wpAny_loadName_free rfl rfl rfl ⟨_, X1 _ _ hcell, rfl⟩ (wpAny_loadName_local rfl rfl hn rfl ?_)
  refine ks_wpAny_isType_cls hD1 hD2 ⟨rfl, ?_⟩
  refine ks_wpAny_call_super hD1 hD2 hx1 rfl (fun c e => by cases e) (looks_mroIn X1 T.mro) (fun h2 hso k2 => ?_)
  have X2 : K.In h2 := X1.keeps k2
  have hx2 := k2 _ _ hx1
  have I2 : InstAt h2 x (excO C t0) C none := ⟨hx2, rfl, rfl, trivial⟩
  have hm := T.sup
  unfold ks_superIn at hm
  rw [hcl] at hm
  have hmro : W.Looks (model prog w) h2 (mroOf (.ref C)) (.ref C :: bc) := (looks_clsIn X2 hcl).andThen .now
  refine kxs_getMethod base_AE.kxs hso (looks_opaque X2 T.any) hmro rfl X2 hm (I2.type.andThen (looks_subIn X2 T.veC)) (ks_ne X2 I2 hcl) (by decide) ?_
  have k3 : ∀ b o, h2.get? b = some o → (h2.push (kxs_mw "ArithmeticError.__init__" x)).get? b = some o := fun b o e => Heap.get?_push_of_some _ e
  refine kxs_callWith (i := "ArithmeticError.__init__") (x := x) rfl (evalArgs_plain (args_cons (Calls.Constant_str (args_nil ⟨Heap.get?_push_at rfl rfl, ?_⟩))))
  refine call_mw base_AE.exc (k3 _ _ (X2 _ _ hC)) (k3 _ _ hx2) (Heap.get?_push_at rfl rfl) (by show 1 ≤ sizeLine; decide) fun h4 t1 k4 hx4 => ?_
  have kx : ∀ b o, b ≠ x → h1.get? b = some o → h4.get? b = some o := fun b o hb e => k4 b o hb (k3 b o (k2 b o e))
  have X4 : K.In h4 := fun b o e => kx b o (fun z => by rw [z, hnx] at e; cases e) (X1 b o e)
  have hL : s.heap.objs.size ≠ x := Nat.ne_of_gt (Heap.lt_size hx)
  obtain ⟨oL, esL, epL, eL, rL⟩ := id hn
  have hn4 : h4.Ns s.heap.objs.size _ := ⟨oL, esL, epL, kx _ _ hL eL, rL⟩
  have z : s.heap.objs.size < h4.objs.size := hn4.lt
  refine ks_wpAt_execs_cons (ks_wpAt_Assign_Attr (wpAt_of_wpAny (wpAny_Name (wpAny_loadName_local rfl rfl hn4 rfl (wpAny_Name (wpAny_loadName_local rfl rfl hn4 rfl ?_) (by decide))) (by decide))))
  refine set_plain X4 (ox := excO C t1) (od := none) ⟨hx4, rfl, rfl, trivial⟩ T.sa ?_
  refine osaN base_AE X4 hx4 hcl rfl hov (T.noN _ (by simp)) (fun h5 tk5 dx k5 dn dne hx5 hn5 => ?_)
  have dn' : h4.objs.size ≤ dx := dn
  have X5 : K.In h5 := fun b o e => k5 b o (fun z => by rw [z, hnx] at e; cases e) (X4 b o e)
  have hn5L : h5.Ns s.heap.objs.size _ := ⟨oL, esL, epL, k5 _ _ hL (kx _ _ hL eL), rL⟩
  refine ks_wpAt_execs_cons (ks_wpAt_Assign_Attr (wpAt_of_wpAny (wpAny_Name (wpAny_loadName_local rfl rfl hn5L rfl (wpAny_Name (wpAny_loadName_local rfl rfl hn5L rfl ?_) (by decide))) (by decide))))
  obtain ⟨oD5, esD5, epD5, eD5, _⟩ := id hn5
  have dn' : h4.objs.size ≤ dx := dn
  refine set_plain X5 (od := some oD5) ⟨hx5, rfl, rfl, eD5⟩ T.sa ?_
  refine osaM base_AE X5 hx5 hn5 (Within.cons _ _ Within.nil) (by decide) hcl rfl hov (T.noN _ (by simp)) (fun h6 tk6 k6 hn6 => ?_)
  refine wpAt_of_wpAny (wpAny_execs_nil (hq h6 tk6 dx ⟨fun b o hb e => ?_, ⟨t1, k6 _ _ dne.symm hx5⟩, by omega, dne, hn6⟩))
  have : b ≠ dx := Nat.ne_of_lt (Nat.lt_of_lt_of_le (Heap.lt_size e) (Nat.le_trans (Nat.le_of_lt z) dn'))
  exact k6 b o this (k5 b o hb (kx b o hb (k b o e)))
theorem made_TooMany (T : ErrB prog K mg "ArithmeticError" "ArithmeticError.__new__" "ArithmeticError.__init__" aeM nm ["many", "most"] qual sTooMany C fI) {v u : Value} (X : K.In s.heap) (hlim : s.heap.NoLimit) (G : s.heap.Ns mainGlobals mg) (Bn : s.heap.Ns builtinsNs mb) (hbb : ∀ y : Str, y ≠ "__name__" → mb y = bootBuiltins y) (hroom : A.depth + 1 < recursionLimit)
    (hq : ∀ h' tk e d, ErrMade2 s.heap h' e C d "many" "most" v u → R (.ok (.ret (.ref e))) { s with heap := h', toks := tk }) : codeAny (model prog w) A (.call (.ref C) ⟨[v, u], []⟩) R s := by
  obtain ⟨nm', q', N', bs, bc, sn, sub, ab, col, dd, k0, k1, k2, k3, k5, hC, hbm⟩ := T.cls
  obtain ⟨hp, g, dr, tk, os⟩ := s
  have k : ∀ b o, hp.get? b = some o → ((hp.push (kdv_tup [v, u])).push (excO C hp.objs.size)).get? b = some o := fun b o e => Heap.get?_push_of_some _ (Heap.get?_push_of_some _ e)
  have hget : ((hp.push (kdv_tup [v, u])).push (excO C hp.objs.size)).get? (hp.objs.size + 1) = some (excO C hp.objs.size) := by heap_get
  have hnx : K.lookup (hp.objs.size + 1) = none := by
    cases e : K.lookup (hp.objs.size + 1) with
    | none => rfl
    | some o => exact absurd (Nat.lt_of_succ_lt (Heap.lt_size (show hp.get? (hp.objs.size + 1) = some o from X _ _ e))) (Nat.lt_irrefl _)
  refine call_own base_AE.exc (fun X => excTail_contains X bc hbm) (X _ _ hC) (looks_findIn X T.iC) (fun self => bind_fn X self T.tC) (by show 2 ≤ sizeLine; decide) ?_
  refine init_TooMany (s := ⟨(hp.push (kdv_tup [v, u])).push (excO C hp.objs.size), g, dr, tk, os⟩) T (X.keeps k) (hlim.keeps k) (G.keeps k) (Bn.keeps k) hbb hget hnx hroom fun h' tk' dx m => ?_
  obtain ⟨k', ⟨t1, hx⟩, dn, dne, hns⟩ := m
  have z : hp.objs.size + 1 + 1 ≤ dx := by
    have q := dn
    rw [Heap.size_push, Heap.size_push] at q
    exact q
  exact ⟨rfl, hq h' tk' (hp.objs.size + 1) dx ⟨fun b o e => k' b o (Nat.ne_of_lt (Nat.lt_succ_of_lt (Heap.lt_size e))) (k b o e), Nat.le_succ _, ⟨_, _, hx, rfl, rfl, rfl, rfl, rfl⟩, Nat.le_trans (Nat.le_trans (Nat.le_succ _) (Nat.le_succ _)) z, dne, hns⟩⟩
end
theorem err2_ofTooMany {P : Program} {w : World} {K : PySem.W.Frag} {mg : Str → Option Value} {x qual : Str} {C fI : Addr} (T : ErrB P K mg "ArithmeticError" "ArithmeticError.__new__" "ArithmeticError.__init__" aeM x ["many", "most"] qual sTooMany C fI) : Err2 P w K mg x "many" "most" C :=
  ⟨T.gC, T.kC, T.exC, T.tyC, T.ga, T.gg, T.noN, T.hdC, fun X l G B hb hr q => made_TooMany T X l G B hb hr q⟩
end Du

set_option Elab.async false
set_option linter.all false
set_option maxRecDepth 100000
namespace Du
open PySem L2
abbrev sCost : Stmt := topS 40
abbrev sCommon : Stmt := topS 41
abbrev sAdded : Stmt := topS 42
abbrev sShared : Stmt := topS 52
abbrev sLoad : Stmt := inClass (topS 43) 5
abbrev sStretch : Stmt := inClass (topS 43) 6
/-- the class Crew and its making -/
structure CrewM (P : Program) (w : World) (K : PySem.W.Frag) (mg : Str → Option Value) (base : Heap) (CT CD CC : Addr) : Prop where
  M : MemC K mg CT CD
  c : CrewC K mg CC
  ex : ∃ (f : Addr) (fd : FuncData), Mk K CC f ∧ FnOk P w K mg base CX0 5 f fd ["self", "members"] (spCInit K CT CD CC) ∧ Binds K fd ["self", "members"] []
theorem kc1 {K : PySem.W.Frag} {e0 f : Addr} {fd : FuncData} (F : FunCI K e0 f fd) : Binds K fd ["self", "members"] [] := by
  obtain ⟨ds, h1, h2⟩ := FunD.binds1 (ps := ["self", "members"]) F 2 1 (by simp) rfl fun T kV doc pm an cdv ct us its h1 h2 => match us, its, h1, h2 with | [_, _], [_], _, _ => ⟨_, rfl, rfl⟩
  cases (show Vals [] ds from h1)
  exact h2
/-! gcd -/
def spGcd : Sp := fun vs H Q _ => ∃ a b : Nat, vs = [.int a, .int b] ∧ Q (.int (Nat.gcd a b)) H
theorem mod_lt {a b : Nat} (h : b ≠ 0) : ((a : Int) % (b : Int)) = ((a % b : Nat) : Int) := by omega
section
variable {P : Program} {w : World} {K : PySem.W.Frag} {mg : Str → Option Value} {base : Heap} {CT CD CC : Addr}
theorem scCommon : FnScope ["number", "other"] ["number", "other"] (defScope sCommon) := ⟨rfl, rfl, rfl, by decide +kernel, rfl, by decide +kernel, by decide +kernel⟩
theorem ok_common {f : Addr} {fd : FuncData} (F : Fun K "common_part" "common_part" sCommon f fd) : FnOk P w K mg base CX0 3 f fd ["number", "other"] spGcd := by
  refine F.ok scCommon (fun vs H Q E h => ?_) (fun cdv A outer s H vs Q E hr h => ?_)
  · obtain ⟨a, b, rfl, _⟩ := h
    rfl
  · obtain ⟨a, b, rfl, q⟩ := h
    refine ⟨_, (pss_cons (ps_while PassesOwn.never (pt_cmpR op_ne (pv 1) pe_int (nomark _)) (pss_one (ps_par (i := 0) (j := 1) rfl scCommon.nd rfl rfl (by decide) rfl rfl (pa_cons (pv 1) (pa_cons (pe_op op_mod (pv 0) (pv 1)) pa_nil)) (by rfl)))) (pss_one (ps_ret (pv 0)))), ?_⟩
    refine while_by (fun σ H' => ∃ x y : Nat, σ = [some (.int x), some (.int y)] ∧ H' = H ∧ Nat.gcd x y = Nat.gcd a b) (fun σ _ => match σ with | [_, some (.int y)] => y.toNat | _ => 0) ⟨a, b, rfl, rfl, rfl⟩ ?_ ?_
    · rintro σ H' ⟨x, y, rfl, rfl, hg⟩
      refine ⟨_, rfl, rfl, _, rfl, ?_⟩
      by_cases hy : y = 0
      · subst hy
        rw [decide_eq_true (by rfl : V.int ((0 : Nat) : Int) = V.int 0)]
        refine ⟨_, rfl, ?_⟩
        rw [Nat.gcd_zero_right] at hg
        rw [hg]
        exact q
      · have hd : decide (V.int (y : Int) = V.int 0) = false := decide_eq_false fun h => hy (by have := V.int.inj h; omega)
        rw [hd]
        refine ⟨_, rfl, _, rfl, _, rfl, _, _, rfl, rfl, by omega, _, _, rfl, ⟨y, x % y, ?_, rfl, ?_⟩, ?_⟩
        · show [some (V.int (y : Int)), some (V.int ((x : Int) % (y : Int)))] = _
          rw [mod_lt hy]
        · rw [← hg, Nat.gcd_comm x y, Nat.gcd_rec y x, Nat.gcd_comm]
        · show ((x : Int) % (y : Int)).toNat < (y : Int).toNat
          have := Nat.mod_lt x (Nat.pos_of_ne_zero hy)
          rw [mod_lt hy]
          omega
    · rintro σ H Q Q' hm ⟨v, h1, h2, b, h3, h4⟩
      exact ⟨v, h1, h2, b, h3, hm _ _ h4⟩
theorem scShared : FnScope ["_law_one", "_law_other"] ["_law_one", "_law_other"] (defScope sShared) := ⟨rfl, rfl, rfl, by decide +kernel, rfl, by decide +kernel, by decide +kernel⟩
theorem ok_shared {f : Addr} {fd : FuncData} (F : Fun K "_law_shared" "_law_shared" sShared f fd) : FnOk P w K mg base CX0 3 f fd ["_law_one", "_law_other"] spGcd := by
  refine F.ok scShared (fun vs H Q E h => ?_) (fun cdv A outer s H vs Q E hr h => ?_)
  · obtain ⟨a, b, rfl, _⟩ := h
    rfl
  · obtain ⟨a, b, rfl, q⟩ := h
    refine ⟨_, (pss_cons (ps_while PassesOwn.never (pt_cmpR op_gt (pv 1) pe_int (nomark _)) (pss_one (ps_par (i := 0) (j := 1) rfl scShared.nd rfl rfl (by decide) rfl rfl (pa_cons (pv 1) (pa_cons (pe_op op_mod (pv 0) (pv 1)) pa_nil)) (by rfl)))) (pss_one (ps_ret (pv 0)))), ?_⟩
    refine while_by (fun σ H' => ∃ x y : Nat, σ = [some (.int x), some (.int y)] ∧ H' = H ∧ Nat.gcd x y = Nat.gcd a b) (fun σ _ => match σ with | [_, some (.int y)] => y.toNat | _ => 0) ⟨a, b, rfl, rfl, rfl⟩ ?_ ?_
    · rintro σ H' ⟨x, y, rfl, rfl, hg⟩
      refine ⟨_, rfl, _, _, rfl, rfl, _, rfl, ?_⟩
      by_cases hy : y = 0
      · subst hy
        rw [decide_eq_false (by omega : ¬ (((0 : Nat) : Int) > 0))]
        refine ⟨_, rfl, ?_⟩
        rw [Nat.gcd_zero_right] at hg
        rw [hg]
        exact q
      · rw [decide_eq_true (by omega : (y : Int) > 0)]
        refine ⟨_, rfl, _, rfl, _, rfl, _, _, rfl, rfl, by omega, _, _, rfl, ⟨y, x % y, ?_, rfl, ?_⟩, ?_⟩
        · show [some (V.int (y : Int)), some (V.int ((x : Int) % (y : Int)))] = _
          rw [mod_lt hy]
        · rw [← hg, Nat.gcd_comm x y, Nat.gcd_rec y x, Nat.gcd_comm]
        · show ((x : Int) % (y : Int)).toNat < (y : Int).toNat
          have := Nat.mod_lt x (Nat.pos_of_ne_zero hy)
          rw [mod_lt hy]
          omega
    · rintro σ H Q Q' hm ⟨v, h1, i, j, h2, h3, b, h4, h5⟩
      exact ⟨v, h1, i, j, h2, h3, b, h4, hm _ _ h5⟩
/-! cost_of -/
def Mem.cost : Mem → Int
  | .task v => v.cost
  | .door _ r _ => r
def Mem.gap : Mem → Int
  | .task v => v.gap
  | .door _ _ g => g
theorem Mem.b {m : Mem} (h : m.ok) : (1 ≤ m.cost ∧ m.cost ≤ 99) ∧ (1 ≤ m.gap ∧ m.gap ≤ 600) := by
  cases m with
  | task v => exact ⟨h.2.1, h.2.2.1⟩
  | door n r g => exact ⟨h.2.1, h.2.2⟩
theorem scCost : FnScope ["member"] ["member"] (defScope sCost) := ⟨rfl, rfl, rfl, by decide +kernel, rfl, by decide +kernel, by decide +kernel⟩
def spCost (K : PySem.W.Frag) (CT CD : Addr) : Sp := fun vs H Q _ => ∃ (x : Addr) (m : Mem), vs = [.ref x] ∧ MemAt K CT CD H x m ∧ ∀ H', Same H H' → Q (.int m.cost) H'
theorem ok_cost {f : Addr} {fd : FuncData} (F : Fun K "cost_of" "cost_of" sCost f fd) (M : MemC K mg CT CD) (mI : mg "isinstance" = none) (oT : PySem.W.kitOne K (.ref CT) (.ref CD) = some false) (oD : PySem.W.kitOne K (.ref CD) (.ref CD) = some true) : FnOk P w K mg base CX0 3 f fd ["member"] (spCost K CT CD) := by
  refine F.ok scCost (fun vs H Q E h => ?_) (fun cdv A outer s H vs Q E hr h => ?_)
  · obtain ⟨x, m, rfl, _⟩ := h
    rfl
  · obtain ⟨x, m, rfl, hx, q⟩ := h
    refine ⟨_, (pss_one (ps_ret (pe_ifExp (pt_val (pe_callB call_isi (by rfl) mI (by decide +kernel) (pa_cons (pv 0) (pa_cons (pe_glob (v := .ref CD) rfl M.D.mg rfl) pa_nil)))) (pe_fld (pv 0) rfl) (pe_fld (pv 0) rfl)))), ?_⟩
    cases m with
    | task v =>
      obtain ⟨a, ⟨dx, e⟩, hh⟩ := hx
      refine ⟨_, rfl, _, _, .ref CT, _, false, rfl, .own _, .base (.ins e M.T.cl M.T.kc M.T.kg M.T.kt M.T.km), oT, _, rfl, iteF ?_⟩
      exact ⟨_, rfl, x, CT, dx, _, _, rfl, e, M.T.cl, M.T.nC, rfl, q H (Same.refl _)⟩
    | door n r g =>
      obtain ⟨dx, e⟩ := hx
      refine ⟨_, rfl, _, _, .ref CD, _, true, rfl, .own _, .base (.ins e M.D.cl M.D.kc M.D.kg M.D.kt M.D.km), oD, _, rfl, iteT ?_⟩
      exact ⟨_, rfl, x, CD, dx, _, _, rfl, e, M.D.cl, M.D.nR, rfl, q H (Same.refl _)⟩
end
end Du

set_option Elab.async false
set_option linter.all false
set_option maxRecDepth 100000
namespace Du
open PySem L2
/-! the load -/
def ldS (p : Nat × Nat) (m : Mem) : Nat × Nat := (p.1 * m.gap.toNat + m.cost.toNat * p.2, p.2 * m.gap.toNat)
def ld (ms : List Mem) : Nat × Nat := ms.foldl ldS (0, 1)
theorem ld_snoc (ms : List Mem) (m : Mem) : ld (ms ++ [m]) = ldS (ld ms) m := by
  unfold ld
  rw [List.foldl_append]
  rfl
theorem snoc_ind {α : Type} {p : List α → Prop} (h0 : p []) (hs : ∀ l a, p l → p (l ++ [a])) (l : List α) : p l := by
  have z : ∀ r : List α, p r.reverse := fun r => by
    induction r with
    | nil => exact h0
    | cons a r ih =>
      rw [List.reverse_cons]
      exact hs _ _ ih
  have := z l.reverse
  rwa [List.reverse_reverse] at this
theorem ld_b {ms : List Mem} (h : ∀ m ∈ ms, m.ok) : 0 < (ld ms).2 ∧ (ld ms).2 ≤ 1024 ^ ms.length ∧ (ld ms).1 ≤ 100 * ms.length * 1024 ^ ms.length := by
  revert h
  refine snoc_ind (p := fun ms : List Mem => (∀ m ∈ ms, m.ok) → 0 < (ld ms).2 ∧ (ld ms).2 ≤ 1024 ^ ms.length ∧ (ld ms).1 ≤ 100 * ms.length * 1024 ^ ms.length) (fun _ => by decide) (fun ms m ih h => ?_) ms
  · obtain ⟨i1, i2, i3⟩ := ih fun k hk => h k (by simp [hk])
    obtain ⟨⟨b1, b2⟩, b3, b4⟩ := Mem.b (h m (by simp))
    rw [ld_snoc, List.length_append, List.length_singleton, Nat.pow_succ]
    unfold ldS
    generalize 1024 ^ ms.length = Z at *
    generalize (ld ms).1 = t at *
    generalize (ld ms).2 = b at *
    generalize ms.length = k at *
    have hg1 : 1 ≤ m.gap.toNat := by omega
    have hg2 : m.gap.toNat ≤ 1024 := by omega
    have hc2 : m.cost.toNat ≤ 99 := by omega
    generalize m.gap.toNat = g at *
    generalize m.cost.toNat = c at *
    refine ⟨Nat.mul_pos i1 (by omega), Nat.mul_le_mul i2 hg2, ?_⟩
    have a1 : t * g ≤ (100 * k * Z) * 1024 := Nat.mul_le_mul i3 hg2
    have a2 : c * b ≤ 99 * Z := Nat.mul_le_mul hc2 i2
    have a3 : 100 * (k + 1) * (Z * 1024) = (100 * k * Z) * 1024 + 100 * (Z * 1024) := by
      rw [Nat.mul_add, Nat.mul_one, Nat.add_mul, Nat.mul_assoc (100 * k) Z 1024]
    show t * g + c * b ≤ 100 * (k + 1) * (Z * 1024)
    omega
theorem pow_le {k : Nat} (h : k ≤ 8) : (1024 : Nat) ^ k ≤ 2 ^ 80 := Nat.le_trans (Nat.pow_le_pow_right (by decide) h) (by decide)
theorem ld_w {ms : List Mem} (h : ∀ m ∈ ms, m.ok) (h8 : ms.length ≤ 8) : 0 < (ld ms).2 ∧ (ld ms).2 < 2 ^ 100 ∧ (ld ms).1 < 2 ^ 100 := by
  obtain ⟨a, b, c⟩ := ld_b h
  have p := pow_le h8
  have q : 100 * ms.length * 1024 ^ ms.length ≤ 800 * 2 ^ 80 := Nat.mul_le_mul (by omega) p
  have r : 800 * 2 ^ 80 < 2 ^ 100 := by decide
  have s : 2 ^ 80 < 2 ^ 100 := by decide
  exact ⟨a, by omega, by omega⟩
section
variable {P : Program} {w : World} {K : PySem.W.Frag} {mg : Str → Option Value} {base : Heap} {CT CD CC : Addr}
theorem mem_gap {H : Hp} {x : Addr} {m : Mem} (M : MemC K mg CT CD) (h : MemAt K CT CD H x m) : ∃ (C dx : Addr) (fs : List (Str × V)), H x = some (.ins C dx fs) ∧ Cls K C ∧ NoAttr K C "gap" ∧ fs.lookup ("gap" : Str) = some (V.int m.gap) := by
  cases m with
  | task v =>
    obtain ⟨a, ⟨dx, e⟩, _⟩ := h
    exact ⟨CT, dx, _, e, M.T.cl, M.T.nG, rfl⟩
  | door n r g =>
    obtain ⟨dx, e⟩ := h
    exact ⟨CD, dx, _, e, M.D.cl, M.D.nG, df_gap _ _ _⟩
/-! added -/
/-- pairs of numbers, in a row -/
def Prs (H : Hp) (ys : List V) (ms : List Mem) : Prop := ys.length = ms.length ∧ ∀ (i : Nat) y m, ys[i]? = some y → ms[i]? = some m → ∃ x, y = .ref x ∧ H x = some (.tup [.int m.cost, .int m.gap])
theorem Prs.at {H : Hp} {ys : List V} {ms : List Mem} (h : Prs H ys ms) {i : Nat} {y : V} (e : ys[i]? = some y) : ∃ x m, y = .ref x ∧ ms[i]? = some m ∧ H x = some (.tup [.int m.cost, .int m.gap]) := by
  have hi := (List.getElem?_eq_some_iff.mp e).1
  have e2 : ms[i]? = some (ms[i]'(h.1 ▸ hi)) := List.getElem?_eq_getElem _
  obtain ⟨x, ex, q⟩ := h.2 i y _ e e2
  exact ⟨x, _, ex, e2, q⟩
theorem Prs.kt {H H' : Hp} {ys : List V} {ms : List Mem} (h : Prs H ys ms) (s : Kt H H') : Prs H' ys ms := ⟨h.1, fun i y m e1 e2 => by
  obtain ⟨x, e, q⟩ := h.2 i y m e1 e2
  exact ⟨x, e, s _ _ q (fun _ z => nomatch z)⟩⟩
theorem Prs.add {H : Hp} {ys : List V} {ms : List Mem} {x : Addr} {m : Mem} (h : Prs H ys ms) (q : H x = some (.tup [.int m.cost, .int m.gap])) : Prs H (ys ++ [.ref x]) (ms ++ [m]) := by
  refine ⟨by rw [List.length_append, List.length_append, h.1]; rfl, fun i y u e1 e2 => ?_⟩
  by_cases hi : i < ys.length
  · rw [List.getElem?_append_left hi] at e1
    rw [List.getElem?_append_left (h.1 ▸ hi)] at e2
    exact h.2 i y u e1 e2
  · rw [List.getElem?_append_right (by omega)] at e1
    rw [List.getElem?_append_right (by rw [← h.1]; omega), ← h.1] at e2
    have z : i - ys.length = 0 := by
      have := (List.getElem?_eq_some_iff.mp e1).1
      simp at this
      omega
    rw [z] at e1 e2
    cases e1
    cases e2
    exact ⟨x, rfl, q⟩
abbrev nAdded : List Str := ["shares", "top", "bottom", "above", "below", "common"]
theorem scAdded : FnScope nAdded ["shares"] (defScope sAdded) := ⟨rfl, rfl, rfl, by decide +kernel, rfl, by decide +kernel, by decide +kernel⟩
/-- a fraction at its lowest -/
def low (p : Nat × Nat) : Nat × Nat := (p.1 / Nat.gcd p.1 p.2, p.2 / Nat.gcd p.1 p.2)
def spLoad (K : PySem.W.Frag) (CT CD CC : Addr) : Sp := fun vs H Q _ => ∃ (c : Addr) (ms : List Mem), vs = [.ref c] ∧ CrewAt K CT CD CC H c ms ∧ CrewOk ms ∧ ∀ r H', Same H H' → H r = none → H' r = some (.tup [.int (low (ld ms)).1, .int (low (ld ms)).2]) → Q (.ref r) H'
theorem gcd_w {a b : Nat} (h : 0 < b) (h1 : b < 2 ^ 100) : CDivW (a : Int) ((Nat.gcd a b : Nat) : Int) :=
  wide_div (b := 100) (by have := Nat.gcd_pos_of_pos_right a h; omega) (by
    have := Nat.le_of_dvd h (Nat.gcd_dvd_right a b)
    rw [Int.natAbs_natCast]
    omega) (by decide) (by decide)
def spAdded (K : PySem.W.Frag) : Sp := fun vs H Q _ => ∃ (L : Addr) (ys : List V) (ms : List Mem), vs = [.ref L] ∧ SqL K H L ys ∧ Prs H ys ms ∧ (∀ m ∈ ms, m.ok) ∧ ms.length ≤ 8 ∧ ∀ r H', Same H H' → H r = none → H' r = some (.tup [.int (low (ld ms)).1, .int (low (ld ms)).2]) → Q (.ref r) H'
theorem ok_added {f : Addr} {fd : FuncData} (F : Fun K "added" "added" sAdded f fd) (DG : Dn P w K mg base 3 "common_part" ["number", "other"] spGcd) : FnOk P w K mg base CX0 4 f fd ["shares"] (spAdded K) := by
  refine F.ok scAdded (fun vs H Q E h => ?_) (fun cdv A outer s H vs Q E hr h => ?_)
  · obtain ⟨L, ys, ms, rfl, _⟩ := h
    rfl
  · obtain ⟨L, ys, ms, rfl, hS, hms, hall, h8, q⟩ := h
    refine ⟨_, (pss_cons (ps_set (i := 1) scAdded.nd rfl (.inl rfl) pe_int) (pss_cons (ps_set (i := 2) scAdded.nd rfl (.inl rfl) pe_int) (pss_cons (ps_for PassesOwn.never rfl (pi_list (pv 0)) (pg_tup rfl (pgs_cons (pg_name (i := 3) scAdded.nd rfl (.inl rfl)) (pgs_cons (pg_name (i := 4) scAdded.nd rfl (.inl rfl)) pgs_nil)))
        (pss_cons (ps_set (i := 1) scAdded.nd rfl (.inl rfl) (pe_op op_add (pe_op op_mulW (pv 1) (pv 4)) (pe_op op_mulW (pv 3) (pv 2)))) (pss_one (ps_set (i := 2) scAdded.nd rfl (.inl rfl) (pe_op op_mulW (pv 2) (pv 4)))))) (pss_cons (ps_set (i := 5) scAdded.nd rfl (.inl rfl) (pcall DG hr (by rfl) (pa_cons (pv 1) (pa_cons (pv 2) pa_nil)))) (pss_one (ps_ret (pe_tup (pa_cons (pe_op op_fdivW (pv 1) (pv 5)) (pa_cons (pe_op op_fdivW (pv 2) (pv 5)) pa_nil))))))))), ?_⟩
    refine ⟨_, rfl, L, rfl, ⟨_, hS⟩, for_list (K := K) (a := L) (xs := ys) (fun j σ H' => ∃ v3 v4 : Option V, σ = [some (.ref L), some (.int ((ld (ms.take j)).1 : Nat)), some (.int ((ld (ms.take j)).2 : Nat)), v3, v4, none] ∧ H' = H) ⟨_, _, rfl, rfl⟩ ?_ ?_ ?_⟩
    · rintro j σ H2 _ ⟨_, _, _, rfl⟩
      exact hS
    · rintro j y σ H2 hy ⟨v3, v4, rfl, rfl⟩
      obtain ⟨x, m, rfl, em, hx⟩ := hms.at hy
      have hmo := hall m (List.mem_of_getElem? em)
      obtain ⟨⟨b1, b2⟩, b3, b4⟩ := Mem.b hmo
      have hw := ld_w (ms := ms.take j) (fun k hk => hall k (List.mem_of_mem_take hk)) (Nat.le_trans (List.length_take_le _ _) (by have := (List.getElem?_eq_some_iff.mp em).1; omega))
      have et : ld (ms.take (j + 1)) = ldS (ld (ms.take j)) m := by
        rw [List.take_add_one, em]
        exact ld_snoc _ _
      have wg : m.gap.natAbs < 2 ^ 10 := by
        have : (2 : Nat) ^ 10 = 1024 := by decide
        omega
      have wc : m.cost.natAbs < 2 ^ 10 := by
        have : (2 : Nat) ^ 10 = 1024 := by decide
        omega
      refine ⟨x, _, rfl, SqT.of hx, rfl, _, _, rfl, _, _, rfl, rfl, ?_⟩
      refine ⟨_, rfl, _, rfl, _, _, rfl, rfl, wide_mul (a := 100) (b := 10) (by rw [Int.natAbs_natCast]; exact hw.2.2) wg (by decide) (by decide) (by decide), ?_⟩
      refine ⟨_, rfl, _, rfl, _, _, rfl, rfl, wide_mul (a := 10) (b := 100) wc (by rw [Int.natAbs_natCast]; exact hw.2.1) (by decide) (by decide) (by decide), _, _, rfl, rfl, ?_⟩
      refine ⟨_, rfl, _, rfl, _, _, rfl, rfl, wide_mul (a := 100) (b := 10) (by rw [Int.natAbs_natCast]; exact hw.2.1) wg (by decide) (by decide) (by decide), ?_⟩
      refine ⟨some (.int m.cost), some (.int m.gap), ?_, rfl⟩
      rw [et]
      unfold ldS
      have g0 : ((m.gap.toNat : Nat) : Int) = m.gap := by omega
      have c0 : ((m.cost.toNat : Nat) : Int) = m.cost := by omega
      show [some (V.ref L), some (V.int (((ld (ms.take j)).1 : Int) * m.gap + m.cost * ((ld (ms.take j)).2 : Int))), some (V.int (((ld (ms.take j)).2 : Int) * m.gap)), _, _, none] = _
      rw [Int.natCast_add, Int.natCast_mul, Int.natCast_mul, Int.natCast_mul, g0, c0]
    · rintro σ H2 ⟨v3, v4, rfl, rfl⟩
      rw [hms.1, List.take_length]
      have hw := ld_w hall h8
      refine ⟨_, rfl, _, rfl, _, _, rfl, ?_⟩
      refine ⟨_, rfl, _, rfl, _, _, rfl, rfl, gcd_w hw.1 hw.2.1, _, rfl, _, rfl, _, _, rfl, rfl, gcd_w hw.1 hw.2.1, (by show 2 ≤ sizeLine; decide), fun r nr => ?_⟩
      exact q r _ (same_upd nr) nr upd_same
/-! load -/
theorem scLoad : FnScope ["self", "member"] ["self"] (defScope sLoad) := ⟨rfl, rfl, rfl, by decide +kernel, rfl, by decide +kernel, by decide +kernel⟩
theorem ok_load {f : Addr} {fd : FuncData} (F : Fun K "load" "Crew.load" sLoad f fd) (M : MemC K mg CT CD) (T : CrewC K mg CC) (DC : Dn P w K mg base 3 "cost_of" ["member"] (spCost K CT CD)) (DA : Dn P w K mg base 4 "added" ["shares"] (spAdded K)) : FnOk P w K mg base CX0 5 f fd ["self"] (spLoad K CT CD CC) := by
  refine F.ok scLoad (fun vs H Q E h => ?_) (fun cdv A outer s H vs Q E hr h => ?_)
  · obtain ⟨c, ms, rfl, _⟩ := h
    rfl
  · obtain ⟨c, ms, rfl, hc, hok, q⟩ := h
    obtain ⟨dx, t, ec, vs, hS, hms⟩ := id hc
    have h8 := hok.len
    have hr3 : Room 3 _ := hr.mono (by decide)
    refine ⟨_, (pss_one (ps_ret (pcall DA hr (by rfl) (pa_cons (pe_lc (own := [("member", 1)]) (g := gName 1) (tt := tYes) (te := tTup (tCons (tCall (spCost K CT CD) [] E0 (tCons (tVar 1) tNil)) (tCons (tFld K (tVar 1) "gap") tNil))) rfl scLoad.nd (pi_tup (pe_fld (pv 0) rfl)) (blkOk_by (N := ["self", "member"]) (sc := defScope sLoad) (by decide +kernel))
        (fun _ _ _ _ _ => pg_name (i := 1) scLoad.nd rfl (Or.inl rfl)) (fun _ _ _ _ _ => pts_nil) (fun _ _ _ _ _ => pe_tup (pa_cons (pcall DC hr3 (by rfl) (pa_cons (pv 1) pa_nil)) (pa_cons (pe_fld (pv 1) rfl) pa_nil)))) pa_nil)))), ?_⟩
    refine ⟨_, rfl, c, CC, dx, _, _, rfl, ec, T.cl, T.nM, rfl, t, rfl, ⟨vs, hS⟩, fun D nD => lc_tup (K := K) (a := t) (xs := vs) (fun j H' => Same H H' ∧ ∃ ys : List V, H' D = some (.lst ys) ∧ Prs H' ys (ms.take j)) ⟨same_upd nD, [], upd_same, rfl, fun i _ _ e => by simp at e⟩ (fun j H' _ z => hS.ext z.1) ?_ ?_⟩
    · rintro j y H1 hy ⟨s1, ys, e, hys⟩
      obtain ⟨x, m, rfl, em, hx⟩ := hms.at hy
      have hx1 := hx.kt (.of_same s1)
      have hj := (List.getElem?_eq_some_iff.mp em).1
      refine ⟨rfl, _, rfl, x, m, rfl, hx1, fun H2 s2 => ?_⟩
      obtain ⟨C, dx', fs, ex, c1, c2, c3⟩ := mem_gap M (hx1.kt (.of_same s2))
      refine ⟨_, rfl, x, C, dx', _, _, rfl, ex, c1, c2, c3, (by show 2 ≤ sizeLine; decide), fun r nr => ⟨ys, same_upd nr _ _ (s2 _ _ e), ?_, same_upd2 ((s1.trans s2).trans (same_upd nr)) nD, ys ++ [.ref r], upd_same, ?_⟩⟩
      · rw [hys.1]
        exact Nat.lt_of_le_of_lt (List.length_take_le _ _) (Nat.lt_of_lt_of_le (show j < 8 by omega) (by decide))
      · rw [List.take_add_one, em]
        exact (((hys.kt (.of_same s2)).kt (.of_same (same_upd nr))).add upd_same).kt (Kt.put (same_upd nr _ _ (s2 _ _ e)))
    · rintro H1 ⟨s1, ys, e, hys⟩
      rw [hms.1, List.take_length] at hys
      refine ⟨D, ys, ms, rfl, SqL.of e, hys, hok.all, h8, fun r H2 s2 nr e2 => ?_⟩
      exact q r H2 (s1.trans s2) (s1.free nr) e2
end
end Du

set_option Elab.async false
set_option linter.all false
set_option maxRecDepth 100000
namespace Du
open PySem L2
/-! the stretch -/
def lcS (n : Nat) (m : Mem) : Nat := n / Nat.gcd n m.gap.toNat * m.gap.toNat
def lc (ms : List Mem) : Nat := ms.foldl lcS 1
theorem lc_snoc (ms : List Mem) (m : Mem) : lc (ms ++ [m]) = lcS (lc ms) m := by
  unfold lc
  rw [List.foldl_append]
  rfl
theorem lc_b {ms : List Mem} (h : ∀ m ∈ ms, m.ok) : 0 < lc ms ∧ lc ms ≤ 1024 ^ ms.length := by
  revert h
  refine snoc_ind (p := fun ms : List Mem => (∀ m ∈ ms, m.ok) → 0 < lc ms ∧ lc ms ≤ 1024 ^ ms.length) (fun _ => by decide) (fun ms m ih h => ?_) ms
  obtain ⟨i1, i2⟩ := ih fun k hk => h k (by simp [hk])
  obtain ⟨_, b3, b4⟩ := Mem.b (h m (by simp))
  rw [lc_snoc, List.length_append, List.length_singleton, Nat.pow_succ]
  unfold lcS
  have g0 : 0 < m.gap.toNat := by omega
  have d := Nat.gcd_dvd_left (lc ms) m.gap.toNat
  have p := Nat.gcd_pos_of_pos_right (lc ms) g0
  exact ⟨Nat.mul_pos (Nat.div_pos (Nat.le_of_dvd i1 d) p) g0, Nat.mul_le_mul (Nat.le_trans (Nat.div_le_self _ _) i2) (by omega)⟩
theorem lc_w {ms : List Mem} (h : ∀ m ∈ ms, m.ok) (h8 : ms.length ≤ 8) : 0 < lc ms ∧ lc ms < 2 ^ 100 := by
  obtain ⟨a, b⟩ := lc_b h
  have p := pow_le h8
  have s : 2 ^ 80 < 2 ^ 100 := by decide
  exact ⟨a, by omega⟩
section
variable {P : Program} {w : World} {K : PySem.W.Frag} {mg : Str → Option Value} {base : Heap} {CT CD CC : Addr}
abbrev nStretch : List Str := ["self", "most", "many", "member"]
theorem scStretch : FnScope nStretch ["self", "most"] (defScope sStretch) := ⟨rfl, rfl, rfl, by decide +kernel, rfl, by decide +kernel, by decide +kernel⟩
abbrev FunSt (K : PySem.W.Frag) (f : Addr) (fd : FuncData) : Prop := FunD K "stretch" "Crew.stretch" (defArgs sStretch) (defBody sStretch) (defScope sStretch) [] [("most", .int 600)] f fd
def spStretch (K : PySem.W.Frag) (CT CD CC CN CM : Addr) : Sp := fun vs H Q E => ∃ (c : Addr) (ms : List Mem) (d : V), vs = [.ref c, d] ∧ CrewAt K CT CD CC H c ms ∧ CrewOk ms ∧
  ((∃ i : Int, d = .int i ∧ 1 ≤ i ∧ i ≤ 900 ∧ ((lc ms : Int) ≤ i → ∀ H', Same H H' → Q (.int (lc ms)) H') ∧ (i < (lc ms : Int) → ∀ dd H', Same H H' → H' dd = some (.xd [("most", .int i), ("many", .int (lc ms))]) → E (.ref CM) (some dd) H')) ∨
   (BadL K H d 1 900 ∧ ∀ dd H', Same H H' → H' dd = some (.xd [("number", d)]) → E (.ref CN) (some dd) H'))
theorem ok_stretch {CN CM f : Addr} {fd : FuncData} (F : FunSt K f fd) (M : MemC K mg CT CD) (T : CrewC K mg CC) (TN : Err P w K mg "NoNumber" "number" CN) (TM : Err2 P w K mg "TooMany" "many" "most" CM) (mS : ∃ t, mg "MOST_STRETCH" = some (.int 900 t)) (DM : DnX P w K mg base 3 "must_be_whole" ["thing", "least", "most"] (spMust K CN)) (DG : Dn P w K mg base 3 "common_part" ["number", "other"] spGcd) :
    FnOk P w K mg base (L2N.CX P w) 4 f fd ["self", "most"] (spStretch K CT CD CC CN CM) := by
  obtain ⟨uS, mS⟩ := mS
  refine FunD.ok (CX := L2N.CX P w) F scStretch (fun vs H Q E h => ?_) (fun cdv A outer s H vs Q E hr h => ?_)
  · obtain ⟨c, ms, d, rfl, _⟩ := h
    rfl
  · obtain ⟨c, ms, d, rfl, hc, hok, k⟩ := h
    obtain ⟨dx, t, ec, vs, hS, hms⟩ := id hc
    have h8 := hok.len
    have tk := L2N.takes_of (X := cxOf (L2N.CX P w) P w K mg base nStretch "Crew.stretch" (defScope sStretch) f cdv A outer s H E) (E := E) rfl rfl rfl rfl
    refine ⟨_, (pss_cons (ps_expr (pcallX DM hr (by rfl) (L2N.passes_call tk (fun _ _ _ _ h => h)) (pa_cons (pv 1) (pa_cons pe_int (pa_cons (pe_glob (v := .int 900) rfl mS ⟨_, rfl⟩) pa_nil))))) (pss_cons (ps_set (i := 2) scStretch.nd rfl (.inl rfl) pe_int) (pss_cons (ps_for PassesOwn.leaving rfl (pi_tup (pe_fld (pv 0) rfl)) (pg_name (i := 3) scStretch.nd rfl (.inl rfl))
        (pss_one (ps_set (i := 2) scStretch.nd rfl (.inl rfl) (pe_op op_mulW (pe_op op_fdivW (pv 2) (pcall DG hr (by rfl) (pa_cons (pv 2) (pa_cons (pe_fld (pv 3) rfl) pa_nil)))) (pe_fld (pv 3) rfl))))) (pss_cons (ps_if (pt_cmpR op_gt (pv 2) (pv 1) (nomark _)) (pss_one (ps_raiseErr2 rfl TM hr tk (by rfl) (pa_cons (pv 2) (pa_cons (pv 1) pa_nil)))) pss_nil) (pss_one (ps_ret (pv 2))))))), ?_⟩
    refine ⟨_, rfl, ?_⟩
    rcases k with ⟨i, rfl, h0, h1, q1, q2⟩ | ⟨hb, e⟩
    · refine ⟨_, _, _, rfl, .inl ⟨⟨i, rfl, h0, h1⟩, ?_⟩⟩
      refine ⟨_, rfl, c, CC, dx, _, _, rfl, ec, T.cl, T.nM, rfl, t, rfl, ⟨vs, hS⟩, for_tup (K := K) (a := t) (xs := vs) (fun j σ H' => ∃ v3 : Option V, σ = [some (.ref c), some (.int i), some (.int (lc (ms.take j) : Nat)), v3] ∧ Same H H') ⟨_, rfl, Same.refl _⟩ ?_ ?_ ?_⟩
      · rintro j σ H2 _ ⟨_, _, s2⟩
        exact hS.ext s2
      · rintro j y σ H2 hy ⟨v3, rfl, s2⟩
        obtain ⟨x, m, rfl, em, hx⟩ := hms.at hy
        obtain ⟨C, dx', fs, ex, c1, c2, c3⟩ := mem_gap M (hx.kt (.of_same s2))
        obtain ⟨_, b3, b4⟩ := Mem.b (hok.all m (List.mem_of_getElem? em))
        have hw := lc_w (ms := ms.take j) (fun k hk => hok.all k (List.mem_of_mem_take hk)) (Nat.le_trans (List.length_take_le _ _) (by have := (List.getElem?_eq_some_iff.mp em).1; omega))
        have et : lc (ms.take (j + 1)) = lcS (lc (ms.take j)) m := by
          rw [List.take_add_one, em]
          exact lc_snoc _ _
        have g0 : ((m.gap.toNat : Nat) : Int) = m.gap := by omega
        have gp := Nat.gcd_pos_of_pos_left m.gap.toNat hw.1
        have wd : CDivW ((lc (ms.take j) : Nat) : Int) ((Nat.gcd (lc (ms.take j)) m.gap.toNat : Nat) : Int) := wide_div (b := 100) (by omega) (by
          have := Nat.le_of_dvd hw.1 (Nat.gcd_dvd_left (lc (ms.take j)) m.gap.toNat)
          rw [Int.natAbs_natCast]
          omega) (by decide) (by decide)
        have wq : (((lc (ms.take j) : Nat) : Int) / ((Nat.gcd (lc (ms.take j)) m.gap.toNat : Nat) : Int)).natAbs < 2 ^ 100 := by
          rw [← Int.natCast_ediv, Int.natAbs_natCast]
          exact Nat.lt_of_le_of_lt (Nat.div_le_self _ _) hw.2
        have wg : m.gap.natAbs < 2 ^ 10 := by
          have : (2 : Nat) ^ 10 = 1024 := by decide
          omega
        refine ⟨_, rfl, _, rfl, _, rfl, x, C, dx', _, _, rfl, ex, c1, c2, c3, lc (ms.take j), m.gap.toNat, (by rw [g0]; rfl), _, _, rfl, rfl, wd, ?_⟩
        refine ⟨_, rfl, x, C, dx', _, _, rfl, ex, c1, c2, c3, _, _, rfl, rfl, wide_mul (a := 100) (b := 10) wq wg (by decide) (by decide) (by decide), some (.ref x), ?_, s2⟩
        rw [et]
        unfold lcS
        show [some (V.ref c), some (V.int i), some (V.int (((lc (ms.take j) : Nat) : Int) / ((Nat.gcd (lc (ms.take j)) m.gap.toNat : Nat) : Int) * m.gap)), some (V.ref x)] = _
        rw [Int.natCast_mul, Int.natCast_ediv, g0]
      · rintro σ H2 ⟨v3, rfl, s2⟩
        rw [hms.1, List.take_length]
        refine ⟨_, rfl, _, rfl, _, _, rfl, rfl, _, rfl, ?_⟩
        by_cases hgt : ((lc ms : Nat) : Int) > i
        · rw [decide_eq_true hgt]
          exact iteT ⟨_, rfl, _, rfl, _, _, rfl, fun d nd => q2 hgt d _ (s2.trans (same_upd nd)) upd_same⟩
        · rw [decide_eq_false hgt]
          exact iteF ⟨_, rfl, q1 (by omega) _ s2⟩
    · exact ⟨_, _, _, rfl, .inr ⟨hb, e⟩⟩
/-- stretch() and stretch(most=x) -/
theorem kSt0 {f : Addr} {fd : FuncData} (F : FunSt K f fd) : ∃ ds, Vals [V.int 600] ds ∧ Binds K fd ["self", "most"] ds :=
  F.binds0 1 (by simp) rfl (fun D doc pm an cdv ct us ks h1 h2 => match us, ks, h1, h2 with | [_], [_], _, _ => ⟨_, _, _, _, _, _, rfl, rfl, rfl⟩)
theorem kSt1 {f : Addr} {fd : FuncData} (F : FunSt K f fd) : ∃ mv : List Value, KBn K fd ["self", "most"] 1 ["most"] (fun us ws => us ++ ws) (fun us ws => us ++ ws) :=
  F.kbinds0 1 _ [] (fun us _ ws => us ++ ws) (by simp) (by simp) (fun r1 _ r3 => r1.append r3)
    (fun D doc pm an cdv ct us mv ws h1 h2 h3 => match us, mv, ws, h1, h2, h3 with | [_], [], [_], _, _, _ => rfl)
end
end Du

set_option Elab.async false
set_option linter.all false
set_option maxRecDepth 100000
namespace Du
open PySem L2
abbrev sGapL : Stmt := topS 49
abbrev sDrawn : Stmt := topS 50
theorem at_some {xs : List V} {r : Int} (h0 : 0 ≤ r) (h1 : r < (xs.length : Int)) : ∃ v, atI xs r = some v ∧ v ∈ xs := by
  have hl : r.toNat < xs.length := by omega
  exact ⟨xs[r.toNat], at_of (j := r.toNat) (by omega) (List.getElem?_eq_getElem hl), List.getElem_mem hl⟩
theorem sqL_step {K : PySem.W.Frag} {p a : Addr} {H H' : Hp} {xs : List V} (s : Step p H H') (ha : a ≠ p) (h : H a = some (.lst xs)) : SqL K H' a xs := SqL.of (s.keep a _ ha h)
/-- a member's row -/
def Mem.isD : Mem → Bool
  | .task _ => false
  | .door _ _ _ => true
def Mem.mk (b : Bool) (n : Str) (c g : Int) : Mem := if b then .door n c g else .task ⟨n, c, g, g, []⟩
theorem Mem.mk_ok {b : Bool} {n : Str} {c g : Int} (hn : isNm n = true) (hc : 1 ≤ c ∧ c ≤ 99) (hg : 1 ≤ g ∧ g ≤ 600) : (Mem.mk b n c g).ok := by
  cases b with
  | true => exact ⟨hn, hc, hg⟩
  | false => exact ⟨hn, hc, hg, ⟨hg.1, Int.le_refl _⟩, (by simp [areHds] : areHds [] c = true), fun h hh => nomatch hh⟩
def RowAt (H : Hp) (r : Addr) (m : Mem) : Prop := H r = some (.tup [.bl m.isD, .str m.name, .int m.cost, .int m.gap]) ∧ m = Mem.mk m.isD m.name m.cost m.gap
def Rows (H : Hp) (vs : List V) (ms : List Mem) : Prop := vs.length = ms.length ∧ ∀ (i : Nat) v m, vs[i]? = some v → ms[i]? = some m → ∃ r, v = .ref r ∧ RowAt H r m
section
variable {K : PySem.W.Frag} {H H' : Hp} {r : Addr} {m : Mem} {ms : List Mem} {vs : List V}
theorem RowAt.kt (h : RowAt H r m) (s : Kt H H') : RowAt H' r m := ⟨s _ _ h.1 (fun _ q => nomatch q), h.2⟩
theorem Rows.kt (h : Rows H vs ms) (s : Kt H H') : Rows H' vs ms := ⟨h.1, fun i v m e1 e2 => (h.2 i v m e1 e2).imp fun x q => ⟨q.1, q.2.kt s⟩⟩
theorem Rows.nil : Rows H [] [] := ⟨rfl, fun i v m e _ => by simp at e⟩
theorem Rows.append {ws : List V} {ns : List Mem} (h : Rows H vs ms) (q : Rows H ws ns) : Rows H (vs ++ ws) (ms ++ ns) := by
  refine ⟨by rw [List.length_append, List.length_append, h.1, q.1], fun i v n e1 e2 => ?_⟩
  by_cases hi : i < vs.length
  · rw [List.getElem?_append_left hi] at e1
    rw [List.getElem?_append_left (h.1 ▸ hi)] at e2
    exact h.2 i v n e1 e2
  · rw [List.getElem?_append_right (by omega)] at e1
    rw [List.getElem?_append_right (by rw [← h.1]; omega), ← h.1] at e2
    exact q.2 _ v n e1 e2
theorem Rows.one (q : RowAt H r m) : Rows H [.ref r] [m] := ⟨rfl, fun i v n e1 e2 => by
  match i, e1, e2 with
  | 0, e1, e2 => cases e1; cases e2; exact ⟨r, rfl, q⟩
  | i + 1, e1, e2 => simp at e1⟩
theorem Rows.at (h : Rows H vs ms) {i : Nat} {v : V} (e : vs[i]? = some v) : ∃ (r : Addr) (m : Mem), v = .ref r ∧ ms[i]? = some m ∧ RowAt H r m := by
  have hi : i < ms.length := by
    rw [← h.1]
    exact (List.getElem?_eq_some_iff.mp e).1
  have e2 : ms[i]? = some ms[i] := List.getElem?_eq_getElem hi
  obtain ⟨x, ex, q⟩ := h.2 i v _ e e2
  exact ⟨x, _, ex, e2, q⟩
end
section
variable {P : Program} {w : World} {K : PySem.W.Frag} {mg : Str → Option Value} {base : Heap} {CT CD CC : Addr}
/-! _law_gap -/
theorem scGapL : FnScope ["_law_purse_here", "_law_way"] ["_law_purse_here", "_law_way"] (defScope sGapL) := ⟨rfl, rfl, rfl, by decide +kernel, rfl, by decide +kernel, by decide +kernel⟩
def spGapL : Sp := fun vs H Q _ => ∃ (p : Addr) (k : Int), vs = [.ref p, .int k] ∧ Purse H p ∧ ∀ (g : Int) H', Step p H H' → 1 ≤ g → g ≤ 600 → Q (.int g) H'
set_option maxHeartbeats 1000000 in
theorem ok_gapL {f : Addr} {fd : FuncData} (F : Fun K "_law_gap" "_law_gap" sGapL f fd) (DT : Dn P w K mg base 3 "_law_take" ["_law_purse_here", "_law_many"] spTake) : FnOk P w K mg base CX0 4 f fd ["_law_purse_here", "_law_way"] spGapL := by
  refine F.ok scGapL (fun vs H Q E h => ?_) (fun cdv A outer s H vs Q E hr h => ?_)
  · obtain ⟨p, k, rfl, _⟩ := h
    rfl
  · obtain ⟨p, k, rfl, hp, q⟩ := h
    refine ⟨_, (pss_cons (ps_if (pt_cmpR op_eq (pv 1) pe_int (nomark _)) (pss_one (ps_ret (pe_ix ix_list (pe_lst (pa_cons pe_int (pa_cons pe_int (pa_cons pe_int (pa_cons pe_int (pa_cons pe_int (pa_cons pe_int (pa_cons pe_int (pa_cons pe_int (pa_cons pe_int (pa_cons pe_int (pa_cons pe_int (pa_cons pe_int (pa_cons pe_int (pa_cons pe_int (pa_cons pe_int (pa_cons pe_int pa_nil))))))))))))))))) (pcall DT hr (by rfl) (pa_cons (pv 0) (pa_cons pe_int pa_nil))) (fun _ _ => rfl)))) pss_nil) (pss_cons (ps_if (pt_cmpR op_eq (pv 1) pe_int (nomark _)) (pss_one (ps_ret (pe_op op_add pe_int (pcall DT hr (by rfl) (pa_cons (pv 0) (pa_cons pe_int pa_nil)))))) pss_nil) (pss_cons (ps_if (pt_cmpR op_eq (pv 1) pe_int (nomark _)) (pss_one (ps_ret (pe_ix ix_list (pe_lst (pa_cons pe_int (pa_cons pe_int (pa_cons pe_int (pa_cons pe_int (pa_cons pe_int (pa_cons pe_int (pa_cons pe_int (pa_cons pe_int pa_nil))))))))) (pcall DT hr (by rfl) (pa_cons (pv 0) (pa_cons pe_int pa_nil))) (fun _ _ => rfl)))) pss_nil) (pss_one (ps_ret (pe_ix ix_list (pe_lst (pa_cons pe_int (pa_cons pe_int (pa_cons pe_int (pa_cons pe_int (pa_cons pe_int (pa_cons pe_int (pa_cons pe_int (pa_cons pe_int pa_nil))))))))) (pcall DT hr (by rfl) (pa_cons (pv 0) (pa_cons pe_int pa_nil))) (fun _ _ => rfl))))))), ?_⟩
    refine ⟨_, rfl, rfl, _, rfl, ite2 (fun _ => ?_) (fun _ => ?_)⟩
    ·
      refine ⟨(by show 16 ≤ sizeLine; decide), fun L1 n1 => ?_⟩
      have t1 := Step.new (o := .lst [.int 1, .int 2, .int 3, .int 4, .int 5, .int 6, .int 8, .int 10, .int 12, .int 15, .int 20, .int 24, .int 30, .int 40, .int 60, .int 600]) hp n1
      refine ⟨_, rfl, p, 16, rfl, by decide, by decide, t1.purse, fun r1 H1 a1 b1 s1 => ?_⟩
      obtain ⟨gv, hgv, hgm⟩ := at_some (xs := [.int 1, .int 2, .int 3, .int 4, .int 5, .int 6, .int 8, .int 10, .int 12, .int 15, .int 20, .int 24, .int 30, .int 40, .int 60, .int 600]) a1 b1
      obtain ⟨gap, rfl, hg1, hg2⟩ : ∃ c : Int, gv = .int c ∧ 1 ≤ c ∧ c ≤ 600 := by
        simp at hgm
        rcases hgm with rfl | rfl | rfl | rfl | rfl | rfl | rfl | rfl | rfl | rfl | rfl | rfl | rfl | rfl | rfl | rfl <;> exact ⟨_, rfl, by omega, by omega⟩
      exact ⟨L1, _, _, _, rfl, rfl, sqL_step s1 (hp.ne n1) upd_same, hgv, q gap _ (t1.trans s1) hg1 hg2⟩
    refine ⟨_, rfl, rfl, _, rfl, ite2 (fun _ => ?_) (fun _ => ?_)⟩
    · refine ⟨_, rfl, p, 600, rfl, by decide, by decide, hp, fun r1 H1 a1 b1 s1 => ⟨_, _, rfl, rfl, q _ _ s1 ?_ ?_⟩⟩
      · omega
      · omega
    refine ⟨_, rfl, rfl, _, rfl, ite2 (fun _ => ?_) (fun _ => ?_)⟩
    ·
      refine ⟨(by show 8 ≤ sizeLine; decide), fun L1 n1 => ?_⟩
      have t1 := Step.new (o := .lst [.int 2, .int 3, .int 5, .int 7, .int 11, .int 13, .int 599, .int 587]) hp n1
      refine ⟨_, rfl, p, 8, rfl, by decide, by decide, t1.purse, fun r1 H1 a1 b1 s1 => ?_⟩
      obtain ⟨gv, hgv, hgm⟩ := at_some (xs := [.int 2, .int 3, .int 5, .int 7, .int 11, .int 13, .int 599, .int 587]) a1 b1
      obtain ⟨gap, rfl, hg1, hg2⟩ : ∃ c : Int, gv = .int c ∧ 1 ≤ c ∧ c ≤ 600 := by
        simp at hgm
        rcases hgm with rfl | rfl | rfl | rfl | rfl | rfl | rfl | rfl <;> exact ⟨_, rfl, by omega, by omega⟩
      exact ⟨L1, _, _, _, rfl, rfl, sqL_step s1 (hp.ne n1) upd_same, hgv, q gap _ (t1.trans s1) hg1 hg2⟩

    refine ⟨(by show 8 ≤ sizeLine; decide), fun L1 n1 => ?_⟩
    have t1 := Step.new (o := .lst [.int 300, .int 200, .int 120, .int 75, .int 25, .int 600, .int 100, .int 50]) hp n1
    refine ⟨_, rfl, p, 8, rfl, by decide, by decide, t1.purse, fun r1 H1 a1 b1 s1 => ?_⟩
    obtain ⟨gv, hgv, hgm⟩ := at_some (xs := [.int 300, .int 200, .int 120, .int 75, .int 25, .int 600, .int 100, .int 50]) a1 b1
    obtain ⟨gap, rfl, hg1, hg2⟩ : ∃ c : Int, gv = .int c ∧ 1 ≤ c ∧ c ≤ 600 := by
      simp at hgm
      rcases hgm with rfl | rfl | rfl | rfl | rfl | rfl | rfl | rfl <;> exact ⟨_, rfl, by omega, by omega⟩
    exact ⟨L1, _, _, _, rfl, rfl, sqL_step s1 (hp.ne n1) upd_same, hgv, q gap _ (t1.trans s1) hg1 hg2⟩

end
end Du

set_option Elab.async false
set_option linter.all false
set_option maxRecDepth 100000
namespace Du
open PySem L2
abbrev sCrewL : Stmt := topS 51
/-- the classes Task and Door and their making, of good arguments -/
structure MemM (P : Program) (w : World) (K : PySem.W.Frag) (mg : Str → Option Value) (base : Heap) (CT CD : Addr) : Prop where
  M : MemC K mg CT CD
  T : ∃ (e0 f : Addr) (fd : FuncData), FunI K e0 f fd ∧ Mk K CT f ∧ FnOk P w K mg base CX0 6 f fd pInit (spInit K CT) ∧ ∀ H : Hp, SqT K H e0 []
  D : ∃ (f : Addr) (fd : FuncData), Binds K fd pD [] ∧ Mk K CD f ∧ FnOk P w K mg base CX0 4 f fd pD (spDInit CD)
section
variable {P : Program} {w : World} {K : PySem.W.Frag} {mg : Str → Option Value} {base : Heap} {CT CD CC : Addr}
abbrev nDrawn : List Str := ["_law_purse_here", "_law_many", "_law_way", "_law_names", "_law_found", "_law_k", "_law_gap_here", "_law_cost"]
theorem scDrawn : FnScope nDrawn ["_law_purse_here"] (defScope sDrawn) := ⟨rfl, rfl, rfl, by decide +kernel, rfl, by decide +kernel, by decide +kernel⟩
def spDrawn : Sp := fun vs H Q _ => ∃ p : Addr, vs = [.ref p] ∧ Purse H p ∧
  ∀ (F : Addr) (rs : List V) (ms : List Mem) H', Step p H H' → H F = none → H' F = some (.lst rs) → Rows H' rs ms → CrewOk ms → Q (.ref F) H'
theorem mk_name (b : Bool) (n : Str) (c g : Int) : (Mem.mk b n c g).name = n := by cases b <;> rfl
theorem mk_row {H : Hp} {r : Addr} {b : Bool} {n : Str} {c g : Int} (h : H r = some (.tup [.bl b, .str n, .int c, .int g])) : RowAt H r (Mem.mk b n c g) := by
  cases b
  · exact ⟨h, rfl⟩
  · exact ⟨h, rfl⟩
set_option maxHeartbeats 2000000 in
theorem ok_drawn {f : Addr} {fd : FuncData} (F : Fun K "_law_drawn" "_law_drawn" sDrawn f fd) (mr : mg "range" = none) (DT : Dn P w K mg base 3 "_law_take" ["_law_purse_here", "_law_many"] spTake) (DWd : Dn P w K mg base 4 "_law_words" ["_law_purse_here", "_law_many"] spWords) (DG : Dn P w K mg base 4 "_law_gap" ["_law_purse_here", "_law_way"] spGapL) : FnOk P w K mg base CX0 5 f fd ["_law_purse_here"] spDrawn := by
  refine F.ok scDrawn (fun vs H Q E h => ?_) (fun cdv A outer s H vs Q E hr h => ?_)
  · obtain ⟨p, rfl, _⟩ := h
    rfl
  · obtain ⟨p, rfl, hp, q⟩ := h
    have hr1 : Room 3 _ := hr.mono (by decide)
    refine ⟨_, (pss_cons (ps_par (i := 1) (j := 2) rfl scDrawn.nd rfl rfl (by decide) rfl rfl (pa_cons (pcall DT hr1 (by rfl) (pa_cons (pv 0) (pa_cons pe_int pa_nil))) (pa_cons (pcall DT hr1 (by rfl) (pa_cons (pv 0) (pa_cons pe_int pa_nil))) pa_nil)) (by rfl)) (pss_cons (ps_set (i := 3) scDrawn.nd rfl (.inl rfl) (pcall DWd hr (by rfl) (pa_cons (pv 0) (pa_cons pe_int pa_nil)))) (pss_cons (ps_set (i := 4) scDrawn.nd rfl (.inl rfl) (pe_lst pa_nil)) (pss_cons (ps_for PassesOwn.never rfl (pi_range1 (by rfl) mr (pa_cons (pv 1) pa_nil)) (pg_name (i := 5) scDrawn.nd rfl (.inl rfl))
        (pss_cons (ps_set (i := 6) scDrawn.nd rfl (.inl rfl) (pcall DG hr (by rfl) (pa_cons (pv 0) (pa_cons (pv 2) pa_nil)))) (pss_cons (ps_set (i := 7) scDrawn.nd rfl (.inl rfl) (pe_ix ix_list (pe_lst (pa_cons pe_int (pa_cons pe_int (pa_cons (pe_op op_add pe_int (pcall DT hr1 (by rfl) (pa_cons (pv 0) (pa_cons pe_int pa_nil)))) (pa_cons (pe_op op_add pe_int (pcall DT hr1 (by rfl) (pa_cons (pv 0) (pa_cons pe_int pa_nil)))) pa_nil))))) (pcall DT hr1 (by rfl) (pa_cons (pv 0) (pa_cons pe_int pa_nil))) (fun _ _ => rfl))) (pss_one (ps_expr (pe_bm PySem.F.plainAttrs_list PySem.F.slot_list_append PySem.F.type_list_append mt_append (pv 4) (pa_cons (pe_tup (pa_cons (pe_cmpR op_eq (pcall DT hr1 (by rfl) (pa_cons (pv 0) (pa_cons pe_int pa_nil))) pe_int (nomark _)) (pa_cons (pe_ix ix_list (pv 3) (pv 5) (fun _ _ => rfl)) (pa_cons (pv 7) (pa_cons (pv 6) pa_nil))))) pa_nil))))))) (pss_one (ps_ret (pv 4))))))), ?_⟩
    refine ⟨_, rfl, p, 9, rfl, by decide, by decide, hp, fun many H1 m0 m1 s1 => ?_⟩
    refine ⟨_, rfl, p, 4, rfl, by decide, by decide, s1.purse, fun way H2 a2 b2 s2 => ⟨_, _, rfl, ?_⟩⟩
    refine ⟨_, rfl, p, 8, rfl, by decide, s2.purse, fun Ln wn H3 s3 nLn eLn hn1 hn2 hn3 => ?_⟩
    have u3 := (s1.trans s2).trans s3
    have hLn : Ln ≠ p := s2.purse.ne nLn
    refine ⟨Nat.zero_le _, fun G nG => ?_⟩
    have hGp : G ≠ p := u3.purse.ne nG
    have t6 := Step.new (o := .lst []) u3.purse nG
    refine ⟨_, rfl, many, rfl, by omega, by omega, for_range (lo := 0) (n := many.toNat) (fun j σ H' => ∃ v5 v6 v7 : Option V, σ = [some (.ref p), some (.int many), some (.int way), some (.ref Ln), some (.ref G), v5, v6, v7] ∧ Step p H3 H' ∧ ∃ (rs : List V) (ms : List Mem), H' G = some (.lst rs) ∧ Rows H' rs ms ∧ ms.map Mem.name = wn.take j ∧ ∀ m ∈ ms, m.ok) ⟨_, _, _, rfl, t6, [], [], upd_same, .nil, rfl, fun m hm => nomatch hm⟩ ?_ ?_⟩
    · rintro j σ H6 hj ⟨v5, v6, v7, rfl, s6, rs, ms, eG, hrs, hnm, hok⟩
      have hj8 : j < 8 := by omega
      have hwl : j < wn.length := by omega
      have ewj : wn[j]? = some wn[j] := List.getElem?_eq_getElem hwl
      have hwj : isNm wn[j] = true := hn3 _ (List.getElem_mem hwl)
      have ewV : (wn.map V.str)[j]? = some (.str wn[j]) := by
        rw [List.getElem?_map, ewj]
        rfl
      generalize wn[j] = nm at *
      refine ⟨_, rfl, _, rfl, p, way, rfl, s6.purse, fun g H7 t7 g1 g2 => ?_⟩
      refine ⟨_, rfl, p, 99, rfl, by decide, by decide, t7.purse, fun r1 H8 a8 b8 t8 => ⟨_, _, rfl, rfl, ?_⟩⟩
      refine ⟨_, rfl, p, 5, rfl, by decide, by decide, t8.purse, fun r2 H9 a9 b9 t9 => ⟨_, _, rfl, rfl, (by show 4 ≤ sizeLine; decide), fun L1 n1 => ?_⟩⟩
      have t10 := Step.new (o := .lst [.int 1, .int 99, .int (1 + r1), .int (1 + r2)]) t9.purse n1
      refine ⟨_, rfl, p, 4, rfl, by decide, by decide, t10.purse, fun r3 H11 a11 b11 t11 => ?_⟩
      obtain ⟨cv, hcv, hcm⟩ := at_some (xs := [.int 1, .int 99, .int (1 + r1), .int (1 + r2)]) a11 b11
      obtain ⟨cost, rfl, hc1, hc2⟩ : ∃ c : Int, cv = .int c ∧ 1 ≤ c ∧ c ≤ 99 := by
        simp only [List.mem_cons, List.not_mem_nil, or_false] at hcm
        rcases hcm with rfl | rfl | rfl | rfl <;> exact ⟨_, rfl, by omega, by omega⟩
      refine ⟨L1, _, _, _, rfl, rfl, sqL_step t11 (t9.purse.ne n1) upd_same, hcv, ?_⟩
      have u11 := (((t7.trans t8).trans t9).trans t10).trans t11
      refine ⟨_, rfl, .inl ⟨rfl, _, SqL.of (u11.keep _ _ hGp eG)⟩, _, rfl, p, 3, rfl, by decide, by decide, t11.purse, fun r4 H12 a12 b12 t12 => ⟨rfl, ?_⟩⟩
      have u12 := u11.trans t12
      refine ⟨_, rfl, _, rfl, Ln, _, _, _, rfl, rfl, SqL.of ((s6.trans u12).keep _ _ hLn eLn), at_of (j := j) (by omega) ewV, _, rfl, _, rfl, (by show 4 ≤ sizeLine; decide), fun r nr => ?_⟩
      have t13 := Step.new (o := .tup [.bl (decide (V.int r4 = V.int 1)), .str nm, .int cost, .int g]) u12.purse nr
      have u13 := u12.trans t13
      have eG7 := u13.keep _ _ hGp eG
      have k7 := Kt.of_step s6.purse u13
      have hl : rs.length = j := by
        rw [hrs.1, ← List.length_map (f := Mem.name), hnm, List.length_take]
        omega
      refine ⟨G, rs, _, rfl, rfl, eG7, Nat.lt_of_le_of_lt (Nat.le_of_eq hl) (Nat.lt_of_lt_of_le hj8 (by decide)), some (.int (0 + (j : Int))), some (.int g), some (.int cost), rfl, (s6.trans u13).put nG hGp, rs ++ [.ref r], ms ++ [Mem.mk (decide (V.int r4 = V.int 1)) nm cost g], upd_same, ((hrs.kt k7).append (.one (mk_row upd_same))).kt (Kt.put eG7), ?_, fun n hn => ?_⟩
      · rw [List.map_append, hnm, List.take_add_one, ewj]
        show _ ++ [(Mem.mk _ nm cost g).name] = _
        rw [mk_name]
        rfl
      · rcases List.mem_append.mp hn with h | h
        · exact hok n h
        · rw [List.mem_singleton.mp h]
          exact Mem.mk_ok hwj ⟨hc1, hc2⟩ ⟨g1, g2⟩
    · rintro σ H6 ⟨v5, v6, v7, rfl, s6, rs, ms, eG, hrs, hnm, hok⟩
      refine ⟨_, rfl, q G rs ms _ (u3.trans s6) (u3.free nG) eG hrs ⟨?_, ?_, hok⟩⟩
      · rw [← List.length_map (f := Mem.name), hnm, List.length_take]
        omega
      · rw [hnm]
        exact (List.take_sublist _ _).nodup hn2
/-! _law_crew -/
abbrev nCrewL : List Str := ["_law_rows", "_law_found", "_law_is_door", "_law_name", "_law_cost", "_law_gap_here"]
theorem scCrewL : FnScope nCrewL ["_law_rows"] (defScope sCrewL) := ⟨rfl, rfl, rfl, by decide +kernel, rfl, by decide +kernel, by decide +kernel⟩
def spCrewL (K : PySem.W.Frag) (CT CD CC : Addr) : Sp := fun vs H Q _ => ∃ (L : Addr) (rs : List V) (ms : List Mem), vs = [.ref L] ∧ SqL K H L rs ∧ Rows H rs ms ∧ CrewOk ms ∧ ∀ c H', Same H H' → H c = none → CrewAt K CT CD CC H' c ms → Q (.ref c) H'
set_option maxHeartbeats 2000000 in
theorem ok_crewL {f : Addr} {fd : FuncData} (F : Fun K "_law_crew" "_law_crew" sCrewL f fd) (MM : MemM P w K mg base CT CD) (CM : CrewM P w K mg base CT CD CC) (mt : mg "tuple" = none) (mi : mg "int" = none) : FnOk P w K mg base CX0 8 f fd ["_law_rows"] (spCrewL K CT CD CC) := by
  obtain ⟨M, ⟨e0, fj, fdj, FJ, MJ, GJ, hE⟩, ⟨fi, fdi, kd, MI, GI⟩⟩ := MM
  obtain ⟨_, T, fc, fdc, MK, GK, bK⟩ := CM
  obtain ⟨ds, hds, kB0⟩ := kb0 FJ
  refine F.ok scCrewL (fun vs H Q E h => ?_) (fun cdv A outer s H vs Q E hr h => ?_)
  · obtain ⟨L, rs, ms, rfl, _⟩ := h
    rfl
  · obtain ⟨L, rs, ms, rfl, hS, hrs, hok, q⟩ := h
    have hr3 : Room 5 _ := hr.mono (by decide)
    have hr4 : Room 6 _ := hr.mono (by decide)
    refine ⟨_, (pss_cons (ps_set (i := 1) scCrewL.nd rfl (.inl rfl) (pe_lst pa_nil)) (pss_cons (ps_for PassesOwn.never rfl (pi_list (pv 0)) (pg_tup rfl (pgs_cons (pg_name (i := 2) scCrewL.nd rfl (.inl rfl)) (pgs_cons (pg_name (i := 3) scCrewL.nd rfl (.inl rfl)) (pgs_cons (pg_name (i := 4) scCrewL.nd rfl (.inl rfl)) (pgs_cons (pg_name (i := 5) scCrewL.nd rfl (.inl rfl)) pgs_nil)))))
        (pss_one (ps_expr (pe_bm PySem.F.plainAttrs_list PySem.F.slot_list_append PySem.F.type_list_append mt_append (pv 1) (pa_cons (pe_ix ix_list (pe_lst (pa_cons (pe_make MJ GJ hr (by rfl) M.T.mg kB0 hds pass0 (pa_cons (pv 3) (pa_cons (pv 4) (pa_cons (pv 5) pa_nil)))) (pa_cons (pe_make MI GI hr3 (by rfl) M.D.mg kd .nil pass0 (pa_cons (pv 3) (pa_cons (pv 4) (pa_cons (pv 5) pa_nil)))) pa_nil))) (pe_callTy call_int1 (by rfl) mi (by decide +kernel) (pa_cons (pv 2) pa_nil)) (fun _ _ => rfl)) pa_nil))))) (pss_one (ps_ret (pe_make MK GK hr4 (by rfl) T.mg bK .nil pass0 (pa_cons (pe_callTy call_tuple_of (by rfl) mt (by decide +kernel) (pa_cons (pv 1) pa_nil)) pa_nil)))))), ?_⟩
    refine ⟨Nat.zero_le _, fun D nD => ?_⟩
    have hLD : ∀ {H'}, Same H H' → SqL K H' L rs := fun z => hS.ext z
    refine ⟨_, rfl, L, rfl, ⟨_, hLD (same_upd nD)⟩, for_list (K := K) (a := L) (xs := rs) (fun j σ H' => ∃ v2 v3 v4 v5 : Option V, σ = [some (.ref L), some (.ref D), v2, v3, v4, v5] ∧ Same H H' ∧ ∃ ys : List V, H' D = some (.lst ys) ∧ Mems K CT CD H' ys (ms.take j)) ⟨_, _, _, _, rfl, same_upd nD, [], upd_same, .nil⟩ ?_ ?_ ?_⟩
    · rintro j σ H1 _ ⟨_, _, _, _, _, s1, _⟩
      exact hLD s1
    · rintro j y σ H1 hy ⟨v2, v3, v4, v5, rfl, s1, ys, eD, hys⟩
      obtain ⟨r, m, rfl, em, hrow, hmk⟩ := hrs.at hy
      have hmo := hok.all m (List.mem_of_getElem? em)
      obtain ⟨bc, bg⟩ := Mem.b hmo
      have hnm := Mem.nm hmo
      refine ⟨r, _, rfl, SqT.of (s1 _ _ hrow), rfl, _, _, rfl, _, _, rfl, _, _, rfl, _, _, rfl, rfl, ?_⟩
      refine ⟨_, rfl, .inl ⟨rfl, _, SqL.of eD⟩, _, rfl, _, rfl, _, rfl, ?_⟩
      refine taskSp (v := ⟨m.name, m.cost, m.gap, m.gap, []⟩) (od := none) (h := e0) ⟨[], hE _, rfl, fun i u g e1 _ => by simp at e1⟩ (Mem.mk_ok (b := false) hnm bc bg) rfl fun x1 H2 s2 nx1 T1 => ?_
      refine ⟨_, rfl, _, rfl, _, rfl, ?_⟩
      refine doorSp hnm bc bg fun x2 H3 s3 nx2 hD => ?_
      refine ⟨(by show 2 ≤ sizeLine; decide), fun L1 nL1 => ?_⟩
      have s4 := same_upd (o := .lst [.ref x1, .ref x2]) nL1
      have s34 := s3.trans s4
      obtain ⟨xk, hat, hxk⟩ : ∃ xk : Addr, atI [V.ref x1, V.ref x2] (if m.isD = true then 1 else 0) = some (.ref xk) ∧ MemAt K CT CD (upd H3 L1 (.lst [.ref x1, .ref x2])) xk m := by
        cases m with
        | task v => exact ⟨x1, at_of (j := 0) rfl rfl, by rw [hmk]; exact ⟨e0, T1.kt (.of_same s34)⟩⟩
        | door n r g => exact ⟨x2, at_of (j := 1) rfl rfl, hD.imp fun dx e => s4 _ _ e⟩
      refine ⟨_, rfl, .inr ⟨_, rfl, L1, _, _, _, rfl, rfl, SqL.of upd_same, hat, ?_⟩⟩
      have s24 := s2.trans s34
      have eD4 := s24 _ _ eD
      have hl : ys.length ≤ 8 := by
        rw [hys.1]
        exact Nat.le_trans (List.length_take_le _ _) (by have := (List.getElem?_eq_some_iff.mp em).1; have := hok.len; omega)
      refine ⟨D, ys, _, rfl, rfl, eD4, Nat.lt_of_le_of_lt hl (by decide), some (.bl m.isD), some (.str m.name), some (.int m.cost), some (.int m.gap), rfl, same_upd2 (s1.trans s24) nD, ys ++ [.ref xk], upd_same, ?_⟩
      rw [List.take_add_one, em]
      exact ((hys.kt (.of_same s24)).add hxk).kt (Kt.put eD4)
    · rintro σ H1 ⟨v2, v3, v4, v5, rfl, s1, ys, e, hys⟩
      rw [hrs.1, List.take_length] at hys
      refine ⟨_, rfl, D, _, rfl, .inl ⟨SqL.of e, fun r2 nr2 => ?_⟩⟩
      have s4 := same_upd (o := .tup ys) nr2
      refine crewSp (K := K) (CT := CT) (CD := CD) (CC := CC) (ms := ms) ⟨ys, SqT.of upd_same, hys.kt (.of_same s4)⟩ hok.len hok.nd fun d H5 s5 nd hd => ?_
      have s14 := s1.trans s4
      exact q d H5 (s14.trans s5) (s14.free nd) hd
end
end Du

set_option Elab.async false
set_option linter.all false
set_option maxRecDepth 100000
namespace Du
open PySem L2
abbrev sLoadL : Stmt := topS 53
abbrev sStretchL : Stmt := topS 54
def part (B : Int) (m : Mem) : Int := m.cost * B / m.gap
theorem part_mul {m : Mem} {b g : Int} (h0 : m.gap ≠ 0) (hd : m.gap ∣ b) : part (b * g) m = part b m * g := by
  obtain ⟨t, rfl⟩ := hd
  unfold part
  have e1 : m.cost * (m.gap * t * g) = m.gap * (m.cost * t * g) := by
    rw [Int.mul_assoc m.gap t g, ← Int.mul_assoc m.cost m.gap, Int.mul_comm m.cost m.gap, Int.mul_assoc, ← Int.mul_assoc m.cost t g]
  have e2 : m.cost * (m.gap * t) = m.gap * (m.cost * t) := by
    rw [← Int.mul_assoc, Int.mul_comm m.cost m.gap, Int.mul_assoc]
  rw [e1, e2, Int.mul_ediv_cancel_left _ h0, Int.mul_ediv_cancel_left _ h0]
theorem ld_dvd {ms : List Mem} (h : ∀ m ∈ ms, m.ok) : ∀ k ∈ ms, k.gap ∣ ((ld ms).2 : Int) := by
  revert h
  refine snoc_ind (p := fun ms : List Mem => (∀ m ∈ ms, m.ok) → ∀ k ∈ ms, k.gap ∣ ((ld ms).2 : Int)) (fun _ k hk => nomatch hk) (fun ms m ih h k hk => ?_) ms
  obtain ⟨_, b3, b4⟩ := Mem.b (h m (by simp))
  have g0 : ((m.gap.toNat : Nat) : Int) = m.gap := by omega
  rw [ld_snoc]
  unfold ldS
  show k.gap ∣ (((ld ms).2 * m.gap.toNat : Nat) : Int)
  rw [Int.natCast_mul, g0]
  rcases List.mem_append.mp hk with hk | hk
  · exact Int.dvd_trans (ih (fun a ha => h a (by simp [ha])) k hk) (Int.dvd_mul_right _ _)
  · rw [List.mem_singleton.mp hk]
    exact Int.dvd_mul_left _ _
theorem sum_parts {ms : List Mem} (h : ∀ m ∈ ms, m.ok) : (ms.map (part (ld ms).2)).sum = ((ld ms).1 : Int) := by
  revert h
  refine snoc_ind (p := fun ms : List Mem => (∀ m ∈ ms, m.ok) → (ms.map (part (ld ms).2)).sum = ((ld ms).1 : Int)) (fun _ => rfl) (fun ms m ih h => ?_) ms
  have hok : ∀ k ∈ ms, k.ok := fun a ha => h a (by simp [ha])
  obtain ⟨⟨b1, b2⟩, b3, b4⟩ := Mem.b (h m (by simp))
  have g0 : ((m.gap.toNat : Nat) : Int) = m.gap := by omega
  have c0 : ((m.cost.toNat : Nat) : Int) = m.cost := by omega
  have e2 : (((ld (ms ++ [m])).2 : Nat) : Int) = ((ld ms).2 : Int) * m.gap := by
    rw [ld_snoc]
    show (((ld ms).2 * m.gap.toNat : Nat) : Int) = _
    rw [Int.natCast_mul, g0]
  have e1 : (((ld (ms ++ [m])).1 : Nat) : Int) = ((ld ms).1 : Int) * m.gap + m.cost * ((ld ms).2 : Int) := by
    rw [ld_snoc]
    show (((ld ms).1 * m.gap.toNat + m.cost.toNat * (ld ms).2 : Nat) : Int) = _
    rw [Int.natCast_add, Int.natCast_mul, Int.natCast_mul, g0, c0]
  rw [e1, e2, List.map_append, List.sum_append]
  have a : ms.map (part (((ld ms).2 : Int) * m.gap)) = ms.map fun k => part (ld ms).2 k * m.gap := List.map_congr_left fun k hk => part_mul (by have := (Mem.b (hok k hk)).2; omega) (ld_dvd hok k hk)
  have s : ∀ l : List Mem, (l.map fun k => part (ld ms).2 k * m.gap).sum = (l.map (part (ld ms).2)).sum * m.gap := fun l => by
    induction l with
    | nil => simp
    | cons k l i => rw [List.map_cons, List.sum_cons, i, List.map_cons, List.sum_cons, Int.add_mul]
  have last : ([m].map (part (((ld ms).2 : Int) * m.gap))).sum = m.cost * ((ld ms).2 : Int) := by
    show part (((ld ms).2 : Int) * m.gap) m + 0 = _
    unfold part
    rw [← Int.mul_assoc, Int.mul_ediv_cancel _ (by omega), Int.add_zero]
  rw [a, s, ih hok, last]
section
variable {P : Program} {w : World} {K : PySem.W.Frag} {mg : Str → Option Value} {base : Heap} {CT CD CC : Addr}
abbrev nLoadL : List Str := ["_law_rows", "_law_bottom", "_law_is_door", "_law_name", "_law_cost", "_law_gap_here", "_law_top"]
theorem scLoadL : FnScope nLoadL ["_law_rows"] (defScope sLoadL) := ⟨rfl, rfl, rfl, by decide +kernel, rfl, by decide +kernel, by decide +kernel⟩
def spLoadL (K : PySem.W.Frag) : Sp := fun vs H Q _ => ∃ (L : Addr) (rs : List V) (ms : List Mem), vs = [.ref L] ∧ SqL K H L rs ∧ Rows H rs ms ∧ CrewOk ms ∧ ∀ r H', Same H H' → H r = none → H' r = some (.tup [.int (low (ld ms)).1, .int (low (ld ms)).2]) → Q (.ref r) H'
set_option maxHeartbeats 1000000 in
theorem ok_loadL {f : Addr} {fd : FuncData} (F : Fun K "_law_load" "_law_load" sLoadL f fd) (mS : mg "sum" = none) (DG : Dn P w K mg base 3 "_law_shared" ["_law_one", "_law_other"] spGcd) : FnOk P w K mg base CX0 4 f fd ["_law_rows"] (spLoadL K) := by
  refine F.ok scLoadL (fun vs H Q E h => ?_) (fun cdv A outer s H vs Q E hr h => ?_)
  · obtain ⟨L, rs, ms, rfl, _⟩ := h
    rfl
  · obtain ⟨L, rs, ms, rfl, hS, hrs, hok, q⟩ := h
    refine ⟨_, (pss_cons (ps_set (i := 1) scLoadL.nd rfl (.inr rfl) pe_int) (pss_cons (ps_for PassesOwn.never rfl (pi_list (pv 0)) (pg_tup rfl (pgs_cons (pg_name (i := 2) scLoadL.nd rfl (.inl rfl)) (pgs_cons (pg_name (i := 3) scLoadL.nd rfl (.inl rfl)) (pgs_cons (pg_name (i := 4) scLoadL.nd rfl (.inl rfl)) (pgs_cons (pg_name (i := 5) scLoadL.nd rfl (.inl rfl)) pgs_nil)))))
        (pss_one (ps_set (i := 1) scLoadL.nd rfl (.inr rfl) (pe_op op_mulW (pv 1) (pv 5))))) (pss_cons (ps_set (i := 6) scLoadL.nd rfl (.inl rfl) (pe_callB (cr_sum rfl) (by rfl) mS (by decide +kernel) (pa_cons (pe_lc (own := [("_law_is_door", 2), ("_law_name", 3), ("_law_cost", 4), ("_law_gap_here", 5)]) (g := gTup K 4 (gCons (gName 2) (gCons (gName 3) (gCons (gName 4) (gCons (gName 5) gNil))))) (tt := tYes) rfl scLoadL.nd (pi_list (pv 0)) (blkOk_by (N := nLoadL) (sc := defScope sLoadL) (by decide +kernel))
        (fun _ _ _ _ _ => pg_tup rfl (pgs_cons (pg_name (i := 2) scLoadL.nd rfl (Or.inl rfl)) (pgs_cons (pg_name (i := 3) scLoadL.nd rfl (Or.inl rfl)) (pgs_cons (pg_name (i := 4) scLoadL.nd rfl (Or.inl rfl)) (pgs_cons (pg_name (i := 5) scLoadL.nd rfl (Or.inl rfl)) pgs_nil))))) (fun _ _ _ _ _ => pts_nil) (fun _ _ _ _ _ => pe_op op_fdivW (pe_op op_mulW (pv 4) (pv 1)) (pv 5))) pa_nil))) (pss_one (ps_ret (pe_tup (pa_cons (pe_op op_fdivW (pv 6) (pcall DG hr (by rfl) (pa_cons (pv 1) (pa_cons (pv 6) pa_nil)))) (pa_cons (pe_op op_fdivW (pv 1) (pcall DG hr (by rfl) (pa_cons (pv 1) (pa_cons (pv 6) pa_nil)))) pa_nil)))))))), ?_⟩
    have h8 := hok.len
    refine ⟨_, rfl, L, rfl, ⟨_, hS⟩, for_list (K := K) (a := L) (xs := rs) (fun j σ H' => ∃ v2 v3 v4 v5 : Option V, σ = [some (.ref L), some (.int ((ld (ms.take j)).2 : Nat)), v2, v3, v4, v5, none] ∧ H' = H) ⟨_, _, _, _, rfl, rfl⟩ ?_ ?_ ?_⟩
    · rintro j σ H1 _ ⟨_, _, _, _, _, rfl⟩
      exact hS
    · rintro j y σ H1 hy ⟨v2, v3, v4, v5, rfl, rfl⟩
      obtain ⟨r, m, rfl, em, hrow, hmk⟩ := hrs.at hy
      obtain ⟨⟨b1, b2⟩, b3, b4⟩ := Mem.b (hok.all m (List.mem_of_getElem? em))
      have hw := ld_w (ms := ms.take j) (fun k hk => hok.all k (List.mem_of_mem_take hk)) (Nat.le_trans (List.length_take_le _ _) (by have := (List.getElem?_eq_some_iff.mp em).1; omega))
      have et : ld (ms.take (j + 1)) = ldS (ld (ms.take j)) m := by
        rw [List.take_add_one, em]
        exact ld_snoc _ _
      have g0 : ((m.gap.toNat : Nat) : Int) = m.gap := by omega
      have wg : m.gap.natAbs < 2 ^ 10 := by
        have : (2 : Nat) ^ 10 = 1024 := by decide
        omega
      refine ⟨r, _, rfl, SqT.of hrow, rfl, _, _, rfl, _, _, rfl, _, _, rfl, _, _, rfl, rfl, ?_⟩
      refine ⟨_, rfl, _, rfl, _, _, rfl, rfl, wide_mul (a := 100) (b := 10) (by rw [Int.natAbs_natCast]; exact hw.2.1) wg (by decide) (by decide) (by decide), some (.bl m.isD), some (.str m.name), some (.int m.cost), some (.int m.gap), ?_, rfl⟩
      rw [et]
      unfold ldS
      show [some (V.ref L), some (V.int (((ld (ms.take j)).2 : Int) * m.gap)), _, _, _, _, none] = _
      rw [Int.natCast_mul, g0]
    · rintro σ H1 ⟨v2, v3, v4, v5, rfl, rfl⟩
      rw [hrs.1, List.take_length]
      have hw := ld_w hok.all h8
      refine ⟨_, rfl, L, rfl, ⟨_, hS⟩, fun D nD => lc_list (K := K) (a := L) (xs := rs) (fun j H' => Same H1 H' ∧ H' D = some (.lst (((ms.take j).map (part (ld ms).2)).map V.int))) ⟨same_upd nD, upd_same⟩ (fun j H' _ z => hS.ext z.1) ?_ ?_⟩
      · rintro j y H2 hy ⟨s2, e⟩
        obtain ⟨r, m, rfl, em, hrow, hmk⟩ := hrs.at hy
        obtain ⟨⟨b1, b2⟩, b3, b4⟩ := Mem.b (hok.all m (List.mem_of_getElem? em))
        have wc : m.cost.natAbs < 2 ^ 10 := by
          have : (2 : Nat) ^ 10 = 1024 := by decide
          omega
        have wg : m.gap.natAbs < 2 ^ 10 := by
          have : (2 : Nat) ^ 10 = 1024 := by decide
          omega
        refine ⟨r, _, rfl, SqT.of (s2 _ _ hrow), rfl, _, _, rfl, _, _, rfl, _, _, rfl, _, _, rfl, rfl, rfl, ?_⟩
        refine ⟨_, rfl, _, rfl, _, _, rfl, rfl, wide_mul (a := 10) (b := 100) wc (by rw [Int.natAbs_natCast]; exact hw.2.1) (by decide) (by decide) (by decide), _, rfl, _, _, rfl, rfl, wide_div (b := 10) (by omega) wg (by decide) (by decide), _, e, ?_, same_upd2 s2 nD, ?_⟩
        · rw [List.length_map, List.length_map]
          exact Nat.lt_of_le_of_lt (List.length_take_le _ _) (Nat.lt_of_lt_of_le (show j < 8 by have := (List.getElem?_eq_some_iff.mp em).1; omega) (by decide))
        · rw [List.take_add_one, em, upd_same, List.map_append, List.map_append]
          rfl
      · rintro H2 ⟨s2, e⟩
        rw [hrs.1, List.take_length] at e
        refine ⟨D, _, rfl, SqL.of e, ?_⟩
        rw [sum_parts hok.all]
        have wd : ∀ a : Int, CDivW a ((Nat.gcd (ld ms).2 (ld ms).1 : Nat) : Int) := fun a => wide_div (b := 100) (by have := Nat.gcd_pos_of_pos_left (ld ms).1 hw.1; omega) (by
          have := Nat.le_of_dvd hw.1 (Nat.gcd_dvd_left (ld ms).2 (ld ms).1)
          rw [Int.natAbs_natCast]
          omega) (by decide) (by decide)
        refine ⟨_, rfl, _, rfl, _, rfl, (ld ms).2, (ld ms).1, rfl, _, _, rfl, rfl, wd _, ?_⟩
        refine ⟨_, rfl, _, rfl, _, rfl, (ld ms).2, (ld ms).1, rfl, _, _, rfl, rfl, wd _, (by show 2 ≤ sizeLine; decide), fun r nr => ?_⟩
        refine q r _ (s2.trans (same_upd nr)) (s2.free nr) ?_
        unfold low
        rw [Nat.gcd_comm (ld ms).1 (ld ms).2, Int.natCast_ediv, Int.natCast_ediv]
        exact upd_same
end
end Du

set_option Elab.async false
set_option linter.all false
set_option maxRecDepth 100000
namespace Du
open PySem L2
/-! the least multiple -/
theorem k0_dvd (n g : Nat) : g ∣ n * (g / Nat.gcd n g) := by
  obtain ⟨a, ha⟩ := Nat.gcd_dvd_left n g
  obtain ⟨b, hb⟩ := Nat.gcd_dvd_right n g
  by_cases h : Nat.gcd n g = 0
  · rw [h] at hb
    rw [hb]
    simp
  · have e : g / Nat.gcd n g = b := by
      conv => lhs; lhs; rw [hb]
      exact Nat.mul_div_cancel_left b (Nat.pos_of_ne_zero h)
    rw [e]
    refine ⟨a, ?_⟩
    conv => lhs; lhs; rw [ha]
    conv => rhs; lhs; rw [hb]
    rw [Nat.mul_assoc, Nat.mul_assoc, Nat.mul_comm a b]
theorem k0_least {n g k : Nat} (hg : 0 < g) (hk : 0 < k) (h : g ∣ n * k) : g / Nat.gcd n g ≤ k := by
  have c : Nat.Coprime (g / Nat.gcd n g) (n / Nat.gcd n g) := by
    have := Nat.coprime_div_gcd_div_gcd (m := n) (n := g) (Nat.gcd_pos_of_pos_right n hg)
    exact Nat.Coprime.symm this
  have p := Nat.gcd_pos_of_pos_right n hg
  obtain ⟨t, ht⟩ := h
  have e : n / Nat.gcd n g * k = g / Nat.gcd n g * t := by
    apply Nat.eq_of_mul_eq_mul_left p
    rw [← Nat.mul_assoc, ← Nat.mul_assoc, Nat.mul_div_cancel' (Nat.gcd_dvd_left n g), Nat.mul_div_cancel' (Nat.gcd_dvd_right n g)]
    exact ht
  exact Nat.le_of_dvd hk (Nat.Coprime.dvd_of_dvd_mul_left c ⟨t, e⟩)
theorem k0_lc (n : Nat) (m : Mem) : n * (m.gap.toNat / Nat.gcd n m.gap.toNat) = lcS n m := by
  unfold lcS
  generalize m.gap.toNat = g
  rw [← Nat.mul_div_assoc n (Nat.gcd_dvd_right n g), Nat.div_mul_right_comm (Nat.gcd_dvd_left n g)]
section
variable {P : Program} {w : World} {K : PySem.W.Frag} {mg : Str → Option Value} {base : Heap} {CT CD CC : Addr}
abbrev nStretchL : List Str := ["_law_rows", "_law_found", "_law_is_door", "_law_name", "_law_cost", "_law_gap_here", "_law_k"]
theorem scStretchL : FnScope nStretchL ["_law_rows"] (defScope sStretchL) := ⟨rfl, rfl, rfl, by decide +kernel, rfl, by decide +kernel, by decide +kernel⟩
def spStretchL (K : PySem.W.Frag) : Sp := fun vs H Q _ => ∃ (L : Addr) (rs : List V) (ms : List Mem), vs = [.ref L] ∧ SqL K H L rs ∧ Rows H rs ms ∧ CrewOk ms ∧ ∀ H', Same H H' → Q (.int (lc ms)) H'
set_option maxHeartbeats 1000000 in
theorem ok_stretchL {f : Addr} {fd : FuncData} (F : Fun K "_law_stretch" "_law_stretch" sStretchL f fd) (mr : mg "range" = none) : FnOk P w K mg base CX0 3 f fd ["_law_rows"] (spStretchL K) := by
  refine F.ok scStretchL (fun vs H Q E h => ?_) (fun cdv A outer s H vs Q E hr h => ?_)
  · obtain ⟨L, rs, ms, rfl, _⟩ := h
    rfl
  · obtain ⟨L, rs, ms, rfl, hS, hrs, hok, q⟩ := h
    have h8 := hok.len
    refine ⟨_, (pss_cons (ps_set (i := 1) scStretchL.nd rfl (.inr rfl) pe_int) (pss_cons (ps_for PassesOwn.never rfl (pi_list (pv 0)) (pg_tup rfl (pgs_cons (pg_name (i := 2) scStretchL.nd rfl (.inl rfl)) (pgs_cons (pg_name (i := 3) scStretchL.nd rfl (.inl rfl)) (pgs_cons (pg_name (i := 4) scStretchL.nd rfl (.inl rfl)) (pgs_cons (pg_name (i := 5) scStretchL.nd rfl (.inr rfl)) pgs_nil)))))
        (pss_one (ps_set (i := 1) scStretchL.nd rfl (.inr rfl) (pe_ix ix_list (pe_lc (own := [("_law_k", 6)]) (g := gName 6) rfl scStretchL.nd (pi_range2 (by rfl) mr (pa_cons pe_int (pa_cons (pe_op op_add (pv 5) pe_int) pa_nil))) (blkOk_by (N := nStretchL) (sc := defScope sStretchL) (by decide +kernel))
        (fun _ _ _ _ _ => pg_name (i := 6) scStretchL.nd rfl (Or.inl rfl)) (fun _ _ _ _ _ => pts_one (pt_cmpR op_eq (pe_op op_mod (pe_op op_mulW (pv 1) (pv 6)) (pv 5)) pe_int (nomark _))) (fun _ _ _ _ _ => pe_op op_mulW (pv 1) (pv 6))) pe_int (fun _ _ => rfl))))) (pss_one (ps_ret (pv 1))))), ?_⟩
    refine ⟨_, rfl, L, rfl, ⟨_, hS⟩, for_list (K := K) (a := L) (xs := rs) (fun j σ H' => ∃ v2 v3 v4 v5 : Option V, σ = [some (.ref L), some (.int (lc (ms.take j) : Nat)), v2, v3, v4, v5, none] ∧ Same H H') ⟨_, _, _, _, rfl, Same.refl _⟩ ?_ ?_ ?_⟩
    · rintro j σ H1 _ ⟨_, _, _, _, _, s1⟩
      exact hS.ext s1
    · rintro j y σ H1 hy ⟨v2, v3, v4, v5, rfl, s1⟩
      obtain ⟨r, m, rfl, em, hrow, hmk⟩ := hrs.at hy
      obtain ⟨⟨b1, b2⟩, b3, b4⟩ := Mem.b (hok.all m (List.mem_of_getElem? em))
      have hw := lc_w (ms := ms.take j) (fun k hk => hok.all k (List.mem_of_mem_take hk)) (Nat.le_trans (List.length_take_le _ _) (by have := (List.getElem?_eq_some_iff.mp em).1; omega))
      have et : lc (ms.take (j + 1)) = lcS (lc (ms.take j)) m := by
        rw [List.take_add_one, em]
        exact lc_snoc _ _
      have g0 : ((m.gap.toNat : Nat) : Int) = m.gap := by omega
      have kk := k0_lc (lc (ms.take j)) m
      have kd := k0_dvd (lc (ms.take j)) m.gap.toNat
      have kl := fun k => k0_least (n := lc (ms.take j)) (g := m.gap.toNat) (k := k) (by omega)
      have kb : m.gap.toNat / Nat.gcd (lc (ms.take j)) m.gap.toNat ≤ m.gap.toNat := Nat.div_le_self _ _
      refine ⟨r, _, rfl, SqT.of (s1 _ _ hrow), rfl, _, _, rfl, _, _, rfl, _, _, rfl, _, _, rfl, rfl, ?_⟩
      refine ⟨_, rfl, _, _, rfl, rfl, 1, m.gap + 1, rfl, by omega, ?_⟩
      generalize hn : lc (ms.take j) = n at *
      generalize hk0 : m.gap.toNat / Nat.gcd n m.gap.toNat = k0 at *
      have wn : ((n : Nat) : Int).natAbs < 2 ^ 100 := by
        rw [Int.natAbs_natCast]
        exact hw.2
      refine fun D nD => lc_range (lo := 1) (n := (m.gap + 1 - 1).toNat) (fun i H' => Same H1 H' ∧ ∃ acc : List V, H' D = some (.lst acc) ∧ acc.length ≤ i ∧ (i < k0 → acc = []) ∧ (k0 ≤ i → acc[0]? = some (.int ((n * k0 : Nat) : Int)))) ⟨same_upd nD, [], upd_same, Nat.zero_le _, fun _ => rfl, fun h => ?_⟩ ?_ ?_
      · exfalso
        have : k0 = 0 := by omega
        rw [this, Nat.mul_zero] at kk
        have := (lc_b (ms := ms.take (j + 1)) (fun k hk => hok.all k (List.mem_of_mem_take hk))).1
        omega
      · rintro i H2 hi ⟨s2, acc, e, hl, z1, z2⟩
        have hi6 : i < 600 := by omega
        have wk : (1 + (i : Int)).natAbs < 2 ^ 10 := by
          have : (2 : Nat) ^ 10 = 1024 := by decide
          omega
        have wm := wide_mul (i := (n : Int)) (j := 1 + (i : Int)) (a := 100) (b := 10) wn wk (by decide) (by decide) (by decide)
        have em2 : (n : Int) * (1 + (i : Int)) = ((n * (1 + i) : Nat) : Int) := by
          rw [Int.natCast_mul, Int.natCast_add]
          rfl
        have ek : (n : Int) * (1 + (i : Int)) % m.gap = ((n * (1 + i) % m.gap.toNat : Nat) : Int) := by
          rw [Int.natCast_emod, em2, g0]
        have hls : acc.length < sizeLine := Nat.lt_of_le_of_lt hl (Nat.lt_of_lt_of_le hi6 (by decide))
        refine ⟨rfl, _, rfl, _, rfl, _, _, rfl, rfl, wm, _, rfl, _, _, rfl, rfl, by omega, rfl, _, rfl, ?_⟩
        by_cases hd : m.gap.toNat ∣ n * (1 + i)
        · have hz : decide (V.int ((n : Int) * (1 + (i : Int)) % m.gap) = V.int 0) = true := decide_eq_true (by rw [ek, Nat.mod_eq_zero_of_dvd hd]; rfl)
          have hle := kl (1 + i) (by omega) hd
          refine ite2 (fun _ => ?_) (fun h => absurd hz h)
          refine ⟨_, rfl, _, rfl, _, _, rfl, rfl, wm, acc, e, hls, same_upd2 s2 nD, acc ++ [.int ((n : Int) * (1 + (i : Int)))], upd_same, by rw [List.length_append, List.length_singleton]; omega, fun h => by omega, fun _ => ?_⟩
          by_cases hq : k0 ≤ i
          · have := z2 hq
            rw [List.getElem?_append_left (List.getElem?_eq_some_iff.mp this).1]
            exact this
          · rw [z1 (by omega), em2, show 1 + i = k0 by omega]
            rfl
        · have hz : decide (V.int ((n : Int) * (1 + (i : Int)) % m.gap) = V.int 0) = false := decide_eq_false fun h => hd (Nat.dvd_of_mod_eq_zero (by
            have := V.int.inj h
            rw [ek] at this
            omega))
          refine ite2 (fun h => absurd (hz.symm.trans h) (by decide)) (fun _ => ?_)
          have hne : k0 ≠ 1 + i := fun h => hd (h ▸ kd)
          exact ⟨s2, acc, e, by omega, fun h => z1 (by omega), fun h => z2 (by omega)⟩
      · rintro H2 ⟨s2, acc, e, hl, z1, z2⟩
        refine ⟨D, acc, _, _, rfl, rfl, SqL.of e, at_of (j := 0) rfl (z2 (by omega)), some (.bl m.isD), some (.str m.name), some (.int m.cost), some (.int m.gap), ?_, s1.trans s2⟩
        rw [et, ← kk]
        rfl
    · rintro σ H1 ⟨v2, v3, v4, v5, rfl, s1⟩
      rw [hrs.1, List.take_length]
      exact ⟨_, rfl, q _ s1⟩
end
end Du

set_option Elab.async false
set_option linter.all false
set_option maxRecDepth 100000
namespace Du
open PySem L2
abbrev sDue : Stmt := topS 56
section
variable {P : Program} {w : World} {K : PySem.W.Frag} {mg : Str → Option Value} {base : Heap} {CT CD CC : Addr}
/-- no number from 1 to 900, by its kind -/
def BadT (K : PySem.W.Frag) (H : Hp) (x : V) : Prop := (∃ i : Int, x = .int i ∧ ¬(1 ≤ i ∧ i ≤ 900)) ∨ (∃ b : Bool, x = .bl b) ∨ ∃ t, Ty2 K H x t ∧ PySem.W.kitOne K t (.type "int") = some false ∧ PySem.W.kitOne K t (.type "bool") = some false
theorem BadT.bad {H : Hp} {x : V} (h : BadT K H x) : BadL K H x 1 900 := by
  rcases h with ⟨i, rfl, h⟩ | ⟨b, rfl⟩ | ⟨t, a, b, c⟩
  · refine .inl ⟨i, rfl, ?_⟩
    rw [Bool.and_eq_false_iff, decide_eq_false_iff_not, decide_eq_false_iff_not]
    omega
  · exact .inr (.inl ⟨b, rfl⟩)
  · exact .inr (.inr ⟨t, a, b⟩)
theorem BadT.kp {H H' : Hp} {x : V} (h : BadT K H x) (s : Kp H H') : BadT K H' x := h.imp id fun h => h.imp id fun ⟨t, a, b⟩ => ⟨t, a.kp s, b⟩
theorem scDue : FnScope ["_law_size", "_law_top"] ["_law_size", "_law_top"] (defScope sDue) := ⟨rfl, rfl, rfl, by decide +kernel, rfl, by decide +kernel, by decide +kernel⟩
def spDue (K : PySem.W.Frag) : Sp := fun vs H Q _ => ∃ (n : Int) (x : V), vs = [.int n, x] ∧
  ((∃ i : Int, x = .int i ∧ 1 ≤ i ∧ i ≤ 900 ∧ (n ≤ i → ∀ r H', Same H H' → H r = none → H' r = some (.tup [.str "told", .int n]) → Q (.ref r) H') ∧ (i < n → ∀ r r2 H', Same H H' → H r = none → H' r = some (.tup [.str "many", .ref r2]) → H' r2 = some (.tup [.int n, .int i]) → Q (.ref r) H')) ∨
   (BadT K H x ∧ ∀ r H', Same H H' → H r = none → H' r = some (.tup [.str "number", x]) → Q (.ref r) H'))
theorem ok_due {f : Addr} {fd : FuncData} (F : Fun K "_law_due" "_law_due" sDue f fd) (mI : mg "isinstance" = none) (mb : mg "bool" = none) (mi : mg "int" = none) : FnOk P w K mg base CX0 3 f fd ["_law_size", "_law_top"] (spDue K) := by
  refine F.ok scDue (fun vs H Q E h => ?_) (fun cdv A outer s H vs Q E hr h => ?_)
  · obtain ⟨n, x, rfl, _⟩ := h
    rfl
  · obtain ⟨n, x, rfl, k⟩ := h
    refine ⟨_, (pss_cons (ps_if (PW.pt (pw_or (pt_val (pe_callB call_isi (by rfl) mI (by decide +kernel) (pa_cons (pv 1) (pa_cons (pe_bltn (v := .ty "bool") (by rfl) mb (by decide +kernel) rfl) pa_nil)))) (pw_or (pt_not (pt_val (pe_callB call_isi (by rfl) mI (by decide +kernel) (pa_cons (pv 1) (pa_cons (pe_bltn (v := .ty "int") (by rfl) mi (by decide +kernel) rfl) pa_nil))))) (pw_or1 (pt_not (pt_chain op_le op_le pe_int (pv 1) pe_int)))))) (pss_one (ps_ret (pe_tup (pa_cons pe_str (pa_cons (pv 1) pa_nil))))) pss_nil) (pss_cons (ps_if (pt_cmpR op_gt (pv 0) (pv 1) (nomark _)) (pss_one (ps_ret (pe_tup (pa_cons pe_str (pa_cons (pe_tup (pa_cons (pv 0) (pa_cons (pv 1) pa_nil))) pa_nil))))) pss_nil) (pss_one (ps_ret (pe_tup (pa_cons pe_str (pa_cons (pv 0) pa_nil))))))), ?_⟩
    have kib : PySem.W.kitOne K (.type "int") (.type "bool") = some false := kit_ty (by decide +kernel)
    have kii : PySem.W.kitOne K (.type "int") (.type "int") = some true := kit_ty (by decide +kernel)
    have kbb : PySem.W.kitOne K (.type "bool") (.type "bool") = some true := kit_ty (by decide +kernel)
    have out : ∀ Q' : VK, (∀ r H', Same H H' → H r = none → H' r = some (.tup [.str "number", x]) → Q' (.ref r) H') → ∀ r, H r = none → Q' (.ref r) (upd H r (.tup [.str "number", x])) := fun Q' h r nr => h r _ (same_upd nr) nr upd_same
    rcases k with ⟨i, rfl, h0, h1, q1, q2⟩ | ⟨hb, q⟩
    · refine ⟨_, rfl, _, _, .type "int", _, false, rfl, .ty _, .base (.int _), kib, _, rfl, iteF ?_⟩
      refine ⟨_, rfl, _, _, .type "int", _, true, rfl, .ty _, .base (.int _), kii, _, rfl, iteF ?_⟩
      refine ⟨_, rfl, _, _, rfl, rfl, _, rfl, ?_⟩
      rw [decide_eq_true h0]
      refine iteT ⟨_, _, rfl, rfl, _, rfl, ?_⟩
      rw [decide_eq_true h1]
      refine iteF ⟨_, rfl, _, rfl, _, _, rfl, rfl, _, rfl, ?_⟩
      by_cases hg : n > i
      · rw [decide_eq_true hg]
        refine iteT ⟨_, rfl, _, rfl, (by show 2 ≤ sizeLine; decide), fun r2 nr2 => ⟨(by show 2 ≤ sizeLine; decide), fun r nr => ?_⟩⟩
        have s2 := same_upd (o := .tup [.int n, .int i]) nr2
        have s3 := same_upd (o := .tup [.str "many", .ref r2]) nr
        exact q2 hg r r2 _ (s2.trans s3) (s2.free nr) upd_same (s3 _ _ upd_same)
      · rw [decide_eq_false hg]
        exact iteF ⟨_, rfl, (by show 2 ≤ sizeLine; decide), fun r nr => q1 (by omega) r _ (same_upd nr) nr upd_same⟩
    · rcases hb with ⟨i, rfl, h⟩ | ⟨b, rfl⟩ | ⟨t, a, b, c⟩
      · refine ⟨_, rfl, _, _, .type "int", _, false, rfl, .ty _, .base (.int _), kib, _, rfl, iteF ?_⟩
        refine ⟨_, rfl, _, _, .type "int", _, true, rfl, .ty _, .base (.int _), kii, _, rfl, iteF ?_⟩
        refine ⟨_, rfl, _, _, rfl, rfl, _, rfl, ?_⟩
        by_cases h0 : 1 ≤ i
        · rw [decide_eq_true h0]
          refine iteT ⟨_, _, rfl, rfl, _, rfl, ?_⟩
          rw [decide_eq_false (by omega : ¬ i ≤ 900)]
          exact iteT ⟨_, rfl, (by show 2 ≤ sizeLine; decide), out _ q⟩
        · rw [decide_eq_false h0]
          exact iteF ⟨_, rfl, iteT ⟨_, rfl, (by show 2 ≤ sizeLine; decide), out _ q⟩⟩
      · refine ⟨_, rfl, _, _, .type "bool", _, true, rfl, .ty _, .base (.bl _), kbb, _, rfl, iteT (iteT ⟨_, rfl, (by show 2 ≤ sizeLine; decide), out _ q⟩)⟩
      · refine ⟨_, rfl, _, _, t, _, false, rfl, .ty _, a.ty, c, _, rfl, iteF ⟨_, rfl, _, _, t, _, false, rfl, .ty _, a.ty, b, _, rfl, iteT (iteT ⟨_, rfl, (by show 2 ≤ sizeLine; decide), out _ q⟩)⟩⟩
end
end Du

set_option Elab.async false
set_option linter.all false
set_option maxRecDepth 100000
namespace Du
open PySem L2
open L2N (Zn)
open L2H (RoomH Hot1 PinOk cxH roomH_of)
abbrev sTold : Stmt := topS 55
/-- the error classes that the law asks for -/
structure ErrS (K : PySem.W.Frag) (mg : Str → Option Value) (CN CM c1 c2 c3 c4 c5 c6 cB cL cF : Addr) : Prop where
  gN : mg "NoNumber" = some (.ref CN)
  gM : mg "TooMany" = some (.ref CM)
  g1 : mg "Breaks" = some (.ref c1)
  g2 : mg "Busy" = some (.ref c2)
  g3 : mg "Standing" = some (.ref c3)
  g4 : mg "TooMuch" = some (.ref c4)
  g5 : mg "TooSoon" = some (.ref c5)
  g6 : mg "NoCrew" = some (.ref c6)
  gB : mg "TimeError" = some (.ref cB)
  gL : mg "LostError" = some (.ref cL)
  gF : mg "FullError" = some (.ref cF)
  zV : mg "ValueError" = none
  zA : mg "ArithmeticError" = none
  zI : mg "isinstance" = none
  eN : ErrI K CN
  eM : ErrI K CM
  nN : PySem.W.kitAny K (.ref CN) [.ref c1, .ref c2, .ref c3, .ref c4, .ref c5, .ref c6, .ref cL] = some false
  nM : PySem.W.kitAny K (.ref CM) [.ref c1, .ref c2, .ref c3, .ref c4, .ref c5, .ref c6, .ref cL] = some false
  kNM : PySem.W.kitOne K (.ref CN) (.ref CM) = some false
  kNN : PySem.W.kitOne K (.ref CN) (.ref CN) = some true
  kNV : PySem.W.kitOne K (.ref CN) (.type "ValueError") = some true
  kNA : PySem.W.kitOne K (.ref CN) (.type "ArithmeticError") = some false
  kMM : PySem.W.kitOne K (.ref CM) (.ref CM) = some true
  kMA : PySem.W.kitOne K (.ref CM) (.type "ArithmeticError") = some true
  kMV : PySem.W.kitOne K (.ref CM) (.type "ValueError") = some false
  fN : PySem.W.findIn K (.ref CN) "number" = some none
  f1 : PySem.W.findIn K (.ref CM) "many" = some none
  f2 : PySem.W.findIn K (.ref CM) "most" = some none
  mN : PySem.W.exmAny K (.ref CN) [.ref cB, .ref cL, .ref cF] = some true
  mM : PySem.W.exmAny K (.ref CM) [.ref cB, .ref cL, .ref cF] = some true
section
variable {P : Program} {w : World} {K : PySem.W.Frag} {mg : Str → Option Value} {base : Heap} {CT CD CC : Addr}
abbrev nTold : List Str := ["_law_crew_here", "_law_top", "_law_left_out", "e"]
abbrev pTold : List Str := ["_law_crew_here", "_law_top", "_law_left_out"]
theorem scTold : FnScope nTold pTold (defScope sTold) := ⟨rfl, rfl, rfl, by decide +kernel, rfl, by decide +kernel, by decide +kernel⟩
/-- what the suite does -/
def tSuite (CN CM : Addr) (a : Addr) (cls : Value) (d : Option Addr) : TS := fun D σ H => ∃ dd : Addr, d = some dd ∧ σ[3]? = some (some (.ref a)) ∧
  ((∃ x : V, cls = .ref CN ∧ H dd = some (.xd [("number", x)]) ∧ ∀ r H', Same H H' → H r = none → H' r = some (.tup [.str "number", x]) → D.rt (.ref r) H') ∨
   (∃ x y : V, cls = .ref CM ∧ H dd = some (.xd [("most", y), ("many", x)]) ∧ ∀ r r2 H', Same H H' → H r = none → H' r = some (.tup [.str "many", .ref r2]) → H' r2 = some (.tup [x, y]) → D.rt (.ref r) H'))
/-- o.m() in a try, the rest by its defaults -/
def tMethD (C : Addr) (m : Str) (sp : Sp) (dvs : List V) (E : L2.St → XK) (ta : TE) : TE := fun σ H Q => ta σ H fun x H1 => ∃ a dx fs, x = .ref a ∧ H1 a = some (.ins C dx fs) ∧ fs.lookup m = none ∧ sp (.ref a :: dvs) H1 Q (E σ)
theorem pe_methD {X : Cx} {CX : CXT} {k : Nat} {f C : Addr} {fd : FuncData} {ps : List Str} {sp : Sp} {E : L2.St → XK} {m : Str} {o : Expr} {ta : TE} {apos pos : Pos} {pl : Sem Bool} {dvs : List V} {ds : List Value}
    (he : PE X o ta) (c : Cls X.K C) (hm : Meth X.K C m f) (F : FnOk X.prog X.w X.K X.mg X.base CX k f fd ps sp) (hr : Room k X.A) (hb : Binds X.K fd ps ds) (hd : Vals dvs ds) (hx : ∀ σ, PassesAt CX X σ (E σ))
    (ht : eval (.Call (.Attribute o m apos) [] [] pos) X.env = (do
      let ov ← eval o X.env
      standAt apos.atName
      let (f, first) ← holding [ov] (getMethod ov m pl)
      callWith pos f first (backTo pos (starEach [] X.env)) (backToKw pos (keywordEach [] X.env))) := by rfl) : PE X (.Call (.Attribute o m apos) [] [] pos) (tMethD C m sp dvs E ta) := by
  refine ⟨fun pins s σ H Q I h => PySem.W.methodCall_KW (pl := pl) (thn (he.run pins s σ H _ I h) fun u s1 ⟨x, H1, I1, rx, a, dx, fs, ex, ea, l, q⟩ => ?_) ht⟩
  subst ex
  obtain rfl : u = Value.ref a := rx
  have r2 : Vals (.ref a :: dvs) (Value.ref a :: ds) := .cons rfl hd
  have hl : ([Value.ref a] ++ ds).length = ps.length := by
    have := F.len _ _ _ _ q
    rw [r2.length] at this
    exact this
  refine getmeth_ok I1 ea c hm l (PySem.W.callWith_K0 (first := [.ref a]) I1.kIn hm.kp ?_)
  refine wpAny_call (codeAny_mono (F.run X.A X.stack s1 H1 ⟨[Value.ref a], []⟩ ([Value.ref a] ++ ds) (.ref a :: dvs) Q (E σ) hr I1.env0 (hb s1 [Value.ref a] I1.kIn hl) r2 q) fun r s' hq => ?_)
  match r, hq with
  | .error e, hq => exact hx σ pins H1 s1 e s' I1 hq
  | .ok (.ret u), hq => exact I1.after hq
  | .ok .next, hq => exact hq.elim
  | .ok .brk, hq => exact hq.elim
  | .ok .cont, hq => exact hq.elim
def spTold (K : PySem.W.Frag) (CT CD CC : Addr) : Sp := fun vs H Q _ => ∃ (c : Addr) (ms : List Mem) (x : V) (b : Bool), vs = [.ref c, x, .bl b] ∧ CrewAt K CT CD CC H c ms ∧ CrewOk ms ∧
  ((∃ i : Int, x = .int i ∧ (b = true → i = 600) ∧ 1 ≤ i ∧ i ≤ 900 ∧ ((lc ms : Int) ≤ i → ∀ r H', Same H H' → H r = none → H' r = some (.tup [.str "told", .int (lc ms)]) → Q (.ref r) H') ∧
      (i < (lc ms : Int) → ∀ r r2 H', Same H H' → H r = none → H' r = some (.tup [.str "many", .ref r2]) → H' r2 = some (.tup [.int (lc ms), .int i]) → Q (.ref r) H')) ∨
   (b = false ∧ BadL K H x 1 900 ∧ ∀ r H', Same H H' → H r = none → H' r = some (.tup [.str "number", x]) → Q (.ref r) H'))
set_option maxHeartbeats 2000000 in
theorem ok_told {CN CM c1 c2 c3 c4 c5 c6 cB cL cF f fv : Addr} {fd fdv : FuncData} (F : Fun K "_law_told" "_law_told" sTold f fd) (T : CrewC K mg CC) (S : ErrS K mg CN CM c1 c2 c3 c4 c5 c6 cB cL cF) (FV : FunSt K fv fdv) (mv : Meth K CC "stretch" fv) (G : FnOk P w K mg base (L2N.CX P w) 4 fv fdv ["self", "most"] (spStretch K CT CD CC CN CM)) :
    FnOk P w K mg base CX0 5 f fd pTold (spTold K CT CD CC) := by
  obtain ⟨ds, vd, bd⟩ := kSt0 FV
  obtain ⟨mvv, kv⟩ := kSt1 FV
  refine F.ok scTold (fun vs H Q E h => ?_) (fun cdv A outer s H vs Q E hr h => ?_)
  · obtain ⟨c, ms, x, b, rfl, _⟩ := h
    rfl
  · obtain ⟨c, ms, x, b, rfl, hc, hok, k⟩ := h
    obtain ⟨dx, t, ec, hms⟩ := id hc
    refine ⟨_, (pss_one (ps_try_tup (i := 3) (cs := [.ref cB, .ref cL, .ref cF]) (ts := tSuite CN CM) rfl rfl scTold.nd rfl rfl (lays3 ⟨by rfl, by decide, .inl S.gB⟩ ⟨by rfl, by decide, .inl S.gL⟩ ⟨by rfl, by decide, .inl S.gF⟩) mat3
        (fun W pn xe tk po => (pss_cons (ps_if (pt_val (pv 2)) (pss_one (ps_ret (pe_tup (pa_cons pe_str (pa_cons (pe_methD (pv 0) T.cl mv G hr bd vd (fun σ => L2N.passAt tk σ)) pa_nil))))) pss_nil) (pss_one (ps_ret (pe_tup (pa_cons pe_str (pa_cons (pe_methKT0 (pv 0) T.cl mv G hr kv (fun σ => L2N.passAt tk σ) (pk_cons (pv 1) pk_nil)) pa_nil)))))))
        (fun a oe cls d pn hz hf' => pss_of fun pins s' σ H' D I h' => by
          obtain ⟨dd, rfl, e3, h'⟩ := h'
          have hp := List.mem_cons_self (a := (a, oe)) (l := pn)
          rcases h' with ⟨x', rfl, hd, q'⟩ | ⟨x', y', rfl, hd, q'⟩
          · refine ⟨_, (pss_cons (ps_if (pt_val (pe_callB (call_isX S.eN hp hz hf') (by rfl) S.zI (by decide +kernel) (pa_cons (pv 3) (pa_cons (pe_tup (pa_cons (pe_glob (v := .ref c1) rfl S.g1 rfl) (pa_cons (pe_glob (v := .ref c2) rfl S.g2 rfl) (pa_cons (pe_glob (v := .ref c3) rfl S.g3 rfl) (pa_cons (pe_glob (v := .ref c4) rfl S.g4 rfl) (pa_cons (pe_glob (v := .ref c5) rfl S.g5 rfl) (pa_cons (pe_glob (v := .ref c6) rfl S.g6 rfl) (pa_cons (pe_glob (v := .ref cL) rfl S.gL rfl) pa_nil)))))))) pa_nil)))) pss_never pss_nil) (pss_cons (ps_if (PW.pt (pw_and (pt_val (pe_callB (call_isX S.eN hp hz hf') (by rfl) S.zI (by decide +kernel) (pa_cons (pv 3) (pa_cons (pe_glob (v := .ref CM) rfl S.gM rfl) pa_nil)))) (pw_and (pt_val (pe_callB (call_isX S.eN hp hz hf') (by rfl) S.zI (by decide +kernel) (pa_cons (pv 3) (pa_cons (pe_bltn (v := .ty "ArithmeticError") (by rfl) S.zA (by decide +kernel) rfl) pa_nil)))) (pw_and1 (pt_not (pt_val (pe_callB (call_isX S.eN hp hz hf') (by rfl) S.zI (by decide +kernel) (pa_cons (pv 3) (pa_cons (pe_bltn (v := .ty "ValueError") (by rfl) S.zV (by decide +kernel) rfl) pa_nil))))))))) pss_never pss_nil) (pss_cons (ps_if (PW.pt (pw_and (pt_val (pe_callB (call_isX S.eN hp hz hf') (by rfl) S.zI (by decide +kernel) (pa_cons (pv 3) (pa_cons (pe_glob (v := .ref CN) rfl S.gN rfl) pa_nil)))) (pw_and (pt_val (pe_callB (call_isX S.eN hp hz hf') (by rfl) S.zI (by decide +kernel) (pa_cons (pv 3) (pa_cons (pe_bltn (v := .ty "ValueError") (by rfl) S.zV (by decide +kernel) rfl) pa_nil)))) (pw_and1 (pt_not (pt_val (pe_callB (call_isX S.eN hp hz hf') (by rfl) S.zI (by decide +kernel) (pa_cons (pv 3) (pa_cons (pe_bltn (v := .ty "ArithmeticError") (by rfl) S.zA (by decide +kernel) rfl) pa_nil))))))))) (pss_one (ps_ret (pe_tup (pa_cons pe_str (pa_cons (pe_fldX S.eN S.fN hp hz hf' (pv 3)) pa_nil))))) pss_nil) (pss_one (ps_ret (pe_tup (pa_cons pe_str (pa_cons pe_non pa_nil)))))))), ?_⟩
            refine ⟨_, e3, (show 7 ≤ sizeLine by decide), fun tp nt => ?_⟩
            have s1 := same_upd (o := .tup [.ref c1, .ref c2, .ref c3, .ref c4, .ref c5, .ref c6, .ref cL]) nt
            have hd1 := s1 _ _ hd
            refine ⟨_, hd1, .inr ⟨tp, _, _, false, rfl, upd_same, .cons (.own _) (.cons (.own _) (.cons (.own _) (.cons (.own _) (.cons (.own _) (.cons (.own _) (.cons (.own _) .nil)))))), S.nN, false, rfl, ?_⟩⟩
            refine iteF ⟨_, e3, _, hd1, .inl ⟨_, _, false, rfl, .own _, S.kNM, false, rfl, ?_⟩⟩
            refine iteF ⟨_, e3, _, hd1, .inl ⟨_, _, true, rfl, .own _, S.kNN, true, rfl, ?_⟩⟩
            refine iteT ⟨_, e3, _, hd1, .inl ⟨_, _, true, rfl, .ty _, S.kNV, true, rfl, ?_⟩⟩
            refine iteT ⟨_, e3, _, hd1, .inl ⟨_, _, false, rfl, .ty _, S.kNA, false, rfl, ?_⟩⟩
            refine iteT ⟨_, e3, rfl, _, _, hd1, rfl, (show 2 ≤ sizeLine by decide), fun r nr => ?_⟩
            exact q' r _ (s1.trans (same_upd nr)) (s1.free nr) upd_same
          · refine ⟨_, (pss_cons (ps_if (pt_val (pe_callB (call_isX S.eM hp hz hf') (by rfl) S.zI (by decide +kernel) (pa_cons (pv 3) (pa_cons (pe_tup (pa_cons (pe_glob (v := .ref c1) rfl S.g1 rfl) (pa_cons (pe_glob (v := .ref c2) rfl S.g2 rfl) (pa_cons (pe_glob (v := .ref c3) rfl S.g3 rfl) (pa_cons (pe_glob (v := .ref c4) rfl S.g4 rfl) (pa_cons (pe_glob (v := .ref c5) rfl S.g5 rfl) (pa_cons (pe_glob (v := .ref c6) rfl S.g6 rfl) (pa_cons (pe_glob (v := .ref cL) rfl S.gL rfl) pa_nil)))))))) pa_nil)))) pss_never pss_nil) (pss_cons (ps_if (PW.pt (pw_and (pt_val (pe_callB (call_isX S.eM hp hz hf') (by rfl) S.zI (by decide +kernel) (pa_cons (pv 3) (pa_cons (pe_glob (v := .ref CM) rfl S.gM rfl) pa_nil)))) (pw_and (pt_val (pe_callB (call_isX S.eM hp hz hf') (by rfl) S.zI (by decide +kernel) (pa_cons (pv 3) (pa_cons (pe_bltn (v := .ty "ArithmeticError") (by rfl) S.zA (by decide +kernel) rfl) pa_nil)))) (pw_and1 (pt_not (pt_val (pe_callB (call_isX S.eM hp hz hf') (by rfl) S.zI (by decide +kernel) (pa_cons (pv 3) (pa_cons (pe_bltn (v := .ty "ValueError") (by rfl) S.zV (by decide +kernel) rfl) pa_nil))))))))) (pss_one (ps_ret (pe_tup (pa_cons pe_str (pa_cons (pe_tup (pa_cons (pe_fldX S.eM S.f1 hp hz hf' (pv 3)) (pa_cons (pe_fldX S.eM S.f2 hp hz hf' (pv 3)) pa_nil))) pa_nil))))) pss_nil) (pss_cons (ps_if (PW.pt (pw_and (pt_val (pe_callB (call_isX S.eM hp hz hf') (by rfl) S.zI (by decide +kernel) (pa_cons (pv 3) (pa_cons (pe_glob (v := .ref CN) rfl S.gN rfl) pa_nil)))) (pw_and (pt_val (pe_callB (call_isX S.eM hp hz hf') (by rfl) S.zI (by decide +kernel) (pa_cons (pv 3) (pa_cons (pe_bltn (v := .ty "ValueError") (by rfl) S.zV (by decide +kernel) rfl) pa_nil)))) (pw_and1 (pt_not (pt_val (pe_callB (call_isX S.eM hp hz hf') (by rfl) S.zI (by decide +kernel) (pa_cons (pv 3) (pa_cons (pe_bltn (v := .ty "ArithmeticError") (by rfl) S.zA (by decide +kernel) rfl) pa_nil))))))))) pss_never pss_nil) (pss_one (ps_ret (pe_tup (pa_cons pe_str (pa_cons pe_non pa_nil)))))))), ?_⟩
            refine ⟨_, e3, (show 7 ≤ sizeLine by decide), fun tp nt => ?_⟩
            have s1 := same_upd (o := .tup [.ref c1, .ref c2, .ref c3, .ref c4, .ref c5, .ref c6, .ref cL]) nt
            have hd1 := s1 _ _ hd
            refine ⟨_, hd1, .inr ⟨tp, _, _, false, rfl, upd_same, .cons (.own _) (.cons (.own _) (.cons (.own _) (.cons (.own _) (.cons (.own _) (.cons (.own _) (.cons (.own _) .nil)))))), S.nM, false, rfl, ?_⟩⟩
            refine iteF ⟨_, e3, _, hd1, .inl ⟨_, _, true, rfl, .own _, S.kMM, true, rfl, ?_⟩⟩
            refine iteT ⟨_, e3, _, hd1, .inl ⟨_, _, true, rfl, .ty _, S.kMA, true, rfl, ?_⟩⟩
            refine iteT ⟨_, e3, _, hd1, .inl ⟨_, _, false, rfl, .ty _, S.kMV, false, rfl, ?_⟩⟩
            refine iteT ⟨_, e3, rfl, _, _, hd1, rfl, _, e3, rfl, _, _, hd1, rfl, (show 2 ≤ sizeLine by decide), fun r2 nr2 => ⟨(show 2 ≤ sizeLine by decide), fun r nr => ?_⟩⟩
            have s2 := s1.trans (same_upd (o := .tup [x', y']) nr2)
            have s3 := same_upd (o := .tup [.str "many", .ref r2]) nr
            exact q' r r2 _ (s2.trans s3) (s2.free nr) upd_same (s3 _ _ upd_same)))), ?_⟩
    refine ⟨_, rfl, b, rfl, ?_⟩
    rcases k with ⟨i, rfl, h6, h0, h1, q1, q2⟩ | ⟨rfl, hb, q⟩
    · have told : (lc ms : Int) ≤ i → ∀ H1, Same H H1 → ([.str "told", .int (lc ms)] : List V).length ≤ sizeLine ∧ ∀ r, H1 r = none → Q (.ref r) (upd H1 r (.tup [.str "told", .int (lc ms)])) := fun hle H1 s1 => ⟨(by show 2 ≤ sizeLine; decide), fun r nr => q1 hle r _ (s1.trans (same_upd nr)) (s1.free nr) upd_same⟩
      have en : i < (lc ms : Int) → ∀ (σ : L2.St) dd H', Same H H' → H' dd = some (.xd [("most", .int i), ("many", .int (lc ms))]) → σ.length = 4 → wTup K [.ref cB, .ref cL, .ref cF] 3 (tSuite CN CM) { nx := fun _ H' => Q .non H', rt := Q } (.ref CM) (some dd) σ H' := fun hgt σ dd H' s1 hd hσ => ⟨S.mM, fun a na => ⟨dd, rfl, List.getElem?_set_self (by rw [hσ]; decide), .inr ⟨_, _, rfl, hd, fun r r2 H2 s2 nr er er2 => q2 hgt r r2 H2 (s1.trans s2) (s1.free nr) er er2⟩⟩⟩
      cases b with
      | true =>
        cases h6 rfl
        exact iteT ⟨_, rfl, c, dx, _, rfl, ec, rfl, c, ms, _, rfl, hc, hok, .inl ⟨600, rfl, h0, h1, told, fun hgt dd H' s1 hd => en hgt _ dd H' s1 hd rfl⟩⟩
      | false => exact iteF ⟨_, rfl, c, dx, _, rfl, ec, rfl, _, rfl, rfl, c, ms, _, rfl, hc, hok, .inl ⟨i, rfl, h0, h1, told, fun hgt dd H' s1 hd => en hgt _ dd H' s1 hd rfl⟩⟩
    · have en : ∀ (σ : L2.St) dd H', Same H H' → H' dd = some (.xd [("number", x)]) → σ.length = 4 → wTup K [.ref cB, .ref cL, .ref cF] 3 (tSuite CN CM) { nx := fun _ H' => Q .non H', rt := Q } (.ref CN) (some dd) σ H' := fun σ dd H' s1 hd hσ => ⟨S.mN, fun a na => ⟨dd, rfl, List.getElem?_set_self (by rw [hσ]; decide), .inl ⟨_, rfl, hd, fun r H2 s2 nr er => q r H2 (s1.trans s2) (s1.free nr) er⟩⟩⟩
      exact iteF ⟨_, rfl, c, dx, _, rfl, ec, rfl, _, rfl, rfl, c, ms, _, rfl, hc, hok, .inr ⟨hb, fun dd H' s1 hd => en _ dd H' s1 hd rfl⟩⟩
end
end Du

set_option Elab.async false
set_option linter.all false
set_option maxRecDepth 100000
namespace Du
open PySem L2
abbrev sLaw : Stmt := topS 57
section
variable {P : Program} {w : World} {K : PySem.W.Frag} {mg : Str → Option Value} {base : Heap} {CT CD CC : Addr}
/-- what may be told as MOST -/
def TpOk (K : PySem.W.Frag) (CT CD CC : Addr) (H : Hp) (x : V) : Prop := (∃ t, Tg K CT CD CC H x t ∧ t.length ≤ 10000) ∧ ((∃ i : Int, x = .int i ∧ 1 ≤ i ∧ i ≤ 900) ∨ BadT K H x)
theorem TpOk.kp {H H' : Hp} {x : V} (h : TpOk K CT CD CC H x) (s : Kp H H') : TpOk K CT CD CC H' x := ⟨h.1.imp fun t q => ⟨q.1.kp s, q.2⟩, h.2.imp id fun b => b.kp s⟩
theorem TpOk.int {H : Hp} {i : Int} (h : i.natAbs < 2 ^ 200) : TpOk K CT CD CC H (.int i) := by
  have hl := int_log h
  refine ⟨⟨_, .int i hl, Nat.le_trans (int_len hl) (by decide)⟩, ?_⟩
  by_cases hb : 1 ≤ i ∧ i ≤ 900
  · exact .inl ⟨i, rfl, hb.1, hb.2⟩
  · exact .inr (.inl ⟨i, rfl, hb⟩)
theorem TpOk.bl {H : Hp} {b : Bool} : TpOk K CT CD CC H (.bl b) := ⟨⟨_, .bl b, by cases b <;> decide +kernel⟩, .inr (.inr (.inl ⟨b, rfl⟩))⟩
/-- what is told and what is due are shown alike -/
theorem both (S : OwnS P w K mg base CT CD CC) {H : Hp} {c : Addr} {ms : List Mem} {x : V} {b : Bool} (hok : CrewOk ms) (hx : TpOk K CT CD CC H x) (hb : b = true → x = .int 600) : ∃ T : Str,
    (∀ (H1 : Hp) (Q : VK) (E : XK), Kp H H1 → CrewAt K CT CD CC H1 c ms → (∀ r H2, Same H1 H2 → Sh P w K mg base 4 H2 (.ref r) T → Q (.ref r) H2) → spTold K CT CD CC [.ref c, x, .bl b] H1 Q E) ∧
    (∀ (H1 : Hp) (Q : VK) (E : XK), Kp H H1 → (∀ r H2, Same H1 H2 → Sh P w K mg base 4 H2 (.ref r) T → Q (.ref r) H2) → spDue K [.int (lc ms), x] H1 Q E) := by
  have hw := (lc_w hok.all hok.len).2
  have hl : ((lc ms : Nat) : Int).natAbs.log2 < 1920 := int_log (k := 100) (by rw [Int.natAbs_natCast]; exact hw)
  have lt : (Str.ofString (toString ((lc ms : Nat) : Int))).length ≤ 10000 := Nat.le_trans (int_len hl) (by decide)
  obtain ⟨⟨t, ht, htl⟩, h⟩ := hx
  by_cases hg : ∃ i : Int, x = .int i ∧ 1 ≤ i ∧ i ≤ 900
  · obtain ⟨i, rfl, h0, h1⟩ := hg
    have h6 : b = true → i = 600 := fun e => V.int.inj (hb e)
    have hli : i.natAbs.log2 < 1920 := int_log (k := 100) (Nat.lt_of_le_of_lt (show i.natAbs ≤ 900 by omega) (by decide))
    by_cases hle : (lc ms : Int) ≤ i
    · refine ⟨tupleText [reprText "told", toString ((lc ms : Nat) : Int)], fun H1 Q E s1 hc q => ⟨c, ms, _, b, rfl, hc, hok, .inl ⟨i, rfl, h6, h0, h1, fun _ r H2 s2 nr er => q r H2 s2 ((Tg.int _ hl).pair (by decide +kernel) S lt s2 nr er), fun hgt => absurd hle (by omega)⟩⟩, fun H1 Q E s1 q => ⟨_, _, rfl, .inl ⟨i, rfl, h0, h1, fun _ r H2 s2 nr er => q r H2 s2 ((Tg.int _ hl).pair (by decide +kernel) S lt s2 nr er), fun hgt => absurd hle (by omega)⟩⟩⟩
    · refine ⟨tupleText [reprText "many", tupleText [toString ((lc ms : Nat) : Int), toString i]], fun H1 Q E s1 hc q => ⟨c, ms, _, b, rfl, hc, hok, .inl ⟨i, rfl, h6, h0, h1, fun z => absurd z hle, fun _ r r2 H2 s2 nr er er2 => q r H2 s2 (many_sh (by decide +kernel) hl hli er er2)⟩⟩, fun H1 Q E s1 q => ⟨_, _, rfl, .inl ⟨i, rfl, h0, h1, fun z => absurd z hle, fun _ r r2 H2 s2 nr er er2 => q r H2 s2 (many_sh (by decide +kernel) hl hli er er2)⟩⟩⟩
  · have bad : BadT K H x := h.resolve_left hg
    have b0 : b = false := by
      cases b with
      | false => rfl
      | true => exact absurd ⟨600, hb rfl, by decide, by decide⟩ hg
    exact ⟨tupleText [reprText "number", t], fun H1 Q E s1 hc q => ⟨c, ms, _, b, rfl, hc, hok, .inr ⟨b0, (bad.kp s1).bad, fun r H2 s2 nr er => q r H2 s2 ((ht.kp s1).pair (by decide +kernel) S htl s2 nr er)⟩⟩, fun H1 Q E s1 q => ⟨_, _, rfl, .inr ⟨bad.kp s1, fun r H2 s2 nr er => q r H2 s2 ((ht.kp s1).pair (by decide +kernel) S htl s2 nr er)⟩⟩⟩
abbrev nLaw : List Str := ["_law_script", "_law_k", "_law_purse_here", "_law_rows", "_law_crew_here", "_law_size", "_law_some", "_law_at", "_law_top"]
theorem scLaw : FnScope nLaw ["_law_script"] (defScope sLaw) := ⟨rfl, rfl, rfl, by decide +kernel, rfl, by decide +kernel, by decide +kernel⟩
def spLaw (K : PySem.W.Frag) : Sp := fun vs H Q _ => ∃ (a : Addr) (ns : List Int), vs = [.ref a] ∧ SqL K H a (ns.map V.int) ∧ ∀ H', Q (.bl true) H'
def some17 (n : Int) (q1 q2 q3 : Addr) : List V := [.int n, .int (n + 1), .int (n - 1), .int 1, .int 600, .int 900, .int 901, .int 0, .int (0 - 1), .int (10 ^ (30 : Int).toNat), .bl true, .bl false, .non, .str "600", .ref q1, .ref q2, .ref q3]
def some5 (n g : Int) (q4 q6 c : Addr) : List V := [.ref q4, .ref q6, .ref c, .int (n / 2), .int (1 + g)]
set_option maxHeartbeats 4000000 in
theorem ok_law {f fl : Addr} {fd fdl : FuncData} (F : Fun K "law" "law" sLaw f fd) (CW : CrewC K mg CC) (ki : PySem.W.kitOne K (.ref CC) (.type "int") = some false) (kb : PySem.W.kitOne K (.ref CC) (.type "bool") = some false) (S : OwnS P w K mg base CT CD CC)
    (ml' : Meth K CC "load" fl) (Gl' : FnOk P w K mg base CX0 5 fl fdl ["self"] (spLoad K CT CD CC)) (bl' : Binds K fdl ["self"] [])
    (mL : ∃ t, mg "LIMIT" = some (.int 600 t)) (mI : mg "isinstance" = none) (mb : mg "bool" = none) (mr : mg "range" = none) (mx : mg "max" = none) (mn : mg "min" = none) (ml : mg "len" = none) (mR : mg "repr" = none)
    (DC : Dn P w K mg base 3 "_law_cell" ["_law_script", "_law_k"] (spCellL K)) (DP : Dn P w K mg base 3 "_law_purse" ["_law_cell_here"] spPurse) (DT : Dn P w K mg base 3 "_law_take" ["_law_purse_here", "_law_many"] spTake)
    (DD : Dn P w K mg base 5 "_law_drawn" ["_law_purse_here"] spDrawn) (DCr : Dn P w K mg base 8 "_law_crew" ["_law_rows"] (spCrewL K CT CD CC)) (DS : Dn P w K mg base 4 "_law_stretch" ["_law_rows"] (spStretchL K)) (DL : Dn P w K mg base 4 "_law_load" ["_law_rows"] (spLoadL K))
    (DTo : Dn P w K mg base 5 "_law_told" pTold (spTold K CT CD CC)) (DDu : Dn P w K mg base 3 "_law_due" ["_law_size", "_law_top"] (spDue K)) :
    LawOk P w K mg base f fd "_law_script" (spLaw K) := by
  obtain ⟨uL, mL⟩ := mL
  obtain ⟨oc, od, kV, doc, pm, an, cdv, ct, osl, rfl, lk, hcd⟩ := F.ex
  intro s H u v Q env0 hb rv hsp
  obtain ⟨a, ns, hv, hS, q⟩ := hsp
  have hr9 : Room 9 callerA := ⟨rfl, by decide, by decide⟩
  refine fn_at (k := 8) (ps := ["_law_script"]) (us := [u]) (vs := [v]) lk hcd scLaw hr9 env0 hb (.cons rv .nil) rfl ?_
  cases hv
  have hr : Room 8 (callerA.deeper (PyProof.Rows.envOfC "law" (defScope sLaw) s.heap.objs.size f cdv)) := hr9.deeper _
  have hg : (callerA.deeper (PyProof.Rows.envOfC "law" (defScope sLaw) s.heap.objs.size f cdv)).guards = some [] := rfl
  have hr3 : Room 3 _ := hr.mono (by decide)
  have hr4 : Room 4 _ := hr.mono (by decide)
  have hr5 : Room 5 _ := hr.mono (by decide)
  have hr6 : Room (4 + 2) _ := hr.mono (by decide)
  refine ⟨_, (pss_cons (ps_if (PW.pt (pw_or (pt_cmpR op_ne (pe_glob (v := .int 600) rfl mL ⟨_, rfl⟩) pe_int (nomark _)) (pw_or1 (pt_val (pe_callB call_isi (by rfl) mI (by decide +kernel) (pa_cons (pe_glob (v := .int 600) rfl mL ⟨_, rfl⟩) (pa_cons (pe_bltn (v := .ty "bool") (by rfl) mb (by decide +kernel) rfl) pa_nil))))))) pss_never pss_nil) (pss_cons (ps_for PassesOwn.never rfl (pi_range1 (by rfl) mr (pa_cons (pe_callB (call_max2 rfl) (by rfl) mx (by decide +kernel) (pa_cons pe_int (pa_cons (pe_callB (call_min2 rfl) (by rfl) mn (by decide +kernel) (pa_cons pe_int (pa_cons (pe_callB call_len_seq (by rfl) ml (by decide +kernel) (pa_cons (pv 0) pa_nil)) pa_nil))) pa_nil))) pa_nil)) (pg_name (i := 1) scLaw.nd rfl (.inl rfl))
        (pss_cons (ps_set (i := 2) scLaw.nd rfl (.inl rfl) (pcall DP hr3 (by rfl) (pa_cons (pcall DC hr3 (by rfl) (pa_cons (pv 0) (pa_cons (pv 1) pa_nil))) pa_nil))) (pss_cons (ps_set (i := 3) scLaw.nd rfl (.inl rfl) (pcall DD hr5 (by rfl) (pa_cons (pv 2) pa_nil))) (pss_cons (ps_par (i := 4) (j := 5) rfl scLaw.nd rfl rfl (by decide) rfl rfl (pa_cons (pcall DCr hr (by rfl) (pa_cons (pv 3) pa_nil)) (pa_cons (pcall DS hr4 (by rfl) (pa_cons (pv 3) pa_nil)) pa_nil)) (by rfl)) (pss_cons (ps_if (pt_cmpR op_ne (pe_callB (call_repr (n := 4) hg hr6) (by rfl) mR (by decide +kernel) (pa_cons (pe_meth0 (pv 4) CW.cl ml' Gl' hr5 bl' .nil pass0) pa_nil)) (pe_callB (call_repr (n := 4) hg hr6) (by rfl) mR (by decide +kernel) (pa_cons (pcall DL hr4 (by rfl) (pa_cons (pv 3) pa_nil)) pa_nil)) (nomark _)) pss_never pss_nil) (pss_cons (ps_set (i := 6) scLaw.nd rfl (.inl rfl) (pe_lst (pa_cons (pv 5) (pa_cons (pe_op op_add (pv 5) pe_int) (pa_cons (pe_op op_sub (pv 5) pe_int) (pa_cons pe_int (pa_cons (pe_glob (v := .int 600) rfl mL ⟨_, rfl⟩) (pa_cons pe_int (pa_cons pe_int (pa_cons pe_int (pa_cons (pe_op op_sub pe_int pe_int) (pa_cons (pe_op op_pow pe_int pe_int) (pa_cons pe_bl (pa_cons pe_bl (pa_cons pe_non (pa_cons pe_str (pa_cons (pe_tup pa_nil) (pa_cons (pe_lst pa_nil) (pa_cons pe_dnewK pa_nil))))))))))))))))))) (pss_cons (ps_set (i := 6) scLaw.nd rfl (.inl rfl) (pe_op op_cat (pv 6) (pe_lst (pa_cons (pe_tup (pa_cons pe_int pa_nil)) (pa_cons (pe_tup (pa_cons (pe_lst pa_nil) pa_nil)) (pa_cons (pv 4) (pa_cons (pe_op op_fdivW (pv 5) pe_int) (pa_cons (pe_op op_add pe_int (pcall DT hr3 (by rfl) (pa_cons (pv 2) (pa_cons pe_int pa_nil)))) pa_nil)))))))) (pss_cons (ps_if (pt_cmpR op_ne (pe_callB (call_repr (n := 4) hg hr6) (by rfl) mR (by decide +kernel) (pa_cons (pcall DTo hr5 (by rfl) (pa_cons (pv 4) (pa_cons (pe_glob (v := .int 600) rfl mL ⟨_, rfl⟩) (pa_cons pe_bl pa_nil)))) pa_nil)) (pe_callB (call_repr (n := 4) hg hr6) (by rfl) mR (by decide +kernel) (pa_cons (pcall DDu hr3 (by rfl) (pa_cons (pv 5) (pa_cons (pe_glob (v := .int 600) rfl mL ⟨_, rfl⟩) pa_nil))) pa_nil)) (nomark _)) pss_never pss_nil) (pss_cons (ps_set (i := 7) scLaw.nd rfl (.inl rfl) (pcall DT hr3 (by rfl) (pa_cons (pv 2) (pa_cons pe_int pa_nil)))) (pss_one (ps_for PassesOwn.never rfl (pi_list (pe_lst (pa_cons (pe_ix ix_list (pv 6) (pv 7) (fun _ _ => rfl)) (pa_cons (pv 5) (pa_cons (pe_op op_sub (pv 5) pe_int) (pa_cons pe_bl (pa_cons pe_int pa_nil))))))) (pg_name (i := 8) scLaw.nd rfl (.inl rfl))
            (pss_one (ps_if (pt_cmpR op_ne (pe_callB (call_repr (n := 4) hg hr6) (by rfl) mR (by decide +kernel) (pa_cons (pcall DTo hr5 (by rfl) (pa_cons (pv 4) (pa_cons (pv 8) (pa_cons pe_bl pa_nil)))) pa_nil)) (pe_callB (call_repr (n := 4) hg hr6) (by rfl) mR (by decide +kernel) (pa_cons (pcall DDu hr3 (by rfl) (pa_cons (pv 5) (pa_cons (pv 8) pa_nil))) pa_nil)) (nomark _)) pss_never pss_nil))))))))))))) (pss_one (ps_ret pe_bl)))), ?_⟩
  have kib : PySem.W.kitOne K (.type "int") (.type "bool") = some false := kit_ty (by decide +kernel)
  refine ⟨rfl, _, rfl, ?_⟩
  rw [decide_eq_true rfl]
  refine ⟨_, _, .type "int", _, false, rfl, .ty _, .base (.int _), kib, _, rfl, iteF ?_⟩
  obtain ⟨MX, hM, h3, h12⟩ : ∃ M : Int, (if (if (((ns.map V.int).length : Nat) : Int) < 10 then (((ns.map V.int).length : Nat) : Int) else 10) > 2 then (if (((ns.map V.int).length : Nat) : Int) < 10 then (((ns.map V.int).length : Nat) : Int) else 10) else 2) = M ∧ 2 ≤ M ∧ M ≤ 10 :=
    ⟨_, rfl, by repeat (first | omega | split), by repeat (first | omega | split)⟩
  refine ⟨_, rfl, a, _, rfl, .inl hS, 10, _, rfl, 2, _, rfl, ?_⟩
  rw [hM]
  refine ⟨MX, rfl, by omega, by omega, for_range (lo := 0) (n := MX.toNat) (fun i σ H' => ∃ v1 v2 v3 v4 v5 v6 v7 v8 : Option V, σ = [some (.ref a), v1, v2, v3, v4, v5, v6, v7, v8] ∧ Same H H') ⟨none, none, none, none, none, none, none, none, rfl, Same.refl _⟩ ?_ ?_⟩
  · rintro i σ H2 hi ⟨v1, v2, v3, v4, v5, v6, v7, v8, rfl, s2⟩
    have hi64 : i < 64 := by omega
    refine ⟨_, rfl, _, rfl, a, ns, i, by rw [Int.zero_add]; rfl, hS.ext s2, hi64, fun n H3 s3 => ⟨n, rfl, fun p H4 s4 np hp => ?_⟩⟩
    have s24 : Same H H4 := (s2.trans s3).trans s4
    have npH : H p = none := (s2.trans s3).free np
    -- the rows, the crew, its stretch
    refine ⟨_, rfl, p, rfl, hp, fun FF rs ms H5 t5 nF eF hrs ck => ?_⟩
    have hFp : FF ≠ p := hp.ne nF
    refine ⟨_, rfl, FF, rs, ms, rfl, SqL.of eF, hrs, ck, fun c H6 s6 nc hc => ⟨_, rfl, FF, rs, ms, rfl, SqL.of (s6 _ _ eF), hrs.kt (.of_same s6), ck, fun H7 s7 => ⟨_, _, rfl, ?_⟩⟩⟩
    have hc7 := hc.kt (.of_same s7)
    have s57 := s6.trans s7
    obtain ⟨dx, tt, ec7, _⟩ := id hc7
    have hw := (lc_w ck.all ck.len).2
    have hl := ld_w ck.all ck.len
    have l1 : (((low (ld ms)).1 : Nat) : Int).natAbs.log2 < 1920 := int_log (k := 100) (by rw [Int.natAbs_natCast]; exact Nat.lt_of_le_of_lt (Nat.div_le_self _ _) hl.2.2)
    have l2 : (((low (ld ms)).2 : Nat) : Int).natAbs.log2 < 1920 := int_log (k := 100) (by rw [Int.natAbs_natCast]; exact Nat.lt_of_le_of_lt (Nat.div_le_self _ _) hl.2.1)
    -- the load
    refine ⟨_, rfl, c, dx, _, rfl, ec7, rfl, c, ms, rfl, hc7, ck, fun r8 H8 s8 nr8 er8 => ⟨.ref r8, _, rfl, ints_sh l1 l2 er8, fun H9 s9 => ?_⟩⟩
    have s59 := (s57.trans s8).trans s9
    refine ⟨_, rfl, FF, rs, ms, rfl, SqL.of (s59 _ _ eF), hrs.kt (.of_same s59), ck, fun r10 H10 s10 nr10 er10 => ⟨.ref r10, _, rfl, ints_sh l1 l2 er10, fun H11 s11 => ⟨rfl, _, rfl, ?_⟩⟩⟩
    rw [decide_eq_true rfl]
    refine iteF ?_
    have s511 := (s59.trans s10).trans s11
    have hc11 := hc7.kt (.of_same (((s8.trans s9).trans s10).trans s11))
    have t11 := t5.trans (Step.of_same t5.purse s511)
    -- what is told as MOST
    refine ⟨_, rfl, _, rfl, _, _, rfl, rfl, _, rfl, _, _, rfl, rfl, _, _, rfl, rfl, _, _, rfl, rfl, ⟨by decide, by decide, by decide⟩, Nat.zero_le _, fun q1 n1 => ⟨Nat.zero_le _, fun q2 n2 q3 n3 => ⟨(by show 17 ≤ sizeLine; decide), fun S' nS => ?_⟩⟩⟩
    refine ⟨_, rfl, (by show 1 ≤ sizeLine; decide), fun q4 n4 => ⟨Nat.zero_le _, fun q5 n5 => ⟨(by show 1 ≤ sizeLine; decide), fun q6 n6 => ?_⟩⟩⟩
    have u1 := same_upd (o := .tup []) n1
    have u2 := same_upd (o := .lst []) n2
    have u3 := same_upd (o := .dK []) n3
    have uS := same_upd (o := .lst (some17 ((lc ms : Nat) : Int) q1 q2 q3)) nS
    have u4 := same_upd (o := .tup [.int 600]) n4
    have u5 := same_upd (o := .lst []) n5
    have u6 := same_upd (o := .tup [.ref q5]) n6
    have w5 := u5.trans u6
    have w4 := u4.trans w5
    have wS := uS.trans w4
    have w3 := u3.trans wS
    have w2 := u2.trans w3
    have w1 := u1.trans w2
    have e1 := w2 _ _ upd_same
    have e2 := w3 _ _ upd_same
    have e3 := wS _ _ upd_same
    have eS := w4 _ _ upd_same
    have e4 := w5 _ _ upd_same
    have e5 := u6 _ _ upd_same
    have hcA := hc11.kt (.of_same w1)
    have tA := t11.trans (Step.of_same t11.purse w1)
    have hSp : S' ≠ p := (Step.of_same t11.purse ((u1.trans u2).trans u3)).purse.ne nS
    refine ⟨_, rfl, _, rfl, _, _, rfl, rfl, wide_div (b := 10) (by decide) (by decide) (by decide) (by decide), _, rfl, p, 900, rfl, by decide, by decide, tA.purse, fun g HB g0 g1 tB => ⟨_, _, rfl, rfl, (by show 5 ≤ sizeLine; decide), fun S2 nS2 => ?_⟩⟩
    have uB := same_upd (o := .lst (some5 ((lc ms : Nat) : Int) g q4 q6 c)) nS2
    refine ⟨S', S2, _, _, rfl, rfl, uB _ _ (tB.keep _ _ hSp eS), upd_same, (by show 17 + 5 ≤ _; decide), fun W nW => ?_⟩
    have uW := same_upd (o := .lst (some17 ((lc ms : Nat) : Int) q1 q2 q3 ++ some5 ((lc ms : Nat) : Int) g q4 q6 c)) nW
    have kA := (Kp.of_step tA.purse tB).trans (.of_same (uB.trans uW))
    have tW := (tA.trans tB).trans (Step.of_same (tA.trans tB).purse (uB.trans uW))
    have hcW := hcA.kt ((Kt.of_step tA.purse tB).trans (.of_same (uB.trans uW)))
    have big : ∀ i : Int, i.natAbs ≤ lc ms + 1 → i.natAbs < 2 ^ 200 := fun i h => Nat.lt_of_le_of_lt h (Nat.lt_of_lt_of_le (Nat.succ_lt_succ hw) (by decide))
    have all : ∀ y ∈ some17 ((lc ms : Nat) : Int) q1 q2 q3 ++ some5 ((lc ms : Nat) : Int) g q4 q6 c, TpOk K CT CD CC (upd (upd HB S2 (.lst (some5 ((lc ms : Nat) : Int) g q4 q6 c))) W (.lst (some17 ((lc ms : Nat) : Int) q1 q2 q3 ++ some5 ((lc ms : Nat) : Int) g q4 q6 c))) y := by
      intro y hy
      simp only [some17, some5, List.cons_append, List.nil_append, List.mem_cons, List.not_mem_nil, or_false] at hy
      refine TpOk.kp ?_ kA
      rcases hy with rfl | rfl | rfl | rfl | rfl | rfl | rfl | rfl | rfl | rfl | rfl | rfl | rfl | rfl | rfl | rfl | rfl | rfl | rfl | rfl | rfl | rfl
      · exact .int (big _ (by omega))
      · exact .int (big _ (by omega))
      · exact .int (big _ (by omega))
      · exact .int (by decide)
      · exact .int (by decide)
      · exact .int (by decide)
      · exact .int (by decide)
      · exact .int (by decide)
      · exact .int (by decide)
      · exact .int (by decide +kernel)
      · exact .bl
      · exact .bl
      · exact ⟨⟨_, .non, by decide +kernel⟩, .inr (.inr (.inr ⟨_, .inl fun _ => .base .non, kit_ty (by decide +kernel), kit_ty (by decide +kernel)⟩))⟩
      · exact ⟨⟨_, .str _, by decide +kernel⟩, .inr (.inr (.inr ⟨_, .inl fun _ => .base (.str _), kit_ty (by decide +kernel), kit_ty (by decide +kernel)⟩))⟩
      · exact ⟨⟨_, .dat (d := .tuple []) (fun H' k => .tup (SqT.of (k _ _ e1 .tup)) .nil) rfl rfl (by decide), by decide +kernel⟩, .inr (.inr (.inr ⟨_, .inr ⟨_, _, rfl, e1, .tup, fun _ e => .base (.tup e)⟩, kit_ty (by decide +kernel), kit_ty (by decide +kernel)⟩))⟩
      · exact ⟨⟨_, .dat (d := .list []) (fun H' k => .lst (SqL.of (k _ _ e2 (fix_lst (by decide) (by decide)))) .nil) rfl rfl (by decide), by decide +kernel⟩, .inr (.inr (.inr ⟨_, .inr ⟨_, _, rfl, e2, fix_lst (by decide) (by decide), fun _ e => .base (.lst e)⟩, kit_ty (by decide +kernel), kit_ty (by decide +kernel)⟩))⟩
      · exact ⟨⟨_, .emp e3, by decide +kernel⟩, .inr (.inr (.inr ⟨_, .inr ⟨_, _, rfl, e3, .dK, fun _ e => .base (.dK e)⟩, kit_ty (by decide +kernel), kit_ty (by decide +kernel)⟩))⟩
      · exact ⟨⟨_, .dat (d := .tuple [.int 600]) (fun H' k => .tup (SqT.of (k _ _ e4 .tup)) (.cons (.int _) .nil)) (by decide +kernel) rfl (by decide), by decide +kernel⟩, .inr (.inr (.inr ⟨_, .inr ⟨_, _, rfl, e4, .tup, fun _ e => .base (.tup e)⟩, kit_ty (by decide +kernel), kit_ty (by decide +kernel)⟩))⟩
      · exact ⟨⟨_, .dat (d := .tuple [.list []]) (fun H' k => .tup (SqT.of (k _ _ upd_same .tup)) (.cons (.lst (SqL.of (k _ _ e5 (fix_lst (by decide) (by decide)))) .nil) .nil)) rfl rfl (by decide), by decide +kernel⟩, .inr (.inr (.inr ⟨_, .inr ⟨_, _, rfl, upd_same, .tup, fun _ e => .base (.tup e)⟩, kit_ty (by decide +kernel), kit_ty (by decide +kernel)⟩))⟩
      · obtain ⟨dxA, tA', ecA, _⟩ := id hcA
        exact ⟨⟨_, .crew hcA ck, crewText_len ck⟩, .inr (.inr (.inr ⟨_, .inr ⟨_, _, rfl, ecA, .ins, fun _ e => .base (.ins e CW.cl CW.kc CW.kg CW.kt CW.km)⟩, ki, kb⟩))⟩
      · exact .int (big _ (by omega))
      · exact .int (Nat.lt_of_le_of_lt (show (1 + g).natAbs ≤ 1000 by omega) (by decide))
    -- with MOST left out
    obtain ⟨T1, a1, a2⟩ := both (c := c) (b := true) (H := upd (upd HB S2 (.lst (some5 ((lc ms : Nat) : Int) g q4 q6 c))) W (.lst (some17 ((lc ms : Nat) : Int) q1 q2 q3 ++ some5 ((lc ms : Nat) : Int) g q4 q6 c))) S ck (.int (i := 600) (by decide)) (fun _ => rfl)
    refine ⟨_, rfl, ?_⟩
    unfold tCons tC tNil
    refine a1 _ _ _ (fun _ _ e _ => e) hcW fun r12 H12 s12 h12' => ?_
    refine ⟨.ref r12, _, rfl, h12', fun H13 s13 => ?_⟩
    refine ⟨_, rfl, ?_⟩
    refine a2 _ _ _ (.of_same (s12.trans s13)) fun r14 H14 s14 h14 => ?_
    refine ⟨.ref r14, _, rfl, h14, fun H15 s15 => ⟨rfl, _, rfl, ?_⟩⟩
    rw [decide_eq_true rfl]
    refine iteF ?_
    have s1215 := ((s12.trans s13).trans s14).trans s15
    have t15 := tW.trans (Step.of_same tW.purse s1215)
    have hWp : W ≠ p := (Step.of_same (tA.trans tB).purse uB).purse.ne nW
    refine ⟨_, rfl, p, 22, rfl, by decide, by decide, t15.purse, fun r22 H16 h220 h221 t16 => ?_⟩
    obtain ⟨j, rfl⟩ : ∃ j : Nat, r22 = (j : Int) := ⟨r22.toNat, by omega⟩
    have hj : j < (some17 ((lc ms : Nat) : Int) q1 q2 q3 ++ some5 ((lc ms : Nat) : Int) g q4 q6 c).length := by
      show j < 22
      omega
    obtain ⟨y0, hy0⟩ : ∃ y0, (some17 ((lc ms : Nat) : Int) q1 q2 q3 ++ some5 ((lc ms : Nat) : Int) g q4 q6 c)[j]? = some y0 := ⟨_, List.getElem?_eq_getElem hj⟩
    have eW16 := t16.keep _ _ hWp (s1215 _ _ upd_same)
    have k16 := (Kp.of_same s1215).trans (Kp.of_step t15.purse t16)
    have t416 := t15.trans t16
    refine ⟨_, rfl, _, rfl, W, _, _, _, rfl, rfl, SqL.of eW16, at_of (j := j) rfl hy0, _, rfl, _, rfl, _, _, rfl, rfl, (by show 5 ≤ sizeLine; decide), fun L nL => ?_⟩
    have uL := same_upd (o := .lst [y0, .int ((lc ms : Nat) : Int), .int (((lc ms : Nat) : Int) - 1), .bl true, .int 900]) nL
    have hcL := hcW.kt ((Kt.of_same s1215).trans ((Kt.of_step t15.purse t16).trans (.of_same uL)))
    have five : ∀ y ∈ ([y0, .int ((lc ms : Nat) : Int), .int (((lc ms : Nat) : Int) - 1), .bl true, .int 900] : List V), TpOk K CT CD CC (upd H16 L (.lst [y0, .int ((lc ms : Nat) : Int), .int (((lc ms : Nat) : Int) - 1), .bl true, .int 900])) y := by
      intro y hy
      simp only [List.mem_cons, List.not_mem_nil, or_false] at hy
      rcases hy with rfl | rfl | rfl | rfl | rfl
      · exact (all _ (List.mem_of_getElem? hy0)).kp (k16.trans (.of_same uL))
      · exact .int (big _ (by omega))
      · exact .int (big _ (by omega))
      · exact .bl
      · exact .int (by decide)
    refine ⟨L, rfl, ⟨_, SqL.of upd_same⟩, for_list (K := K) (a := L) (xs := [y0, .int ((lc ms : Nat) : Int), .int (((lc ms : Nat) : Int) - 1), .bl true, .int 900]) (fun _ σ H' => ∃ v8 : Option V, σ = [some (.ref a), some (.int (0 + (i : Int))), some (.ref p), some (.ref FF), some (.ref c), some (.int ((lc ms : Nat) : Int)), some (.ref W), some (.int (j : Int)), v8] ∧ Same (upd H16 L (.lst [y0, .int ((lc ms : Nat) : Int), .int (((lc ms : Nat) : Int) - 1), .bl true, .int 900])) H') ⟨_, rfl, Same.refl _⟩ ?_ ?_ ?_⟩
    · rintro _ σ H17 _ ⟨_, _, s17⟩
      exact SqL.of (s17 _ _ upd_same)
    · rintro j2 y σ H17 hy ⟨v8, rfl, s17⟩
      obtain ⟨T2, b1, b2⟩ := both (c := c) (b := false) S ck ((five y (List.mem_of_getElem? hy)).kp (.of_same s17)) (fun z => nomatch z)
      refine ⟨_, rfl, _, rfl, ?_⟩
      show spTold K CT CD CC [.ref c, y, .bl false] H17 _ _
      refine b1 _ _ _ (fun _ _ e _ => e) (hcL.kt (.of_same s17)) fun r18 H18 s18 h18 => ?_
      refine ⟨.ref r18, _, rfl, h18, fun H19 s19 => ?_⟩
      refine ⟨_, rfl, _, rfl, ?_⟩
      show spDue K [.int ((lc ms : Nat) : Int), y] H19 _ _
      refine b2 _ _ _ (.of_same (s18.trans s19)) fun r20 H20 s20 h20 => ?_
      refine ⟨.ref r20, _, rfl, h20, fun H21 s21 => ⟨rfl, _, rfl, ?_⟩⟩
      rw [decide_eq_true rfl]
      exact iteF ⟨_, rfl, (((s17.trans s18).trans s19).trans s20).trans s21⟩
    · rintro σ H17 ⟨v8, rfl, s17⟩
      have tE := t416.trans (Step.of_same t416.purse (uL.trans s17))
      exact ⟨_, _, _, _, _, _, _, _, rfl, fun b o e => tE.keep b o (ne_of_none e npH) (s24 b o e)⟩
  · rintro σ H2 ⟨v1, v2, v3, v4, v5, v6, v7, v8, rfl, s2⟩
    exact q H2
end
end Du

set_option Elab.async false
set_option linter.all false
set_option maxRecDepth 100000
namespace Du
open PySem L2
theorem kit_self {K : PySem.W.Frag} {C : Addr} : PySem.W.kitOne K (.ref C) (.ref C) = some true := by
  unfold PySem.W.kitOne
  simp
theorem exm_of {K : PySem.W.Frag} {C c : Addr} {b : Bool} (h1 : PySem.W.subIn K (.ref c) (.type "BaseException") = some true) (h2 : PySem.W.hasDictIn K c = true) (h3 : PySem.W.typeIn K (.ref c) = some (.type "type")) (h4 : PySem.W.subIn K (.ref C) (.ref c) = some b) : PySem.W.exmOne K (.ref C) (.ref c) = some b := by
  obtain ⟨cd, hc, _⟩ := PySem.W.any_some h2
  unfold PySem.W.exmOne PySem.W.kitCls
  rw [h1]
  show (if ((PySem.W.clsIn K c).isSome && PySem.W.typeIn K (.ref c) == some (.type "type")) = true then PySem.W.subIn K (.ref C) (.ref c) else none) = some b
  rw [hc, h3, h4]
  rfl
theorem exm2 {K : PySem.W.Frag} {t c1 c2 : Value} {b1 b2 : Bool} (h1 : PySem.W.exmOne K t c1 = some b1) (h2 : PySem.W.exmOne K t c2 = some b2) : PySem.W.exmAny K t [c1, c2] = some (b1 || b2) := by
  unfold PySem.W.exmAny PySem.W.exmAny PySem.W.exmAny
  rw [h1, h2]
  cases b1 <;> cases b2 <;> rfl
theorem exm3 {K : PySem.W.Frag} {t c1 c2 c3 : Value} {b1 b2 b3 : Bool} (h1 : PySem.W.exmOne K t c1 = some b1) (h2 : PySem.W.exmOne K t c2 = some b2) (h3 : PySem.W.exmOne K t c3 = some b3) : PySem.W.exmAny K t [c1, c2, c3] = some (b1 || b2 || b3) := by
  unfold PySem.W.exmAny PySem.W.exmAny PySem.W.exmAny PySem.W.exmAny
  rw [h1, h2, h3]
  cases b1 <;> cases b2 <;> cases b3 <;> rfl
set_option maxHeartbeats 4000000 in
theorem all_mk {l : PySem.W.OpenLaw} {w : World} {K : PySem.W.Frag} {h : Heap} {mg : Str → Option Value} {fa : Addr} (X : K.In h) (G : h.Ns mainGlobals mg) (hfa : mg "law" = some (.ref fa))
    {fNu fWh fMu fNm fHd fAh fHs fWT fWD fIm fAm fTw fCs fCp fAd fCe fPu fTa fWo fGa fDr fCw fSh fLd fSt fTo fDu fLa CT fIn DI e0 fRt CD fId fRd CC fIc DT0 e1 fMn fMo fRc fMs DS CN fx_ x_N x_cda x_cc CM fm_ m_N m_cda m_cc c1 c2 c3 c4 c5 c6 gB gL gF : Addr}
    {odNu anNu odWh anWh odMu anMu odNm anNm odHd anHd odAh anAh odHs anHs odWT anWT odWD anWD odIm anIm odAm anAm odTw anTw odCs anCs odCp anCp odAd anAd odCe anCe odPu anPu odTa anTa odWo anWo odGa anGa odDr anDr odCw anCw odSh anSh odLd anLd odSt anSt odTo anTo odDu anDu odLa anLa odIn anIn od0 odRt anRt odId anId odRd anRd odIc anIc od1 odMn anMn odMo anMo odRc anRc odMs anMs x_dd x_od x_an_ x_cdd x_cld m_dd m_od m_an_ m_cdd m_cld : Option Addr}
    {slNu slWh slMu slNm slHd slAh slHs slWT slWD slIm slAm slTw slCs slCp slAd slCe slPu slTa slWo slGa slDr slCw slSh slLd slSt slTo slDu slLa slIn sl0 slRt slId slRd slIc sl1 slMn slMo slRc slMs x_osl x_ccs x_csl m_osl m_ccs m_csl : Array (Option Value)}
    {ocNu dcNu pmNu cdNu ctNu kVNu ocWh dcWh pmWh cdWh ctWh kVWh ocMu dcMu pmMu cdMu ctMu kVMu ocNm dcNm pmNm cdNm ctNm kVNm ocHd dcHd pmHd cdHd ctHd kVHd ocAh dcAh pmAh cdAh ctAh kVAh ocHs dcHs pmHs cdHs ctHs kVHs ocWT dcWT pmWT cdWT ctWT kVWT ocWD dcWD pmWD cdWD ctWD kVWD ocIm dcIm pmIm cdIm ctIm kVIm ocAm dcAm pmAm cdAm ctAm kVAm ocTw dcTw pmTw cdTw ctTw kVTw ocCs dcCs pmCs cdCs ctCs kVCs ocCp dcCp pmCp cdCp ctCp kVCp ocAd dcAd pmAd cdAd ctAd kVAd ocCe dcCe pmCe cdCe ctCe kVCe ocPu dcPu pmPu cdPu ctPu kVPu ocTa dcTa pmTa cdTa ctTa kVTa ocWo dcWo pmWo cdWo ctWo kVWo ocGa dcGa pmGa cdGa ctGa kVGa ocDr dcDr pmDr cdDr ctDr kVDr ocCw dcCw pmCw cdCw ctCw kVCw ocSh dcSh pmSh cdSh ctSh kVSh ocLd dcLd pmLd cdLd ctLd kVLd ocSt dcSt pmSt cdSt ctSt kVSt ocTo dcTo pmTo cdTo ctTo kVTo ocDu dcDu pmDu cdDu ctDu kVDu ocLa dcLa pmLa cdLa ctLa kVLa ocIn dcIn pmIn cdIn ctIn ocRt dcRt pmRt cdRt ctRt kVRt ocId dcId pmId cdId ctId kVId ocRd dcRd pmRd cdRd ctRd kVRd ocIc dcIc pmIc cdIc ctIc kVIc tcl1 ocMn dcMn pmMn cdMn ctMn kVMn ocMo dcMo pmMo cdMo ctMo kVMo ocRc dcRc pmRc cdRc ctRc kVRc ocMs dcMs pmMs cdMs ctMs x_oc x_doc x_pm x_ct x_ccl x_cl2 m_oc m_doc m_pm m_ct m_ccl m_cl2 : Value}
    {n0 n1 : Nat}
    {ws w1 w2 w3 w4 w5 w6 w7 w8 x_tf m_tf : Tok}
    {x_nm x_q x_file m_nm m_q m_file : Str}
    {x_bs x_bm x_sub m_bs m_bm m_sub : List Value}
    {x_sn m_sn : List Str}
    {x_ab m_ab : Bool}
    {x_col m_col : Option Bool}
    {x_k0 x_k1 x_k2 x_k3 x_k5 m_k0 m_k1 m_k2 m_k3 m_k5 : Option Value}
    {x_vs_ m_vs_ : Array Value}
    (aNu : PySem.W.nsIn K mainGlobals "is_number" = some (some (.ref fNu)))
    (lNu : K.lookup fNu = some ⟨ocNu, odNu, .func (PySem.W.fnOf "is_number" "is_number" (defArgs sNumber) (defBody sNumber) (defScope sNumber) .none kVNu dcNu pmNu anNu cdNu ctNu), slNu⟩)
    (cNu : PySem.W.codeIn K cdNu "is_number" = true)
    (kNu : PySem.W.keepIn K (.ref fNu) = true)
    (aWh : PySem.W.nsIn K mainGlobals "is_whole" = some (some (.ref fWh)))
    (lWh : K.lookup fWh = some ⟨ocWh, odWh, .func (PySem.W.fnOf "is_whole" "is_whole" (defArgs sWhole) (defBody sWhole) (defScope sWhole) .none kVWh dcWh pmWh anWh cdWh ctWh), slWh⟩)
    (cWh : PySem.W.codeIn K cdWh "is_whole" = true)
    (kWh : PySem.W.keepIn K (.ref fWh) = true)
    (aMu : PySem.W.nsIn K mainGlobals "must_be_whole" = some (some (.ref fMu)))
    (lMu : K.lookup fMu = some ⟨ocMu, odMu, .func (PySem.W.fnOf "must_be_whole" "must_be_whole" (defArgs sMust) (defBody sMust) (defScope sMust) .none kVMu dcMu pmMu anMu cdMu ctMu), slMu⟩)
    (cMu : PySem.W.codeIn K cdMu "must_be_whole" = true)
    (kMu : PySem.W.keepIn K (.ref fMu) = true)
    (aNm : PySem.W.nsIn K mainGlobals "is_name" = some (some (.ref fNm)))
    (lNm : K.lookup fNm = some ⟨ocNm, odNm, .func (PySem.W.fnOf "is_name" "is_name" (defArgs sName) (defBody sName) (defScope sName) .none kVNm dcNm pmNm anNm cdNm ctNm), slNm⟩)
    (cNm : PySem.W.codeIn K cdNm "is_name" = true)
    (kNm : PySem.W.keepIn K (.ref fNm) = true)
    (aHd : PySem.W.nsIn K mainGlobals "is_hold" = some (some (.ref fHd)))
    (lHd : K.lookup fHd = some ⟨ocHd, odHd, .func (PySem.W.fnOf "is_hold" "is_hold" (defArgs sHold) (defBody sHold) (defScope sHold) .none kVHd dcHd pmHd anHd cdHd ctHd), slHd⟩)
    (cHd : PySem.W.codeIn K cdHd "is_hold" = true)
    (kHd : PySem.W.keepIn K (.ref fHd) = true)
    (aAh : PySem.W.nsIn K mainGlobals "goes_ahead" = some (some (.ref fAh)))
    (lAh : K.lookup fAh = some ⟨ocAh, odAh, .func (PySem.W.fnOf "goes_ahead" "goes_ahead" (defArgs sAhead) (defBody sAhead) (defScope sAhead) .none kVAh dcAh pmAh anAh cdAh ctAh), slAh⟩)
    (cAh : PySem.W.codeIn K cdAh "goes_ahead" = true)
    (kAh : PySem.W.keepIn K (.ref fAh) = true)
    (aHs : PySem.W.nsIn K mainGlobals "are_holds" = some (some (.ref fHs)))
    (lHs : K.lookup fHs = some ⟨ocHs, odHs, .func (PySem.W.fnOf "are_holds" "are_holds" (defArgs sHolds) (defBody sHolds) (defScope sHolds) .none kVHs dcHs pmHs anHs cdHs ctHs), slHs⟩)
    (cHs : PySem.W.codeIn K cdHs "are_holds" = true)
    (kHs : PySem.W.keepIn K (.ref fHs) = true)
    (aWT : PySem.W.nsIn K mainGlobals "wrong_in_task" = some (some (.ref fWT)))
    (lWT : K.lookup fWT = some ⟨ocWT, odWT, .func (PySem.W.fnOf "wrong_in_task" "wrong_in_task" (defArgs sWrongT) (defBody sWrongT) (defScope sWrongT) .none kVWT dcWT pmWT anWT cdWT ctWT), slWT⟩)
    (cWT : PySem.W.codeIn K cdWT "wrong_in_task" = true)
    (kWT : PySem.W.keepIn K (.ref fWT) = true)
    (aWD : PySem.W.nsIn K mainGlobals "wrong_in_door" = some (some (.ref fWD)))
    (lWD : K.lookup fWD = some ⟨ocWD, odWD, .func (PySem.W.fnOf "wrong_in_door" "wrong_in_door" (defArgs sWrongD) (defBody sWrongD) (defScope sWrongD) .none kVWD dcWD pmWD anWD cdWD ctWD), slWD⟩)
    (cWD : PySem.W.codeIn K cdWD "wrong_in_door" = true)
    (kWD : PySem.W.keepIn K (.ref fWD) = true)
    (aIm : PySem.W.nsIn K mainGlobals "is_member" = some (some (.ref fIm)))
    (lIm : K.lookup fIm = some ⟨ocIm, odIm, .func (PySem.W.fnOf "is_member" "is_member" (defArgs sIsMem) (defBody sIsMem) (defScope sIsMem) .none kVIm dcIm pmIm anIm cdIm ctIm), slIm⟩)
    (cIm : PySem.W.codeIn K cdIm "is_member" = true)
    (kIm : PySem.W.keepIn K (.ref fIm) = true)
    (aAm : PySem.W.nsIn K mainGlobals "are_members" = some (some (.ref fAm)))
    (lAm : K.lookup fAm = some ⟨ocAm, odAm, .func (PySem.W.fnOf "are_members" "are_members" (defArgs sAreMem) (defBody sAreMem) (defScope sAreMem) .none kVAm dcAm pmAm anAm cdAm ctAm), slAm⟩)
    (cAm : PySem.W.codeIn K cdAm "are_members" = true)
    (kAm : PySem.W.keepIn K (.ref fAm) = true)
    (aTw : PySem.W.nsIn K mainGlobals "name_twice" = some (some (.ref fTw)))
    (lTw : K.lookup fTw = some ⟨ocTw, odTw, .func (PySem.W.fnOf "name_twice" "name_twice" (defArgs sTwice) (defBody sTwice) (defScope sTwice) .none kVTw dcTw pmTw anTw cdTw ctTw), slTw⟩)
    (cTw : PySem.W.codeIn K cdTw "name_twice" = true)
    (kTw : PySem.W.keepIn K (.ref fTw) = true)
    (aCs : PySem.W.nsIn K mainGlobals "cost_of" = some (some (.ref fCs)))
    (lCs : K.lookup fCs = some ⟨ocCs, odCs, .func (PySem.W.fnOf "cost_of" "cost_of" (defArgs sCost) (defBody sCost) (defScope sCost) .none kVCs dcCs pmCs anCs cdCs ctCs), slCs⟩)
    (cCs : PySem.W.codeIn K cdCs "cost_of" = true)
    (kCs : PySem.W.keepIn K (.ref fCs) = true)
    (aCp : PySem.W.nsIn K mainGlobals "common_part" = some (some (.ref fCp)))
    (lCp : K.lookup fCp = some ⟨ocCp, odCp, .func (PySem.W.fnOf "common_part" "common_part" (defArgs sCommon) (defBody sCommon) (defScope sCommon) .none kVCp dcCp pmCp anCp cdCp ctCp), slCp⟩)
    (cCp : PySem.W.codeIn K cdCp "common_part" = true)
    (kCp : PySem.W.keepIn K (.ref fCp) = true)
    (aAd : PySem.W.nsIn K mainGlobals "added" = some (some (.ref fAd)))
    (lAd : K.lookup fAd = some ⟨ocAd, odAd, .func (PySem.W.fnOf "added" "added" (defArgs sAdded) (defBody sAdded) (defScope sAdded) .none kVAd dcAd pmAd anAd cdAd ctAd), slAd⟩)
    (cAd : PySem.W.codeIn K cdAd "added" = true)
    (kAd : PySem.W.keepIn K (.ref fAd) = true)
    (aCe : PySem.W.nsIn K mainGlobals "_law_cell" = some (some (.ref fCe)))
    (lCe : K.lookup fCe = some ⟨ocCe, odCe, .func (PySem.W.fnOf "_law_cell" "_law_cell" (defArgs sCell) (defBody sCell) (defScope sCell) .none kVCe dcCe pmCe anCe cdCe ctCe), slCe⟩)
    (cCe : PySem.W.codeIn K cdCe "_law_cell" = true)
    (kCe : PySem.W.keepIn K (.ref fCe) = true)
    (aPu : PySem.W.nsIn K mainGlobals "_law_purse" = some (some (.ref fPu)))
    (lPu : K.lookup fPu = some ⟨ocPu, odPu, .func (PySem.W.fnOf "_law_purse" "_law_purse" (defArgs sPurse) (defBody sPurse) (defScope sPurse) .none kVPu dcPu pmPu anPu cdPu ctPu), slPu⟩)
    (cPu : PySem.W.codeIn K cdPu "_law_purse" = true)
    (kPu : PySem.W.keepIn K (.ref fPu) = true)
    (aTa : PySem.W.nsIn K mainGlobals "_law_take" = some (some (.ref fTa)))
    (lTa : K.lookup fTa = some ⟨ocTa, odTa, .func (PySem.W.fnOf "_law_take" "_law_take" (defArgs sTake) (defBody sTake) (defScope sTake) .none kVTa dcTa pmTa anTa cdTa ctTa), slTa⟩)
    (cTa : PySem.W.codeIn K cdTa "_law_take" = true)
    (kTa : PySem.W.keepIn K (.ref fTa) = true)
    (aWo : PySem.W.nsIn K mainGlobals "_law_words" = some (some (.ref fWo)))
    (lWo : K.lookup fWo = some ⟨ocWo, odWo, .func (PySem.W.fnOf "_law_words" "_law_words" (defArgs sWords) (defBody sWords) (defScope sWords) .none kVWo dcWo pmWo anWo cdWo ctWo), slWo⟩)
    (cWo : PySem.W.codeIn K cdWo "_law_words" = true)
    (kWo : PySem.W.keepIn K (.ref fWo) = true)
    (aGa : PySem.W.nsIn K mainGlobals "_law_gap" = some (some (.ref fGa)))
    (lGa : K.lookup fGa = some ⟨ocGa, odGa, .func (PySem.W.fnOf "_law_gap" "_law_gap" (defArgs sGapL) (defBody sGapL) (defScope sGapL) .none kVGa dcGa pmGa anGa cdGa ctGa), slGa⟩)
    (cGa : PySem.W.codeIn K cdGa "_law_gap" = true)
    (kGa : PySem.W.keepIn K (.ref fGa) = true)
    (aDr : PySem.W.nsIn K mainGlobals "_law_drawn" = some (some (.ref fDr)))
    (lDr : K.lookup fDr = some ⟨ocDr, odDr, .func (PySem.W.fnOf "_law_drawn" "_law_drawn" (defArgs sDrawn) (defBody sDrawn) (defScope sDrawn) .none kVDr dcDr pmDr anDr cdDr ctDr), slDr⟩)
    (cDr : PySem.W.codeIn K cdDr "_law_drawn" = true)
    (kDr : PySem.W.keepIn K (.ref fDr) = true)
    (aCw : PySem.W.nsIn K mainGlobals "_law_crew" = some (some (.ref fCw)))
    (lCw : K.lookup fCw = some ⟨ocCw, odCw, .func (PySem.W.fnOf "_law_crew" "_law_crew" (defArgs sCrewL) (defBody sCrewL) (defScope sCrewL) .none kVCw dcCw pmCw anCw cdCw ctCw), slCw⟩)
    (cCw : PySem.W.codeIn K cdCw "_law_crew" = true)
    (kCw : PySem.W.keepIn K (.ref fCw) = true)
    (aSh : PySem.W.nsIn K mainGlobals "_law_shared" = some (some (.ref fSh)))
    (lSh : K.lookup fSh = some ⟨ocSh, odSh, .func (PySem.W.fnOf "_law_shared" "_law_shared" (defArgs sShared) (defBody sShared) (defScope sShared) .none kVSh dcSh pmSh anSh cdSh ctSh), slSh⟩)
    (cSh : PySem.W.codeIn K cdSh "_law_shared" = true)
    (kSh : PySem.W.keepIn K (.ref fSh) = true)
    (aLd : PySem.W.nsIn K mainGlobals "_law_load" = some (some (.ref fLd)))
    (lLd : K.lookup fLd = some ⟨ocLd, odLd, .func (PySem.W.fnOf "_law_load" "_law_load" (defArgs sLoadL) (defBody sLoadL) (defScope sLoadL) .none kVLd dcLd pmLd anLd cdLd ctLd), slLd⟩)
    (cLd : PySem.W.codeIn K cdLd "_law_load" = true)
    (kLd : PySem.W.keepIn K (.ref fLd) = true)
    (aSt : PySem.W.nsIn K mainGlobals "_law_stretch" = some (some (.ref fSt)))
    (lSt : K.lookup fSt = some ⟨ocSt, odSt, .func (PySem.W.fnOf "_law_stretch" "_law_stretch" (defArgs sStretchL) (defBody sStretchL) (defScope sStretchL) .none kVSt dcSt pmSt anSt cdSt ctSt), slSt⟩)
    (cSt : PySem.W.codeIn K cdSt "_law_stretch" = true)
    (kSt : PySem.W.keepIn K (.ref fSt) = true)
    (aTo : PySem.W.nsIn K mainGlobals "_law_told" = some (some (.ref fTo)))
    (lTo : K.lookup fTo = some ⟨ocTo, odTo, .func (PySem.W.fnOf "_law_told" "_law_told" (defArgs sTold) (defBody sTold) (defScope sTold) .none kVTo dcTo pmTo anTo cdTo ctTo), slTo⟩)
    (cTo : PySem.W.codeIn K cdTo "_law_told" = true)
    (kTo : PySem.W.keepIn K (.ref fTo) = true)
    (aDu : PySem.W.nsIn K mainGlobals "_law_due" = some (some (.ref fDu)))
    (lDu : K.lookup fDu = some ⟨ocDu, odDu, .func (PySem.W.fnOf "_law_due" "_law_due" (defArgs sDue) (defBody sDue) (defScope sDue) .none kVDu dcDu pmDu anDu cdDu ctDu), slDu⟩)
    (cDu : PySem.W.codeIn K cdDu "_law_due" = true)
    (kDu : PySem.W.keepIn K (.ref fDu) = true)
    (aLa : PySem.W.nsIn K mainGlobals "law" = some (some (.ref fLa)))
    (lLa : K.lookup fLa = some ⟨ocLa, odLa, .func (PySem.W.fnOf "law" "law" (defArgs sLaw) (defBody sLaw) (defScope sLaw) .none kVLa dcLa pmLa anLa cdLa ctLa), slLa⟩)
    (cLa : PySem.W.codeIn K cdLa "law" = true)
    (kLa : PySem.W.keepIn K (.ref fLa) = true)
    (tg : PySem.W.specialIn K (.builtin "object.__class__") "__get__" = some (some (.builtin "getset_descriptor.__get__")))
    (tt : PySem.W.takesIn K (.builtin "object.__class__") = some true)
    (at_ : PySem.W.nsIn K mainGlobals "Task" = some (some (.ref CT)))
    (t_pg : PySem.W.plainGet K CT Str.empty = true)
    (t_hd : PySem.W.hasDictIn K CT = true)
    (t_po : PySem.W.plainOver K CT = true)
    (t_sa : PySem.W.findIn K (.ref CT) "__setattr__" = some (some (.builtin "object.__setattr__")))
    (t_mk : PySem.W.makesIn K CT = true)
    (t_kc : PySem.W.keepIn K (.ref CT) = true)
    (t_nN : PySem.W.findIn K (.ref CT) "name" = some none)
    (t_nC : PySem.W.findIn K (.ref CT) "cost" = some none)
    (t_nG : PySem.W.findIn K (.ref CT) "gap" = some none)
    (t_nD : PySem.W.findIn K (.ref CT) "due" = some none)
    (t_nH : PySem.W.findIn K (.ref CT) "holds" = some none)
    (t_tc : PySem.W.findIn K (.ref CT) "__class__" = some (some (.builtin "object.__class__")))
    (t_tm : PySem.W.mroIn K CT (.type "object") = some true)
    (aIn : PySem.W.findIn K (.ref CT) "__init__" = some (some (.ref fIn)))
    (lIn : K.lookup fIn = some ⟨ocIn, odIn, .func (PySem.W.fnOf "__init__" "Task.__init__" (defArgs sInit) (defBody sInit) (defScope sInit) .none (.ref DI) dcIn pmIn anIn cdIn ctIn), slIn⟩)
    (cIn : PySem.W.codeIn K cdIn "Task.__init__" = true)
    (kIn : PySem.W.keepIn K (.ref fIn) = true)
    (iIn : PySem.W.isFn K (.ref fIn) = true)
    (q1 : PySem.W.nsIn K DI "due" = some (some .none))
    (q2 : PySem.W.nsIn K DI "holds" = some (some (.ref e0)))
    (q3 : K.lookup e0 = some ⟨.type "tuple", od0, .seq #[] n0, sl0⟩)
    (aRt : PySem.W.findIn K (.ref CT) "__repr__" = some (some (.ref fRt)))
    (lRt : K.lookup fRt = some ⟨ocRt, odRt, .func (PySem.W.fnOf "__repr__" "Task.__repr__" (defArgs sTRepr) (defBody sTRepr) (defScope sTRepr) .none kVRt dcRt pmRt anRt cdRt ctRt), slRt⟩)
    (cRt : PySem.W.codeIn K cdRt "Task.__repr__" = true)
    (kRt : PySem.W.keepIn K (.ref fRt) = true)
    (iRt : PySem.W.isFn K (.ref fRt) = true)
    (ad_ : PySem.W.nsIn K mainGlobals "Door" = some (some (.ref CD)))
    (d_pg : PySem.W.plainGet K CD Str.empty = true)
    (d_hd : PySem.W.hasDictIn K CD = true)
    (d_po : PySem.W.plainOver K CD = true)
    (d_sa : PySem.W.findIn K (.ref CD) "__setattr__" = some (some (.builtin "object.__setattr__")))
    (d_mk : PySem.W.makesIn K CD = true)
    (d_kc : PySem.W.keepIn K (.ref CD) = true)
    (d_nN : PySem.W.findIn K (.ref CD) "name" = some none)
    (d_nR : PySem.W.findIn K (.ref CD) "room" = some none)
    (d_nG : PySem.W.findIn K (.ref CD) "gap" = some none)
    (d_tc : PySem.W.findIn K (.ref CD) "__class__" = some (some (.builtin "object.__class__")))
    (d_tm : PySem.W.mroIn K CD (.type "object") = some true)
    (aId : PySem.W.findIn K (.ref CD) "__init__" = some (some (.ref fId)))
    (lId : K.lookup fId = some ⟨ocId, odId, .func (PySem.W.fnOf "__init__" "Door.__init__" (defArgs sDInit) (defBody sDInit) (defScope sDInit) .none kVId dcId pmId anId cdId ctId), slId⟩)
    (cId : PySem.W.codeIn K cdId "Door.__init__" = true)
    (kId : PySem.W.keepIn K (.ref fId) = true)
    (iId : PySem.W.isFn K (.ref fId) = true)
    (aRd : PySem.W.findIn K (.ref CD) "__repr__" = some (some (.ref fRd)))
    (lRd : K.lookup fRd = some ⟨ocRd, odRd, .func (PySem.W.fnOf "__repr__" "Door.__repr__" (defArgs sDRepr) (defBody sDRepr) (defScope sDRepr) .none kVRd dcRd pmRd anRd cdRd ctRd), slRd⟩)
    (cRd : PySem.W.codeIn K cdRd "Door.__repr__" = true)
    (kRd : PySem.W.keepIn K (.ref fRd) = true)
    (iRd : PySem.W.isFn K (.ref fRd) = true)
    (ac_ : PySem.W.nsIn K mainGlobals "Crew" = some (some (.ref CC)))
    (c_pg : PySem.W.plainGet K CC Str.empty = true)
    (c_hd : PySem.W.hasDictIn K CC = true)
    (c_po : PySem.W.plainOver K CC = true)
    (c_sa : PySem.W.findIn K (.ref CC) "__setattr__" = some (some (.builtin "object.__setattr__")))
    (c_mk : PySem.W.makesIn K CC = true)
    (c_kc : PySem.W.keepIn K (.ref CC) = true)
    (c_nM : PySem.W.findIn K (.ref CC) "members" = some none)
    (c_tc : PySem.W.findIn K (.ref CC) "__class__" = some (some (.builtin "object.__class__")))
    (c_tm : PySem.W.mroIn K CC (.type "object") = some true)
    (c_kint : PySem.W.kitOne K (.ref CC) (.type "int") = some false)
    (c_kbool : PySem.W.kitOne K (.ref CC) (.type "bool") = some false)
    (aIc : PySem.W.findIn K (.ref CC) "__init__" = some (some (.ref fIc)))
    (lIc : K.lookup fIc = some ⟨ocIc, odIc, .func (PySem.W.fnOf "__init__" "Crew.__init__" (defArgs sCInit) (defBody sCInit) (defScope sCInit) (.ref DT0) kVIc dcIc pmIc anIc cdIc ctIc), slIc⟩)
    (cIc : PySem.W.codeIn K cdIc "Crew.__init__" = true)
    (kIc : PySem.W.keepIn K (.ref fIc) = true)
    (iIc : PySem.W.isFn K (.ref fIc) = true)
    (q4 : K.lookup DT0 = some ⟨tcl1, od1, .seq #[.ref e1] n1, sl1⟩)
    (aMn : PySem.W.findIn K (.ref CC) "names" = some (some (.ref fMn)))
    (lMn : K.lookup fMn = some ⟨ocMn, odMn, .func (PySem.W.fnOf "names" "Crew.names" (defArgs sNames) (defBody sNames) (defScope sNames) .none kVMn dcMn pmMn anMn cdMn ctMn), slMn⟩)
    (cMn : PySem.W.codeIn K cdMn "Crew.names" = true)
    (kMn : PySem.W.keepIn K (.ref fMn) = true)
    (iMn : PySem.W.isFn K (.ref fMn) = true)
    (aMo : PySem.W.findIn K (.ref CC) "load" = some (some (.ref fMo)))
    (lMo : K.lookup fMo = some ⟨ocMo, odMo, .func (PySem.W.fnOf "load" "Crew.load" (defArgs sLoad) (defBody sLoad) (defScope sLoad) .none kVMo dcMo pmMo anMo cdMo ctMo), slMo⟩)
    (cMo : PySem.W.codeIn K cdMo "Crew.load" = true)
    (kMo : PySem.W.keepIn K (.ref fMo) = true)
    (iMo : PySem.W.isFn K (.ref fMo) = true)
    (aRc : PySem.W.findIn K (.ref CC) "__repr__" = some (some (.ref fRc)))
    (lRc : K.lookup fRc = some ⟨ocRc, odRc, .func (PySem.W.fnOf "__repr__" "Crew.__repr__" (defArgs sCRepr) (defBody sCRepr) (defScope sCRepr) .none kVRc dcRc pmRc anRc cdRc ctRc), slRc⟩)
    (cRc : PySem.W.codeIn K cdRc "Crew.__repr__" = true)
    (kRc : PySem.W.keepIn K (.ref fRc) = true)
    (iRc : PySem.W.isFn K (.ref fRc) = true)
    (aMs : PySem.W.findIn K (.ref CC) "stretch" = some (some (.ref fMs)))
    (lMs : K.lookup fMs = some ⟨ocMs, odMs, .func (PySem.W.fnOf "stretch" "Crew.stretch" (defArgs sStretch) (defBody sStretch) (defScope sStretch) .none (.ref DS) dcMs pmMs anMs cdMs ctMs), slMs⟩)
    (cMs : PySem.W.codeIn K cdMs "Crew.stretch" = true)
    (kMs : PySem.W.keepIn K (.ref fMs) = true)
    (iMs : PySem.W.isFn K (.ref fMs) = true)
    (q5 : PySem.W.nsIn K DS "most" = some (some (.int 600 ws)))
    (v1 : PySem.W.nsIn K mainGlobals "LETTERS" = some (some (.str "abcdefghijklmnopqrstuvwxyz" w1)))
    (v2 : PySem.W.nsIn K mainGlobals "MOST_LETTERS" = some (some (.int 8 w2)))
    (v3 : PySem.W.nsIn K mainGlobals "MOST_COST" = some (some (.int 99 w3)))
    (v4 : PySem.W.nsIn K mainGlobals "MOST_GAP" = some (some (.int 600 w4)))
    (v5 : PySem.W.nsIn K mainGlobals "MOST_HOLDS" = some (some (.int 4 w5)))
    (v6 : PySem.W.nsIn K mainGlobals "MOST_MEMBERS" = some (some (.int 8 w6)))
    (v7 : PySem.W.nsIn K mainGlobals "MOST_STRETCH" = some (some (.int 900 w7)))
    (v8 : PySem.W.nsIn K mainGlobals "LIMIT" = some (some (.int 600 w8)))
    (kaT : PySem.W.kitAny K (.ref CT) [.ref CT, .ref CD] = some true)
    (kaD : PySem.W.kitAny K (.ref CD) [.ref CT, .ref CD] = some true)
    (koD : PySem.W.kitOne K (.ref CD) (.ref CT) = some false)
    (koT : PySem.W.kitOne K (.ref CT) (.ref CD) = some false)
    (e_CN : PySem.W.nsIn K mainGlobals "NoNumber" = some (some (.ref CN)))
    (x_iC : PySem.W.findIn K (.ref CN) "__init__" = some (some (.ref fx_)))
    (x_cl : K.lookup CN = some (PySem.excClassObj x_nm x_q CN x_N x_bs x_bm true x_sn x_sub x_ab x_col x_dd x_k0 x_k1 x_k2 x_k3 x_k5 "ValueError.__new__"))
    (x_ve : PySem.HandSPX.refsVE x_bm = true)
    (x_sa : PySem.W.findIn K (.ref CN) "__setattr__" = some (some (.builtin "object.__setattr__")))
    (x_ga : PySem.W.findIn K (.ref CN) "__getattribute__" = some (some (.builtin "BaseException.__getattribute__")))
    (x_gg : PySem.W.findIn K (.ref CN) "__getattr__" = some none)
    (x_no : PySem.W.findIn K (.ref CN) "number" = some none)
    (x_tC : PySem.W.typeIn K (.ref fx_) = some (.type "function"))
    (x_kC : PySem.W.keepIn K (.ref CN) = true)
    (x_ex : PySem.W.subIn K (.ref CN) (.type "BaseException") = some true)
    (x_vs : PySem.W.subIn K (.ref CN) (.type "ValueError") = some true)
    (x_ty : PySem.W.typeIn K (.ref CN) = some (.type "type"))
    (x_hd : PySem.W.hasDictIn K CN = true)
    (x_mr : PySem.W.mroIn K CN (.ref CN) = some true)
    (x_su : PySem.W.ks_superIn K CN CN "__init__" = some (some (.builtin "ValueError.__init__")))
    (x_an : PySem.W.nsIn K cStatics "thirdparty.any" = some none)
    (x_tp : (l.prog.main.scope.names.lookup ("super" : Str)).isSome = false)
    (x_fn : K.lookup fx_ = some ⟨x_oc, x_od, .func (PySem.W.ksFn "__init__" "NoNumber.__init__" (defArgs sNoNumber) (defBody sNoNumber) (defScope sNoNumber) .none .none x_doc x_pm x_an_ (.ref x_cda) x_ct x_cc), x_osl⟩)
    (x_co : PySem.W.codeIn K (.ref x_cda) "NoNumber.__init__" = true)
    (x_cd : K.lookup x_cda = some ⟨x_ccl, x_cdd, .fields x_vs_, x_ccs⟩)
    (x_v2 : x_vs_[2]? = some (.str x_file x_tf))
    (x_fi : ((l.prog.main.file : Str) == x_file) = true)
    (x_ce : K.lookup x_cc = some ⟨x_cl2, x_cld, .cell (some (.ref CN)), x_csl⟩)
    (x_tc : PySem.W.findIn K (.ref CN) "__class__" = some (some (.builtin "object.__class__")))
    (x_tm : PySem.W.mroIn K CN (.type "object") = some true)
    (e_CM : PySem.W.nsIn K mainGlobals "TooMany" = some (some (.ref CM)))
    (m_iC : PySem.W.findIn K (.ref CM) "__init__" = some (some (.ref fm_)))
    (m_cl : K.lookup CM = some (PySem.excClassObj m_nm m_q CM m_N m_bs m_bm true m_sn m_sub m_ab m_col m_dd m_k0 m_k1 m_k2 m_k3 m_k5 "ArithmeticError.__new__"))
    (m_ve : PySem.W.excTail aeM m_bm = true)
    (m_sa : PySem.W.findIn K (.ref CM) "__setattr__" = some (some (.builtin "object.__setattr__")))
    (m_ga : PySem.W.findIn K (.ref CM) "__getattribute__" = some (some (.builtin "BaseException.__getattribute__")))
    (m_gg : PySem.W.findIn K (.ref CM) "__getattr__" = some none)
    (m_no : PySem.W.findIn K (.ref CM) "many" = some none)
    (m_tC : PySem.W.typeIn K (.ref fm_) = some (.type "function"))
    (m_kC : PySem.W.keepIn K (.ref CM) = true)
    (m_ex : PySem.W.subIn K (.ref CM) (.type "BaseException") = some true)
    (m_vs : PySem.W.subIn K (.ref CM) (.type "ArithmeticError") = some true)
    (m_ty : PySem.W.typeIn K (.ref CM) = some (.type "type"))
    (m_hd : PySem.W.hasDictIn K CM = true)
    (m_mr : PySem.W.mroIn K CM (.ref CM) = some true)
    (m_su : PySem.W.ks_superIn K CM CM "__init__" = some (some (.builtin "ArithmeticError.__init__")))
    (m_an : PySem.W.nsIn K cStatics "thirdparty.any" = some none)
    (m_tp : (l.prog.main.scope.names.lookup ("super" : Str)).isSome = false)
    (m_fn : K.lookup fm_ = some ⟨m_oc, m_od, .func (PySem.W.ksFn "__init__" "TooMany.__init__" (defArgs sTooMany) (defBody sTooMany) (defScope sTooMany) .none .none m_doc m_pm m_an_ (.ref m_cda) m_ct m_cc), m_osl⟩)
    (m_co : PySem.W.codeIn K (.ref m_cda) "TooMany.__init__" = true)
    (m_cd : K.lookup m_cda = some ⟨m_ccl, m_cdd, .fields m_vs_, m_ccs⟩)
    (m_v2 : m_vs_[2]? = some (.str m_file m_tf))
    (m_fi : ((l.prog.main.file : Str) == m_file) = true)
    (m_ce : K.lookup m_cc = some ⟨m_cl2, m_cld, .cell (some (.ref CM)), m_csl⟩)
    (m_tc : PySem.W.findIn K (.ref CM) "__class__" = some (some (.builtin "object.__class__")))
    (m_tm : PySem.W.mroIn K CM (.type "object") = some true)
    (m_no2 : PySem.W.findIn K (.ref CM) "most" = some none)
    (e_c1 : PySem.W.nsIn K mainGlobals "Breaks" = some (some (.ref c1)))
    (e_c2 : PySem.W.nsIn K mainGlobals "Busy" = some (some (.ref c2)))
    (e_c3 : PySem.W.nsIn K mainGlobals "Standing" = some (some (.ref c3)))
    (e_c4 : PySem.W.nsIn K mainGlobals "TooMuch" = some (some (.ref c4)))
    (e_c5 : PySem.W.nsIn K mainGlobals "TooSoon" = some (some (.ref c5)))
    (e_c6 : PySem.W.nsIn K mainGlobals "NoCrew" = some (some (.ref c6)))
    (e_gB : PySem.W.nsIn K mainGlobals "TimeError" = some (some (.ref gB)))
    (e_gL : PySem.W.nsIn K mainGlobals "LostError" = some (some (.ref gL)))
    (e_gF : PySem.W.nsIn K mainGlobals "FullError" = some (some (.ref gF)))
    (s_nN : PySem.W.kitAny K (.ref CN) [.ref c1, .ref c2, .ref c3, .ref c4, .ref c5, .ref c6, .ref gL] = some false)
    (s_nM : PySem.W.kitAny K (.ref CM) [.ref c1, .ref c2, .ref c3, .ref c4, .ref c5, .ref c6, .ref gL] = some false)
    (s_NM : PySem.W.kitOne K (.ref CN) (.ref CM) = some false)
    (s_NV : PySem.W.kitOne K (.ref CN) (.type "ValueError") = some true)
    (s_NA : PySem.W.kitOne K (.ref CN) (.type "ArithmeticError") = some false)
    (s_MA : PySem.W.kitOne K (.ref CM) (.type "ArithmeticError") = some true)
    (s_MV : PySem.W.kitOne K (.ref CM) (.type "ValueError") = some false)
    (b_gB : PySem.W.subIn K (.ref gB) (.type "BaseException") = some true)
    (h_gB : PySem.W.hasDictIn K gB = true)
    (y_gB : PySem.W.typeIn K (.ref gB) = some (.type "type"))
    (u_CN_gB : PySem.W.subIn K (.ref CN) (.ref gB) = some true)
    (b_gL : PySem.W.subIn K (.ref gL) (.type "BaseException") = some true)
    (h_gL : PySem.W.hasDictIn K gL = true)
    (y_gL : PySem.W.typeIn K (.ref gL) = some (.type "type"))
    (u_CN_gL : PySem.W.subIn K (.ref CN) (.ref gL) = some false)
    (b_gF : PySem.W.subIn K (.ref gF) (.type "BaseException") = some true)
    (h_gF : PySem.W.hasDictIn K gF = true)
    (y_gF : PySem.W.typeIn K (.ref gF) = some (.type "type"))
    (u_CN_gF : PySem.W.subIn K (.ref CN) (.ref gF) = some false)
    (u_CM_gB : PySem.W.subIn K (.ref CM) (.ref gB) = some false)
    (u_CM_gL : PySem.W.subIn K (.ref CM) (.ref gL) = some false)
    (u_CM_gF : PySem.W.subIn K (.ref CM) (.ref gF) = some true)
    (z_isinstance : PySem.W.nsIn K mainGlobals "isinstance" = some none)
    (z_int : PySem.W.nsIn K mainGlobals "int" = some none)
    (z_bool : PySem.W.nsIn K mainGlobals "bool" = some none)
    (z_str : PySem.W.nsIn K mainGlobals "str" = some none)
    (z_tuple : PySem.W.nsIn K mainGlobals "tuple" = some none)
    (z_len : PySem.W.nsIn K mainGlobals "len" = some none)
    (z_all : PySem.W.nsIn K mainGlobals "all" = some none)
    (z_zip : PySem.W.nsIn K mainGlobals "zip" = some none)
    (z_range : PySem.W.nsIn K mainGlobals "range" = some none)
    (z_abs : PySem.W.nsIn K mainGlobals "abs" = some none)
    (z_max : PySem.W.nsIn K mainGlobals "max" = some none)
    (z_min : PySem.W.nsIn K mainGlobals "min" = some none)
    (z_super : PySem.W.nsIn K mainGlobals "super" = some none)
    (z_ValueError : PySem.W.nsIn K mainGlobals "ValueError" = some none)
    (z_ArithmeticError : PySem.W.nsIn K mainGlobals "ArithmeticError" = some none)
    (z_sum : PySem.W.nsIn K mainGlobals "sum" = some none)
    (z_repr : PySem.W.nsIn K mainGlobals "repr" = some none)
    : ∃ fd : FuncData, (∀ (s : Shared) (v : Value), BindsTo s fd ⟨[v], []⟩ [("_law_script", v)]) ∧ ∀ base : Heap, K.In base → base.Ns mainGlobals mg → LawOk l.prog w K mg base fa fd "_law_script" (spLaw K) := by
  have e := hfa.symm.trans (PySem.W.mg_of X G aLa)
  cases e
  have m_isinstance := PySem.W.mg_none_of X G z_isinstance
  have m_int := PySem.W.mg_none_of X G z_int
  have m_bool := PySem.W.mg_none_of X G z_bool
  have m_str := PySem.W.mg_none_of X G z_str
  have m_tuple := PySem.W.mg_none_of X G z_tuple
  have m_len := PySem.W.mg_none_of X G z_len
  have m_all := PySem.W.mg_none_of X G z_all
  have m_zip := PySem.W.mg_none_of X G z_zip
  have m_range := PySem.W.mg_none_of X G z_range
  have m_abs := PySem.W.mg_none_of X G z_abs
  have m_max := PySem.W.mg_none_of X G z_max
  have m_min := PySem.W.mg_none_of X G z_min
  have m_super := PySem.W.mg_none_of X G z_super
  have m_ValueError := PySem.W.mg_none_of X G z_ValueError
  have m_ArithmeticError := PySem.W.mg_none_of X G z_ArithmeticError
  have m_sum := PySem.W.mg_none_of X G z_sum
  have m_repr := PySem.W.mg_none_of X G z_repr
  have FNu := fun_mk (st := sNumber) lNu cNu kNu
  have bNu := FNu.binds (ps := ["thing"]) fun _ _ _ _ _ _ us hl => match us, hl with | [_], _ => rfl
  have FWh := fun_mk (st := sWhole) lWh cWh kWh
  have bWh := FWh.binds (ps := ["thing", "least", "most"]) fun _ _ _ _ _ _ us hl => match us, hl with | [_, _, _], _ => rfl
  have FMu := fun_mk (st := sMust) lMu cMu kMu
  have bMu := FMu.binds (ps := ["thing", "least", "most"]) fun _ _ _ _ _ _ us hl => match us, hl with | [_, _, _], _ => rfl
  have FNm := fun_mk (st := sName) lNm cNm kNm
  have bNm := FNm.binds (ps := ["thing"]) fun _ _ _ _ _ _ us hl => match us, hl with | [_], _ => rfl
  have FHd := fun_mk (st := sHold) lHd cHd kHd
  have bHd := FHd.binds (ps := ["thing", "cost"]) fun _ _ _ _ _ _ us hl => match us, hl with | [_, _], _ => rfl
  have FAh := fun_mk (st := sAhead) lAh cAh kAh
  have bAh := FAh.binds (ps := ["hold", "other"]) fun _ _ _ _ _ _ us hl => match us, hl with | [_, _], _ => rfl
  have FHs := fun_mk (st := sHolds) lHs cHs kHs
  have bHs := FHs.binds (ps := ["thing", "cost"]) fun _ _ _ _ _ _ us hl => match us, hl with | [_, _], _ => rfl
  have FWT := fun_mk (st := sWrongT) lWT cWT kWT
  have bWT := FWT.binds (ps := ["name", "cost", "gap", "due", "holds"]) fun _ _ _ _ _ _ us hl => match us, hl with | [_, _, _, _, _], _ => rfl
  have FWD := fun_mk (st := sWrongD) lWD cWD kWD
  have bWD := FWD.binds (ps := ["name", "room", "gap"]) fun _ _ _ _ _ _ us hl => match us, hl with | [_, _, _], _ => rfl
  have FIm := fun_mk (st := sIsMem) lIm cIm kIm
  have bIm := FIm.binds (ps := ["thing"]) fun _ _ _ _ _ _ us hl => match us, hl with | [_], _ => rfl
  have FAm := fun_mk (st := sAreMem) lAm cAm kAm
  have bAm := FAm.binds (ps := ["thing"]) fun _ _ _ _ _ _ us hl => match us, hl with | [_], _ => rfl
  have FTw := fun_mk (st := sTwice) lTw cTw kTw
  have bTw := FTw.binds (ps := ["members"]) fun _ _ _ _ _ _ us hl => match us, hl with | [_], _ => rfl
  have FCs := fun_mk (st := sCost) lCs cCs kCs
  have bCs := FCs.binds (ps := ["member"]) fun _ _ _ _ _ _ us hl => match us, hl with | [_], _ => rfl
  have FCp := fun_mk (st := sCommon) lCp cCp kCp
  have bCp := FCp.binds (ps := ["number", "other"]) fun _ _ _ _ _ _ us hl => match us, hl with | [_, _], _ => rfl
  have FAd := fun_mk (st := sAdded) lAd cAd kAd
  have bAd := FAd.binds (ps := ["shares"]) fun _ _ _ _ _ _ us hl => match us, hl with | [_], _ => rfl
  have FCe := fun_mk (st := sCell) lCe cCe kCe
  have bCe := FCe.binds (ps := ["_law_script", "_law_k"]) fun _ _ _ _ _ _ us hl => match us, hl with | [_, _], _ => rfl
  have FPu := fun_mk (st := sPurse) lPu cPu kPu
  have bPu := FPu.binds (ps := ["_law_cell_here"]) fun _ _ _ _ _ _ us hl => match us, hl with | [_], _ => rfl
  have FTa := fun_mk (st := sTake) lTa cTa kTa
  have bTa := FTa.binds (ps := ["_law_purse_here", "_law_many"]) fun _ _ _ _ _ _ us hl => match us, hl with | [_, _], _ => rfl
  have FWo := fun_mk (st := sWords) lWo cWo kWo
  have bWo := FWo.binds (ps := ["_law_purse_here", "_law_many"]) fun _ _ _ _ _ _ us hl => match us, hl with | [_, _], _ => rfl
  have FGa := fun_mk (st := sGapL) lGa cGa kGa
  have bGa := FGa.binds (ps := ["_law_purse_here", "_law_way"]) fun _ _ _ _ _ _ us hl => match us, hl with | [_, _], _ => rfl
  have FDr := fun_mk (st := sDrawn) lDr cDr kDr
  have bDr := FDr.binds (ps := ["_law_purse_here"]) fun _ _ _ _ _ _ us hl => match us, hl with | [_], _ => rfl
  have FCw := fun_mk (st := sCrewL) lCw cCw kCw
  have bCw := FCw.binds (ps := ["_law_rows"]) fun _ _ _ _ _ _ us hl => match us, hl with | [_], _ => rfl
  have FSh := fun_mk (st := sShared) lSh cSh kSh
  have bSh := FSh.binds (ps := ["_law_one", "_law_other"]) fun _ _ _ _ _ _ us hl => match us, hl with | [_, _], _ => rfl
  have FLd := fun_mk (st := sLoadL) lLd cLd kLd
  have bLd := FLd.binds (ps := ["_law_rows"]) fun _ _ _ _ _ _ us hl => match us, hl with | [_], _ => rfl
  have FSt := fun_mk (st := sStretchL) lSt cSt kSt
  have bSt := FSt.binds (ps := ["_law_rows"]) fun _ _ _ _ _ _ us hl => match us, hl with | [_], _ => rfl
  have FTo := fun_mk (st := sTold) lTo cTo kTo
  have bTo := FTo.binds (ps := ["_law_crew_here", "_law_top", "_law_left_out"]) fun _ _ _ _ _ _ us hl => match us, hl with | [_, _, _], _ => rfl
  have FDu := fun_mk (st := sDue) lDu cDu kDu
  have bDu := FDu.binds (ps := ["_law_size", "_law_top"]) fun _ _ _ _ _ _ us hl => match us, hl with | [_, _], _ => rfl
  have FLa := fun_mk (st := sLaw) lLa cLa kLa
  have FRt := fun_mk (st := sTRepr) lRt cRt kRt
  have bRt := FRt.binds (ps := ["self"]) fun _ _ _ _ _ _ us hl => match us, hl with | [_], _ => rfl
  have FId := fun_mk (st := sDInit) lId cId kId
  have bId := FId.binds (ps := ["self", "name", "room", "gap"]) fun _ _ _ _ _ _ us hl => match us, hl with | [_, _, _, _], _ => rfl
  have FRd := fun_mk (st := sDRepr) lRd cRd kRd
  have bRd := FRd.binds (ps := ["self"]) fun _ _ _ _ _ _ us hl => match us, hl with | [_], _ => rfl
  have FMn := fun_mk (st := sNames) lMn cMn kMn
  have bMn := FMn.binds (ps := ["self"]) fun _ _ _ _ _ _ us hl => match us, hl with | [_], _ => rfl
  have FMo := fun_mk (st := sLoad) lMo cMo kMo
  have bMo := FMo.binds (ps := ["self"]) fun _ _ _ _ _ _ us hl => match us, hl with | [_], _ => rfl
  have FRc := fun_mk (st := sCRepr) lRc cRc kRc
  have bRc := FRc.binds (ps := ["self"]) fun _ _ _ _ _ _ us hl => match us, hl with | [_], _ => rfl
  have FI : FunI K e0 fIn _ := ⟨⟨_, _, _, _, _, _, _, _, _, _, rfl, lIn, cIn, .inl ⟨rfl, rfl⟩, .inr ⟨DI, rfl, fun q hq => by
    rcases List.mem_cons.mp hq with rfl | hq
    · exact ⟨_, q1, rfl⟩
    · rw [List.mem_singleton.mp hq]
      exact ⟨_, q2, rfl⟩⟩⟩, kIn⟩
  have FS : FunSt K fMs _ := ⟨⟨_, _, _, _, _, _, _, _, _, _, rfl, lMs, cMs, .inl ⟨rfl, rfl⟩, .inr ⟨DS, rfl, fun q hq => by
    rw [List.mem_singleton.mp hq]
    exact ⟨_, q5, _, rfl⟩⟩⟩, kMs⟩
  have FC : FunCI K e1 fIc _ := ⟨⟨_, _, _, _, _, _, _, _, _, _, rfl, lIc, cIc, .inr ⟨by simp, DT0, _, [.ref e1], _, rfl, q4, rfl, .cons rfl .nil⟩, .inl rfl⟩, kIc⟩
  have hE : ∀ H : Hp, SqT K H e0 [] := fun H => .inr ⟨_, #[], _, q3, rfl, rfl, Nat.zero_le _, .nil⟩
  have T : TaskC K mg CT := ⟨⟨t_pg, t_hd, t_po, t_sa⟩, t_nN, t_nC, t_nG, t_nD, t_nH, PySem.W.mg_of X G at_, t_tc, tg, tt, t_tm, kit_self⟩
  have TD : DoorC K mg CD := ⟨⟨d_pg, d_hd, d_po, d_sa⟩, d_nN, d_nR, d_nG, PySem.W.mg_of X G ad_, d_tc, tg, tt, d_tm⟩
  have TC : CrewC K mg CC := ⟨⟨c_pg, c_hd, c_po, c_sa⟩, c_nM, PySem.W.mg_of X G ac_, c_tc, tg, tt, c_tm⟩
  have M : MemC K mg CT CD := ⟨T, TD, kaT, kaD, kit_self, koD⟩
  have MT : Mk K CT fIn := ⟨t_mk, aIn, iIn, t_kc⟩
  have MD : Mk K CD fId := ⟨d_mk, aId, iId, d_kc⟩
  have MC : Mk K CC fIc := ⟨c_mk, aIc, iIc, c_kc⟩
  have EN : ErrC l.prog K mg "NoNumber" "number" "NoNumber.__init__" sNoNumber CN fx_ := ⟨PySem.W.mg_of X G e_CN, ⟨_, _, _, _, _, _, _, _, _, _, _, _, _, _, _, x_cl, x_ve⟩, x_sa, x_ga, x_gg, x_no, x_iC, x_tC, x_kC, x_ex, x_vs, x_ty, x_hd, x_mr, x_su, x_an, x_tp, m_super,
    ⟨_, _, _, _, _, _, _, _, _, _, _, _, _, _, _, _, _, _, x_fn, x_co, x_cd, x_v2, x_fi, x_ce⟩⟩
  have RN : Err l.prog w K mg "NoNumber" "number" CN := err_ofNumber EN
  have EM : ErrB l.prog K mg "ArithmeticError" "ArithmeticError.__new__" "ArithmeticError.__init__" aeM "TooMany" ["many", "most"] "TooMany.__init__" sTooMany CM fm_ := ⟨PySem.W.mg_of X G e_CM, ⟨_, _, _, _, _, _, _, _, _, _, _, _, _, _, _, m_cl, m_ve⟩, m_sa, m_ga, m_gg, (fun f hf => (List.mem_cons.mp hf).elim (fun z => by rw [z]; exact m_no) fun z => by rw [List.mem_singleton.mp z]; exact m_no2), m_iC, m_tC, m_kC, m_ex, m_vs, m_ty, m_hd, m_mr, m_su, m_an, m_tp, m_super,
    ⟨_, _, _, _, _, _, _, _, _, _, _, _, _, _, _, _, _, _, m_fn, m_co, m_cd, m_v2, m_fi, m_ce⟩⟩
  have RM : Err2 l.prog w K mg "TooMany" "many" "most" CM := err2_ofTooMany EM
  have ES : ErrS K mg CN CM c1 c2 c3 c4 c5 c6 gB gL gF := ⟨PySem.W.mg_of X G e_CN, PySem.W.mg_of X G e_CM, PySem.W.mg_of X G e_c1, PySem.W.mg_of X G e_c2, PySem.W.mg_of X G e_c3, PySem.W.mg_of X G e_c4, PySem.W.mg_of X G e_c5, PySem.W.mg_of X G e_c6, PySem.W.mg_of X G e_gB, PySem.W.mg_of X G e_gL, PySem.W.mg_of X G e_gF, m_ValueError, m_ArithmeticError, m_isinstance, ⟨x_ga, x_gg, x_ex, x_hd, x_tc, tg, tt, x_tm⟩, ⟨m_ga, m_gg, m_ex, m_hd, m_tc, tg, tt, m_tm⟩, s_nN, s_nM, s_NM, kit_self, s_NV, s_NA, kit_self, s_MA, s_MV, x_no, m_no, m_no2, exm3 (exm_of b_gB h_gB y_gB u_CN_gB) (exm_of b_gL h_gL y_gL u_CN_gL) (exm_of b_gF h_gF y_gF u_CN_gF), exm3 (exm_of b_gB h_gB y_gB u_CM_gB) (exm_of b_gL h_gL y_gL u_CM_gL) (exm_of b_gF h_gF y_gF u_CM_gF)⟩
  refine ⟨PySem.W.fnOf "law" "law" (defArgs sLaw) (defBody sLaw) (defScope sLaw) .none kVLa dcLa pmLa anLa cdLa ctLa, fun s v => .of_eq rfl, fun base _ _ => ?_⟩
  have DU : Dn l.prog w K mg base 1 "is_number" ["thing"] (spNumber K) := ⟨_, _, ok_number FNu m_isinstance m_int m_bool, PySem.W.mg_of X G aNu, kNu, bNu⟩
  have DW : Dn l.prog w K mg base 2 "is_whole" ["thing", "least", "most"] (spWhole K) := ⟨_, _, ok_whole FWh DU, PySem.W.mg_of X G aWh, kWh, bWh⟩
  have DM : DnX l.prog w K mg base 3 "must_be_whole" ["thing", "least", "most"] (spMust K CN) := ⟨_, _, ok_must FMu RN DW, PySem.W.mg_of X G aMu, kMu, bMu⟩
  have DN : Dn l.prog w K mg base 2 "is_name" ["thing"] (spName K) := ⟨_, _, ok_name FNm m_isinstance m_str m_len m_all ⟨_, PySem.W.mg_of X G v2⟩ ⟨_, PySem.W.mg_of X G v1⟩, PySem.W.mg_of X G aNm, kNm, bNm⟩
  have DHd : Dn l.prog w K mg base 3 "is_hold" ["thing", "cost"] (spHold K) := ⟨_, _, ok_hold FHd m_isinstance m_tuple m_len DN DW, PySem.W.mg_of X G aHd, kHd, bHd⟩
  have DA : Dn l.prog w K mg base 2 "goes_ahead" ["hold", "other"] (spAhead K) := ⟨_, _, ok_ahead FAh, PySem.W.mg_of X G aAh, kAh, bAh⟩
  have DHs : Dn l.prog w K mg base 4 "are_holds" ["thing", "cost"] (spHolds K) := ⟨_, _, ok_holds FHs m_isinstance m_tuple m_len m_all m_zip ⟨_, PySem.W.mg_of X G v5⟩ DHd DA, PySem.W.mg_of X G aHs, kHs, bHs⟩
  have DWT : Dn l.prog w K mg base 5 "wrong_in_task" ["name", "cost", "gap", "due", "holds"] (spWrongT K) := ⟨_, _, ok_wrongT FWT ⟨_, PySem.W.mg_of X G v3⟩ ⟨_, PySem.W.mg_of X G v4⟩ DN DW DHs, PySem.W.mg_of X G aWT, kWT, bWT⟩
  have DWD : Dn l.prog w K mg base 3 "wrong_in_door" ["name", "room", "gap"] spWrongD := ⟨_, _, ok_wrongD FWD ⟨_, PySem.W.mg_of X G v3⟩ ⟨_, PySem.W.mg_of X G v4⟩ DN DW, PySem.W.mg_of X G aWD, kWD, bWD⟩
  have DIm : Dn l.prog w K mg base 3 "is_member" ["thing"] (spIsMem K CT CD) := ⟨_, _, ok_isMem FIm M m_isinstance, PySem.W.mg_of X G aIm, kIm, bIm⟩
  have DAm : Dn l.prog w K mg base 4 "are_members" ["thing"] (spAreMem K CT CD) := ⟨_, _, ok_areMem FAm m_isinstance m_tuple m_len m_all ⟨_, PySem.W.mg_of X G v6⟩ DIm, PySem.W.mg_of X G aAm, kAm, bAm⟩
  have DTw : Dn l.prog w K mg base 3 "name_twice" ["members"] (spTwice K CT CD) := ⟨_, _, ok_twice FTw M, PySem.W.mg_of X G aTw, kTw, bTw⟩
  have DCs : Dn l.prog w K mg base 3 "cost_of" ["member"] (spCost K CT CD) := ⟨_, _, ok_cost FCs M m_isinstance koT kit_self, PySem.W.mg_of X G aCs, kCs, bCs⟩
  have DCp : Dn l.prog w K mg base 3 "common_part" ["number", "other"] spGcd := ⟨_, _, ok_common FCp, PySem.W.mg_of X G aCp, kCp, bCp⟩
  have DAd : Dn l.prog w K mg base 4 "added" ["shares"] (spAdded K) := ⟨_, _, ok_added FAd DCp, PySem.W.mg_of X G aAd, kAd, bAd⟩
  have DCe : Dn l.prog w K mg base 3 "_law_cell" ["_law_script", "_law_k"] (spCellL K) := ⟨_, _, ok_cell FCe m_len, PySem.W.mg_of X G aCe, kCe, bCe⟩
  have DPu : Dn l.prog w K mg base 3 "_law_purse" ["_law_cell_here"] spPurse := ⟨_, _, ok_purse FPu m_abs, PySem.W.mg_of X G aPu, kPu, bPu⟩
  have DTa : Dn l.prog w K mg base 3 "_law_take" ["_law_purse_here", "_law_many"] spTake := ⟨_, _, ok_take FTa, PySem.W.mg_of X G aTa, kTa, bTa⟩
  have DWo : Dn l.prog w K mg base 4 "_law_words" ["_law_purse_here", "_law_many"] spWords := ⟨_, _, ok_words FWo m_len m_range DTa, PySem.W.mg_of X G aWo, kWo, bWo⟩
  have DGa : Dn l.prog w K mg base 4 "_law_gap" ["_law_purse_here", "_law_way"] spGapL := ⟨_, _, ok_gapL FGa DTa, PySem.W.mg_of X G aGa, kGa, bGa⟩
  have DDr : Dn l.prog w K mg base 5 "_law_drawn" ["_law_purse_here"] spDrawn := ⟨_, _, ok_drawn FDr m_range DTa DWo DGa, PySem.W.mg_of X G aDr, kDr, bDr⟩
  have DSh : Dn l.prog w K mg base 3 "_law_shared" ["_law_one", "_law_other"] spGcd := ⟨_, _, ok_shared FSh, PySem.W.mg_of X G aSh, kSh, bSh⟩
  have DLd : Dn l.prog w K mg base 4 "_law_load" ["_law_rows"] (spLoadL K) := ⟨_, _, ok_loadL FLd m_sum DSh, PySem.W.mg_of X G aLd, kLd, bLd⟩
  have DSt0 : Dn l.prog w K mg base 3 "_law_stretch" ["_law_rows"] (spStretchL K) := ⟨_, _, ok_stretchL FSt m_range, PySem.W.mg_of X G aSt, kSt, bSt⟩
  have DSt := DSt0.mono (k := 4) (by decide)
  have MM : MemM l.prog w K mg base CT CD := ⟨M, ⟨e0, fIn, _, FI, MT, ok_init FI T DWT, hE⟩, ⟨fId, _, bId, MD, ok_dinit FId TD DWD⟩⟩
  have CM' : CrewM l.prog w K mg base CT CD CC := ⟨M, TC, fIc, _, MC, ok_cinit FC TC DAm DTw, kc1 FC⟩
  have mMn : Meth K CC "names" fMn := ⟨aMn, iMn, kMn⟩
  have mMo : Meth K CC "load" fMo := ⟨aMo, iMo, kMo⟩
  have mMs : Meth K CC "stretch" fMs := ⟨aMs, iMs, kMs⟩
  have GMn := ok_names (P := l.prog) (w := w) (base := base) FMn M TC m_tuple
  have GMo := ok_load (P := l.prog) (w := w) (base := base) FMo M TC DCs DAd
  have GMs := ok_stretch (P := l.prog) (w := w) (base := base) FS M TC RN RM ⟨_, PySem.W.mg_of X G v7⟩ DM DCp
  have DCw : Dn l.prog w K mg base 8 "_law_crew" ["_law_rows"] (spCrewL K CT CD CC) := ⟨_, _, ok_crewL FCw MM CM' m_tuple m_int, PySem.W.mg_of X G aCw, kCw, bCw⟩
  have DDu : Dn l.prog w K mg base 3 "_law_due" ["_law_size", "_law_top"] (spDue K) := ⟨_, _, ok_due FDu m_isinstance m_bool m_int, PySem.W.mg_of X G aDu, kDu, bDu⟩
  have DTo : Dn l.prog w K mg base 5 "_law_told" ["_law_crew_here", "_law_top", "_law_left_out"] (spTold K CT CD CC) := ⟨_, _, ok_told FTo TC ES FS mMs GMs, PySem.W.mg_of X G aTo, kTo, bTo⟩
  have SO : OwnS l.prog w K mg base CT CD CC := ⟨⟨fRt, _, _, ok_trepr FRt T, bRt, aRt, iRt⟩, ⟨fRd, _, _, ok_drepr FRd TD, bRd, aRd, iRd⟩, ⟨fRc, _, _, ok_crepr FRc TC mMn GMn bMn, bRc, aRc, iRc⟩⟩
  exact ok_law FLa TC c_kint c_kbool SO mMo GMo bMo ⟨_, PySem.W.mg_of X G v8⟩ m_isinstance m_bool m_range m_max m_min m_len m_repr DCe DPu DTa DDr DCw DSt DLd DTo DDu
end Du

set_option Elab.async false
set_option linter.all false
open PySem PySem.W PyProof.Rows
set_option maxRecDepth 100000 in
set_option maxHeartbeats 0 in
theorem PySem.Challenge.cw_duetimes_k08_loads_and_stretches_holds : PySem.Challenge.rw_duetimes_k08_loads_and_stretches.Holds := by
  w_on; o_law; k_head; (case hw => w_witness2)
  k_fill
  refine Du.walk_at (l := PySem.Challenge.rw_duetimes_k08_loads_and_stretches) (n := 63) (x := "_law_script") (sp := fun w => Du.spLaw _) rfl (by decide) rfl (fun w h Y => PySem.W.kIn_of Y) ?F (fun _ _ a ns hl hS => ⟨a, ns, rfl, hS, fun _ => rfl⟩)
  case F =>
    intro w mg fa h KX G hmg
    refine' Du.all_mk KX G hmg ?aNu ?lNu ?cNu ?kNu ?aWh ?lWh ?cWh ?kWh ?aMu ?lMu ?cMu ?kMu ?aNm ?lNm ?cNm ?kNm ?aHd ?lHd ?cHd ?kHd ?aAh ?lAh ?cAh ?kAh ?aHs ?lHs ?cHs ?kHs ?aWT ?lWT ?cWT ?kWT ?aWD ?lWD ?cWD ?kWD ?aIm ?lIm ?cIm ?kIm ?aAm ?lAm ?cAm ?kAm ?aTw ?lTw ?cTw ?kTw ?aCs ?lCs ?cCs ?kCs ?aCp ?lCp ?cCp ?kCp ?aAd ?lAd ?cAd ?kAd ?aCe ?lCe ?cCe ?kCe ?aPu ?lPu ?cPu ?kPu ?aTa ?lTa ?cTa ?kTa ?aWo ?lWo ?cWo ?kWo ?aGa ?lGa ?cGa ?kGa ?aDr ?lDr ?cDr ?kDr ?aCw ?lCw ?cCw ?kCw ?aSh ?lSh ?cSh ?kSh ?aLd ?lLd ?cLd ?kLd ?aSt ?lSt ?cSt ?kSt ?aTo ?lTo ?cTo ?kTo ?aDu ?lDu ?cDu ?kDu ?aLa ?lLa ?cLa ?kLa ?tg ?tt ?at_ ?t_pg ?t_hd ?t_po ?t_sa ?t_mk ?t_kc ?t_nN ?t_nC ?t_nG ?t_nD ?t_nH ?t_tc ?t_tm ?aIn ?lIn ?cIn ?kIn ?iIn ?q1 ?q2 ?q3 ?aRt ?lRt ?cRt ?kRt ?iRt ?ad_ ?d_pg ?d_hd ?d_po ?d_sa ?d_mk ?d_kc ?d_nN ?d_nR ?d_nG ?d_tc ?d_tm ?aId ?lId ?cId ?kId ?iId ?aRd ?lRd ?cRd ?kRd ?iRd ?ac_ ?c_pg ?c_hd ?c_po ?c_sa ?c_mk ?c_kc ?c_nM ?c_tc ?c_tm ?c_kint ?c_kbool ?aIc ?lIc ?cIc ?kIc ?iIc ?q4 ?aMn ?lMn ?cMn ?kMn ?iMn ?aMo ?lMo ?cMo ?kMo ?iMo ?aRc ?lRc ?cRc ?kRc ?iRc ?aMs ?lMs ?cMs ?kMs ?iMs ?q5 ?v1 ?v2 ?v3 ?v4 ?v5 ?v6 ?v7 ?v8 ?kaT ?kaD ?koD ?koT ?e_CN ?x_iC ?x_cl ?x_ve ?x_sa ?x_ga ?x_gg ?x_no ?x_tC ?x_kC ?x_ex ?x_vs ?x_ty ?x_hd ?x_mr ?x_su ?x_an ?x_tp ?x_fn ?x_co ?x_cd ?x_v2 ?x_fi ?x_ce ?x_tc ?x_tm ?e_CM ?m_iC ?m_cl ?m_ve ?m_sa ?m_ga ?m_gg ?m_no ?m_tC ?m_kC ?m_ex ?m_vs ?m_ty ?m_hd ?m_mr ?m_su ?m_an ?m_tp ?m_fn ?m_co ?m_cd ?m_v2 ?m_fi ?m_ce ?m_tc ?m_tm ?m_no2 ?e_c1 ?e_c2 ?e_c3 ?e_c4 ?e_c5 ?e_c6 ?e_gB ?e_gL ?e_gF ?s_nN ?s_nM ?s_NM ?s_NV ?s_NA ?s_MA ?s_MV ?b_gB ?h_gB ?y_gB ?u_CN_gB ?b_gL ?h_gL ?y_gL ?u_CN_gL ?b_gF ?h_gF ?y_gF ?u_CN_gF ?u_CM_gB ?u_CM_gL ?u_CM_gF ?z_isinstance ?z_int ?z_bool ?z_str ?z_tuple ?z_len ?z_all ?z_zip ?z_range ?z_abs ?z_max ?z_min ?z_super ?z_ValueError ?z_ArithmeticError ?z_sum ?z_repr
    (case aNu => k_is)
    (case lNu => k_is)
    (case cNu => k_is)
    (case kNu => k_is)
    (case aWh => k_is)
    (case lWh => k_is)
    (case cWh => k_is)
    (case kWh => k_is)
    (case aMu => k_is)
    (case lMu => k_is)
    (case cMu => k_is)
    (case kMu => k_is)
    (case aNm => k_is)
    (case lNm => k_is)
    (case cNm => k_is)
    (case kNm => k_is)
    (case aHd => k_is)
    (case lHd => k_is)
    (case cHd => k_is)
    (case kHd => k_is)
    (case aAh => k_is)
    (case lAh => k_is)
    (case cAh => k_is)
    (case kAh => k_is)
    (case aHs => k_is)
    (case lHs => k_is)
    (case cHs => k_is)
    (case kHs => k_is)
    (case aWT => k_is)
    (case lWT => k_is)
    (case cWT => k_is)
    (case kWT => k_is)
    (case aWD => k_is)
    (case lWD => k_is)
    (case cWD => k_is)
    (case kWD => k_is)
    (case aIm => k_is)
    (case lIm => k_is)
    (case cIm => k_is)
    (case kIm => k_is)
    (case aAm => k_is)
    (case lAm => k_is)
    (case cAm => k_is)
    (case kAm => k_is)
    (case aTw => k_is)
    (case lTw => k_is)
    (case cTw => k_is)
    (case kTw => k_is)
    (case aCs => k_is)
    (case lCs => k_is)
    (case cCs => k_is)
    (case kCs => k_is)
    (case aCp => k_is)
    (case lCp => k_is)
    (case cCp => k_is)
    (case kCp => k_is)
    (case aAd => k_is)
    (case lAd => k_is)
    (case cAd => k_is)
    (case kAd => k_is)
    (case aCe => k_is)
    (case lCe => k_is)
    (case cCe => k_is)
    (case kCe => k_is)
    (case aPu => k_is)
    (case lPu => k_is)
    (case cPu => k_is)
    (case kPu => k_is)
    (case aTa => k_is)
    (case lTa => k_is)
    (case cTa => k_is)
    (case kTa => k_is)
    (case aWo => k_is)
    (case lWo => k_is)
    (case cWo => k_is)
    (case kWo => k_is)
    (case aGa => k_is)
    (case lGa => k_is)
    (case cGa => k_is)
    (case kGa => k_is)
    (case aDr => k_is)
    (case lDr => k_is)
    (case cDr => k_is)
    (case kDr => k_is)
    (case aCw => k_is)
    (case lCw => k_is)
    (case cCw => k_is)
    (case kCw => k_is)
    (case aSh => k_is)
    (case lSh => k_is)
    (case cSh => k_is)
    (case kSh => k_is)
    (case aLd => k_is)
    (case lLd => k_is)
    (case cLd => k_is)
    (case kLd => k_is)
    (case aSt => k_is)
    (case lSt => k_is)
    (case cSt => k_is)
    (case kSt => k_is)
    (case aTo => k_is)
    (case lTo => k_is)
    (case cTo => k_is)
    (case kTo => k_is)
    (case aDu => k_is)
    (case lDu => k_is)
    (case cDu => k_is)
    (case kDu => k_is)
    (case aLa => k_is)
    (case lLa => k_is)
    (case cLa => k_is)
    (case kLa => k_is)
    (case tg => k_is)
    (case tt => k_is)
    (case at_ => k_is)
    (case t_pg => k_is)
    (case t_hd => k_is)
    (case t_po => k_is)
    (case t_sa => k_is)
    (case t_mk => k_is)
    (case t_kc => k_is)
    (case t_nN => k_is)
    (case t_nC => k_is)
    (case t_nG => k_is)
    (case t_nD => k_is)
    (case t_nH => k_is)
    (case t_tc => k_is)
    (case t_tm => k_is)
    (case aIn => k_is)
    (case lIn => k_is)
    (case cIn => k_is)
    (case kIn => k_is)
    (case iIn => k_is)
    (case q1 => k_is)
    (case q2 => k_is)
    (case q3 => k_is)
    (case aRt => k_is)
    (case lRt => k_is)
    (case cRt => k_is)
    (case kRt => k_is)
    (case iRt => k_is)
    (case ad_ => k_is)
    (case d_pg => k_is)
    (case d_hd => k_is)
    (case d_po => k_is)
    (case d_sa => k_is)
    (case d_mk => k_is)
    (case d_kc => k_is)
    (case d_nN => k_is)
    (case d_nR => k_is)
    (case d_nG => k_is)
    (case d_tc => k_is)
    (case d_tm => k_is)
    (case aId => k_is)
    (case lId => k_is)
    (case cId => k_is)
    (case kId => k_is)
    (case iId => k_is)
    (case aRd => k_is)
    (case lRd => k_is)
    (case cRd => k_is)
    (case kRd => k_is)
    (case iRd => k_is)
    (case ac_ => k_is)
    (case c_pg => k_is)
    (case c_hd => k_is)
    (case c_po => k_is)
    (case c_sa => k_is)
    (case c_mk => k_is)
    (case c_kc => k_is)
    (case c_nM => k_is)
    (case c_tc => k_is)
    (case c_tm => k_is)
    (case c_kint => kit_is)
    (case c_kbool => kit_is)
    (case aIc => k_is)
    (case lIc => k_is)
    (case cIc => k_is)
    (case kIc => k_is)
    (case iIc => k_is)
    (case q4 => k_is)
    (case aMn => k_is)
    (case lMn => k_is)
    (case cMn => k_is)
    (case kMn => k_is)
    (case iMn => k_is)
    (case aMo => k_is)
    (case lMo => k_is)
    (case cMo => k_is)
    (case kMo => k_is)
    (case iMo => k_is)
    (case aRc => k_is)
    (case lRc => k_is)
    (case cRc => k_is)
    (case kRc => k_is)
    (case iRc => k_is)
    (case aMs => k_is)
    (case lMs => k_is)
    (case cMs => k_is)
    (case kMs => k_is)
    (case iMs => k_is)
    (case q5 => k_is)
    (case v1 => k_is)
    (case v2 => k_is)
    (case v3 => k_is)
    (case v4 => k_is)
    (case v5 => k_is)
    (case v6 => k_is)
    (case v7 => k_is)
    (case v8 => k_is)
    (case kaT => kit_is)
    (case kaD => kit_is)
    (case koD => kit_is)
    (case koT => kit_is)
    (case e_CN => k_is)
    (case x_iC => k_is)
    (case x_cl => k_is)
    (case x_ve => rfl)
    (case x_sa => k_is)
    (case x_ga => k_is)
    (case x_gg => k_is)
    (case x_no => k_is)
    (case x_tC => k_is)
    (case x_kC => k_is)
    (case x_ex => k_is)
    (case x_vs => k_is)
    (case x_ty => k_is)
    (case x_hd => k_is)
    (case x_mr => k_is)
    (case x_su => ks_is)
    (case x_an => k_is)
    (case x_tp => rfl)
    (case x_fn => k_is)
    (case x_co => k_is)
    (case x_cd => k_is)
    (case x_v2 => rfl)
    (case x_fi => rfl)
    (case x_ce => k_is)
    (case x_tc => k_is)
    (case x_tm => k_is)
    (case e_CM => k_is)
    (case m_iC => k_is)
    (case m_cl => k_is)
    (case m_ve => rfl)
    (case m_sa => k_is)
    (case m_ga => k_is)
    (case m_gg => k_is)
    (case m_no => k_is)
    (case m_tC => k_is)
    (case m_kC => k_is)
    (case m_ex => k_is)
    (case m_vs => k_is)
    (case m_ty => k_is)
    (case m_hd => k_is)
    (case m_mr => k_is)
    (case m_su => ks_is)
    (case m_an => k_is)
    (case m_tp => rfl)
    (case m_fn => k_is)
    (case m_co => k_is)
    (case m_cd => k_is)
    (case m_v2 => rfl)
    (case m_fi => rfl)
    (case m_ce => k_is)
    (case m_tc => k_is)
    (case m_tm => k_is)
    (case m_no2 => k_is)
    (case e_c1 => k_is)
    (case e_c2 => k_is)
    (case e_c3 => k_is)
    (case e_c4 => k_is)
    (case e_c5 => k_is)
    (case e_c6 => k_is)
    (case e_gB => k_is)
    (case e_gL => k_is)
    (case e_gF => k_is)
    (case s_nN => kit_is)
    (case s_nM => kit_is)
    (case s_NM => kit_is)
    (case s_NV => kit_is)
    (case s_NA => kit_is)
    (case s_MA => kit_is)
    (case s_MV => kit_is)
    (case b_gB => k_is)
    (case h_gB => k_is)
    (case y_gB => k_is)
    (case u_CN_gB => k_is)
    (case b_gL => k_is)
    (case h_gL => k_is)
    (case y_gL => k_is)
    (case u_CN_gL => k_is)
    (case b_gF => k_is)
    (case h_gF => k_is)
    (case y_gF => k_is)
    (case u_CN_gF => k_is)
    (case u_CM_gB => k_is)
    (case u_CM_gL => k_is)
    (case u_CM_gF => k_is)
    (case z_isinstance => k_is)
    (case z_int => k_is)
    (case z_bool => k_is)
    (case z_str => k_is)
    (case z_tuple => k_is)
    (case z_len => k_is)
    (case z_all => k_is)
    (case z_zip => k_is)
    (case z_range => k_is)
    (case z_abs => k_is)
    (case z_max => k_is)
    (case z_min => k_is)
    (case z_super => k_is)
    (case z_ValueError => k_is)
    (case z_ArithmeticError => k_is)
    (case z_sum => k_is)
    (case z_repr => k_is)

