import PyProof.Rows.All
import Wide.All
import OpenK.AllK
import Wide.FinOn
import HandS.ForMost
import HandS.ForExc
import HandS.IsInst
import HandS.OwnEq
import HandS.Style
import HandS.Flow
import HandS.Walk
import HandS.Zip
import HandS.TupAny
import HandS.Conv
import HandS.MakeKwOnly
import HandS.ExcInit
import HandS.ExcSuper
import KE.KExcSuper
import HandS.ExcCtx
import KE.KTryMore
import HandS.HotCalls
import KE.KExcIs
import OpenK.KOps
import PyProof.ReprReads
import HandS.FStr
import PyProof.ReprLen
import PyProof.SetKind
import PyProof.Rows.SetFrom
import HandS.Set
import HandS.Strs
import HandS.SetFor
import HandS.DictComp
import HandS.AnyAll
import KE.DataMinMax
import KE.OsMinMax
import HandS.SortKw
import KE.RegKIsAll
import KE.RegKSuper
import PySem.Challenge.RW_duetimes_k33_blocking_by_walking
set_option Elab.async false
set_option linter.all false
set_option maxRecDepth 100000
namespace Du
open PySem L2
def topS (i : Nat) : Stmt := PySem.Challenge.pw_duetimes_k33_blocking_by_walking.main.body.getD i (.Pass ⟨0, 0, 0, 0⟩)
abbrev sNumber : Stmt := topS 16
abbrev sWhole : Stmt := topS 17
abbrev sName : Stmt := topS 19
/-- a def by its name -/
structure Dn (P : Program) (w : World) (K : PySem.W.Frag) (mg : Str → Option Value) (base : Heap) (k : Nat) (x : Str) (ps : List Str) (sp : Sp) : Prop where
  ex : ∃ (f : Addr) (fd : FuncData), FnOk P w K mg base CX0 k f fd ps sp ∧ mg x = some (.ref f) ∧ PySem.W.keepIn K (.ref f) = true ∧ Binds K fd ps []
theorem pcall {X : Cx} {k : Nat} {x : Str} {ps : List Str} {sp : Sp} {p pos : Pos} {e : Expr} {es : List Expr} {t : TA} (D : Dn X.prog X.w X.K X.mg X.base k x ps sp) (hr : Room k X.A) (hg : Gl X x) (ha : PA X (e :: es) t)
    (hdb : (x == ("__debug__" : Str)) = false := by decide) (he : starEach (e :: es) X.env = (false, eval e X.env) :: starEach es X.env := by rfl) (hpl : (backTo pos (starEach es X.env)).any (·.1) = false := by rfl) :
    PE X (.Call (.Name x p) (e :: es) [] pos) (tCall sp [] E0 t) := by
  obtain ⟨f, fd, F, hm, hk, hb⟩ := D.ex
  exact pe_call F hr hg hm hk hb .nil pass0 ha hdb he hpl
theorem Dn.mono {P : Program} {w : World} {K : PySem.W.Frag} {mg : Str → Option Value} {base : Heap} {j k : Nat} {x : Str} {ps : List Str} {sp : Sp} (D : Dn P w K mg base j x ps sp) (h : j ≤ k) : Dn P w K mg base k x ps sp := by
  obtain ⟨f, fd, F, hm, hk, hb⟩ := D.ex
  exact ⟨f, fd, F.mono h, hm, hk, hb⟩
section
variable {P : Program} {w : World} {K : PySem.W.Frag} {mg : Str → Option Value} {base : Heap}
/-! is_number -/
theorem scNumber : FnScope ["thing"] ["thing"] (defScope sNumber) := ⟨rfl, rfl, rfl, by decide +kernel, rfl, by decide +kernel, by decide +kernel⟩
def spNumber (K : PySem.W.Frag) : Sp := fun vs H Q _ => ∃ x : V, vs = [x] ∧
  ((∃ i : Int, x = .int i ∧ Q (.bl true) H) ∨ (∃ b : Bool, x = .bl b ∧ Q (.bl false) H) ∨ (∃ t, TyX K H x t ∧ PySem.W.kitOne K t (.type "int") = some false ∧ Q (.bl false) H))
theorem ok_number {f : Addr} {fd : FuncData} (F : Fun K "is_number" "is_number" sNumber f fd) (mI : mg "isinstance" = none) (mi : mg "int" = none) (mb : mg "bool" = none) :
    FnOk P w K mg base CX0 1 f fd ["thing"] (spNumber K) := by
  refine F.ok scNumber (fun vs H Q E h => ?_) (fun cdv A outer s H vs Q E hr h => ?_)
  · obtain ⟨x, rfl, _⟩ := h
    rfl
  · obtain ⟨x, rfl, h⟩ := h
    refine ⟨_, pss_one (ps_ret (pe_and (pe_callB call_isi (by rfl) mI (by decide +kernel) (pa_cons (pv 0) (pa_cons (pe_bltn (v := .ty "int") (by rfl) mi (by decide +kernel) rfl) pa_nil)))
      (pe_one (pe_not (pe_callB call_isi (by rfl) mI (by decide +kernel) (pa_cons (pv 0) (pa_cons (pe_bltn (v := .ty "bool") (by rfl) mb (by decide +kernel) rfl) pa_nil))))))), ?_⟩
    rcases h with ⟨i, rfl, q⟩ | ⟨b, rfl, q⟩ | ⟨t, ht, ht2, q⟩
    · refine ⟨_, rfl, _, _, _, _, true, rfl, .ty "int", .base (.int _), kit_ty (by decide +kernel), true, rfl, ?_⟩
      exact iteT ⟨_, rfl, _, _, _, _, false, rfl, .ty "bool", .base (.int _), kit_ty (by decide +kernel), false, rfl, q⟩
    · refine ⟨_, rfl, _, _, _, _, true, rfl, .ty "int", .base (.bl _), kit_ty (by decide +kernel), true, rfl, ?_⟩
      exact iteT ⟨_, rfl, _, _, _, _, true, rfl, .ty "bool", .base (.bl _), kit_ty (by decide +kernel), true, rfl, q⟩
    · refine ⟨_, rfl, _, _, _, _, false, rfl, .ty "int", ht, ht2, false, rfl, ?_⟩
      exact iteF q
/-! is_whole -/
theorem scWhole : FnScope ["thing", "least", "most"] ["thing", "least", "most"] (defScope sWhole) := ⟨rfl, rfl, rfl, by decide +kernel, rfl, by decide +kernel, by decide +kernel⟩
def spWhole (K : PySem.W.Frag) : Sp := fun vs H Q _ => ∃ (x : V) (lo hi : Int), vs = [x, .int lo, .int hi] ∧
  ((∃ i : Int, x = .int i ∧ Q (.bl (decide (lo ≤ i) && decide (i ≤ hi))) H) ∨ (∃ b : Bool, x = .bl b ∧ Q (.bl false) H) ∨ (∃ t, TyX K H x t ∧ PySem.W.kitOne K t (.type "int") = some false ∧ Q (.bl false) H))
theorem ok_whole {f : Addr} {fd : FuncData} (F : Fun K "is_whole" "is_whole" sWhole f fd) (DU : Dn P w K mg base 1 "is_number" ["thing"] (spNumber K)) :
    FnOk P w K mg base CX0 2 f fd ["thing", "least", "most"] (spWhole K) := by
  refine F.ok scWhole (fun vs H Q E h => ?_) (fun cdv A outer s H vs Q E hr h => ?_)
  · obtain ⟨x, lo, hi, rfl, _⟩ := h
    rfl
  · obtain ⟨x, lo, hi, rfl, h⟩ := h
    refine ⟨_, pss_one (ps_ret (pe_and (pcall DU hr (by rfl) (pa_cons (pv 0) pa_nil)) (pe_one (pe_chain op_le op_le (pv 1) (pv 0) (pv 2))))), ?_⟩
    rcases h with ⟨i, rfl, q⟩ | ⟨b, rfl, q⟩ | ⟨t, ht, ht2, q⟩
    · refine ⟨_, rfl, _, rfl, .inl ⟨i, rfl, true, rfl, ?_⟩⟩
      refine iteT ⟨_, rfl, _, rfl, _, _, rfl, rfl, _, rfl, ?_⟩
      by_cases h1 : lo ≤ i
      · rw [decide_eq_true h1] at q ⊢
        refine iteT ⟨_, rfl, _, _, rfl, rfl, ?_⟩
        simpa using q
      · rw [decide_eq_false h1] at q ⊢
        exact iteF (by simpa using q)
    · refine ⟨_, rfl, _, rfl, .inr (.inl ⟨b, rfl, false, rfl, ?_⟩)⟩
      exact iteF q
    · refine ⟨_, rfl, _, rfl, .inr (.inr ⟨t, ht, ht2, false, rfl, ?_⟩)⟩
      exact iteF q
end
end Du

set_option Elab.async false
set_option linter.all false
set_option maxRecDepth 100000
namespace Du
open PySem L2
section
variable {P : Program} {w : World} {K : PySem.W.Frag} {mg : Str → Option Value} {base : Heap}
theorem same_upd {H : Hp} {p : Addr} {o : HO} (h : H p = none) : Same H (upd H p o) := fun b x e => by
  rw [upd_ne (ne_of_none e h)]
  exact e
/-- all but one new address stays -/
theorem same_upd2 {H H1 : Hp} {p : Addr} {o : HO} (s : Same H H1) (h : H p = none) : Same H (upd H1 p o) := fun b x e => by
  rw [upd_ne (ne_of_none e h)]
  exact s _ _ e
theorem take_map1 {α β : Type} {l : List α} {i : Nat} {x : α} (f : α → β) (h : l[i]? = some x) : (l.take (i + 1)).map f = (l.take i).map f ++ [f x] := by
  rw [List.take_add_one, h, List.map_append]
  rfl
/-! is_name -/
def letters : Str := "abcdefghijklmnopqrstuvwxyz"
def isLetter (c : Nat) : Bool := decide (c ∈ letters.cps.toList)
def isNm (z : Str) : Bool := decide (1 ≤ z.length) && (decide (z.length ≤ 8) && z.cps.toList.all isLetter)
theorem scName : FnScope ["thing", "sign"] ["thing"] (defScope sName) := ⟨rfl, rfl, rfl, by decide +kernel, rfl, by decide +kernel, by decide +kernel⟩
def spName (K : PySem.W.Frag) : Sp := fun vs H Q _ => ∃ x : V, vs = [x] ∧
  ((∃ z : Str, x = .str z ∧ z.length ≤ sizeLine ∧ ∀ H', Same H H' → Q (.bl (isNm z)) H') ∨ (∃ t, TyX K H x t ∧ PySem.W.kitOne K t (.type "str") = some false ∧ Q (.bl false) H))
theorem ok_name {f : Addr} {fd : FuncData} (F : Fun K "is_name" "is_name" sName f fd) (mI : mg "isinstance" = none) (ms : mg "str" = none) (ml : mg "len" = none) (ma : mg "all" = none)
    (mM : ∃ t, mg "MOST_LETTERS" = some (.int 8 t)) (mL : ∃ t, mg "LETTERS" = some (.str letters t)) :
    FnOk P w K mg base CX0 2 f fd ["thing"] (spName K) := by
  obtain ⟨tM, mM⟩ := mM
  obtain ⟨tL, mL⟩ := mL
  refine F.ok scName (fun vs H Q E h => ?_) (fun cdv A outer s H vs Q E hr h => ?_)
  · obtain ⟨x, rfl, _⟩ := h
    rfl
  · obtain ⟨x, rfl, h⟩ := h
    refine ⟨_, pss_cons (ps_if (PW.pt (pw_or (pt_not (pt_val (pe_callB call_isi (by rfl) mI (by decide +kernel) (pa_cons (pv 0) (pa_cons (pe_bltn (v := .ty "str") (by rfl) ms (by decide +kernel) rfl) pa_nil)))))
        (pw_or1 (pt_not (pt_chain op_le op_le pe_int (pe_callB call_len_str (by rfl) ml (by decide +kernel) (pa_cons (pv 0) pa_nil)) (pe_glob (v := .int 8) rfl mM ⟨_, rfl⟩))))))
        (pss_one (ps_ret pe_bl)) pss_nil)
      (pss_one (ps_ret (pe_callB (cr_all rfl) (by rfl) ma (by decide +kernel) (pa_cons (pe_lc (own := [("sign", 1)]) (g := gName 1) (tt := tYes) rfl scName.nd (pi_str (pv 0))
        (blkOk_by (N := ["thing", "sign"]) (sc := defScope sName) (by decide +kernel)) (fun _ _ _ _ _ => pg_name (i := 1) scName.nd rfl (Or.inl rfl)) (fun _ _ _ _ _ => pts_nil)
        (fun _ _ _ _ _ => pe_cmpR op_in_sign (pv 1) (pe_glob (v := .str letters) rfl mL ⟨_, rfl⟩) (by rfl))) pa_nil)))), ?_⟩
    rcases h with ⟨z, rfl, hz, q⟩ | ⟨t, ht, ht2, q⟩
    · refine ⟨_, rfl, _, _, _, _, true, rfl, .ty "str", .base (.str _), kit_ty (by decide +kernel), true, rfl, ?_⟩
      refine iteF ⟨_, rfl, z, rfl, hz, _, _, rfl, rfl, _, rfl, ?_⟩
      by_cases h1 : 1 ≤ z.length
      · have e1 : decide ((1 : Int) ≤ ((z.length : Nat) : Int)) = true := decide_eq_true (by omega)
        rw [e1]
        refine iteT ⟨_, _, rfl, rfl, _, rfl, ?_⟩
        by_cases h2 : z.length ≤ 8
        · have e2 : decide (((z.length : Nat) : Int) ≤ 8) = true := decide_eq_true (by omega)
          rw [e2]
          refine iteF ?_
          -- the comprehension
          refine ⟨_, rfl, z, rfl, fun D nD => lc_it walk_str (fun i H' => Same H H' ∧ H' D = some (.lst ((z.cps.toList.take i).map fun c => V.bl (isLetter c)))) ⟨same_upd nD, upd_same⟩ (fun _ _ _ _ => trivial) ?_ ?_⟩
          · rintro i x H1 H2 hi ⟨s1, e⟩ ⟨rfl, c, hc, rfl⟩
            have hc' : z.cps.toList[i]? = some c := by simpa using hc
            refine ⟨rfl, _, rfl, c, letters, rfl, rfl, _, e, ?_, same_upd2 s1 nD, ?_⟩
            · rw [List.length_map, List.length_take]
              have : z.cps.toList.length = z.length := by simp [Str.length]
              have h9 : z.length < sizeLine := Nat.lt_of_le_of_lt h2 (by decide)
              omega
            · rw [upd_same, take_map1 _ hc']
              rfl
          · rintro H1 ⟨s1, e⟩
            have el : z.cps.toList.take z.cps.size = z.cps.toList := by
              rw [List.take_of_length_le]
              simp
            rw [el] at e
            refine ⟨D, z.cps.toList.map isLetter, rfl, SqL.of (by rw [e, List.map_map]; rfl), ?_⟩
            have q' := q H1 s1
            have eb : isNm z = (z.cps.toList.map isLetter).all id := by
              unfold isNm
              rw [decide_eq_true h1, decide_eq_true h2, List.all_map]
              rfl
            rw [eb] at q'
            exact q'
        · have e2 : decide (((z.length : Nat) : Int) ≤ 8) = false := decide_eq_false (by omega)
          rw [e2]
          refine iteT ?_
          have q' := q H (Same.refl _)
          unfold isNm at q'
          rw [decide_eq_false h2] at q'
          have q2 : Q (V.bl false) H := by simpa using q'
          exact q2
      · have e1 : decide ((1 : Int) ≤ ((z.length : Nat) : Int)) = false := decide_eq_false (by omega)
        rw [e1]
        refine iteF ⟨_, rfl, ?_⟩
        have q' := q H (Same.refl _)
        unfold isNm at q'
        rw [decide_eq_false h1] at q'
        have q2 : Q (V.bl false) H := by simpa using q'
        exact q2
    · refine ⟨_, rfl, _, _, _, _, false, rfl, .ty "str", ht, ht2, false, rfl, ?_⟩
      exact iteT (iteT q)
end
end Du

set_option Elab.async false
set_option linter.all false
set_option maxRecDepth 100000
namespace Du
open PySem L2
abbrev sHold : Stmt := topS 20
abbrev sAhead : Stmt := topS 21
abbrev sHolds : Stmt := topS 22
section
variable {P : Program} {w : World} {K : PySem.W.Frag} {mg : Str → Option Value} {base : Heap}
theorem tyx_tup {H : Hp} {a : Addr} {xs : List V} (h : SqT K H a xs) : TyX K H (.ref a) (.type "tuple") := by
  rcases h with (h | ⟨o, h⟩) | ⟨o, its, n, hk, hc, _⟩
  · exact .base (.tup h)
  · exact .fTuple h
  · exact .kTuple hk hc
theorem kit_tt : PySem.W.kitOne K (.type "tuple") (.type "tuple") = some true := kit_ty (by decide +kernel)
theorem walk_zipT {a b : Addr} {xs ys : List V} {n : Nat} (hn : n = min xs.length ys.length) : Walk (RZ.ItzT K a b) n (fun H => SqT K H a xs ∧ SqT K H b ys) (YPair (fun i => xs[i]?) (fun i => ys[i]?)) := by
  refine ⟨fun i H hi q => ?_, fun H q => ⟨xs, ys, q.1, q.2, by omega⟩, fun i H v H' hi q y => ?_⟩
  · exact ⟨xs, ys, xs[i]'(by omega), ys[i]'(by omega), q.1, q.2, List.getElem?_eq_getElem (by omega), List.getElem?_eq_getElem (by omega)⟩
  · obtain ⟨T, x, z, h1, h2, h3, h4, h5⟩ := y
    exact ⟨T, x, z, h1, h2, h3, h4 xs q.1, h5 ys q.2⟩
/-! is_hold -/
abbrev Hold := Str × Int × Int
def isHd (h : Hold) (cost : Int) : Bool := isNm h.1 && ((decide (0 ≤ h.2.1) && decide (h.2.1 ≤ cost)) && (decide (1 ≤ h.2.2) && decide (h.2.2 ≤ cost - h.2.1)))
def HdAt (K : PySem.W.Frag) (H : Hp) (v : V) (h : Hold) : Prop := ∃ a, v = .ref a ∧ SqT K H a [.str h.1, .int h.2.1, .int h.2.2]
theorem HdAt.same {H H' : Hp} {v : V} {h : Hold} (d : HdAt K H v h) (s : Same H H') : HdAt K H' v h := by
  obtain ⟨a, e, q⟩ := d
  exact ⟨a, e, q.ext s⟩
theorem scHold : FnScope ["thing", "cost", "tool", "start", "long"] ["thing", "cost"] (defScope sHold) := ⟨rfl, rfl, rfl, by decide +kernel, rfl, by decide +kernel, by decide +kernel⟩
def spHold (K : PySem.W.Frag) : Sp := fun vs H Q _ => ∃ (v : V) (h : Hold) (cost : Int), vs = [v, .int cost] ∧ HdAt K H v h ∧ h.1.length ≤ sizeLine ∧ ∀ H', Same H H' → Q (.bl (isHd h cost)) H'
theorem ok_hold {f : Addr} {fd : FuncData} (F : Fun K "is_hold" "is_hold" sHold f fd) (mI : mg "isinstance" = none) (mt : mg "tuple" = none) (ml : mg "len" = none)
    (DN : Dn P w K mg base 2 "is_name" ["thing"] (spName K)) (DW : Dn P w K mg base 2 "is_whole" ["thing", "least", "most"] (spWhole K)) :
    FnOk P w K mg base CX0 3 f fd ["thing", "cost"] (spHold K) := by
  refine F.ok scHold (fun vs H Q E h => ?_) (fun cdv A outer s H vs Q E hr h => ?_)
  · obtain ⟨v, h, cost, rfl, _⟩ := h
    rfl
  · obtain ⟨v, h, cost, rfl, ⟨a, rfl, hS⟩, hl, q⟩ := h
    refine ⟨_, pss_cons (ps_if (PW.pt (pw_or (pt_not (pt_val (pe_callB call_isi (by rfl) mI (by decide +kernel) (pa_cons (pv 0) (pa_cons (pe_bltn (v := .ty "tuple") (by rfl) mt (by decide +kernel) rfl) pa_nil)))))
        (pw_or1 (pt_cmpR op_ne (pe_callB call_len_seq (by rfl) ml (by decide +kernel) (pa_cons (pv 0) pa_nil)) pe_int (nomark _)))))
        (pss_one (ps_ret pe_bl)) pss_nil)
      (pss_cons (ps_asg (pv 0) (pg_tup rfl (pgs_cons (pg_name (i := 2) scHold.nd rfl (.inl rfl)) (pgs_cons (pg_name (i := 3) scHold.nd rfl (.inl rfl)) (pgs_cons (pg_name (i := 4) scHold.nd rfl (.inl rfl)) pgs_nil)))))
      (pss_one (ps_ret (pe_and (pcall DN hr (by rfl) (pa_cons (pv 2) pa_nil)) (pe_and (pcall DW hr (by rfl) (pa_cons (pv 3) (pa_cons pe_int (pa_cons (pv 1) pa_nil))))
        (pe_one (pcall DW hr (by rfl) (pa_cons (pv 4) (pa_cons pe_int (pa_cons (pe_op op_sub (pv 1) (pv 3)) pa_nil)))))))))), ?_⟩
    refine ⟨_, rfl, _, _, _, _, true, rfl, .ty "tuple", tyx_tup hS, kit_tt, true, rfl, ?_⟩
    refine ⟨_, rfl, a, _, rfl, .inr hS, rfl, _, rfl, ?_⟩
    show if (!decide ((V.int (3 : Nat)) = V.int 3)) = true then _ else _
    refine iteNS rfl ?_
    refine ⟨_, rfl, a, _, rfl, hS, rfl, _, _, rfl, _, _, rfl, _, _, rfl, rfl, ?_⟩
    -- the three questions
    refine ⟨_, rfl, _, rfl, .inl ⟨h.1, rfl, hl, fun H1 s1 => ⟨_, rfl, ?_⟩⟩⟩
    cases e1 : isNm h.1 with
    | false =>
      have q1 := q H1 s1
      unfold isHd at q1
      rw [e1] at q1
      exact q1
    | true =>
      refine ⟨_, rfl, _, rfl, _, _, _, rfl, .inl ⟨_, rfl, _, rfl, ?_⟩⟩
      cases e2 : (decide (0 ≤ h.2.1) && decide (h.2.1 ≤ cost)) with
      | false =>
        have q1 := q H1 s1
        unfold isHd at q1
        rw [e1, e2] at q1
        exact q1
      | true =>
        refine ⟨_, rfl, _, rfl, _, rfl, _, _, rfl, rfl, _, _, _, rfl, .inl ⟨_, rfl, ?_⟩⟩
        have q1 := q H1 s1
        unfold isHd at q1
        rw [e1, e2] at q1
        exact q1
/-! goes_ahead -/
def ahead (h g : Hold) : Bool := if h.1 = g.1 then decide (h.2.1 + h.2.2 ≤ g.2.1) else decide (h.1.cps.toList < g.1.cps.toList)
theorem scAhead : FnScope ["hold", "other", "tool", "start", "long"] ["hold", "other"] (defScope sAhead) := ⟨rfl, rfl, rfl, by decide +kernel, rfl, by decide +kernel, by decide +kernel⟩
def spAhead (K : PySem.W.Frag) : Sp := fun vs H Q _ => ∃ (v u : V) (h g : Hold), vs = [v, u] ∧ HdAt K H v h ∧ HdAt K H u g ∧ Q (.bl (ahead h g)) H
theorem ok_ahead {f : Addr} {fd : FuncData} (F : Fun K "goes_ahead" "goes_ahead" sAhead f fd) : FnOk P w K mg base CX0 2 f fd ["hold", "other"] (spAhead K) := by
  refine F.ok scAhead (fun vs H Q E h => ?_) (fun cdv A outer s H vs Q E hr h => ?_)
  · obtain ⟨v, u, h, g, rfl, _⟩ := h
    rfl
  · obtain ⟨v, u, h, g, rfl, ⟨a, rfl, hS⟩, ⟨b, rfl, hT⟩, q⟩ := h
    refine ⟨_, pss_cons (ps_asg (pv 0) (pg_tup rfl (pgs_cons (pg_name (i := 2) scAhead.nd rfl (.inl rfl)) (pgs_cons (pg_name (i := 3) scAhead.nd rfl (.inl rfl)) (pgs_cons (pg_name (i := 4) scAhead.nd rfl (.inl rfl)) pgs_nil)))))
      (pss_cons (ps_if (pt_cmpR op_eq (pv 2) (pe_ix ix_tup (pv 1) pe_int (fun _ _ => rfl)) (nomark _))
        (pss_one (ps_ret (pe_cmpR op_le (pe_op op_add (pv 3) (pv 4)) (pe_ix ix_tup (pv 1) pe_int (fun _ _ => rfl)) (nomark _)))) pss_nil)
      (pss_one (ps_ret (pe_cmpR op_lt_str (pv 2) (pe_ix ix_tup (pv 1) pe_int (fun _ _ => rfl)) (nomark _))))), ?_⟩
    refine ⟨_, rfl, a, _, rfl, hS, rfl, _, _, rfl, _, _, rfl, _, _, rfl, rfl, ?_⟩
    refine ⟨_, rfl, _, rfl, b, _, _, _, rfl, rfl, hT, at_of (j := 0) rfl rfl, rfl, _, rfl, ?_⟩
    by_cases hz : h.1 = g.1
    · have e1 : decide (V.str h.1 = V.str g.1) = true := decide_eq_true (by rw [hz])
      rw [e1]
      refine iteT ⟨_, rfl, _, rfl, _, _, rfl, rfl, _, rfl, b, _, _, _, rfl, rfl, hT, at_of (j := 1) rfl rfl, _, _, rfl, rfl, ?_⟩
      unfold ahead at q
      rw [if_pos hz] at q
      exact q
    · have e1 : decide (V.str h.1 = V.str g.1) = false := decide_eq_false (fun e => hz (V.str.inj e))
      rw [e1]
      refine iteF ⟨_, rfl, _, rfl, b, _, _, _, rfl, rfl, hT, at_of (j := 0) rfl rfl, _, _, rfl, rfl, ?_⟩
      unfold ahead at q
      rw [if_neg hz] at q
      exact q
end
end Du

set_option Elab.async false
set_option linter.all false
set_option maxRecDepth 100000
namespace Du
open PySem L2
section
variable {P : Program} {w : World} {K : PySem.W.Frag} {mg : Str → Option Value} {base : Heap}
/-! are_holds -/
def HdsAt (K : PySem.W.Frag) (H : Hp) (t : Addr) (hs : List Hold) : Prop := ∃ vs : List V, SqT K H t vs ∧ vs.length = hs.length ∧ ∀ (i : Nat) v h, vs[i]? = some v → hs[i]? = some h → HdAt K H v h
theorem HdsAt.same {H H' : Hp} {t : Addr} {hs : List Hold} (d : HdsAt K H t hs) (s : Same H H') : HdsAt K H' t hs := by
  obtain ⟨vs, h1, h2, h3⟩ := d
  exact ⟨vs, h1.ext s, h2, fun i v h e1 e2 => (h3 i v h e1 e2).same s⟩
def areHds (hs : List Hold) (cost : Int) : Bool := decide (hs.length ≤ 4) && (hs.all (fun h => isHd h cost) && (hs.zip (hs.drop 1)).all fun p => ahead p.1 p.2)
theorem scHolds : FnScope ["thing", "cost", "hold", "other"] ["thing", "cost"] (defScope sHolds) := ⟨rfl, rfl, rfl, by decide +kernel, rfl, by decide +kernel, by decide +kernel⟩
def spHolds (K : PySem.W.Frag) : Sp := fun vs H Q _ => ∃ (t : Addr) (hs : List Hold) (cost : Int), vs = [.ref t, .int cost] ∧ HdsAt K H t hs ∧ (∀ h ∈ hs, h.1.length ≤ sizeLine) ∧ ∀ H', Same H H' → Q (.bl (areHds hs cost)) H'
theorem cut1 (xs : List V) : cutV xs (some 1) none = xs.drop 1 := by
  unfold cutV
  rw [show HT.sIx xs.length 0 (some 1) = min 1 xs.length from HT.sIx_nat xs.length 0 1, HT.sIx_none]
  cases xs with
  | nil => rfl
  | cons x r =>
    rw [show min 1 (x :: r).length = 1 by rw [List.length_cons]; omega]
    show (List.take ((x :: r).length - 1) r) = r
    rw [List.length_cons, Nat.add_sub_cancel, List.take_length]
theorem getmem {α : Type} {l : List α} {i : Nat} {x : α} (h : l[i]? = some x) : x ∈ l := List.mem_of_getElem? h
theorem ok_holds {f : Addr} {fd : FuncData} (F : Fun K "are_holds" "are_holds" sHolds f fd) (mI : mg "isinstance" = none) (mt : mg "tuple" = none) (ml : mg "len" = none) (ma : mg "all" = none) (mz : mg "zip" = none)
    (mM : ∃ t, mg "MOST_HOLDS" = some (.int 4 t)) (DH : Dn P w K mg base 3 "is_hold" ["thing", "cost"] (spHold K)) (DA : Dn P w K mg base 2 "goes_ahead" ["hold", "other"] (spAhead K)) :
    FnOk P w K mg base CX0 4 f fd ["thing", "cost"] (spHolds K) := by
  obtain ⟨tM, mM⟩ := mM
  refine F.ok scHolds (fun vs H Q E h => ?_) (fun cdv A outer s H vs Q E hr h => ?_)
  · obtain ⟨t, hs, cost, rfl, _⟩ := h
    rfl
  · obtain ⟨t, hs, cost, rfl, ⟨vs, hS, hvl, hat⟩, hl, q⟩ := h
    have hr1 : Room 2 _ := hr.mono (by decide)
    refine ⟨_, pss_cons (ps_if (PW.pt (pw_or (pt_not (pt_val (pe_callB call_isi (by rfl) mI (by decide +kernel) (pa_cons (pv 0) (pa_cons (pe_bltn (v := .ty "tuple") (by rfl) mt (by decide +kernel) rfl) pa_nil)))))
        (pw_or1 (pt_cmpR op_gt (pe_callB call_len_seq (by rfl) ml (by decide +kernel) (pa_cons (pv 0) pa_nil)) (pe_glob (v := .int 4) rfl mM ⟨_, rfl⟩) (nomark _)))))
        (pss_one (ps_ret pe_bl)) pss_nil)
      (pss_cons (ps_if (pt_not (pt_val (pe_callB (cr_all rfl) (by rfl) ma (by decide +kernel) (pa_cons (pe_lc (own := [("hold", 2)]) (g := gName 2) (tt := tYes) rfl scHolds.nd (pi_tup (pv 0))
        (blkOk_by (N := ["thing", "cost", "hold", "other"]) (sc := defScope sHolds) (by decide +kernel)) (fun _ _ _ _ _ => pg_name (i := 2) scHolds.nd rfl (Or.inl rfl)) (fun _ _ _ _ _ => pts_nil)
        (fun _ _ _ _ _ => pcall DH hr (by rfl) (pa_cons (pv 2) (pa_cons (pv 1) pa_nil)))) pa_nil)))) (pss_one (ps_ret pe_bl)) pss_nil)
      (pss_one (ps_ret (pe_callB (cr_all rfl) (by rfl) ma (by decide +kernel) (pa_cons (pe_lc (own := [("hold", 2), ("other", 3)]) (g := gTup K 2 (gCons (gName 2) (gCons (gName 3) gNil))) (tt := tYes) rfl scHolds.nd
        (RZ.pi_zipA (by rfl) mz (pa_cons (pv 0) (pa_cons (pe_slice sl_tupA (pv 0) (po_some pe_int) po_none) pa_nil)))
        (blkOk_by (N := ["thing", "cost", "hold", "other"]) (sc := defScope sHolds) (by decide +kernel))
        (fun _ _ _ _ _ => pg_tup rfl (pgs_cons (pg_name (i := 2) scHolds.nd rfl (Or.inl rfl)) (pgs_cons (pg_name (i := 3) scHolds.nd rfl (Or.inl rfl)) pgs_nil))) (fun _ _ _ _ _ => pts_nil)
        (fun _ _ _ _ _ => pcall DA hr1 (by rfl) (pa_cons (pv 2) (pa_cons (pv 3) pa_nil)))) pa_nil))))), ?_⟩
    refine ⟨_, rfl, _, _, _, _, true, rfl, .ty "tuple", tyx_tup hS, kit_tt, true, rfl, ?_⟩
    refine ⟨_, rfl, t, _, rfl, .inr hS, _, _, rfl, rfl, _, rfl, ?_⟩
    rw [hvl]
    by_cases h4 : hs.length ≤ 4
    · have e1 : decide ((4 : Int) < ((hs.length : Nat) : Int)) = false := decide_eq_false (by omega)
      rw [e1]
      refine iteF ?_
      -- [is_hold(hold, cost) for hold in thing]
      refine ⟨_, rfl, t, rfl, ⟨vs, hS⟩, fun D nD => lc_tup (K := K) (a := t) (xs := vs) (fun i H' => Same H H' ∧ H' D = some (.lst ((hs.take i).map fun h => V.bl (isHd h cost)))) ⟨same_upd nD, upd_same⟩ (fun i H' _ z => hS.ext z.1) ?_ ?_⟩
      · rintro i x H1 hx ⟨s1, e⟩
        have hi : i < hs.length := by
          rw [← hvl]
          exact (List.getElem?_eq_some_iff.mp hx).1
        have hh : hs[i]? = some hs[i] := List.getElem?_eq_getElem hi
        refine ⟨rfl, _, rfl, _, rfl, x, hs[i], cost, rfl, (hat i x _ hx hh).same s1, hl _ (getmem hh), fun H2 s2 => ⟨_, s2 _ _ e, ?_, same_upd2 (s1.trans s2) nD, ?_⟩⟩
        · rw [List.length_map, List.length_take]
          exact Nat.lt_of_le_of_lt (Nat.min_le_right _ _) (Nat.lt_of_le_of_lt h4 (by decide))
        · rw [upd_same, take_map1 _ hh]
      · rintro H1 ⟨s1, e⟩
        rw [hvl, List.take_of_length_le (Nat.le_refl _)] at e
        refine ⟨D, hs.map (fun h => isHd h cost), rfl, SqL.of (by rw [e, List.map_map]; rfl), _, rfl, ?_⟩
        have ea : (hs.map fun h => isHd h cost).all id = hs.all fun h => isHd h cost := by
          rw [List.all_map]
          rfl
        rw [ea]
        cases eb : hs.all fun h => isHd h cost with
        | false =>
          have q1 := q H1 s1
          unfold areHds at q1
          rw [eb, decide_eq_true h4] at q1
          exact q1
        | true =>
          refine iteF ?_
          -- [goes_ahead(hold, other) for hold, other in zip(thing, thing[1:])]
          have fin : ∀ (b : Addr) (H2 : Hp), Same H H2 → SqT K H2 b (vs.drop 1) → ∀ (D : Addr), H2 D = none → ∃ W : Nat → Nat → Hp → Prop, (∃ m, W 0 m (upd H2 D (.lst []))) ∧ ∀ i m H, W i m H →
              ((RZ.ItzT K t b).stop i H ∧ rAll K [.ref D] H Q) ∨ ((RZ.ItzT K t b).go i H ∧ ∃ Nx : Hp → Prop, (∀ H', Nx H' → ∃ m', m' < m ∧ W (i + 1) m' H') ∧ ∀ x H', (RZ.ItzT K t b).yld i H x H' →
                gTup K 2 (gCons (gName 2) (gCons (gName 3) gNil)) x (wipe (L2.start ["thing", "cost", "hold", "other"] [V.ref t, V.int cost]) [2, 3]) H' fun σ2 H2 => wipe σ2 [2, 3] = wipe (L2.start ["thing", "cost", "hold", "other"] [V.ref t, V.int cost]) [2, 3] ∧ tYes σ2 H2 fun b H3 =>
                if b = true then tCall (spAhead K) [] E0 (tCons (tVar 2) (tCons (tVar 3) tNil)) σ2 H3 fun y H4 => ∃ acc, H4 D = some (.lst acc) ∧ acc.length < sizeLine ∧ Nx (upd H4 D (.lst (acc ++ [y]))) else Nx H3) := by
            intro b H2 s2 hb D2 nD2
            have hz : (hs.zip (hs.drop 1)).length = hs.length - 1 := by
              rw [List.length_zip, List.length_drop]
              omega
            refine lc_it (walk_zipT (xs := vs) (ys := vs.drop 1) (n := hs.length - 1) (by rw [List.length_drop, hvl]; omega)) (fun i H' => Same H2 H' ∧ H' D2 = some (.lst (((hs.zip (hs.drop 1)).take i).map fun p => V.bl (ahead p.1 p.2)))) ⟨same_upd nD2, upd_same⟩
              (fun i H' _ z => ⟨hS.ext (s2.trans z.1), hb.ext z.1⟩) ?_ ?_
            · rintro i x H3 H4 hi ⟨s3, e3⟩ ⟨T, x1, x2, rfl, nT, rfl, hx1, hx2⟩
              have hi1 : i < hs.length := by omega
              have hi2 : i + 1 < hs.length := by omega
              have g1 : hs[i]? = some hs[i] := List.getElem?_eq_getElem hi1
              have g2 : hs[i + 1]? = some hs[i + 1] := List.getElem?_eq_getElem hi2
              have hx2' : vs[i + 1]? = some x2 := by
                have z : (vs.drop 1)[i]? = some x2 := hx2
                rw [List.getElem?_drop, Nat.add_comm] at z
                exact z
              have sT : Same H3 (upd H3 T (.tup [x1, x2])) := same_upd nT
              have gz : (hs.zip (hs.drop 1))[i]? = some (hs[i], hs[i + 1]) := by
                rw [List.getElem?_zip_eq_some]
                refine ⟨g1, ?_⟩
                rw [List.getElem?_drop, Nat.add_comm]
                exact g2
              have s5 := (s2.trans s3).trans sT
              refine ⟨T, [x1, x2], rfl, SqT.of upd_same, rfl, x1, [x2], rfl, x2, [], rfl, rfl, rfl, _, rfl, _, rfl, x1, x2, hs[i], hs[i + 1], rfl, (hat _ _ _ hx1 g1).same s5, (hat _ _ _ hx2' g2).same s5, _, sT _ _ e3, ?_, same_upd2 (s3.trans sT) nD2, ?_⟩
              · rw [List.length_map, List.length_take]
                exact Nat.lt_of_le_of_lt (Nat.min_le_right _ _) (Nat.lt_of_le_of_lt (show _ ≤ 4 by omega) (by decide))
              · rw [upd_same, take_map1 _ gz]
            · rintro H3 ⟨s3, e3⟩
              rw [List.take_of_length_le (by omega)] at e3
              refine ⟨D2, (hs.zip (hs.drop 1)).map (fun p => ahead p.1 p.2), rfl, SqL.of (by rw [e3, List.map_map]; rfl), ?_⟩
              have q1 := q H3 (s2.trans s3)
              unfold areHds at q1
              rw [eb, decide_eq_true h4] at q1
              rw [List.all_map]
              exact q1
          refine ⟨_, rfl, _, rfl, 1, rfl, t, vs, rfl, hS.ext s1, fun hc => ?_, fun hc p np => ?_⟩
          · have e0 : vs = [] := by
              have h0 := hc.1
              rw [show HT.sIx vs.length 0 (some 1) = min 1 vs.length from HT.sIx_nat vs.length 0 1] at h0
              cases vs with
              | nil => rfl
              | cons x r =>
                rw [List.length_cons] at h0
                omega
            refine ⟨t, t, vs, vs.drop 1, rfl, .inr ⟨hS.ext s1, ?_, fin t H1 s1 ?_⟩⟩
            · rw [e0] at hS ⊢
              exact hS.ext s1
            · rw [e0] at hS ⊢
              exact hS.ext s1
          · have sp := same_upd (o := .tup (cutV vs (some 1) none)) np
            have hb : SqT K (upd H1 p (.tup (cutV vs (some 1) none))) p (vs.drop 1) := by
              rw [← cut1]
              exact SqT.of upd_same
            exact ⟨t, p, vs, vs.drop 1, rfl, .inr ⟨hS.ext (s1.trans sp), hb, fin p _ (s1.trans sp) hb⟩⟩
    · have e1 : decide ((4 : Int) < ((hs.length : Nat) : Int)) = true := decide_eq_true (by omega)
      rw [e1]
      refine iteT ?_
      have q1 := q H (Same.refl _)
      unfold areHds at q1
      rw [decide_eq_false h4] at q1
      exact q1
end
end Du

set_option Elab.async false
set_option linter.all false
set_option maxRecDepth 100000
namespace Du
open PySem L2 PyProof.Rows
section
variable {X : Cx} {CX : CXT} {k : Nat} {f C : Addr} {fd : FuncData} {ps : List Str} {sp : Sp} {pins : List (Addr × Obj)} {σ : L2.St} {H : Hp} {s : Shared}
/-- a call of an own def from somewhere below the body -/
theorem own_call {A : Around} {vs : List V} {us : List Value} {Q : VK} (F : FnOk X.prog X.w X.K X.mg X.base CX0 k f fd ps sp) (hb : Binds X.K fd ps []) (sb : Sub X k A) (I : Inv X pins σ H s) (r : Vals vs us) (h : sp vs H Q E0) :
    wpAny (model X.prog X.w) A (call (.ref f) us) (EP X pins σ Q) X.xe s := by
  have e := I.env0
  have e0 : Env0 X.prog X.w X.K X.mg X.base A X.stack s H := ⟨sb.fr.trans e.frames, e.mod, e.bs, e.bsz, e.funs, e.frf, e.hok, e.bare⟩
  have hl := F.len _ _ _ _ h
  have hu := hb s us I.kIn (by rw [List.append_nil, ← r.length, hl])
  rw [List.append_nil] at hu
  refine wpAny_call (codeAny_mono (F.run A X.stack s H ⟨us, []⟩ us vs Q E0 sb.room e0 hu r h) fun z s' hq => ?_)
  match z, hq with
  | .error _, hq => exact hq.elim
  | .ok (.ret u), hq => exact I.after hq
  | .ok .next, hq => exact hq.elim
  | .ok .brk, hq => exact hq.elim
  | .ok .cont, hq => exact hq.elim
/-- what len wants of an own __len__ -/
def rLenO (C : Addr) (sp : Sp) : List V → Hp → VK → Prop := fun xs H Q => ∃ (a dx : Addr) (fs : List (Str × V)), xs = [.ref a] ∧ H a = some (.ins C dx fs) ∧ sp [.ref a] H (fun v H' => ∃ n : Int, v = .int n ∧ 0 ≤ n ∧ n < 2 ^ 63 ∧ Q (.int n) H') E0
theorem call_lenO (F : FnOk X.prog X.w X.K X.mg X.base CX0 k f fd ps sp) (hb : Binds X.K fd ps []) (hr : Room (k + 1) X.A) (hs : PySem.W.findIn X.K (.ref C) "__len__" = some (some (.ref f))) (hf : PySem.W.isFn X.K (.ref f) = true) :
    CallR X (.builtin "len") (rLenO C sp) := by
  intro pins s σ H xs us Q I r h
  obtain ⟨a, dx, fs, rfl, ha, hsp⟩ := h
  obtain ⟨u, rfl, ru⟩ := vals1 r
  cases ru
  obtain ⟨mA, J, _⟩ := ins_get I.hok ha
  obtain ⟨od, J, _⟩ := J.look
  obtain ⟨m, hF⟩ := I.fr
  refine PySem.W.len_K hF I.ok.mod.kin J hs hf (wpAny_mono (own_call F hb ⟨hr.in1, rfl⟩ I (vs := [.ref a]) (.cons rfl .nil) hsp) (fun v s' q => ?_) fun _ _ z => z)
  obtain ⟨z, H', I', rz, n, rfl, h0, h1, q⟩ := q
  obtain ⟨t, rfl⟩ := rz
  exact ⟨⟨h0, h1⟩, .int n, H', I'.tok _, ⟨_, rfl⟩, q⟩
/-- the body of len over an own __len__ -/
theorem lenO_body {prog : Program} {w : World} {A : Around} {E : Value → Shared → Prop} {K : PySem.W.Frag} {x : Addr} {ox : Obj} {od : Option Obj} {Q : Value → Shared → Prop} (X : K.In s.heap) (I : PySem.W.InstAt s.heap x ox C od)
    (hs : PySem.W.findIn K (.ref C) "__len__" = some (some (.ref f))) (hf : PySem.W.isFn K (.ref f) = true) (h : wpAny (model prog w) A (call (.ref f) [.ref x]) (PySem.W.LenBack Q) E s) :
    wpAny (model prog w) A (Builtin.«len» ⟨[.ref x], []⟩) (fun fin s' => ∃ r, fin = .done (.ret r) ∧ Q r s') E s := by
  unfold Builtin.«len»
  refine wpAny_bind (m := oneArg "len" _) (wpAny_pure (wpAny_bind (m := callSpecial? (.ref x) (Str.ofString "__len__")) (PySem.W.special_fn X I hs (beq_iff_eq.mp hf) (wpAny_mono h (fun r s' hr => ?_) fun _ _ y => y))))
  match r, hr with
  | .int n u, ⟨⟨h0, h1⟩, hq⟩ =>
    refine wpAny_bind (wpAny_holding (wpAny_pure (wpAny_bind (wpAny_letGo ?_))))
    show wpAny _ _ (if n < 0 then _ else if n ≥ 2 ^ 63 then _ else _) _ _ _
    rw [if_neg (Int.not_lt.mpr h0), if_neg (Int.not_le.mpr h1)]; exact wpAny_bind (wpAny_mkInt (wpAny_pure ⟨_, rfl, hq⟩))
theorem truthyO {prog : Program} {w : World} {A : Around} {E : Value → Shared → Prop} {K : PySem.W.Frag} {x : Addr} {ox : Obj} {od : Option Obj} {Q : Bool → Shared → Prop} (X : K.In s.heap) (I : PySem.W.InstAt s.heap x ox C od)
    (hnb : PySem.W.findIn K (.ref C) "__bool__" = some none) (hs : PySem.W.findIn K (.ref C) "__len__" = some (some (.ref f))) (hf : PySem.W.isFn K (.ref f) = true)
    (h : wpAny (model prog w) A.in1 (call (.ref f) [.ref x]) (PySem.W.LenBack fun v s' => ∃ n t, v = .int n t ∧ Q (n != 0) s') E s) : wpAny (model prog w) A (truthy (.ref x)) Q E s := by
  have key : wpAny (model prog w) A (runValue (.builtin "len" ⟨[.ref x], []⟩)) (fun v s' => ∃ n t, v = .int n t ∧ Q (n != 0) s') E s := by
    refine wpAny_runValue (codeAny_builtin entry_len ?_)
    rw [Around.under_plainId plain_len _]
    exact wpAny_mono (lenO_body X I hs hf h) (fun fin s' h' => by obtain ⟨r, rfl, hq⟩ := h'; exact hq) fun _ _ e => e
  unfold truthy
  refine wpAny_bind (m := callSpecial? (.ref x) (Str.ofString "__bool__")) (wpAny_bind (wpAny_bind (I.type.here ((PySem.W.looks_findIn X hnb).here (wpAny_pure ?_)))))
  refine wpAny_bind (wpAny_bind (I.type.here ((PySem.W.looks_findIn X hs).here ?_)))
  refine wpAny_bind (wpAny_mono key (fun v s' q => ?_) fun _ _ e => e)
  obtain ⟨n, t, rfl, q⟩ := q
  exact wpAny_pure q
/-- the truth of an object with an own __len__, as a test -/
theorem pt_lenO {e : Expr} {te : TE} (F : FnOk X.prog X.w X.K X.mg X.base CX0 k f fd ps sp) (hb : Binds X.K fd ps []) (hr : Room (k + 1) X.A) (hnb : PySem.W.findIn X.K (.ref C) "__bool__" = some none)
    (hs : PySem.W.findIn X.K (.ref C) "__len__" = some (some (.ref f))) (hf : PySem.W.isFn X.K (.ref f) = true) (ha : PE X e te)
    (he : ∀ whole, isTrue e X.env whole = (do let v ← whole; standAt e.pos; holding [v] (truthy v)) := by intro _; rfl) :
    PT X e (fun σ H Q => te σ H fun x H' => ∃ (a dx : Addr) (fs : List (Str × V)), x = .ref a ∧ H' a = some (.ins C dx fs) ∧ sp [.ref a] H' (fun v H2 => ∃ n : Int, v = .int n ∧ 0 ≤ n ∧ n < 2 ^ 63 ∧ Q (n != 0) H2) E0) := by
  refine ⟨fun pins s σ H Q I h => isTrue_plain (thn (ha.run pins s σ H _ I h) fun v s1 ⟨x, H1, I1, r1, a, dx, fs, e1, h1, q1⟩ => ?_) (he _)⟩
  subst e1
  cases r1
  obtain ⟨mA, J, _⟩ := ins_get I1.hok h1
  obtain ⟨od, J, _⟩ := J.look
  refine truthyO I1.kIn J hnb hs hf (wpAny_mono (own_call F hb ⟨hr.in1, rfl⟩ I1 (vs := [.ref a]) (.cons rfl .nil) q1) (fun v s' q => ?_) fun _ _ z => z)
  obtain ⟨z, H', I', rz, n, rfl, h0, h2, q⟩ := q
  obtain ⟨t, rfl⟩ := rz
  exact ⟨⟨h0, h2⟩, n, _, rfl, H', I'.tok _, q⟩
/-- len(range(e)) -/
theorem pe_lenRg {e : Expr} {te : L2.St → Hp → (Int → Int → Hp → Prop) → Prop} {p pos : Pos} (hg : Gl X "len") (hm : X.mg "len" = none) (he : PRg X e te) (na : starEach [e] X.env = (false, eval e X.env) :: starEach [] X.env := by rfl) :
    PE X (.Call (.Name "len" p) [e] [] pos) (fun σ H Q => te σ H fun a b H1 => (((b - a).toNat : Nat) : Int) < 2 ^ 63 ∧ Q (.int ((b - a).toNat : Nat)) H1) := by
  refine ⟨fun pins s σ H Q I h => wpAny_Call_Name_kw (ld_blt I hg hm boot_len (callWith_builtin1 (args_cons (thn (he pins s σ H _ I h) fun x s1 ⟨r, a, b, t, u, v, H1, ex, hr, I1, ok, q⟩ => args_nil ?_) na) na))⟩
  subst ex
  exact call_len_range hr (rangeSize_nat a b) ok ⟨.int _, H1, I1.tok _, ⟨_, rfl⟩, q⟩
end
end Du

set_option Elab.async false
set_option linter.all false
set_option maxRecDepth 100000
namespace Du
open PySem L2 PyProof.Rows
section
variable {prog : Program} {w : World} {A : Around} {E : Value → Shared → Prop} {s : Shared} {K : PySem.W.Frag} {x y C f : Addr} {ox : Obj} {od : Option Obj}
/-- object's __ne__ over an own __eq__ -/
theorem neO_body {Q : Fin → Shared → Prop} (hu : A.units < cLine) (X : K.In s.heap) (I : PySem.W.InstAt s.heap x ox C od) (hs : PySem.W.findIn K (.ref C) "__eq__" = some (some (.ref f))) (hf : PySem.W.isFn K (.ref f) = true)
    (h : wpAny (model prog w) A (call (.ref f) [.ref x, .ref y]) (fun v s' => ∃ b, v = .bool b ∧ Q (.done (.ret (.bool (!b)))) s') E s) : wpAny (model prog w) A (Builtin.«object.__ne__» ⟨[.ref x, .ref y], []⟩) Q E s := by
  unfold Builtin.«object.__ne__»
  refine wpAny_bind (m := slotArgs "__ne__" 1 _) (wpAny_pure (wpAny_bind (wpAny_cRoomFor hu ?_)))
  refine wpAny_bind (m := callSpecialIfBound? (.ref x) (Str.ofString "__eq__") [.ref y]) (PySem.W.ifBound_K X I hs hf (wpAny_mono h (fun r s' hr => ?_) fun _ _ e => e))
  obtain ⟨b, rfl, hq⟩ := hr
  exact wpAny_bind (wpAny_truthy_bool (wpAny_pure hq))
theorem neO_try {Q : Option Value → Shared → Prop} (hu : A.units + 1 < cLine) (X : K.In s.heap) (I : PySem.W.InstAt s.heap x ox C od) (hn : PySem.W.findIn K (.ref C) "__ne__" = some (some (.builtin "object.__ne__")))
    (ho : PySem.W.subIn K (.ref C) (.type "object") = some true) (hs : PySem.W.findIn K (.ref C) "__eq__" = some (some (.ref f))) (hf : PySem.W.isFn K (.ref f) = true)
    (h : wpAny (model prog w) A.in1 (call (.ref f) [.ref x, .ref y]) (fun v s' => ∃ b, v = .bool b ∧ Q (some (.bool (!b))) s') E s) : wpAny (model prog w) A (tryCompare (.ref x) (Str.ofString "__ne__") (.ref y)) Q E s := by
  have S := F.cmp_object.ne
  have go : wpAny (model prog w) A (call (.builtin "object.__ne__") [.ref x, .ref y]) (fun v s' => ∃ b, v = .bool b ∧ Q (some (.bool b)) s') E s := by
    refine wpAny_call (codeAny_call_builtin S.plain F.cmpEntry_ne (PySem.W.check_slot F.cmpKind_ne F.cmpSplit_ne (I.type.andThen (PySem.W.looks_subIn X ho)) (F.cmpArgs_ne _ _) ?_))
    exact neO_body hu X I hs hf (wpAny_mono h (fun v s' z => by obtain ⟨b, rfl, q⟩ := z; exact ⟨b, rfl, !b, rfl, q⟩) fun _ _ e => e)
  have fin : wpAny (model prog w) A (call (.builtin "object.__ne__") ([.ref x] ++ [.ref y]) >>= fun v => pure (some v)) (fun r s' => ∃ b, r = some (Value.bool b) ∧ Q (some (.bool b)) s') E s :=
    wpAny_bind (wpAny_mono go (fun v s' z => by obtain ⟨b, rfl, q⟩ := z; exact wpAny_pure ⟨b, rfl, q⟩) fun _ _ e => e)
  unfold tryCompare
  refine wpAny_bind (m := callSpecialIfBound? (.ref x) (Str.ofString "__ne__") [.ref y]) ?_
  have step : wpAny (model prog w) A (callSpecialIfBound? (.ref x) (Str.ofString "__ne__") [.ref y]) (fun r s' => ∃ b, r = some (Value.bool b) ∧ Q (some (.bool b)) s') E s := by
    simp only [callSpecialIfBound?, bindSpecialIfBound?]
    refine wpAny_holding (wpAny_bind (wpAny_bind (wpAny_bind (I.type.here ((PySem.W.looks_findIn X hn).here (wpAny_bind (wpAny_askSetting (wpAny_ite ?_))))))))
    split
    · rw [S.bind]; exact wpAny_bind (wpAny_pure (wpAny_pure (by exact fin)))
    · rw [S.bind]; exact wpAny_tryCatch (wpAny_bind (wpAny_pure (wpAny_pure (by exact fin))))
  refine wpAny_mono step (fun r s' z => ?_) fun _ _ e => e
  obtain ⟨b, rfl, q⟩ := z
  exact wpAny_pure q
theorem neO_rich {Q : Value → Shared → Prop} (hu : A.units + 1 < cLine) (X : K.In s.heap) (I : PySem.W.InstAt s.heap x ox C od) (hy : PySem.W.Looks (model prog w) s.heap (typeOf (.ref y)) (.ref C)) (hn : PySem.W.findIn K (.ref C) "__ne__" = some (some (.builtin "object.__ne__")))
    (ho : PySem.W.subIn K (.ref C) (.type "object") = some true) (hs : PySem.W.findIn K (.ref C) "__eq__" = some (some (.ref f))) (hf : PySem.W.isFn K (.ref f) = true)
    (h : wpAny (model prog w) A.in1 (call (.ref f) [.ref x, .ref y]) (fun v s' => ∃ b, v = .bool b ∧ Q (.bool (!b)) s') E s) : wpAny (model prog w) A (richCompare .NotEq (.ref x) (.ref y)) Q E s := by
  have one : wpAny (model prog w) A (tryCompare (.ref x) (Str.ofString "__ne__") (.ref y)) (fun r s' => ∃ v, r = some v ∧ Q v s') E s :=
    neO_try hu X I hn ho hs hf (wpAny_mono h (fun v s' z => by obtain ⟨b, rfl, q⟩ := z; exact ⟨b, rfl, _, rfl, q⟩) fun _ _ e => e)
  unfold richCompare
  simp only [oneThing_ref, cmpInfo_NotEq]
  refine wpAny_holding (wpAny_bind (wpAny_cRoomFor (Nat.lt_of_succ_lt hu) (wpAny_bind (I.type.here (wpAny_bind (hy.here ?_))))))
  have e : (Value.ref C != Value.ref C) = false := by simp
  simp only [e, Bool.false_eq_true, if_false]
  refine wpAny_bind (wpAny_pure ?_)
  simp only [Bool.false_eq_true, if_false]
  refine wpAny_bind (wpAny_mono one (fun r s' z => ?_) fun _ _ e => e)
  obtain ⟨v, rfl, q⟩ := z
  exact wpAny_pure q
end
/-- x != y of two objects of one class with an own ==, that are equal -/
theorem op_neG {X : Cx} {n : Nat} {C f : Addr} {fd : FuncData} {ps : List Str} {R : Addr → Addr → Hp → Prop} (F : FnOk X.prog X.w X.K X.mg X.base CX0 n f fd ps (spEq R)) (hb : Binds X.K fd ps []) (hr : Room (n + 1) X.A)
    (hn : PySem.W.findIn X.K (.ref C) "__ne__" = some (some (.builtin "object.__ne__"))) (ho : PySem.W.subIn X.K (.ref C) (.type "object") = some true) (hs : PySem.W.findIn X.K (.ref C) "__eq__" = some (some (.ref f))) (hf : PySem.W.isFn X.K (.ref f) = true) :
    OpR X (compareOp .NotEq) (fun x y H Q => DIns C R x y H ∧ ∀ H', Ext H H' → Q (.bl false) H') := by
  intro pins s σ H x y v u Q I rx ry hq
  obtain ⟨⟨a, b, dx, dy, fs, gs, rfl, rfl, ha, hb', hR⟩, q⟩ := hq
  cases rx
  cases ry
  obtain ⟨mA, J, _⟩ := ins_get I.hok ha
  obtain ⟨mB, J', _⟩ := ins_get I.hok hb'
  obtain ⟨od, J, _⟩ := J.look
  obtain ⟨od', J', _⟩ := J'.look
  show wpAny _ _ (richCompare .NotEq (.ref a) (.ref b)) _ _ _
  refine neO_rich (hu_of hr) I.kIn J J'.type hn ho hs hf (wpAny_mono (own_call F hb ⟨hr.in1, rfl⟩ I (vs := [.ref a, .ref b]) (Q := fun v H' => v = .bl true ∧ Q (.bl false) H') (.cons rfl (.cons rfl .nil)) ⟨a, b, rfl, hR, fun H' e => ⟨rfl, q H' e⟩⟩) (fun r s' z => ?_) fun _ _ e => e)
  obtain ⟨v, H', I', rv, rfl, q'⟩ := z
  cases rv
  exact ⟨true, rfl, .bl false, H', I', rfl, q'⟩
/-- repr of data, where nothing is being shown -/
theorem call_reprD {X : Cx} (hg : X.A.guards = some []) (hu : X.A.units + 66 < cLine) : CallR X (.builtin "repr") (fun xs H Q => ∃ (a : Addr) (d : PyData), xs = [.ref a] ∧ Dp X.K H (.ref a) d ∧ d.showable = true ∧ d.hasDict = false ∧ d.depth ≤ 64 ∧ d.shown.length ≤ sizeLine ∧ Q (.str d.shown) H) := by
  intro pins s σ H xs us Q I r h
  obtain ⟨a, d, rfl, hd, h1, h2, h3, h4, q⟩ := h
  obtain ⟨u, rfl, ru⟩ := vals1 r
  cases ru
  obtain ⟨as, hr⟩ := Dp.reads I d _ _ hd rfl
  exact repr_of_reads' hr h1 (PyData.noDict_hsm h2) hg (by omega) (fun _ _ e => e) (fun h' u tk hk => ⟨.str d.shown, H, I.kept hk, ⟨_, rfl⟩, q⟩) h4
end Du

set_option Elab.async false
set_option linter.all false
set_option maxRecDepth 100000
namespace Du
open PySem L2
abbrev sWrongT : Stmt := topS 23
abbrev sInit : Stmt := inClass (topS 25) 0
abbrev sEq : Stmt := inClass (topS 25) 2
abbrev sLen : Stmt := inClass (topS 25) 3
def tf (n : Str) (c g d : Int) (t : Addr) : List (Str × V) := [("name", .str n), ("cost", .int c), ("gap", .int g), ("due", .int d), ("holds", .ref t)]
theorem tf_name (n : Str) (c g d : Int) (t : Addr) : (tf n c g d t).lookup ("name" : Str) = some (.str n) := rfl
theorem tf_cost (n : Str) (c g d : Int) (t : Addr) : (tf n c g d t).lookup ("cost" : Str) = some (.int c) := rfl
theorem tf_gap (n : Str) (c g d : Int) (t : Addr) : (tf n c g d t).lookup ("gap" : Str) = some (.int g) := rfl
theorem tf_due (n : Str) (c g d : Int) (t : Addr) : (tf n c g d t).lookup ("due" : Str) = some (.int d) := rfl
theorem tf_holds (n : Str) (c g d : Int) (t : Addr) : (tf n c g d t).lookup ("holds" : Str) = some (.ref t) := rfl
theorem tf_put (n : Str) (c g d : Int) (t : Addr) : putF "holds" (.ref t) (putF "due" (.int d) (putF "gap" (.int g) (putF "cost" (.int c) (putF "name" (.str n) [])))) = tf n c g d t := rfl
/-- what is asked of the class Task as the top has made it -/
structure TaskC (K : PySem.W.Frag) (mg : Str → Option Value) (C : Addr) : Prop where
  cl : Cls K C
  nN : NoAttr K C "name"
  nC : NoAttr K C "cost"
  nG : NoAttr K C "gap"
  nD : NoAttr K C "due"
  nH : NoAttr K C "holds"
  mg : mg "Task" = some (.ref C)
  kc : PySem.W.findIn K (.ref C) "__class__" = some (some (.builtin "object.__class__"))
  kg : PySem.W.specialIn K (.builtin "object.__class__") "__get__" = some (some (.builtin "getset_descriptor.__get__"))
  kt : PySem.W.takesIn K (.builtin "object.__class__") = some true
  km : PySem.W.mroIn K C (.type "object") = some true
  kk : PySem.W.kitOne K (.ref C) (.ref C) = some true
structure TaskV where
  name : Str
  cost : Int
  gap : Int
  due : Int
  holds : List Hold
/-- a good task -/
def TaskV.ok (t : TaskV) : Prop := isNm t.name = true ∧ (1 ≤ t.cost ∧ t.cost ≤ 99) ∧ (1 ≤ t.gap ∧ t.gap ≤ 600) ∧ (1 ≤ t.due ∧ t.due ≤ t.gap) ∧ areHds t.holds t.cost = true ∧ ∀ h ∈ t.holds, h.1.length ≤ sizeLine
/-- a task stands at x, its holds at h -/
def TaskAt (K : PySem.W.Frag) (C : Addr) (H : Hp) (x : Addr) (v : TaskV) (h : Addr) : Prop := (∃ dx, H x = some (.ins C dx (tf v.name v.cost v.gap v.due h))) ∧ HdsAt K H h v.holds
theorem TaskAt.same {K : PySem.W.Frag} {C : Addr} {H H' : Hp} {x h : Addr} {v : TaskV} (d : TaskAt K C H x v h) (s : Same H H') : TaskAt K C H' x v h := by
  obtain ⟨⟨dx, e⟩, q⟩ := d
  exact ⟨⟨dx, s _ _ e⟩, q.same s⟩
def dueV : Option Int → V
  | none => .non
  | some d => .int d
/-- the heap behind the five fields -/
def initH (H : Hp) (C x dx : Addr) (n : Str) (c g d : Int) (t : Addr) : Hp :=
  upd (upd (upd (upd (upd H x (.ins C dx (putF "name" (.str n) []))) x (.ins C dx (putF "cost" (.int c) (putF "name" (.str n) [])))) x (.ins C dx (putF "gap" (.int g) (putF "cost" (.int c) (putF "name" (.str n) []))))) x
    (.ins C dx (putF "due" (.int d) (putF "gap" (.int g) (putF "cost" (.int c) (putF "name" (.str n) [])))))) x (.ins C dx (putF "holds" (.ref t) (putF "due" (.int d) (putF "gap" (.int g) (putF "cost" (.int c) (putF "name" (.str n) []))))))
theorem initH_keep {H : Hp} {C x dx t b : Addr} {n : Str} {c g d : Int} (hb : b ≠ x) : initH H C x dx n c g d t b = H b := by
  unfold initH
  rw [upd_ne hb, upd_ne hb, upd_ne hb, upd_ne hb, upd_ne hb]
theorem initH_at {K : PySem.W.Frag} {H H2 : Hp} {C x dx h : Addr} {v : TaskV} (hx : H x = some (.ins C dx [])) (s : Same H H2) (hh : HdsAt K H h v.holds) :
    TaskAt K C (initH H2 C x dx v.name v.cost v.gap v.due h) x v h ∧ ∀ b o, H b = some o → b ≠ x → initH H2 C x dx v.name v.cost v.gap v.due h b = some o := by
  have keep : ∀ b o, H b = some o → b ≠ x → initH H2 C x dx v.name v.cost v.gap v.due h b = some o := fun b o e hb => by
    rw [initH_keep hb]
    exact s _ _ e
  refine ⟨⟨⟨dx, by unfold initH; rw [upd_same, tf_put]⟩, ?_⟩, keep⟩
  obtain ⟨vs, q1, q2, q3⟩ := hh
  have kT : ∀ a xs, SqT K H a xs → SqT K (initH H2 C x dx v.name v.cost v.gap v.due h) a xs := fun a xs z => by
    rcases z with (z | ⟨o, z⟩) | z
    · exact .inl (.inl (keep a _ z (ne_of z hx (by intro y; cases y))))
    · exact .inl (.inr ⟨o, keep a _ z (ne_of z hx (by intro y; cases y))⟩)
    · exact .inr z
  exact ⟨vs, kT _ _ q1, q2, fun i v h e1 e2 => by obtain ⟨a, ea, z⟩ := q3 i v h e1 e2; exact ⟨a, ea, kT _ _ z⟩⟩
section
variable {P : Program} {w : World} {K : PySem.W.Frag} {mg : Str → Option Value} {base : Heap}
/-! wrong_in_task of a good one -/
abbrev nWrongT : List Str := ["name", "cost", "gap", "due", "holds"]
theorem scWrongT : FnScope nWrongT nWrongT (defScope sWrongT) := ⟨rfl, rfl, rfl, by decide +kernel, rfl, by decide +kernel, by decide +kernel⟩
def spWrongT (K : PySem.W.Frag) : Sp := fun vs H Q _ => ∃ (h : Addr) (v : TaskV) (od : Option Int), vs = [.str v.name, .int v.cost, .int v.gap, dueV od, .ref h] ∧ v.due = od.getD v.gap ∧ v.ok ∧ HdsAt K H h v.holds ∧ ∀ H', Same H H' → Q .non H'
theorem ok_wrongT {f : Addr} {fd : FuncData} (F : Fun K "wrong_in_task" "wrong_in_task" sWrongT f fd) (mC : ∃ t, mg "MOST_COST" = some (.int 99 t)) (mG : ∃ t, mg "MOST_GAP" = some (.int 600 t))
    (DN : Dn P w K mg base 2 "is_name" ["thing"] (spName K)) (DW : Dn P w K mg base 2 "is_whole" ["thing", "least", "most"] (spWhole K)) (DH : Dn P w K mg base 4 "are_holds" ["thing", "cost"] (spHolds K)) :
    FnOk P w K mg base CX0 5 f fd nWrongT (spWrongT K) := by
  obtain ⟨uC, mC⟩ := mC
  obtain ⟨uG, mG⟩ := mG
  refine F.ok scWrongT (fun vs H Q E h => ?_) (fun cdv A outer s H vs Q E hr h => ?_)
  · obtain ⟨h, v, od, rfl, _⟩ := h
    rfl
  · obtain ⟨h, v, od, rfl, hdue, ⟨o1, o2, o3, o4, o5, o6⟩, hh, k⟩ := h
    have hr1 : Room 2 _ := hr.mono (by decide)
    refine ⟨_, (pss_cons (ps_if (pt_not (pt_val (pcall DN hr1 (by rfl) (pa_cons (pv 0) pa_nil)))) pss_never pss_nil) (pss_cons (ps_if (pt_not (pt_val (pcall DW hr1 (by rfl) (pa_cons (pv 1) (pa_cons pe_int (pa_cons (pe_glob (v := .int 99) rfl mC ⟨_, rfl⟩) pa_nil)))))) pss_never pss_nil) (pss_cons (ps_if (pt_not (pt_val (pcall DW hr1 (by rfl) (pa_cons (pv 2) (pa_cons pe_int (pa_cons (pe_glob (v := .int 600) rfl mG ⟨_, rfl⟩) pa_nil)))))) pss_never pss_nil) (pss_cons (ps_if (PW.pt (pw_and (pt_cmpR op_notN (pv 3) pe_non (nomark _)) (pw_and1 (pt_not (pt_val (pcall DW hr1 (by rfl) (pa_cons (pv 3) (pa_cons pe_int (pa_cons (pv 2) pa_nil))))))))) pss_never pss_nil) (pss_cons (ps_if (pt_not (pt_val (pcall DH hr (by rfl) (pa_cons (pv 4) (pa_cons (pv 1) pa_nil))))) pss_never pss_nil) (pss_one (ps_ret pe_non))))))), ?_⟩
    have hn8 : v.name.length ≤ sizeLine := by
      unfold isNm at o1
      simp only [Bool.and_eq_true, decide_eq_true_eq] at o1
      exact Nat.le_trans o1.2.1 (by decide)
    refine ⟨_, rfl, _, rfl, .inl ⟨_, rfl, hn8, fun H1 s1 => ⟨_, rfl, ?_⟩⟩⟩
    rw [o1]
    refine iteF ⟨_, rfl, _, _, _, rfl, .inl ⟨_, rfl, _, rfl, ?_⟩⟩
    rw [decide_eq_true o2.1, decide_eq_true o2.2]
    refine iteF ⟨_, rfl, _, _, _, rfl, .inl ⟨_, rfl, _, rfl, ?_⟩⟩
    rw [decide_eq_true o3.1, decide_eq_true o3.2]
    refine iteF ⟨_, rfl, rfl, _, rfl, ?_⟩
    cases od with
    | none =>
      refine ⟨_, rfl, _, rfl, h, v.holds, v.cost, rfl, hh.same s1, o6, fun H2 s2 => ⟨_, rfl, ?_⟩⟩
      rw [o5]
      exact iteF (k H2 (s1.trans s2))
    | some d =>
      have ed : v.due = d := hdue
      refine ⟨_, rfl, _, rfl, _, _, _, rfl, .inl ⟨_, rfl, _, rfl, ?_⟩⟩
      rw [ed] at o4
      rw [decide_eq_true o4.1, decide_eq_true o4.2]
      refine ⟨_, rfl, _, rfl, h, v.holds, v.cost, rfl, hh.same s1, o6, fun H2 s2 => ⟨_, rfl, ?_⟩⟩
      rw [o5]
      exact iteF (k H2 (s1.trans s2))
abbrev nInit : List Str := ["self", "name", "cost", "gap", "due", "holds", "part"]
theorem scInit : FnScope nInit ["self", "name", "cost", "gap", "due", "holds"] (defScope sInit) := ⟨rfl, rfl, rfl, by decide +kernel, rfl, by decide +kernel, by decide +kernel⟩
def spInit (K : PySem.W.Frag) (C : Addr) : Sp := fun vs H Q _ => ∃ (x dx h : Addr) (v : TaskV) (od : Option Int), vs = [.ref x, .str v.name, .int v.cost, .int v.gap, dueV od, .ref h] ∧ v.due = od.getD v.gap ∧ v.ok ∧ HdsAt K H h v.holds ∧ H x = some (.ins C dx []) ∧
  ∀ H', TaskAt K C H' x v h → (∀ b o, H b = some o → b ≠ x → H' b = some o) → Q .non H'
theorem ok_init {C f : Addr} {fd : FuncData} {kws : List (Str × V)} (F : FunD K "__init__" "Task.__init__" (defArgs sInit) (defBody sInit) (defScope sInit) [] kws f fd) (T : TaskC K mg C)
    (DT : Dn P w K mg base 5 "wrong_in_task" nWrongT (spWrongT K)) :
    FnOk P w K mg base CX0 6 f fd ["self", "name", "cost", "gap", "due", "holds"] (spInit K C) := by
  refine F.ok (CX := CX0) scInit (fun vs H Q E h => ?_) (fun cdv A outer s H vs Q E hr h => ?_)
  · obtain ⟨x, dx, h, v, od, rfl, _⟩ := h
    rfl
  · obtain ⟨x, dx, h, v, od, rfl, hdue, hok, hh, hx, k⟩ := h
    refine ⟨_, (pss_cons (ps_set (i := 6) scInit.nd rfl (.inl rfl) (pcall DT hr (by rfl) (pa_cons (pv 1) (pa_cons (pv 2) (pa_cons (pv 3) (pa_cons (pv 4) (pa_cons (pv 5) pa_nil))))))) (pss_cons (ps_if (pt_cmpR op_notN (pv 6) pe_non (nomark _)) pss_never pss_nil) (pss_cons (ps_fld (pv 0) (pv 1) rfl) (pss_cons (ps_fld (pv 0) (pv 2) rfl) (pss_cons (ps_fld (pv 0) (pv 3) rfl) (pss_cons (ps_fld (pv 0) (pe_ifExp (pt_cmpR op_isN (pv 4) pe_non (nomark _)) (pv 3) (pv 4)) rfl) (pss_one (ps_fld (pv 0) (pv 5) rfl)))))))), ?_⟩
    refine ⟨_, rfl, _, rfl, _, rfl, _, rfl, _, rfl, h, v, od, rfl, hdue, hok, hh, fun H2 s2 => ?_⟩
    refine ⟨_, rfl, rfl, _, rfl, ?_⟩
    refine iteF ?_
    refine ⟨_, rfl, _, rfl, x, C, dx, [], rfl, s2 _ _ hx, T.cl, T.nN, (by show 0 < 1000; decide), ?_⟩
    refine ⟨_, rfl, _, rfl, x, C, dx, _, rfl, upd_same, T.cl, T.nC, (by show 1 < 1000; decide), ?_⟩
    refine ⟨_, rfl, _, rfl, x, C, dx, _, rfl, upd_same, T.cl, T.nG, (by show 2 < 1000; decide), ?_⟩
    refine ⟨_, rfl, rfl, _, rfl, ?_⟩
    obtain ⟨z1, z2⟩ := initH_at hx s2 hh
    cases od with
    | none =>
      have ed : v.due = v.gap := hdue
      rw [ed] at z1 z2
      exact ⟨_, rfl, _, rfl, x, C, dx, _, rfl, upd_same, T.cl, T.nD, (by show 3 < 1000; decide), _, rfl, _, rfl, x, C, dx, _, rfl, upd_same, T.cl, T.nH, (by show 4 < 1000; decide), k _ z1 z2⟩
    | some d =>
      have ed : v.due = d := hdue
      rw [ed] at z1 z2
      exact ⟨_, rfl, _, rfl, x, C, dx, _, rfl, upd_same, T.cl, T.nD, (by show 3 < 1000; decide), _, rfl, _, rfl, x, C, dx, _, rfl, upd_same, T.cl, T.nH, (by show 4 < 1000; decide), k _ z1 z2⟩
end
end Du

set_option Elab.async false
set_option linter.all false
set_option maxRecDepth 100000
namespace Du
open PySem L2
section
variable {P : Program} {w : World} {K : PySem.W.Frag} {mg : Str → Option Value} {base : Heap}
def hdD (h : Hold) : PyData := .tuple [.str h.1, .int h.2.1, .int h.2.2]
theorem hd_dp {H : Hp} {v : V} {h : Hold} (d : HdAt K H v h) : Dp K H v (hdD h) := by
  obtain ⟨a, rfl, q⟩ := d
  exact .tup q (.cons (.str _) (.cons (.int _) (.cons (.int _) .nil)))
theorem hds_all {H : Hp} : ∀ {vs : List V} {hs : List Hold}, vs.length = hs.length → (∀ (i : Nat) v h, vs[i]? = some v → hs[i]? = some h → HdAt K H v h) → DpAll K H vs (hs.map hdD)
  | [], [], _, _ => .nil
  | v :: vs, h :: hs, hl, q => .cons (hd_dp (q 0 v h rfl rfl)) (hds_all (Nat.succ.inj hl) fun i a b e1 e2 => q (i + 1) a b e1 e2)
theorem hds_dp {H : Hp} {t : Addr} {hs : List Hold} (d : HdsAt K H t hs) : Dp K H (.ref t) (.tuple (hs.map hdD)) := by
  obtain ⟨vs, q1, q2, q3⟩ := d
  exact .tup q1 (hds_all q2 q3)
theorem letter_small {c : Nat} (h : isLetter c = true) : 97 ≤ c ∧ c ≤ 122 := by
  have z : ∀ c ∈ letters.cps.toList, 97 ≤ c ∧ c ≤ 122 := by decide +kernel
  exact z c (of_decide_eq_true h)
theorem nm_len {z : Str} (h : isNm z = true) : 1 ≤ z.length ∧ z.length ≤ 8 := by
  unfold isNm at h
  simp only [Bool.and_eq_true, decide_eq_true_eq] at h
  exact ⟨h.1, h.2.1⟩
theorem nm_codes {z : Str} (h : isNm z = true) : ∀ c ∈ z.cps.toList, 97 ≤ c ∧ c ≤ 122 := by
  unfold isNm at h
  simp only [Bool.and_eq_true, List.all_eq_true] at h
  exact fun c hc => letter_small (h.2.2 c hc)
theorem nm_strOk {z : Str} (h : isNm z = true) : PyData.strOk z = true := by
  unfold PyData.strOk
  rw [← Array.all_toList, List.all_eq_true]
  intro c hc
  have := nm_codes h c hc
  exact decide_eq_true (by omega)
theorem hds_lay : ∀ hs : List Hold, (∀ h ∈ hs, isNm h.1 = true) → PyData.canLayAll0 (hs.map hdD) = true
  | [], _ => rfl
  | h :: hs, q => by
    show (PyData.canLay0 (hdD h) && PyData.canLayAll0 (hs.map hdD)) = true
    rw [hds_lay hs fun g hg => q g (List.mem_cons_of_mem _ hg)]
    have e : PyData.canLay0 (hdD h) = PyData.strOk h.1 := by
      show (PyData.strOk h.1 && (true && (true && true))) = PyData.strOk h.1
      simp
    rw [e, nm_strOk (q h List.mem_cons_self)]
    rfl
theorem hds_depth : ∀ hs : List Hold, PyData.depthAll (hs.map hdD) ≤ 1
  | [] => Nat.zero_le _
  | h :: hs => by
    show max (PyData.depth (hdD h)) (PyData.depthAll (hs.map hdD)) ≤ 1
    have := hds_depth hs
    have e : PyData.depth (hdD h) = 1 := rfl
    omega
theorem hds_shaped {hs : List Hold} (q : ∀ h ∈ hs, isNm h.1 = true) : SeqAt.shaped (.tuple (hs.map hdD)) = true := by
  unfold SeqAt.shaped
  have h1 : PyData.canLay0 (.tuple (hs.map hdD)) = true := by
    simp only [PyData.canLay0]
    exact hds_lay hs q
  have h2 : PyData.depth (.tuple (hs.map hdD)) ≤ 64 := by
    have := hds_depth hs
    simp only [PyData.depth]
    omega
  rw [h1, decide_eq_true h2]
  rfl
theorem hds_eqv {hs : List Hold} (q : ∀ h ∈ hs, isNm h.1 = true) : PyData.eqv (.tuple (hs.map hdD)) (.tuple (hs.map hdD)) = true := SeqAt.eqv_refl _ (SeqAt.canLay_of_shaped (hds_shaped q))
/-! Task.__eq__ -/
theorem scEq : FnScope ["self", "other"] ["self", "other"] (defScope sEq) := ⟨rfl, rfl, rfl, by decide +kernel, rfl, by decide +kernel, by decide +kernel⟩
def TwoTasks (K : PySem.W.Frag) (C : Addr) (a b : Addr) (H : Hp) : Prop := ∃ (v : TaskV) (ha hb : Addr), TaskAt K C H a v ha ∧ TaskAt K C H b v hb ∧ ∀ h ∈ v.holds, isNm h.1 = true
theorem decV (x : V) : decide (x = x) = true := decide_eq_true rfl
theorem ok_eq {C f : Addr} {fd : FuncData} (F : Fun K "__eq__" "Task.__eq__" sEq f fd) (T : TaskC K mg C) (mI : mg "isinstance" = none) :
    FnOk P w K mg base CX0 3 f fd ["self", "other"] (spEq (TwoTasks K C)) := by
  refine F.ok scEq (fun vs H Q E h => ?_) (fun cdv A outer s H vs Q E hr h => ?_)
  · obtain ⟨a, b, rfl, _⟩ := h
    rfl
  · obtain ⟨a, b, rfl, ⟨v, ha, hb, ⟨⟨da, e1⟩, q1⟩, ⟨⟨db, e2⟩, q2⟩, hnm⟩, k⟩ := h
    refine ⟨_, pss_one (ps_ret (pe_and (pe_callB call_isi (by rfl) mI (by decide +kernel) (pa_cons (pv 1) (pa_cons (pe_glob (v := .ref C) rfl T.mg rfl) pa_nil)))
      (pe_and (pe_cmpR op_eq (pe_fld (pv 0) rfl) (pe_fld (pv 1) rfl) (nomark _)) (pe_and (pe_cmpR op_eq (pe_fld (pv 0) rfl) (pe_fld (pv 1) rfl) (nomark _)) (pe_and (pe_cmpR op_eq (pe_fld (pv 0) rfl) (pe_fld (pv 1) rfl) (nomark _))
      (pe_and (pe_cmpR op_eq (pe_fld (pv 0) rfl) (pe_fld (pv 1) rfl) (nomark _)) (pe_one (pe_cmpR (op_eqD hr.units) (pe_fld (pv 0) rfl) (pe_fld (pv 1) rfl) (nomark _))))))))), ?_⟩
    refine ⟨_, rfl, _, _, _, _, true, rfl, .own C, .base (.ins e2 T.cl T.kc T.kg T.kt T.km), T.kk, true, rfl, ?_⟩
    refine iteT ⟨_, rfl, a, C, da, _, _, rfl, e1, T.cl, T.nN, tf_name _ _ _ _ _, _, rfl, b, C, db, _, _, rfl, e2, T.cl, T.nN, tf_name _ _ _ _ _, rfl, _, rfl, ?_⟩
    rw [decV]
    refine iteT ⟨_, rfl, a, C, da, _, _, rfl, e1, T.cl, T.nC, tf_cost _ _ _ _ _, _, rfl, b, C, db, _, _, rfl, e2, T.cl, T.nC, tf_cost _ _ _ _ _, rfl, _, rfl, ?_⟩
    rw [decV]
    refine iteT ⟨_, rfl, a, C, da, _, _, rfl, e1, T.cl, T.nG, tf_gap _ _ _ _ _, _, rfl, b, C, db, _, _, rfl, e2, T.cl, T.nG, tf_gap _ _ _ _ _, rfl, _, rfl, ?_⟩
    rw [decV]
    refine iteT ⟨_, rfl, a, C, da, _, _, rfl, e1, T.cl, T.nD, tf_due _ _ _ _ _, _, rfl, b, C, db, _, _, rfl, e2, T.cl, T.nD, tf_due _ _ _ _ _, rfl, _, rfl, ?_⟩
    rw [decV]
    refine iteT ⟨_, rfl, a, C, da, _, _, rfl, e1, T.cl, T.nH, tf_holds _ _ _ _ _, _, rfl, b, C, db, _, _, rfl, e2, T.cl, T.nH, tf_holds _ _ _ _ _, _, _, hds_dp q1, hds_dp q2, hds_shaped hnm, hds_shaped hnm, ?_⟩
    rw [hds_eqv hnm]
    exact k H (Same.refl _)
/-! Task.__len__ -/
theorem scLen : FnScope ["self"] ["self"] (defScope sLen) := ⟨rfl, rfl, rfl, by decide +kernel, rfl, by decide +kernel, by decide +kernel⟩
def spLenT (K : PySem.W.Frag) (C : Addr) : Sp := fun vs H Q _ => ∃ (a h : Addr) (v : TaskV), vs = [.ref a] ∧ TaskAt K C H a v h ∧ 0 ≤ v.cost ∧ v.cost < 1000 ∧ Q (.int v.cost) H
theorem ok_len {C f : Addr} {fd : FuncData} (F : Fun K "__len__" "Task.__len__" sLen f fd) (T : TaskC K mg C) (ml : mg "len" = none) (mr : mg "range" = none) :
    FnOk P w K mg base CX0 3 f fd ["self"] (spLenT K C) := by
  refine F.ok scLen (fun vs H Q E h => ?_) (fun cdv A outer s H vs Q E hr h => ?_)
  · obtain ⟨a, h, v, rfl, _⟩ := h
    rfl
  · obtain ⟨a, h, v, rfl, ⟨⟨dx, e1⟩, _⟩, h0, h1, q⟩ := h
    refine ⟨_, pss_one (ps_ret (pe_lenRg (by rfl) ml (prg_1 (by rfl) mr (pe_fld (pv 0) rfl)))), ?_⟩
    have en : (((v.cost - 0).toNat : Nat) : Int) = v.cost := by omega
    refine ⟨_, rfl, a, C, dx, _, _, rfl, e1, T.cl, T.nC, tf_cost _ _ _ _ _, _, rfl, by omega, ?_⟩
    rw [en]
    exact q
end
end Du

set_option Elab.async false
set_option linter.all false
set_option maxRecDepth 100000
namespace Du
open PySem L2
abbrev sCell : Stmt := topS 42
abbrev sPurse : Stmt := topS 43
abbrev sTake : Stmt := topS 44
section
variable {P : Program} {w : World} {K : PySem.W.Frag} {mg : Str → Option Value} {base : Heap}
theorem cutV_mem {xs : List V} {lo hi : Option Int} {x : V} (h : x ∈ cutV xs lo hi) : x ∈ xs := List.mem_of_mem_drop (List.mem_of_mem_take h)
/-! _law_cell -/
theorem scCell : FnScope ["_law_script", "_law_k", "_law_state", "_law_cell_here"] ["_law_script", "_law_k"] (defScope sCell) := ⟨rfl, rfl, rfl, by decide +kernel, rfl, by decide +kernel, by decide +kernel⟩
def spCellL (K : PySem.W.Frag) : Sp := fun vs H Q _ => ∃ (a : Addr) (ns : List Int) (k : Nat), vs = [.ref a, .int (k : Int)] ∧ SqL K H a (ns.map V.int) ∧ k < 64 ∧ ∀ (n : Int) H', Same H H' → Q (.int n) H'
theorem ok_cell {f : Addr} {fd : FuncData} (F : Fun K "_law_cell" "_law_cell" sCell f fd) (ml : mg "len" = none) : FnOk P w K mg base CX0 3 f fd ["_law_script", "_law_k"] (spCellL K) := by
  refine F.ok scCell (fun vs H Q E h => ?_) (fun cdv A outer s H vs Q E hr h => ?_)
  · obtain ⟨a, ns, k, rfl, _⟩ := h
    rfl
  · obtain ⟨a, ns, k, rfl, hS, hk, q⟩ := h
    refine ⟨_, pss_cons (ps_if (pt_cmpR op_lt (pv 1) (pe_callB call_len_seq (by rfl) ml (by decide +kernel) (pa_cons (pv 0) pa_nil)) (nomark _)) (pss_one (ps_ret (pe_ix ix_list (pv 0) (pv 1) (fun _ _ => rfl)))) pss_nil)
      (pss_cons (ps_set (i := 2) scCell.nd rfl (.inl rfl) (pe_op op_mod (pe_op op_mul pe_int (pe_op op_add (pe_op op_add (pe_op op_mul (pv 1) (pv 1)) (pe_op op_mul pe_int (pv 1))) pe_int)) pe_int))
      (pss_cons (ps_for PassesOwn.never rfl (pi_list (pe_slice sl_list (pv 0) po_none (po_some pe_int))) (pg_name (i := 3) scCell.nd rfl (.inl rfl))
        (pss_one (ps_set (i := 2) scCell.nd rfl (.inl rfl) (pe_op op_mod (pe_op op_add (pe_op op_mul (pv 2) pe_int) (pv 3)) pe_int))))
      (pss_one (ps_ret (pv 2))))), ?_⟩
    refine ⟨_, rfl, _, rfl, a, _, rfl, .inl hS, _, _, rfl, rfl, _, rfl, ?_⟩
    by_cases hlt : k < ns.length
    · have e1 : decide ((k : Int) < (((ns.map V.int).length : Nat) : Int)) = true := decide_eq_true (by rw [List.length_map]; omega)
      rw [e1]
      have g : (ns.map V.int)[k]? = some (V.int ns[k]) := by
        rw [List.getElem?_map, List.getElem?_eq_getElem hlt]
        rfl
      exact iteT ⟨_, rfl, _, rfl, a, _, _, _, rfl, rfl, hS, at_of rfl g, q _ H (Same.refl _)⟩
    · have e1 : decide ((k : Int) < (((ns.map V.int).length : Nat) : Int)) = false := decide_eq_false (by rw [List.length_map]; omega)
      rw [e1]
      refine iteF ⟨_, rfl, _, rfl, _, _, rfl, rfl, .inl ⟨by omega, by omega⟩, _, rfl, _, _, rfl, rfl, .inl ⟨by decide, by decide⟩, _, _, rfl, rfl, _, _, rfl, rfl, _, _, rfl, rfl, .inl ⟨by decide, by decide⟩, _, _, rfl, rfl, (by show (0 : Int) < 1000000021; decide), ?_⟩
      refine ⟨_, rfl, 3, rfl, a, _, rfl, hS, fun c nc => ?_⟩
      refine ⟨c, rfl, ⟨_, SqL.of upd_same⟩, for_list (K := K) (a := c) (xs := cutV (ns.map V.int) none (some 3)) (fun i σ H' => ∃ (st : Int) (v : Option V), σ = [some (.ref a), some (.int (k : Int)), some (.int st), v] ∧ Same (upd H c (.lst (cutV (ns.map V.int) none (some 3)))) H')
        ⟨_, none, rfl, Same.refl _⟩ (fun i σ H' _ z => ?_) ?_ ?_⟩
      · obtain ⟨_, _, _, s1⟩ := z
        exact SqL.of (s1 _ _ upd_same)
      · rintro i x σ H' hi ⟨st, v, rfl, s1⟩
        obtain ⟨z, _, rfl⟩ := List.mem_map.mp (cutV_mem (List.mem_of_getElem? hi))
        refine ⟨_, rfl, _, _, rfl, rfl, .inr ⟨by decide, by decide⟩, _, rfl, _, _, rfl, rfl, _, _, rfl, rfl, (by show (0 : Int) < 1000000021; decide), ?_⟩
        exact ⟨_, _, rfl, s1⟩
      · rintro σ H' ⟨st, v, rfl, s1⟩
        exact ⟨_, rfl, q st H' ((same_upd nc).trans s1)⟩
/-! _law_purse -/
def Purse (H : Hp) (p : Addr) : Prop := ∃ a d c : Int, H p = some (.lst [.int a, .int d, .int c]) ∧ 0 ≤ a ∧ a < 1000000021 ∧ 0 ≤ d ∧ 0 ≤ c
theorem scPurse : FnScope ["_law_cell_here", "_law_digits"] ["_law_cell_here"] (defScope sPurse) := ⟨rfl, rfl, rfl, by decide +kernel, rfl, by decide +kernel, by decide +kernel⟩
def spPurse : Sp := fun vs H Q _ => ∃ n : Int, vs = [.int n] ∧ ∀ p H', Same H H' → H p = none → Purse H' p → Q (.ref p) H'
theorem ok_purse {f : Addr} {fd : FuncData} (F : Fun K "_law_purse" "_law_purse" sPurse f fd) (ma : mg "abs" = none) : FnOk P w K mg base CX0 3 f fd ["_law_cell_here"] spPurse := by
  refine F.ok scPurse (fun vs H Q E h => ?_) (fun cdv A outer s H vs Q E hr h => ?_)
  · obtain ⟨n, rfl, _⟩ := h
    rfl
  · obtain ⟨n, rfl, q⟩ := h
    refine ⟨_, pss_cons (ps_set (i := 1) scPurse.nd rfl (.inl rfl) pe_int)
      (pss_cons (ps_if (PW.pt (pw_or (pt_cmpR op_lt (pv 0) pe_int (nomark _)) (pw_or1 (pt_cmpR op_ge (pv 0) (pe_op op_pow pe_int pe_int) (nomark _)))))
        (pss_one (ps_set (i := 1) scPurse.nd rfl (.inl rfl) (pe_callB call_abs (by rfl) ma (by decide +kernel) (pa_cons (pv 0) pa_nil)))) pss_nil)
      (pss_one (ps_ret (pe_lst (pa_cons (pe_op op_mod (pv 0) pe_int) (pa_cons (pv 1) (pa_cons pe_int pa_nil))))))), ?_⟩
    have fin : ∀ d : Int, 0 ≤ d → tRet (fun σ H Q => tCons (tOp (rI (fun _ j => 0 < j) fun i j => .int (i % j)) (tVar 0) (tC (.int 1000000021))) (tCons (tVar 1) (tCons (tC (.int 0)) tNil)) σ H fun vs H1 => vs.length ≤ sizeLine ∧ ∀ p, H1 p = none → Q (.ref p) (upd H1 p (.lst vs)))
        { nx := fun _ H' => Q .non H', rt := Q } [some (.int n), some (.int d)] H := by
      intro d hd
      refine ⟨_, rfl, _, _, rfl, rfl, (by show (0 : Int) < 1000000021; decide), _, rfl, (by show 3 ≤ sizeLine; decide), fun p np => ?_⟩
      exact q p _ (same_upd np) np ⟨_, d, 0, upd_same, Int.emod_nonneg _ (by decide), Int.emod_lt_of_pos _ (by decide), hd, Int.le_refl _⟩
    refine ⟨_, rfl, _, _, rfl, rfl, _, rfl, ?_⟩
    by_cases h1 : n < 0
    · rw [decide_eq_true h1]
      refine ⟨_, rfl, n, rfl, ?_⟩
      exact fin _ (by split <;> omega)
    · rw [decide_eq_false h1]
      refine ⟨_, rfl, _, _, rfl, rfl, ⟨by decide, by decide, by decide⟩, _, _, rfl, rfl, _, rfl, ?_⟩
      by_cases h2 : (10 : Int) ^ (18 : Int).toNat ≤ n
      · rw [decide_eq_true h2]
        refine ⟨_, rfl, n, rfl, ?_⟩
        exact fin _ (by split <;> omega)
      · rw [decide_eq_false h2]
        exact fin 0 (Int.le_refl _)
/-! _law_take -/
/-- the purse goes on, all else that is tracked stays -/
structure Step (p : Addr) (H H' : Hp) : Prop where
  purse : Purse H' p
  keep : ∀ b o, b ≠ p → H b = some o → H' b = some o
theorem scTake : FnScope ["_law_purse_here", "_law_many", "_law_state", "_law_taken"] ["_law_purse_here", "_law_many"] (defScope sTake) := ⟨rfl, rfl, rfl, by decide +kernel, rfl, by decide +kernel, by decide +kernel⟩
def spTake : Sp := fun vs H Q _ => ∃ (p : Addr) (m : Int), vs = [.ref p, .int m] ∧ 0 < m ∧ m < 1073741824 ∧ Purse H p ∧ ∀ (r : Int) H', 0 ≤ r → r < m → Step p H H' → Q (.int r) H'
theorem ok_take {f : Addr} {fd : FuncData} (F : Fun K "_law_take" "_law_take" sTake f fd) : FnOk P w K mg base CX0 3 f fd ["_law_purse_here", "_law_many"] spTake := by
  refine F.ok scTake (fun vs H Q E h => ?_) (fun cdv A outer s H vs Q E hr h => ?_)
  · obtain ⟨p, m, rfl, _⟩ := h
    rfl
  · obtain ⟨p, m, rfl, hm, hm2, ⟨a, d, c, hp, a0, a1, d0, c0⟩, q⟩ := h
    refine ⟨_, pss_cons (ps_asg (pe_op op_add (pe_ix ix_list (pv 0) pe_int (fun _ _ => rfl)) pe_int) (pg_sub (pv 0) pe_int set_list))
      (pss_cons (ps_set (i := 2) scTake.nd rfl (.inl rfl) (pe_ix ix_list (pv 0) pe_int (fun _ _ => rfl)))
      (pss_cons (ps_asg (pe_op op_mod (pe_op op_add (pe_op op_add (pe_op op_mul (pv 2) (pe_op op_add (pe_op op_mod (pv 2) pe_int) pe_int)) (pe_op op_mul pe_int (pe_ix ix_list (pv 0) pe_int (fun _ _ => rfl)))) pe_int) pe_int) (pg_sub (pv 0) pe_int set_list))
      (pss_cons (ps_if (pt_cmpR op_gt (pe_ix ix_list (pv 0) pe_int (fun _ _ => rfl)) pe_int (nomark _))
        (pss_cons (ps_set (i := 3) scTake.nd rfl (.inl rfl) (pe_op op_mod (pe_ix ix_list (pv 0) pe_int (fun _ _ => rfl)) (pv 1)))
        (pss_cons (ps_asg (pe_op op_fdiv (pe_ix ix_list (pv 0) pe_int (fun _ _ => rfl)) (pv 1)) (pg_sub (pv 0) pe_int set_list)) (pss_one (ps_ret (pv 3))))) pss_nil)
      (pss_one (ps_ret (pe_op op_mod (pe_op op_fdiv (pe_ix ix_list (pv 0) pe_int (fun _ _ => rfl)) pe_int) (pv 1))))))), ?_⟩
    refine ⟨_, rfl, p, _, _, _, rfl, rfl, SqL.of hp, at_of (j := 2) rfl rfl, _, _, rfl, rfl, _, rfl, p, _, _, 2, rfl, rfl, hp, rfl, ?_⟩
    refine ⟨_, rfl, p, _, _, _, rfl, rfl, SqL.of upd_same, at_of (j := 0) rfl rfl, ?_⟩
    refine ⟨_, rfl, _, rfl, _, _, rfl, rfl, (by show (0 : Int) < 50021; decide), _, _, rfl, rfl, _, _, rfl, rfl, .inl ⟨by omega, by omega⟩, _, rfl, p, _, _, _, rfl, rfl, SqL.of upd_same, at_of (j := 2) rfl rfl, _, _, rfl, rfl, .inl ⟨by decide, by decide⟩, _, _, rfl, rfl, _, _, rfl, rfl, _, _, rfl, rfl, (by show (0 : Int) < 1000000021; decide), ?_⟩
    refine ⟨_, rfl, p, _, _, 0, rfl, rfl, upd_same, rfl, ?_⟩
    refine ⟨_, rfl, p, _, _, _, rfl, rfl, SqL.of upd_same, at_of (j := 1) rfl rfl, _, _, rfl, rfl, _, rfl, ?_⟩
    have keep : ∀ (o1 o2 : HO) b o, b ≠ p → H b = some o → upd (upd H p o1) p o2 b = some o := fun o1 o2 b o hb e => by rw [upd_ne hb, upd_ne hb]; exact e
    have n0 : ∀ z : Int, 0 ≤ z % 1000000021 := fun z => Int.emod_nonneg _ (by decide)
    have n1 : ∀ z : Int, z % 1000000021 < 1000000021 := fun z => Int.emod_lt_of_pos _ (by decide)
    by_cases hd : 0 < d
    · rw [decide_eq_true hd]
      refine ⟨_, rfl, p, _, _, _, rfl, rfl, SqL.of upd_same, at_of (j := 1) rfl rfl, _, rfl, _, _, rfl, rfl, hm, ?_⟩
      refine ⟨_, rfl, p, _, _, _, rfl, rfl, SqL.of upd_same, at_of (j := 1) rfl rfl, _, rfl, _, _, rfl, rfl, ⟨hm, hm2⟩, _, rfl, p, _, _, 1, rfl, rfl, upd_same, rfl, _, rfl, ?_⟩
      refine q _ _ (Int.emod_nonneg _ (by omega)) (Int.emod_lt_of_pos _ hm) ⟨⟨_, _, _, upd_same, n0 _, n1 _, Int.ediv_nonneg d0 (by omega), by omega⟩, fun b o hb e => ?_⟩
      rw [upd_ne hb]
      exact keep _ _ b o hb e
    · rw [decide_eq_false hd]
      refine ⟨_, rfl, p, _, _, _, rfl, rfl, SqL.of upd_same, at_of (j := 0) rfl rfl, _, _, rfl, rfl, ⟨by decide, by decide⟩, _, rfl, _, _, rfl, rfl, hm, ?_⟩
      exact q _ _ (Int.emod_nonneg _ (by omega)) (Int.emod_lt_of_pos _ hm) ⟨⟨_, _, _, upd_same, n0 _, n1 _, d0, by omega⟩, keep _ _⟩
end
end Du

set_option Elab.async false
set_option linter.all false
set_option maxRecDepth 100000
namespace Du
open PySem L2
/-- a text of these signs -/
def ofL (l : List Nat) : Str := ⟨l.toArray⟩
theorem ofL_codes (l : List Nat) : (ofL l).cps.toList = l := by simp [ofL]
theorem ofL_inj {l m : List Nat} (h : ofL l = ofL m) : l = m := by
  have := congrArg (fun z : Str => z.cps.toList) h
  simpa [ofL] using this
theorem ofL_len (l : List Nat) : (ofL l).length = l.length := by simp [ofL, Str.length]
theorem str_ofL (z : Str) : z = ofL z.cps.toList := by
  cases z
  simp [ofL]
theorem app_ofL (l m : List Nat) : ofL l ++ ofL m = ofL (l ++ m) := by
  show Str.append _ _ = _
  simp [Str.append, ofL]
def allL (l : List Nat) : Prop := ∀ c ∈ l, isLetter c = true
theorem nm_ofL {l : List Nat} (h1 : 1 ≤ l.length) (h8 : l.length ≤ 8) (h : allL l) : isNm (ofL l) = true := by
  unfold isNm
  rw [ofL_len, ofL_codes, decide_eq_true h1, decide_eq_true h8]
  show (l.all isLetter) = true
  exact List.all_eq_true.mpr h
theorem nodup_range_map {α : Type} {n : Nat} {f : Nat → α} (h : ∀ i j, i < n → j < n → i < j → f i ≠ f j) : ((List.range n).map f).Nodup := by
  unfold List.Nodup
  rw [List.pairwise_map]
  exact (List.pairwise_lt_range (n := n)).imp_of_mem fun {a b} ha hb hab => h a b (List.mem_range.mp ha) (List.mem_range.mp hb) hab
/-! the words of rows -/
def ownW : List Str := ["task", "door", "every", "let", "leave", "come", "serve", "end", "in", "soon", "none", "go"]
def ix (n : Int) (spot step : Int) (k : Nat) : Nat := ((spot + step * (k : Int)) % n).toNat
theorem ix_lt {n spot step : Int} {k : Nat} (h : 0 < n) : (ix n spot step k : Int) < n ∧ ((ix n spot step k : Nat) : Int) = (spot + step * (k : Int)) % n := by
  have h1 := Int.emod_nonneg (spot + step * (k : Int)) (show n ≠ 0 by omega)
  have h2 := Int.emod_lt_of_pos (spot + step * (k : Int)) h
  unfold ix
  omega
def Stp (step : Int) : Prop := step = 1 ∨ step = 5 ∨ step = 7 ∨ step = 11
theorem ix12 {spot step : Int} (hs : Stp step) {i j : Nat} (hj : j < 12) (hij : i < j) : ix 12 spot step i ≠ ix 12 spot step j := by
  have h1 := (ix_lt (n := 12) (spot := spot) (step := step) (k := i) (by decide)).2
  have h2 := (ix_lt (n := 12) (spot := spot) (step := step) (k := j) (by decide)).2
  rcases hs with rfl | rfl | rfl | rfl <;> omega
theorem ix26 {spot step : Int} (hs : Stp step) {i j : Nat} (hj : j < 12) (hij : i < j) : ix 26 spot step i ≠ ix 26 spot step j := by
  have h1 := (ix_lt (n := 26) (spot := spot) (step := step) (k := i) (by decide)).2
  have h2 := (ix_lt (n := 26) (spot := spot) (step := step) (k := j) (by decide)).2
  rcases hs with rfl | rfl | rfl | rfl <;> omega
def w1 (spot step : Int) (k : Nat) : Str := ownW.getD (ix 12 spot step k) ""
theorem ownW_nodup : ownW.Nodup := by decide +kernel
theorem ownW_nm : ∀ z ∈ ownW, isNm z = true := by decide +kernel
theorem w1_at (spot step : Int) (k : Nat) : ownW[ix 12 spot step k]? = some (w1 spot step k) := by
  have h := (ix_lt (n := 12) (spot := spot) (step := step) (k := k) (by decide)).1
  have hl : ix 12 spot step k < ownW.length := by
    show ix 12 spot step k < 12
    omega
  unfold w1
  rw [List.getD_eq_getElem?_getD, List.getElem?_eq_getElem hl]
  rfl
theorem w1_nm (spot step : Int) (k : Nat) : isNm (w1 spot step k) = true := ownW_nm _ (List.mem_of_getElem? (w1_at spot step k))
theorem w1_nodup {spot step : Int} (hs : Stp step) {n : Nat} (hn : n ≤ 12) : ((List.range n).map (w1 spot step)).Nodup :=
  nodup_range_map fun i j hi hj hij e => ix12 hs (by omega) hij (nd_ix ownW_nodup (w1_at spot step i) (by rw [e]; exact w1_at spot step j))
/-! words about a stem -/
def letterAt (begin step : Int) (k : Nat) : Nat := letters.cps.toList.getD (ix 26 begin step k) 0
theorem letters_nodup : letters.cps.toList.Nodup := by decide +kernel
theorem letters_len : letters.cps.toList.length = 26 := by decide +kernel
theorem letter_at (begin step : Int) (k : Nat) : letters.cps.toList[ix 26 begin step k]? = some (letterAt begin step k) := by
  have h := (ix_lt (n := 26) (spot := begin) (step := step) (k := k) (by decide)).1
  have hl : ix 26 begin step k < letters.cps.toList.length := by
    rw [letters_len]
    omega
  unfold letterAt
  rw [List.getD_eq_getElem?_getD, List.getElem?_eq_getElem hl]
  rfl
theorem letter_is {i c : Nat} (h : letters.cps.toList[i]? = some c) : isLetter c = true := decide_eq_true (List.mem_of_getElem? h)
def w2 (st : List Nat) (cut : Nat) (begin step : Int) (k : Nat) : Str := ofL (st.take cut ++ [letterAt begin step k] ++ st.drop cut)
theorem w2_nm {st : List Nat} {cut : Nat} {begin step : Int} {k : Nat} (h : allL st) (hl : st.length ≤ 7) : isNm (w2 st cut begin step k) = true := by
  refine nm_ofL ?_ ?_ ?_
  · simp
    omega
  · simp
    omega
  · intro c hc
    simp at hc
    rcases hc with hc | hc | hc
    · exact h c (List.mem_of_mem_take hc)
    · rw [hc]
      exact letter_is (letter_at begin step k)
    · exact h c (List.mem_of_mem_drop hc)
theorem w2_nodup {st : List Nat} {cut : Nat} {begin step : Int} (hs : Stp step) {n : Nat} (hn : n ≤ 12) : ((List.range n).map (w2 st cut begin step)).Nodup :=
  nodup_range_map fun i j hi hj hij e => by
    have e1 := ofL_inj e
    rw [List.append_assoc, List.append_assoc] at e1
    have e2 := List.append_cancel_left e1
    have e3 : letterAt begin step i = letterAt begin step j := by
      simpa using e2
    exact ix26 hs (by omega) hij (nd_ix letters_nodup (letter_at begin step i) (by rw [e3]; exact letter_at begin step j))
/-! cuts -/
theorem cutS_to (st : List Nat) (cut : Nat) (h : cut ≤ st.length) : cutS (ofL st) none (some (cut : Int)) = ofL (st.take cut) := by
  unfold cutS
  rw [ofL_codes, ofL_len, HT.sIx_none, HT.sIx_nat, Nat.min_eq_left h]
  rfl
theorem cutS_from (st : List Nat) (cut : Nat) (h : cut ≤ st.length) : cutS (ofL st) (some (cut : Int)) none = ofL (st.drop cut) := by
  unfold cutS
  rw [ofL_codes, ofL_len, HT.sIx_none, HT.sIx_nat, Nat.min_eq_left h, List.take_of_length_le (by rw [List.length_drop]; exact Nat.le_refl _)]
  rfl
theorem join_ones : ∀ l : List Nat, Str.join "" (l.map fun c => (⟨#[c]⟩ : Str)) = ofL l
  | [] => rfl
  | [c] => rfl
  | c :: d :: r => by
    have ih := join_ones (d :: r)
    show (⟨#[c]⟩ : Str) ++ "" ++ Str.join "" ((d :: r).map fun c => (⟨#[c]⟩ : Str)) = ofL (c :: d :: r)
    rw [ih]
    show (ofL [c] ++ ofL []) ++ ofL (d :: r) = ofL (c :: d :: r)
    rw [app_ofL, app_ofL]
    rfl
end Du

set_option Elab.async false
set_option linter.all false
set_option maxRecDepth 100000
namespace Du
open PySem L2
abbrev sWords : Stmt := topS 45
theorem Purse.ne {H : Hp} {p q : Addr} (h : Purse H p) (n : H q = none) : q ≠ p := by
  obtain ⟨_, _, _, e, _⟩ := h
  exact (ne_of_none e n).symm
theorem Step.refl {p : Addr} {H : Hp} (h : Purse H p) : Step p H H := ⟨h, fun _ _ _ e => e⟩
theorem Step.trans {p : Addr} {H H1 H2 : Hp} (a : Step p H H1) (b : Step p H1 H2) : Step p H H2 := ⟨b.purse, fun c o n e => b.keep c o n (a.keep c o n e)⟩
theorem Purse.upd {H : Hp} {p q : Addr} {o : HO} (h : Purse H p) (n : q ≠ p) : Purse (upd H q o) p := by
  obtain ⟨a, d, c, e, r⟩ := h
  exact ⟨a, d, c, by rw [upd_ne n.symm]; exact e, r⟩
theorem Step.put {p q : Addr} {H H1 : Hp} {o : HO} (s : Step p H H1) (n : H q = none) (hq : q ≠ p) : Step p H (upd H1 q o) :=
  ⟨s.purse.upd hq, fun b u nb e => by rw [upd_ne (ne_of_none e n)]; exact s.keep b u nb e⟩
theorem Step.new {p q : Addr} {H : Hp} {o : HO} (h : Purse H p) (n : H q = none) : Step p H (upd H q o) := (Step.refl h).put n (h.ne n)
theorem Step.of_same {p : Addr} {H H' : Hp} (h : Purse H p) (s : Same H H') : Step p H H' := by
  obtain ⟨a, d, c, e, r⟩ := h
  exact ⟨⟨a, d, c, s _ _ e, r⟩, fun b o _ e => s b o e⟩
theorem Step.free {p q : Addr} {H H' : Hp} (s : Step p H H') (n : H' q = none) : H q = none := by
  cases e : H q with
  | none => rfl
  | some o =>
    rw [s.keep q o (s.purse.ne n) e] at n
    cases n
section
variable {P : Program} {w : World} {K : PySem.W.Frag} {mg : Str → Option Value} {base : Heap}
abbrev nWords : List Str := ["_law_purse_here", "_law_many", "_law_own", "_law_spot", "_law_step", "_law_letters", "_law_stem", "_law_cut", "_law_begin", "_law_k"]
theorem scWords : FnScope nWords ["_law_purse_here", "_law_many"] (defScope sWords) := ⟨rfl, rfl, rfl, by decide +kernel, rfl, by decide +kernel, by decide +kernel⟩
def spWords : Sp := fun vs H Q _ => ∃ (p : Addr) (m : Nat), vs = [.ref p, .int (m : Int)] ∧ m ≤ 12 ∧ Purse H p ∧
  ∀ (l : Addr) (ws : List Str) H', Step p H H' → H l = none → H' l = some (.lst (ws.map V.str)) → ws.length = m → ws.Nodup → (∀ z ∈ ws, isNm z = true) → Q (.ref l) H'
theorem at_nat {α : Type} {xs : List α} {z : Int} {j : Nat} {v : α} (e : z = (j : Int)) (h : xs[j]? = some v) : atI xs z = some v := by
  rw [e]
  exact atI_nat h
theorem step_of {r : Int} (h0 : 0 ≤ r) (h1 : r < 4) : ∃ s : Int, Stp s ∧ atI [V.int 1, V.int 5, V.int 7, V.int 11] r = some (V.int s) := by
  have h : r = 0 ∨ r = 1 ∨ r = 2 ∨ r = 3 := by omega
  rcases h with rfl | rfl | rfl | rfl
  · exact ⟨1, .inl rfl, at_of (j := 0) rfl rfl⟩
  · exact ⟨5, .inr (.inl rfl), at_of (j := 1) rfl rfl⟩
  · exact ⟨7, .inr (.inr (.inl rfl)), at_of (j := 2) rfl rfl⟩
  · exact ⟨11, .inr (.inr (.inr rfl)), at_of (j := 3) rfl rfl⟩
theorem range_map_succ {α : Type} (f : Nat → α) (i : Nat) : (List.range (i + 1)).map f = (List.range i).map f ++ [f i] := by
  rw [List.range_succ, List.map_append]
  rfl
theorem stp_small {s : Int} (h : Stp s) : -18446744073709551616 < s ∧ s < 18446744073709551616 := by
  rcases h with rfl | rfl | rfl | rfl <;> decide
set_option maxHeartbeats 1000000 in
theorem ok_words {f : Addr} {fd : FuncData} (F : Fun K "_law_words" "_law_words" sWords f fd) (ml : mg "len" = none) (mr : mg "range" = none) (DT : Dn P w K mg base 3 "_law_take" ["_law_purse_here", "_law_many"] spTake) :
    FnOk P w K mg base CX0 4 f fd ["_law_purse_here", "_law_many"] spWords := by
  refine F.ok scWords (fun vs H Q E h => ?_) (fun cdv A outer s H vs Q E hr h => ?_)
  · obtain ⟨p, m, rfl, _⟩ := h
    rfl
  · obtain ⟨p, m, rfl, hm, hp, q⟩ := h
    refine ⟨_, pss_cons (ps_set (i := 2) scWords.nd rfl (.inr rfl) (pe_lst (pa_cons pe_str (pa_cons pe_str (pa_cons pe_str (pa_cons pe_str (pa_cons pe_str (pa_cons pe_str (pa_cons pe_str (pa_cons pe_str (pa_cons pe_str (pa_cons pe_str (pa_cons pe_str (pa_cons pe_str pa_nil))))))))))))))
      (pss_cons (ps_asg (pe_tup (pa_cons (pcall DT hr (by rfl) (pa_cons (pv 0) (pa_cons pe_int pa_nil))) (pa_cons (pe_ix ix_list (pe_lst (pa_cons pe_int (pa_cons pe_int (pa_cons pe_int (pa_cons pe_int pa_nil))))) (pcall DT hr (by rfl) (pa_cons (pv 0) (pa_cons pe_int pa_nil))) (fun _ _ => rfl)) pa_nil)))
        (pg_tup rfl (pgs_cons (pg_name (i := 3) scWords.nd rfl (.inr rfl)) (pgs_cons (pg_name (i := 4) scWords.nd rfl (.inr rfl)) pgs_nil))))
      (pss_cons (ps_if (pt_cmpR op_eq (pcall DT hr (by rfl) (pa_cons (pv 0) (pa_cons pe_int pa_nil))) pe_int (nomark _))
        (pss_one (ps_ret (pe_lc (own := [("_law_k", 9)]) (g := gName 9) (tt := tYes) rfl scWords.nd (pi_range1 (by rfl) mr (pa_cons (pv 1) pa_nil)) (blkOk_by (N := nWords) (sc := defScope sWords) (by decide +kernel))
          (fun _ _ _ _ _ => pg_name (i := 9) scWords.nd rfl (Or.inl rfl)) (fun _ _ _ _ _ => pts_nil) (fun _ _ _ _ _ => pe_ix (show IxR _ (rIxL K) from ix_list) (pv 2) (pe_op op_mod (pe_op op_add (pv 3) (pe_op op_mul (pv 4) (pv 9))) pe_int) (fun _ _ => rfl))))) pss_nil)
      (pss_cons (ps_set (i := 5) scWords.nd rfl (.inr rfl) pe_str)
      (pss_cons (ps_set (i := 6) scWords.nd rfl (.inr rfl) (pe_join pe_str (pe_lc (own := [("_law_k", 9)]) (g := gName 9) (tt := tYes) rfl scWords.nd (pi_range1 (by rfl) mr (pa_cons (pcall DT hr (by rfl) (pa_cons (pv 0) (pa_cons pe_int pa_nil))) pa_nil))
          (blkOk_by (N := nWords) (sc := defScope sWords) (by decide +kernel)) (fun _ _ _ _ _ => pg_name (i := 9) scWords.nd rfl (Or.inl rfl)) (fun _ _ _ _ _ => pts_nil)
          (fun _ _ _ _ _ => pe_ix ix_str (pv 5) (pcall DT hr (by rfl) (pa_cons (pv 0) (pa_cons pe_int pa_nil))) (fun _ _ => rfl)))))
      (pss_cons (ps_asg (pe_tup (pa_cons (pcall DT hr (by rfl) (pa_cons (pv 0) (pa_cons (pe_op op_add (pe_callB call_len_str (by rfl) ml (by decide +kernel) (pa_cons (pv 6) pa_nil)) pe_int) pa_nil))) (pa_cons (pcall DT hr (by rfl) (pa_cons (pv 0) (pa_cons pe_int pa_nil))) pa_nil)))
        (pg_tup rfl (pgs_cons (pg_name (i := 7) scWords.nd rfl (.inr rfl)) (pgs_cons (pg_name (i := 8) scWords.nd rfl (.inr rfl)) pgs_nil))))
      (pss_one (ps_ret (pe_lc (own := [("_law_k", 9)]) (g := gName 9) (tt := tYes) rfl scWords.nd (pi_range1 (by rfl) mr (pa_cons (pv 1) pa_nil)) (blkOk_by (N := nWords) (sc := defScope sWords) (by decide +kernel))
          (fun _ _ _ _ _ => pg_name (i := 9) scWords.nd rfl (Or.inl rfl)) (fun _ _ _ _ _ => pts_nil)
          (fun _ _ _ _ _ => pe_op op_add_str (pe_op op_add_str (pe_slice sl_str (pv 6) po_none (po_some (pv 7))) (pe_ix ix_str (pv 5) (pe_op op_mod (pe_op op_add (pv 8) (pe_op op_mul (pv 4) (pv 9))) pe_int) (fun _ _ => rfl))) (pe_slice sl_str (pv 6) (po_some (pv 7)) po_none)))))))))), ?_⟩
    -- the words of rows
    refine ⟨(by show 12 ≤ sizeLine; decide), fun o no => ?_⟩
    have so : Step p H (upd H o (.lst (ownW.map V.str))) := .new hp no
    -- spot, step
    refine ⟨_, rfl, p, 12, rfl, by decide, by decide, so.purse, fun spot H1 _ _ s1 => ?_⟩
    refine ⟨(by show 4 ≤ sizeLine; decide), fun l nl => ?_⟩
    have s2 := (so.trans s1).trans (Step.new (o := .lst [.int 1, .int 5, .int 7, .int 11]) s1.purse nl)
    refine ⟨_, rfl, p, 4, rfl, by decide, by decide, s2.purse, fun r H2 h0 h1 s3 => ?_⟩
    obtain ⟨step, hst, hat⟩ := step_of h0 h1
    have el : H2 l = some (.lst [.int 1, .int 5, .int 7, .int 11]) := s3.keep l _ (s1.purse.ne nl) upd_same
    refine ⟨l, _, _, _, rfl, rfl, SqL.of el, hat, ?_⟩
    refine ⟨(by show 2 ≤ sizeLine; decide), fun t nt => ?_⟩
    have s4 := (s2.trans s3).trans (Step.new (o := .tup [.int spot, .int step]) s3.purse nt)
    refine ⟨t, _, rfl, SqT.of upd_same, rfl, _, _, rfl, _, _, rfl, rfl, ?_⟩
    -- the way
    refine ⟨_, rfl, p, 4, rfl, by decide, by decide, s4.purse, fun r2 H3 _ _ s5 => ?_⟩
    have s6 := s4.trans s5
    have npo : o ≠ p := hp.ne no
    have eo : H3 o = some (.lst (ownW.map V.str)) := by
      refine s5.keep o _ npo ?_
      have e1 := s1.keep o _ npo (upd_same (H := H) (a := o) (o := .lst (ownW.map V.str)))
      rw [upd_ne (ne_of_none (s3.keep o _ npo (by rw [upd_ne (ne_of_none e1 nl)]; exact e1)) nt)]
      exact s3.keep o _ npo (by rw [upd_ne (ne_of_none e1 nl)]; exact e1)
    have hm62 : ((m : Nat) : Int).toNat = m := by omega
    refine ⟨rfl, _, rfl, ite2 (fun _ => ?_) (fun _ => ?_)⟩
    · refine ⟨_, rfl, (m : Int), rfl, by omega, by omega, fun D nD => ?_⟩
      rw [hm62]
      refine lc_range (lo := 0) (n := m) (fun i H' => Step p H3 H' ∧ H' D = some (.lst (((List.range i).map (w1 spot step)).map V.str))) ⟨.new s5.purse nD, upd_same⟩ ?_ ?_
      · rintro i H' hi ⟨s7, e7⟩
        have eo' := s7.keep o _ npo eo
        have hix := ix_lt (n := 12) (spot := spot) (step := step) (k := i) (by decide)
        refine ⟨rfl, _, rfl, _, rfl, _, rfl, _, rfl, _, _, rfl, rfl, .inl (stp_small hst), _, _, rfl, rfl, _, _, rfl, rfl, (by show (0 : Int) < 12; decide), o, _, _, V.str (w1 spot step i), rfl, rfl, SqL.of eo', at_of (j := ix 12 spot step i) (by rw [Int.zero_add]; exact hix.2.symm) (by rw [List.getElem?_map, w1_at]; rfl), _, e7, ?_, s7.put nD (s5.purse.ne nD), ?_⟩
        · rw [List.length_map, List.length_map, List.length_range]
          exact Nat.lt_of_le_of_lt (show i ≤ 12 by omega) (by decide)
        · rw [upd_same, range_map_succ, List.map_append]
          rfl
      · rintro H' ⟨s7, e7⟩
        refine q D _ H' (s6.trans s7) (s6.free nD) e7 (by rw [List.length_map, List.length_range]) (w1_nodup hst hm) fun z hz => ?_
        obtain ⟨k, _, rfl⟩ := List.mem_map.mp hz
        exact w1_nm spot step k
    · -- the stem
      refine ⟨⟨_, rfl⟩, _, rfl, p, 8, rfl, by decide, by decide, s5.purse, fun r3 H4 g0 g1 s7 => ?_⟩
      refine ⟨r3, rfl, by omega, by omega, fun D nD => ?_⟩
      refine lc_range (lo := 0) (n := r3.toNat) (fun i H' => Step p H4 H' ∧ ∃ cs : List Nat, cs.length = i ∧ allL cs ∧ H' D = some (.lst (cs.map fun c => V.str ⟨#[c]⟩))) ⟨.new s7.purse nD, [], rfl, (fun c h => absurd h (by simp)), upd_same⟩ ?_ ?_
      · rintro i H' hi ⟨s8, cs, hc, ha, e8⟩
        refine ⟨rfl, _, rfl, _, rfl, p, 26, rfl, by decide, by decide, s8.purse, fun r4 H5 k0 k1 s9 => ?_⟩
        have hk : r4.toNat < letters.cps.toList.length := by
          rw [letters_len]
          omega
        have hat2 := List.getElem?_eq_getElem hk
        have npD := s7.purse.ne nD
        refine ⟨letters, r4, _, rfl, rfl, by decide +kernel, at_nat (j := r4.toNat) (by omega) hat2, _, s9.keep D _ npD e8, ?_, (s8.trans s9).put nD npD, cs ++ [letters.cps.toList[r4.toNat]], ?_, ?_, ?_⟩
        · rw [List.length_map, hc]
          exact Nat.lt_of_le_of_lt (show i ≤ 8 by omega) (by decide)
        · rw [List.length_append, hc]
          rfl
        · intro c hcc
          rcases List.mem_append.mp hcc with z | z
          · exact ha c z
          · rw [List.mem_singleton.mp z]
            exact letter_is hat2
        · rw [upd_same, List.map_append]
          rfl
      · rintro H' ⟨s8, cs, hc, ha, e8⟩
        have s9 := (s6.trans s7).trans s8
        have hcs : cs.length ≤ 7 := by omega
        refine ⟨_, D, cs.map (fun c => (⟨#[c]⟩ : Str)), rfl, rfl, .inl (SqL.of (by rw [e8, List.map_map]; rfl)), ?_, ?_⟩
        · have hsum : ∀ l : List Nat, ((l.map fun c => (⟨#[c]⟩ : Str)).map (·.length)).sum = l.length := by
            intro l
            induction l with
            | nil => rfl
            | cons c r ih =>
              rw [List.map_cons, List.map_cons, List.sum_cons, ih, List.length_cons]
              show 1 + r.length = r.length + 1
              omega
          rw [hsum, List.length_map]
          show cs.length + cs.length * 0 ≤ 16777216
          omega
        · have ej : Txt.join "" (cs.map (fun c => (⟨#[c]⟩ : Str))) = ofL cs := (TL.join_eq _ _).trans (join_ones cs)
          rw [ej]
          -- cut, begin
          refine ⟨_, rfl, _, rfl, _, rfl, by rw [ofL_len]; exact Nat.le_trans hcs (by decide), _, _, rfl, rfl, p, _, rfl, ?_, ?_, s9.purse, fun cut H5 c0 c1 t1 => ?_⟩
          · omega
          · rw [ofL_len]
            omega
          rw [ofL_len] at c1
          refine ⟨_, rfl, p, 26, rfl, by decide, by decide, t1.purse, fun begin H6 b0 b1 t2 => ?_⟩
          refine ⟨(by show 2 ≤ sizeLine; decide), fun t2' nt2 => ?_⟩
          have t3 := ((s9.trans t1).trans t2).trans (Step.new (o := .tup [.int cut, .int begin]) t2.purse nt2)
          refine ⟨t2', _, rfl, SqT.of upd_same, rfl, _, _, rfl, _, _, rfl, rfl, ?_⟩
          refine ⟨_, rfl, (m : Int), rfl, by omega, by omega, fun D2 nD2 => ?_⟩
          rw [hm62]
          obtain ⟨cu, rfl⟩ : ∃ cu : Nat, cut = (cu : Int) := ⟨cut.toNat, by omega⟩
          have hcu : cu ≤ cs.length := by omega
          refine lc_range (lo := 0) (n := m) (fun i H' => Step p _ H' ∧ H' D2 = some (.lst (((List.range i).map (w2 cs cu begin step)).map V.str))) ⟨.new t3.purse nD2, upd_same⟩ ?_ ?_
          · rintro i H' hi ⟨u1, e7⟩
            have hix := ix_lt (n := 26) (spot := begin) (step := step) (k := i) (by decide)
            have hz : (ofL cs).length ≤ sizeLine := by rw [ofL_len]; exact Nat.le_trans hcs (by decide)
            refine ⟨rfl, _, rfl, _, rfl, (cu : Int), rfl, ofL cs, rfl, hz, _, rfl, _, rfl, _, rfl, _, rfl, _, _, rfl, rfl, .inl (stp_small hst), _, _, rfl, rfl, _, _, rfl, rfl, (by show (0 : Int) < 26; decide), letters, _, letterAt begin step i, rfl, rfl, by decide +kernel,
              at_nat (j := ix 26 begin step i) (by rw [Int.zero_add]; exact hix.2.symm) (letter_at begin step i), _, _, rfl, rfl, ?_, _, rfl, _, rfl, (cu : Int), rfl, ofL cs, rfl, hz, _, _, rfl, rfl, ?_, _, e7, ?_, u1.put nD2 (t3.purse.ne nD2), ?_⟩
            · rw [cutS_to cs cu hcu, ofL_len, List.length_take]
              show min cu cs.length + 1 ≤ sizeLine
              exact Nat.le_trans (show _ ≤ 8 by omega) (by decide)
            · rw [cutS_to cs cu hcu, cutS_from cs cu hcu, show (⟨#[letterAt begin step i]⟩ : Str) = ofL [letterAt begin step i] from rfl, app_ofL, ofL_len, ofL_len, List.length_append, List.length_take, List.length_drop]
              show min cu cs.length + 1 + (cs.length - cu) ≤ sizeLine
              exact Nat.le_trans (show _ ≤ 16 by omega) (by decide)
            · rw [List.length_map, List.length_map, List.length_range]
              exact Nat.lt_of_le_of_lt (show i ≤ 12 by omega) (by decide)
            · rw [upd_same, range_map_succ, List.map_append, cutS_to cs cu hcu, cutS_from cs cu hcu, show (⟨#[letterAt begin step i]⟩ : Str) = ofL [letterAt begin step i] from rfl, app_ofL, app_ofL]
              rfl
          · rintro H' ⟨u1, e7⟩
            refine q D2 _ H' (t3.trans u1) (t3.free nD2) e7 (by rw [List.length_map, List.length_range]) (w2_nodup hst hm) fun z hz => ?_
            obtain ⟨k, _, rfl⟩ := List.mem_map.mp hz
            exact w2_nm ha hcs
end
end Du

set_option Elab.async false
set_option linter.all false
set_option maxRecDepth 100000
namespace Du
open PySem L2
open PySem.Spec (ltCps)
theorem lt_tri : ∀ a b : List Nat, ltCps a b = false → a ≠ b → ltCps b a = true
  | [], [], _, h => absurd rfl h
  | [], _ :: _, h, _ => by simp [ltCps] at h
  | _ :: _, [], _, _ => rfl
  | a :: r, b :: t, h, hn => by
    simp only [ltCps, Bool.or_eq_false_iff, decide_eq_false_iff_not, Bool.and_eq_false_iff] at h
    simp only [ltCps, Bool.or_eq_true, decide_eq_true_eq, Bool.and_eq_true]
    by_cases e : a = b
    · subst e
      rcases h.2 with z | z
      · simp at z
      · exact .inr ⟨by simp, lt_tri r t z fun q => hn (by rw [q])⟩
    · exact .inl (by omega)
theorem lt_tra : ∀ a b c : List Nat, ltCps a b = true → ltCps b c = true → ltCps a c = true
  | [], [], _, h, _ => by simp [ltCps] at h
  | [], _ :: _, [], _, h => by simp [ltCps] at h
  | [], _ :: _, _ :: _, _, _ => rfl
  | _ :: _, [], _, h, _ => by simp [ltCps] at h
  | _ :: _, _ :: _, [], _, h => by simp [ltCps] at h
  | a :: r, b :: t, c :: u, h1, h2 => by
    simp only [ltCps, Bool.or_eq_true, decide_eq_true_eq, Bool.and_eq_true, beq_iff_eq] at h1 h2 ⊢
    rcases h1 with h1 | ⟨rfl, h1⟩ <;> rcases h2 with h2 | ⟨rfl, h2⟩
    · exact .inl (by omega)
    · exact .inl h1
    · exact .inl h2
    · exact .inr ⟨rfl, lt_tra r t u h1 h2⟩
theorem cps_inj {a b : Str} (h : a.cps.toList = b.cps.toList) : a = b := by
  rw [str_ofL a, str_ofL b, h]
theorem rising_pw : ∀ (p : Str) (r : List Str), PyProof.Rows.risingS p r = true → (p :: r).Nodup → (p :: r).Pairwise fun a b => ltCps a.cps.toList b.cps.toList = true
  | p, [], _, _ => by simp
  | p, x :: r, h, hn => by
    simp only [PyProof.Rows.risingS, Bool.and_eq_true, Bool.not_eq_true'] at h
    have hn' := List.nodup_cons.mp hn
    have ih := rising_pw x r h.2 hn'.2
    have hpx : ltCps p.cps.toList x.cps.toList = true := lt_tri _ _ h.1 fun e => hn'.1 (by rw [cps_inj e.symm]; exact List.mem_cons_self)
    refine List.pairwise_cons.mpr ⟨fun y hy => ?_, ih⟩
    rcases List.mem_cons.mp hy with rfl | hy
    · exact hpx
    · exact lt_tra _ _ _ hpx ((List.pairwise_cons.mp ih).1 y hy)
theorem sorted_pw {ys : List Str} (h : PyProof.Rows.sortedS ys = true) (hn : ys.Nodup) : ys.Pairwise fun a b => ltCps a.cps.toList b.cps.toList = true := by
  cases ys with
  | nil => simp
  | cons p r => exact rising_pw p r h hn
theorem pw_take {ys : List Str} (h : ys.Pairwise fun a b => ltCps a.cps.toList b.cps.toList = true) {i : Nat} {x y : Str} (hx : x ∈ ys.take i) (hy : ys[i]? = some y) : ltCps x.cps.toList y.cps.toList = true := by
  obtain ⟨j, hj⟩ := List.getElem?_of_mem hx
  obtain ⟨hl, e⟩ := List.getElem?_eq_some_iff.mp hj
  rw [List.getElem_take] at e
  rw [List.length_take] at hl
  obtain ⟨hi, e2⟩ := List.getElem?_eq_some_iff.mp hy
  rw [← e, ← e2]
  exact List.pairwise_iff_getElem.mp h j i (by omega) hi (by omega)
theorem ahead_lt {h g : Hold} (hn : ltCps h.1.cps.toList g.1.cps.toList = true) : ahead h g = true := by
  unfold ahead
  have ne : ¬ h.1 = g.1 := fun e => by
    rw [e] at hn
    rw [PyProof.Rows.ltCps_eq] at hn
    exact absurd (of_decide_eq_true hn) (by simp)
  rw [if_neg ne, ← PyProof.Rows.ltCps_eq]
  exact hn
theorem ahead_same {h g : Hold} (e : h.1 = g.1) (hl : h.2.1 + h.2.2 ≤ g.2.1) : ahead h g = true := by
  unfold ahead
  rw [if_pos e]
  exact decide_eq_true hl
def chain (hs : List Hold) : Bool := (hs.zip (hs.drop 1)).all fun p => ahead p.1 p.2
theorem chain_add : ∀ (hs : List Hold) (h : Hold), chain hs = true → (∀ g, hs.getLast? = some g → ahead g h = true) → chain (hs ++ [h]) = true
  | [], h, _, _ => rfl
  | [g], h, _, q => by
    show (ahead g h && true) = true
    rw [q g rfl]
    rfl
  | g :: k :: r, h, c, q => by
    have c' : (ahead g k && chain (k :: r)) = true := c
    rw [Bool.and_eq_true] at c'
    show (ahead g k && chain ((k :: r) ++ [h])) = true
    rw [c'.1, chain_add (k :: r) h c'.2 fun g hg => q g (by rw [List.getLast?_cons_cons]; exact hg)]
    rfl
/-- holds that are good, in the making -/
structure Good (hs : List Hold) (c : Int) : Prop where
  len : hs.length ≤ 4
  all : ∀ h ∈ hs, isHd h c = true
  ch : chain hs = true
theorem Good.ok {hs : List Hold} {c : Int} (g : Good hs c) : areHds hs c = true := by
  unfold areHds
  rw [decide_eq_true g.len]
  have e : (hs.all fun h => isHd h c) = true := List.all_eq_true.mpr g.all
  rw [e]
  exact g.ch
theorem Good.nm {hs : List Hold} {c : Int} (g : Good hs c) : ∀ h ∈ hs, isNm h.1 = true := fun h hh => by
  have z := g.all h hh
  unfold isHd at z
  exact (Bool.and_eq_true_iff.mp z).1
theorem Good.nil (c : Int) : Good [] c := ⟨by simp, by simp, rfl⟩
theorem Good.add {hs : List Hold} {c : Int} {h : Hold} (g : Good hs c) (hl : hs.length < 4) (hh : isHd h c = true) (q : ∀ g, hs.getLast? = some g → ahead g h = true) : Good (hs ++ [h]) c :=
  ⟨by rw [List.length_append]; show hs.length + 1 ≤ 4; omega, fun k hk => by
    rcases List.mem_append.mp hk with z | z
    · exact g.all k z
    · rw [List.mem_singleton.mp z]
      exact hh, chain_add hs h g.ch q⟩
theorem hd_of {z : Str} {s l c : Int} (hz : isNm z = true) (h0 : 0 ≤ s) (h1 : 1 ≤ l) (h2 : s + l ≤ c) : isHd (z, s, l) c = true := by
  unfold isHd
  rw [hz]
  simp
  omega
/-! under a step of the purse -/
theorem sqT_step {K : PySem.W.Frag} {p a : Addr} {H H' : Hp} {xs : List V} (hp : Purse H p) (s : Step p H H') (h : SqT K H a xs) : SqT K H' a xs := by
  obtain ⟨x, d, c, e, _⟩ := hp
  rcases h with (h | ⟨o, h⟩) | h
  · exact .inl (.inl (s.keep a _ (ne_of h e (by intro z; cases z)) h))
  · exact .inl (.inr ⟨o, s.keep a _ (ne_of h e (by intro z; cases z)) h⟩)
  · exact .inr h
theorem HdAt.step {K : PySem.W.Frag} {p : Addr} {H H' : Hp} {v : V} {h : Hold} (d : HdAt K H v h) (hp : Purse H p) (s : Step p H H') : HdAt K H' v h := by
  obtain ⟨a, e, q⟩ := d
  exact ⟨a, e, sqT_step hp s q⟩
theorem HdsAt.step {K : PySem.W.Frag} {p t : Addr} {H H' : Hp} {hs : List Hold} (d : HdsAt K H t hs) (hp : Purse H p) (s : Step p H H') : HdsAt K H' t hs := by
  obtain ⟨vs, h1, h2, h3⟩ := d
  exact ⟨vs, sqT_step hp s h1, h2, fun i v h e1 e2 => (h3 i v h e1 e2).step hp s⟩
end Du

set_option Elab.async false
set_option linter.all false
set_option maxRecDepth 100000
namespace Du
open PySem L2
abbrev sHoldsL : Stmt := topS 46
/-- found so far -/
structure Fnd (K : PySem.W.Frag) (p F S : Addr) (ys : List Str) (H H1 : Hp) (hs : List Hold) (vs : List V) : Prop where
  st : Step p H H1
  eS : H1 S = some (.lst (ys.map V.str))
  eF : H1 F = some (.lst vs)
  ln : vs.length = hs.length
  at_ : ∀ (i : Nat) v h, vs[i]? = some v → hs[i]? = some h → HdAt K H1 v h
theorem Fnd.step {K : PySem.W.Frag} {p F S : Addr} {ys : List Str} {H H1 H2 : Hp} {hs : List Hold} {vs : List V} (f : Fnd K p F S ys H H1 hs vs) (hF : F ≠ p) (hS : S ≠ p) (s : Step p H1 H2) : Fnd K p F S ys H H2 hs vs :=
  ⟨f.st.trans s, s.keep _ _ hS f.eS, s.keep _ _ hF f.eF, f.ln, fun i v h e1 e2 => (f.at_ i v h e1 e2).step f.st.purse s⟩
theorem Fnd.add {K : PySem.W.Frag} {p F S T : Addr} {ys : List Str} {H H1 : Hp} {hs : List Hold} {vs : List V} (f : Fnd K p F S ys H H1 hs vs) (hF : F ≠ p) (hSF : S ≠ F) (nF : H F = none) (h : Hold) (nT : H1 T = none) :
    Fnd K p F S ys H (upd (upd H1 T (.tup [.str h.1, .int h.2.1, .int h.2.2])) F (.lst (vs ++ [.ref T]))) (hs ++ [h]) (vs ++ [.ref T]) := by
  have nTF : F ≠ T := ne_of_none f.eF nT
  have nTS : S ≠ T := ne_of_none f.eS nT
  have nTp : T ≠ p := f.st.purse.ne nT
  have kT : ∀ a xs, SqT K H1 a xs → SqT K (upd (upd H1 T (.tup [.str h.1, .int h.2.1, .int h.2.2])) F (.lst (vs ++ [.ref T]))) a xs := fun a xs z => by
    rcases z with (z | ⟨o, z⟩) | z
    · exact .inl (.inl (by rw [upd_ne (ne_of z f.eF (by intro y; cases y)), upd_ne (ne_of_none z nT)]; exact z))
    · exact .inl (.inr ⟨o, by rw [upd_ne (ne_of z f.eF (by intro y; cases y)), upd_ne (ne_of_none z nT)]; exact z⟩)
    · exact .inr z
  refine ⟨(f.st.put (f.st.free nT) nTp).put nF hF, by rw [upd_ne hSF, upd_ne nTS]; exact f.eS, upd_same, by rw [List.length_append, List.length_append, f.ln]; rfl, fun i v g e1 e2 => ?_⟩
  by_cases hi : i < vs.length
  · rw [List.getElem?_append_left hi] at e1
    rw [List.getElem?_append_left (by rw [← f.ln]; exact hi)] at e2
    obtain ⟨a, ea, z⟩ := f.at_ i v g e1 e2
    exact ⟨a, ea, kT a _ z⟩
  · have hi' : vs.length ≤ i := Nat.le_of_not_lt hi
    rw [List.getElem?_append_right hi'] at e1
    rw [List.getElem?_append_right (by rw [← f.ln]; exact hi'), ← f.ln] at e2
    cases hk : i - vs.length with
    | zero =>
      rw [hk] at e1 e2
      cases e1
      cases e2
      exact ⟨T, rfl, SqT.of (by rw [upd_ne nTF.symm, upd_same])⟩
    | succ k =>
      rw [hk] at e1
      simp at e1
section
variable {P : Program} {w : World} {K : PySem.W.Frag} {mg : Str → Option Value} {base : Heap}
abbrev nHoldsL : List Str := ["_law_purse_here", "_law_cost", "_law_tools", "_law_found", "_law_tool", "_law_begin", "_law_size", "_law_rest"]
theorem scHoldsL : FnScope nHoldsL ["_law_purse_here", "_law_cost", "_law_tools"] (defScope sHoldsL) := ⟨rfl, rfl, rfl, by decide +kernel, rfl, by decide +kernel, by decide +kernel⟩
def spHoldsL (K : PySem.W.Frag) : Sp := fun vs H Q _ => ∃ (p l : Addr) (c : Int) (ws : List Str), vs = [.ref p, .int c, .ref l] ∧ 1 ≤ c ∧ c ≤ 99 ∧ Purse H p ∧ SqL K H l (ws.map V.str) ∧ ws.length < 64 ∧ ws.Nodup ∧ (∀ z ∈ ws, isNm z = true) ∧
  ∀ (t : Addr) (hs : List Hold) H', Step p H H' → HdsAt K H' t hs → Good hs c → (∀ g ∈ hs, g.1 ∈ ws) → Q (.ref t) H'
set_option maxHeartbeats 1000000 in
theorem ok_holdsL {f : Addr} {fd : FuncData} (F : Fun K "_law_holds" "_law_holds" sHoldsL f fd) (ml : mg "len" = none) (ms : mg "sorted" = none) (mt : mg "tuple" = none) (DT : Dn P w K mg base 3 "_law_take" ["_law_purse_here", "_law_many"] spTake) :
    FnOk P w K mg base CX0 4 f fd ["_law_purse_here", "_law_cost", "_law_tools"] (spHoldsL K) := by
  refine F.ok scHoldsL (fun vs H Q E h => ?_) (fun cdv A outer s H vs Q E hr h => ?_)
  · obtain ⟨p, l, c, ws, rfl, _⟩ := h
    rfl
  · obtain ⟨p, l, c, ws, rfl, hc1, hc99, hp, hL, hwl, hnd, hnm, q⟩ := h
    refine ⟨_, pss_cons (ps_set (i := 3) scHoldsL.nd rfl (.inl rfl) (pe_lst pa_nil))
      (pss_cons (ps_for PassesOwn.never rfl (pi_list (pe_callB cr_sortedS (by rfl) ms (by decide +kernel) (pa_cons (pv 2) pa_nil))) (pg_name (i := 4) scHoldsL.nd rfl (.inl rfl))
        (pss_one (ps_if (PW.pt (pw_and (pt_cmpR op_lt (pe_callB call_len_seq (by rfl) ml (by decide +kernel) (pa_cons (pv 3) pa_nil)) pe_int (nomark _)) (pw_and1 (pt_cmpR op_gt (pcall DT hr (by rfl) (pa_cons (pv 0) (pa_cons pe_int pa_nil))) pe_int (nomark _)))))
          (pss_cons (ps_set (i := 5) scHoldsL.nd rfl (.inl rfl) (pcall DT hr (by rfl) (pa_cons (pv 0) (pa_cons (pv 1) pa_nil))))
          (pss_cons (ps_set (i := 6) scHoldsL.nd rfl (.inl rfl) (pe_op op_add pe_int (pcall DT hr (by rfl) (pa_cons (pv 0) (pa_cons (pe_op op_sub (pv 1) (pv 5)) pa_nil)))))
          (pss_cons (ps_expr (pe_bm PySem.F.plainAttrs_list PySem.F.slot_list_append PySem.F.type_list_append mt_append (pv 3) (pa_cons (pe_tup (pa_cons (pv 4) (pa_cons (pv 5) (pa_cons (pv 6) pa_nil)))) pa_nil)))
          (pss_cons (ps_set (i := 7) scHoldsL.nd rfl (.inl rfl) (pe_op op_add (pv 5) (pv 6)))
          (pss_one (ps_if (PW.pt (pw_and (pt_cmpR op_lt (pe_callB call_len_seq (by rfl) ml (by decide +kernel) (pa_cons (pv 3) pa_nil)) pe_int (nomark _)) (pw_and (pt_cmpR op_lt (pv 7) (pv 1) (nomark _)) (pw_and1 (pt_cmpR op_eq (pcall DT hr (by rfl) (pa_cons (pv 0) (pa_cons pe_int pa_nil))) pe_int (nomark _))))))
            (pss_cons (ps_set (i := 5) scHoldsL.nd rfl (.inl rfl) (pe_op op_add (pv 7) (pe_ix ix_list (pe_lst (pa_cons pe_int (pa_cons (pcall DT hr (by rfl) (pa_cons (pv 0) (pa_cons (pe_op op_sub (pv 1) (pv 7)) pa_nil))) pa_nil))) (pcall DT hr (by rfl) (pa_cons (pv 0) (pa_cons pe_int pa_nil))) (fun _ _ => rfl))))
            (pss_one (ps_expr (pe_bm PySem.F.plainAttrs_list PySem.F.slot_list_append PySem.F.type_list_append mt_append (pv 3) (pa_cons (pe_tup (pa_cons (pv 4) (pa_cons (pv 5) (pa_cons (pe_op op_add pe_int (pcall DT hr (by rfl) (pa_cons (pv 0) (pa_cons (pe_op op_sub (pv 1) (pv 5)) pa_nil)))) pa_nil)))) pa_nil)))))
            pss_nil)))))) pss_nil)))
      (pss_one (ps_ret (pe_callTy call_tuple_of (by rfl) mt (by decide +kernel) (pa_cons (pv 3) pa_nil))))), ?_⟩
    refine ⟨Nat.zero_le _, fun F0 nF => ?_⟩
    have hF : F0 ≠ p := hp.ne nF
    have s0 : Same H (upd H F0 (.lst [])) := same_upd nF
    refine ⟨_, rfl, l, ws, rfl, hL.ext s0, hwl, fun ys S hperm hsort nS => ?_⟩
    have nS' : H S = none := s0.free nS
    have hSF : S ≠ F0 := fun e => by rw [e, upd_same] at nS; cases nS
    have hS : S ≠ p := hp.ne nS'
    have hys : ∀ z ∈ ys, z ∈ ws := fun z hz => hperm.mem_iff.mp hz
    have pw := sorted_pw hsort (hperm.nodup_iff.mpr hnd)
    refine ⟨S, rfl, ⟨_, SqL.of upd_same⟩, for_list (K := K) (a := S) (xs := ys.map V.str) (fun i σ H1 => ∃ (hs : List Hold) (vs : List V) (v4 v5 v6 v7 : Option V), σ = [some (.ref p), some (.int c), some (.ref l), some (.ref F0), v4, v5, v6, v7] ∧ Fnd K p F0 S ys H H1 hs vs ∧ Good hs c ∧ ∀ g ∈ hs, g.1 ∈ ys.take i)
      ⟨[], [], none, none, none, none, rfl, ⟨(Step.new hp nF).put nS' hS, upd_same, by rw [upd_ne hSF.symm, upd_same], rfl, fun i v h e _ => by simp at e⟩, Good.nil c, by simp⟩ (fun i σ H1 _ z => ?_) ?_ ?_⟩
    · obtain ⟨_, _, _, _, _, _, _, f, _⟩ := z
      exact SqL.of f.eS
    · rintro i x σ H1 hi ⟨hs, vs, v4, v5, v6, v7, rfl, fd0, gd, hin⟩
      obtain ⟨tool, hty, rfl⟩ : ∃ z, ys[i]? = some z ∧ x = V.str z := by
        rw [List.getElem?_map] at hi
        cases e : ys[i]? with
        | none => rw [e] at hi; cases hi
        | some z => rw [e] at hi; exact ⟨z, rfl, (Option.some.inj hi).symm⟩
      have htn : isNm tool = true := hnm _ (hys _ (List.mem_of_getElem? hty))
      have hmono : ∀ g ∈ hs, g.1 ∈ ys.take (i + 1) := fun g hg => by
        rw [List.take_add_one]
        exact List.mem_append_left _ (hin g hg)
      have hself : tool ∈ ys.take (i + 1) := by
        rw [List.take_add_one, hty]
        exact List.mem_append_right _ (by simp)
      refine ⟨_, rfl, F0, _, rfl, .inl (SqL.of fd0.eF), _, _, rfl, rfl, _, rfl, ?_⟩
      by_cases h4 : vs.length < 4
      · have e1 : decide (((vs.length : Nat) : Int) < 4) = true := decide_eq_true (by omega)
        rw [e1]
        refine ⟨_, rfl, p, 3, rfl, by decide, by decide, fd0.st.purse, fun r1 H2 _ _ s1 => ⟨_, _, rfl, rfl, _, rfl, ?_⟩⟩
        have fd1 := fd0.step hF hS s1
        refine ite2 (fun _ => ?_) (fun _ => ⟨hs, vs, _, _, _, _, rfl, fd1, gd, hmono⟩)
        -- begin, size
        refine ⟨_, rfl, _, rfl, p, c, rfl, by omega, by omega, fd1.st.purse, fun b H3 b0 b1 s2 => ?_⟩
        have fd2 := fd1.step hF hS s2
        refine ⟨_, rfl, _, rfl, _, rfl, _, _, rfl, rfl, p, _, rfl, by omega, by omega, fd2.st.purse, fun z H4 z0 z1 s3 => ⟨_, _, rfl, rfl, ?_⟩⟩
        have fd3 := fd2.step hF hS s3
        refine ⟨_, rfl, .inl ⟨rfl, _, SqL.of fd3.eF⟩, _, rfl, _, rfl, _, rfl, (by show 3 ≤ sizeLine; decide), fun T nT => ?_⟩
        have eFT : (upd H4 T (.tup [.str tool, .int b, .int (1 + z)])) F0 = some (.lst vs) := by
          rw [upd_ne (ne_of_none fd3.eF nT)]
          exact fd3.eF
        refine ⟨F0, _, _, rfl, rfl, eFT, Nat.lt_of_lt_of_le h4 (by decide), ?_⟩
        have fd4 := fd3.add hF hSF nF (tool, b, 1 + z) nT
        have gd4 : Good (hs ++ [(tool, b, 1 + z)]) c := gd.add (by rw [← fd0.ln]; exact h4) (hd_of htn b0 (by omega) (by omega)) fun g hg => ahead_lt (pw_take pw (hin g (List.mem_of_getLast? hg)) hty)
        have hin4 : ∀ g ∈ hs ++ [(tool, b, 1 + z)], g.1 ∈ ys.take (i + 1) := fun g hg => by
          rcases List.mem_append.mp hg with y | y
          · exact hmono g y
          · rw [List.mem_singleton.mp y]
            exact hself
        refine ⟨_, rfl, _, rfl, _, _, rfl, rfl, ?_⟩
        refine ⟨_, rfl, F0, _, rfl, .inl (SqL.of fd4.eF), _, _, rfl, rfl, _, rfl, ?_⟩
        by_cases h5 : (vs ++ [V.ref T]).length < 4
        · have e2 : decide ((((vs ++ [V.ref T]).length : Nat) : Int) < 4) = true := decide_eq_true (by omega)
          rw [e2]
          refine ⟨_, rfl, _, rfl, _, _, rfl, rfl, _, rfl, ?_⟩
          by_cases h6 : b + (1 + z) < c
          · rw [decide_eq_true h6]
            refine ⟨_, rfl, p, 3, rfl, by decide, by decide, fd4.st.purse, fun r2 H5 _ _ s5 => ⟨rfl, _, rfl, ?_⟩⟩
            have fd5 := fd4.step hF hS s5
            refine ite2 (fun _ => ?_) (fun _ => ⟨_, _, _, _, _, _, rfl, fd5, gd4, hin4⟩)
            -- the second hold
            refine ⟨_, rfl, _, rfl, _, rfl, _, rfl, _, _, rfl, rfl, p, _, rfl, by omega, by omega, fd5.st.purse, fun d H6 d0 d1 s6 => ?_⟩
            have fd6 := fd5.step hF hS s6
            refine ⟨(by show 2 ≤ sizeLine; decide), fun L nL => ?_⟩
            have s7 : Step p H6 (upd H6 L (.lst [.int 0, .int d])) := .new fd6.st.purse nL
            have fd7 := fd6.step hF hS s7
            refine ⟨_, rfl, p, 2, rfl, by decide, by decide, fd7.st.purse, fun r3 H8 t0 t1 s8 => ?_⟩
            have fd8 := fd7.step hF hS s8
            have eL : H8 L = some (.lst [.int 0, .int d]) := s8.keep L _ (fd6.st.purse.ne nL) upd_same
            obtain ⟨e, he, he0, he1⟩ : ∃ e : Int, atI [V.int 0, V.int d] r3 = some (V.int e) ∧ 0 ≤ e ∧ b + (1 + z) + e < c := by
              have hr3 : r3 = 0 ∨ r3 = 1 := by omega
              rcases hr3 with rfl | rfl
              · exact ⟨0, at_of (j := 0) rfl rfl, Int.le_refl _, by omega⟩
              · exact ⟨d, at_of (j := 1) rfl rfl, d0, by omega⟩
            refine ⟨L, _, _, _, rfl, rfl, SqL.of eL, he, _, _, rfl, rfl, ?_⟩
            refine ⟨_, rfl, .inl ⟨rfl, _, SqL.of fd8.eF⟩, _, rfl, _, rfl, _, rfl, _, rfl, _, rfl, _, _, rfl, rfl, p, _, rfl, by omega, by omega, fd8.st.purse, fun y H9 y0 y1 s9 => ⟨_, _, rfl, rfl, ?_⟩⟩
            have fd9 := fd8.step hF hS s9
            refine ⟨(by show 3 ≤ sizeLine; decide), fun T2 nT2 => ?_⟩
            have eFT2 : (upd H9 T2 (.tup [.str tool, .int (b + (1 + z) + e), .int (1 + y)])) F0 = some (.lst (vs ++ [V.ref T])) := by
              rw [upd_ne (ne_of_none fd9.eF nT2)]
              exact fd9.eF
            refine ⟨F0, _, _, rfl, rfl, eFT2, Nat.lt_of_lt_of_le h5 (by decide), ?_⟩
            refine ⟨_, _, _, _, _, _, rfl, fd9.add hF hSF nF (tool, b + (1 + z) + e, 1 + y) nT2, gd4.add (by rw [← fd4.ln]; exact h5) (hd_of htn (by omega) (by omega) (by omega)) fun g hg => ?_, fun g hg => ?_⟩
            · rw [List.getLast?_append] at hg
              have eg : g = (tool, b, 1 + z) := by simpa using hg.symm
              rw [eg]
              exact ahead_same rfl (by show b + (1 + z) ≤ b + (1 + z) + e; omega)
            · rcases List.mem_append.mp hg with y | y
              · exact hin4 g y
              · rw [List.mem_singleton.mp y]
                exact hself
          · rw [decide_eq_false h6]
            exact ⟨_, _, _, _, _, _, rfl, fd4, gd4, hin4⟩
        · have e2 : decide ((((vs ++ [V.ref T]).length : Nat) : Int) < 4) = false := decide_eq_false (by omega)
          rw [e2]
          exact ⟨_, _, _, _, _, _, rfl, fd4, gd4, hin4⟩
      · have e1 : decide (((vs.length : Nat) : Int) < 4) = false := decide_eq_false (by omega)
        rw [e1]
        exact ⟨hs, vs, _, _, _, _, rfl, fd0, gd, hmono⟩
    · rintro σ H1 ⟨hs, vs, v4, v5, v6, v7, rfl, fd0, gd, hin⟩
      refine ⟨_, rfl, F0, vs, rfl, .inl ⟨SqL.of fd0.eF, fun t nt => ?_⟩⟩
      have sT := Step.new (o := .tup vs) fd0.st.purse nt
      exact q t hs _ (fd0.st.trans sT) ⟨vs, SqT.of upd_same, fd0.ln, fun i v h e1 e2 => (fd0.at_ i v h e1 e2).step fd0.st.purse sT⟩ gd fun g hg => hys _ (List.mem_of_mem_take (hin g hg))
end
end Du

set_option Elab.async false
set_option linter.all false
set_option maxRecDepth 100000
namespace Du
open PySem L2
abbrev pInit : List Str := ["self", "name", "cost", "gap", "due", "holds"]
abbrev FunI (K : PySem.W.Frag) (e0 f : Addr) (fd : FuncData) : Prop := FunD K "__init__" "Task.__init__" (defArgs sInit) (defBody sInit) (defScope sInit) [] [("due", .non), ("holds", .ref e0)] f fd
section
variable {K : PySem.W.Frag} {e0 f : Addr} {fd : FuncData}
def one {α : Type} (l : List α) (i : Nat) : List α := (l.drop i).take 1
theorem one_rel {vs : List V} {us : List Value} (r : Vals vs us) (i : Nat) : Vals (one vs i) (one us i) := (r.drop i).take 1
/-- all five by name -/
theorem kb5 (F : FunI K e0 f fd) : ∃ mv : List Value, KBn K fd pInit 1 ["holds", "gap", "name", "due", "cost"] (fun us ws => us ++ (one ws 2 ++ (one ws 4 ++ (one ws 1 ++ (one ws 3 ++ one ws 0))))) (fun us ws => us ++ (one ws 2 ++ (one ws 4 ++ (one ws 1 ++ (one ws 3 ++ one ws 0))))) :=
  F.kbinds0 1 _ [] (fun us _ ws => us ++ (one ws 2 ++ (one ws 4 ++ (one ws 1 ++ (one ws 3 ++ one ws 0))))) (by simp) (by simp)
    (fun r1 _ r3 => r1.append ((one_rel r3 2).append ((one_rel r3 4).append ((one_rel r3 1).append ((one_rel r3 3).append (one_rel r3 0))))))
    (fun D doc pm an cdv ct us mv ws h1 h2 h3 => match us, mv, ws, h1, h2, h3 with | [_], [], [_, _, _, _, _], _, _, _ => rfl)
/-- four by name -/
theorem kb4 (F : FunI K e0 f fd) : ∃ mv : List Value, KBn K fd pInit 2 ["gap", "due", "cost", "holds"] (fun us ws => us ++ (one ws 2 ++ (one ws 0 ++ (one ws 1 ++ one ws 3)))) (fun us ws => us ++ (one ws 2 ++ (one ws 0 ++ (one ws 1 ++ one ws 3)))) :=
  F.kbinds0 2 _ [] (fun us _ ws => us ++ (one ws 2 ++ (one ws 0 ++ (one ws 1 ++ one ws 3)))) (by simp) (by simp)
    (fun r1 _ r3 => r1.append ((one_rel r3 2).append ((one_rel r3 0).append ((one_rel r3 1).append (one_rel r3 3)))))
    (fun D doc pm an cdv ct us mv ws h1 h2 h3 => match us, mv, ws, h1, h2, h3 with | [_, _], [], [_, _, _, _], _, _, _ => rfl)
theorem kb3 (F : FunI K e0 f fd) : ∃ mv : List Value, KBn K fd pInit 3 ["holds", "due", "gap"] (fun us ws => us ++ (one ws 2 ++ (one ws 1 ++ one ws 0))) (fun us ws => us ++ (one ws 2 ++ (one ws 1 ++ one ws 0))) :=
  F.kbinds0 3 _ [] (fun us _ ws => us ++ (one ws 2 ++ (one ws 1 ++ one ws 0))) (by simp) (by simp)
    (fun r1 _ r3 => r1.append ((one_rel r3 2).append ((one_rel r3 1).append (one_rel r3 0))))
    (fun D doc pm an cdv ct us mv ws h1 h2 h3 => match us, mv, ws, h1, h2, h3 with | [_, _, _], [], [_, _, _], _, _, _ => rfl)
theorem kb2 (F : FunI K e0 f fd) : ∃ mv : List Value, KBn K fd pInit 4 ["due", "holds"] (fun us ws => us ++ ws) (fun us ws => us ++ ws) :=
  F.kbinds0 4 _ [] (fun us _ ws => us ++ ws) (by simp) (by simp) (fun r1 _ r3 => r1.append r3)
    (fun D doc pm an cdv ct us mv ws h1 h2 h3 => match us, mv, ws, h1, h2, h3 with | [_, _, _, _], [], [_, _], _, _, _ => rfl)
theorem kbD (F : FunI K e0 f fd) : ∃ mv : List Value, KBn K fd pInit 4 ["due"] (fun us ws => us ++ (ws ++ mv)) (fun us ws => us ++ (ws ++ [V.ref e0])) :=
  F.kbinds0 4 _ [("holds", V.ref e0)] (fun us mv ws => us ++ (ws ++ mv)) (by simp) (by simp) (fun r1 r2 r3 => r1.append (r3.append r2))
    (fun D doc pm an cdv ct us mv ws h1 h2 h3 => match us, mv, ws, h1, h2, h3 with | [_, _, _, _], [_], [_], _, _, _ => ⟨_, _, _, _, _, _, rfl, rfl, rfl⟩)
theorem kbH (F : FunI K e0 f fd) : ∃ mv : List Value, KBn K fd pInit 4 ["holds"] (fun us ws => us ++ (mv ++ ws)) (fun us ws => us ++ ([V.non] ++ ws)) :=
  F.kbinds0 4 _ [("due", V.non)] (fun us mv ws => us ++ (mv ++ ws)) (by simp) (by simp) (fun r1 r2 r3 => r1.append (r2.append r3))
    (fun D doc pm an cdv ct us mv ws h1 h2 h3 => match us, mv, ws, h1, h2, h3 with | [_, _, _, _], [_], [_], _, _, _ => ⟨_, _, _, _, _, _, rfl, rfl, rfl⟩)
theorem kb0 (F : FunI K e0 f fd) : ∃ ds, Vals [V.non, V.ref e0] ds ∧ Binds K fd pInit ds :=
  F.binds0 4 (by simp) rfl (fun D doc pm an cdv ct us ks h1 h2 => match us, ks, h1, h2 with | [_, _, _, _], [_, _], _, _ => ⟨_, _, _, _, _, _, rfl, rfl, _, _, _, _, _, _, rfl, rfl, rfl⟩)
end
end Du

set_option Elab.async false
set_option linter.all false
set_option maxRecDepth 100000
namespace Du
open PySem L2 PyProof.Rows
section
variable {P : Program} {w : World} {K : PySem.W.Frag} {mg : Str → Option Value} {base : Heap} {k : Nat} {f : Addr} {N ps : List Str} {A : Around} {outer : List Env} {s : Shared} {H : Hp} {args : Args} {us : List Value} {vs : List V} {Q : VK}
/-- a def's call where one stands, by its body there -/
theorem fn_at {name qual : Str} {params : Arguments} {body : List Stmt} {scope : Scope} {dV kV doc pm cdv ct oc : Value} {an od : Option Addr} {osl : Array (Option Value)}
    (lk : K.lookup f = some ⟨oc, od, .func (PySem.W.fnOf name qual params body scope dV kV doc pm an cdv ct), osl⟩) (hcd : PySem.W.codeIn K cdv qual = true) (S : FnScope N ps scope) (hr : Room (k + 1) A) (e0 : Env0 P w K mg base A outer s H)
    (hb : BindsTo s (PySem.W.fnOf name qual params body scope dV kV doc pm an cdv ct) args (ps.zip us)) (r : Vals vs us) (hl : vs.length = ps.length)
    (go : ∃ t, PSs (cxOf CX0 P w K mg base N qual scope f cdv A outer s H E0).nox body t ∧ t { nx := fun _ H' => Q .non H', rt := Q } (L2.start N vs) H) : codeAny (model P w) A (.call (.ref f) args) (CR CX0 outer P w H s Q E0) s := by
  have kept := fun b o e => (e0.bs b o e).1
  have KX : K.In s.heap := e0.mod.kin.keeps kept
  refine codeAny_call_function hr.depth (KX _ _ lk) rfl S.co S.gen rfl (PySem.W.codeRec_of KX hcd) (hb _ _ _ _ (wpAny_newFunctionEnv_cells S.kind (fun y hy => (S.par y.1 (List.of_mem_zip hy).1).imp id fun q => ⟨q, PySem.W.cellsFrom_some _ _ _ (.inl q)⟩) fun env he s1 x => ?_))
  subst he
  obtain ⟨t, ht, hq⟩ := go
  have I := inv_start (CX := CX0) (E := E0) S hr.hd e0 hl r x
  refine ⟨(e0.mod.nolimit.keeps kept).keeps x.toInCall.keep, codeAny_func (wpAny_mono (ht.nox.run [] s1 _ H _ I hq) (fun fl s' hs => ?_) fun _ _ z => z)⟩
  match fl, hs with
  | .ret u, ⟨v, σ', H', J, rv, q⟩ => exact ⟨v, H', J.os, J.bare, J.base, J.hok, rv, q⟩
  | .next, ⟨σ', H', J, q⟩ => exact ⟨V.non, H', J.os, J.bare, J.base, J.hok, rfl, q⟩
  | .brk, ⟨_, _, _, q⟩ => exact q.elim
  | .cont, ⟨_, _, _, q⟩ => exact q.elim
end
/-- the law's def, called by the claim's own caller -/
def LawOk (P : Program) (w : World) (K : PySem.W.Frag) (mg : Str → Option Value) (base : Heap) (fa : Addr) (fd : FuncData) (x : Str) (sp : Sp) : Prop :=
  ∀ (s : Shared) (H : Hp) (u : Value) (v : V) (Q : VK), Env0 P w K mg base callerA [] s H → BindsTo s fd ⟨[u], []⟩ [(x, u)] → RelV v u → sp [v] H Q E0 → codeAny (model P w) callerA (.call (.ref fa) ⟨[u], []⟩) (CR CX0 [] P w H s Q E0) s
theorem law_at {P : Program} {w : World} {K : PySem.W.Frag} {mg mb : Str → Option Value} {fa a : Addr} {fd : FuncData} {x : Str} {sp : Sp} {s1 : Shared} {vs : List Value} {ns : List Int}
    (KX : K.In s1.heap) (hns : s1.heap.Ns mainGlobals mg) (hb : s1.heap.Ns builtinsNs mb) (hbb : ∀ y : Str, y ≠ "__name__" → mb y = bootBuiltins y) (hlim : s1.heap.NoLimit) (hg : s1.gens = #[])
    (ha : s1.heap.get? a = some { cls := .type "list", data := .seq vs.toArray }) (hi : IntsAre vs ns) (hl : ns.length ≤ sizeLine)
    (F : ∀ base : Heap, K.In base → base.Ns mainGlobals mg → LawOk P w K mg base fa fd x sp) (hbind : ∀ (s : Shared) (u : Value), BindsTo s fd ⟨[u], []⟩ [(x, u)])
    (hsp : ∀ H : Hp, SqL K H a (ns.map V.int) → sp [.ref a] H (fun v _ => v = .bl true) E0) :
    codeAny (model P w) callerA (.call (.ref fa) ⟨[.ref a], []⟩) (fun r s' => r = .ok (.ret (.bool true)) ∧ OldK s1.heap s'.heap ∧ s'.os = s1.os ∧ AllBare s'.gens) s1 := by
  have rv := vals_ints hi
  let H : Hp := fun b => if b = a ∧ K.lookup a = none then some (.frz { cls := .type "list", data := .seq vs.toArray } (.lst (ns.map V.int))) else none
  have hH : ∀ b u, H b = some u → b = a ∧ K.lookup a = none ∧ u = .frz { cls := .type "list", data := .seq vs.toArray } (.lst (ns.map V.int)) := fun b u e => by
    by_cases hc : b = a ∧ K.lookup a = none
    · have e' := (if_pos hc).symm.trans e
      exact ⟨hc.1, hc.2, (Option.some.inj e').symm⟩
    · have e' := (if_neg hc).symm.trans e
      cases e'
  have hS : SqL K H a (ns.map V.int) := by
    cases hk : K.lookup a with
    | none => exact .inl (.inr ⟨_, if_pos ⟨rfl, hk⟩⟩)
    | some o =>
      have eo := (KX a o hk).symm.trans ha
      cases eo
      exact .inr ⟨_, vs.toArray, _, hk, rfl, rfl, rfl, by rw [List.size_toArray, hi.length]; exact hl, by simpa using rv⟩
  have hok : HOk P w H s1.heap := fun b u e => by
    obtain ⟨rfl, _, rfl⟩ := hH b u e
    exact ⟨ha, by rw [List.length_map]; exact hl, vs, _, rv, ha⟩
  have noD : ∀ {b : Addr} {o : Obj} {es : Array DictEntry} {ep : Nat}, s1.heap.get? b = some o → o.data = .dict es ep → H b = none := fun {b o es ep} e d => by
    cases q : H b with
    | none => rfl
    | some u =>
      obtain ⟨rfl, _⟩ := hH b u q
      cases ha.symm.trans e
      cases (show Data.seq vs.toArray _ = Data.dict es ep from d)
  have ns' : ∀ {b : Addr} {m : Str → Option Value}, s1.heap.Ns b m → (hidT s1.heap H).Ns b m := fun ⟨o, es, ep, e, d, z⟩ => ⟨o, es, ep, hidT_get e (noD e d), d, z⟩
  have hKb : K.In (hidT s1.heap H) := fun b o e => hidT_get (KX b o e) (by
    cases q : H b with
    | none => rfl
    | some u =>
      obtain ⟨rfl, hk, _⟩ := hH b u q
      rw [hk] at e
      cases e)
  obtain ⟨mc, l1, l2⟩ := hlim
  have e0 : Env0 P w K mg (hidT s1.heap H) callerA [] s1 H := ⟨rfl, ⟨hKb, ns' hns, ⟨mb, ns' hb, hbb⟩, ⟨mc, ns' l1, l2⟩⟩, fun b o e => of_hidT e, Nat.le_of_eq (hidT_size _ _), trivial, (fun b z => nomatch z), hok, .of_eq hg⟩
  refine codeAny_mono (F _ hKb (ns' hns) s1 H (.ref a) (.ref a) _ e0 (hbind s1 (.ref a)) rfl (hsp H hS)) fun r s' h => ?_
  match r, h with
  | .error _, h => exact h.elim
  | .ok .next, h => exact h.elim
  | .ok .brk, h => exact h.elim
  | .ok .cont, h => exact h.elim
  | .ok (.ret u), ⟨v, H', os, bare, un, hok', rvu, q⟩ =>
    have q' : v = .bl true := q
    subst q'
    obtain rfl : u = Value.bool true := rvu
    refine ⟨rfl, OldK.of_keep fun b o e => ?_, os, bare⟩
    cases z : H b with
    | none => exact un.keep b o e z (fun y => nomatch y) (fun y => nomatch y)
    | some y =>
      obtain ⟨rfl, hk, rfl⟩ := hH b y z
      have e2 := (hok' _ _ (un.frzs _ _ _ z)).1
      rw [← Option.some.inj (ha.symm.trans e)]
      exact e2
theorem walk_at {l : PySem.W.OpenLaw} {n : Nat} {q : Program} {loose : List Str} {XP : (Str → Option Value) → Heap → Prop} {YP : World → Heap → Prop} {d : DefRec} {K : Params → PySem.W.Frag} {sp : World → Sp} {x : Str} (hn : l.most = some n) (hn2 : n ≤ sizeLine) (hdf : d.params.defaults = [])
    (hY : ∀ (w : World) (h : Heap), YP w h → (K w.params).In h)
    (F : ∀ (w : World) (mg : Str → Option Value) (fa : Addr) (h : Heap), (K w.params).In h → h.Ns mainGlobals mg → mg d.name = some (.ref fa) →
      ∃ fd : FuncData, (∀ (s : Shared) (u : Value), BindsTo s fd ⟨[u], []⟩ [(x, u)]) ∧ ∀ base : Heap, (K w.params).In base → base.Ns mainGlobals mg → LawOk l.prog w (K w.params) mg base fa fd x (sp w))
    (hsp : ∀ (w : World) (H : Hp) (a : Addr) (ns : List Int), ns.length ≤ n → SqL (K w.params) H a (ns.map V.int) → sp w [.ref a] H (fun v _ => v = .bl true) E0) :
    PySem.W.WalkO q loose XP YP l.row.toRowW d [] (fun f vs => PySem.call f vs) := by
  refine Att.attach_call hn hdf fun w s0 s1 mg mb fa o pm cd doc a vs ns G Y ho hd hcd hmg hobj hints hlen hg => ?_
  obtain ⟨fd, hb, hF⟩ := F w mg fa _ (hY w _ Y) G.T.g hmg
  exact law_at (hY w _ Y) G.T.g G.T.b G.T.builtins G.T.nolimit hg hobj hints (Nat.le_trans hlen hn2) hF hb fun H hS => hsp w H a ns hlen hS
end Du

set_option Elab.async false
set_option linter.all false
set_option maxRecDepth 100000
set_option maxHeartbeats 1000000
namespace Du
open PySem PySem.W PySem.Calls PyProof.Rows PySem.HandSPX
open L2 (defArgs defBody defScope inClass)
/-- what the written part says of an error class over ValueError with one field -/
structure ErrC (P : Program) (K : Frag) (mg : Str → Option Value) (x fld qual : Str) (st : Stmt) (C fI : Addr) : Prop where
  gC : mg x = some (.ref C)
  cls : ∃ nm q N bs bm sn sub ab col dd k0 k1 k2 k3 k5, K.lookup C = some (excClassObj nm q C N bs bm true sn sub ab col dd k0 k1 k2 k3 k5 "ValueError.__new__") ∧ refsVE bm = true
  sa : findIn K (.ref C) "__setattr__" = some (some (.builtin "object.__setattr__"))
  ga : findIn K (.ref C) "__getattribute__" = some (some (.builtin "BaseException.__getattribute__"))
  gg : findIn K (.ref C) "__getattr__" = some none
  noN : findIn K (.ref C) fld = some none
  iC : findIn K (.ref C) "__init__" = some (some (.ref fI))
  tC : typeIn K (.ref fI) = some (.type "function")
  kC : keepIn K (.ref C) = true
  exC : subIn K (.ref C) (.type "BaseException") = some true
  veC : subIn K (.ref C) (.type "ValueError") = some true
  tyC : typeIn K (.ref C) = some (.type "type")
  hdC : hasDictIn K C = true
  mro : mroIn K C (.ref C) = some true
  sup : ks_superIn K C C "__init__" = some (some (.builtin "ValueError.__init__"))
  any : nsIn K cStatics "thirdparty.any" = some none
  top : (P.main.scope.names.lookup ("super" : Str)).isSome = false
  mS : mg "super" = none
  fn : ∃ (oc : Value) (od : Option Addr) (doc pm : Value) (an : Option Addr) (cda cc : Addr) (ct : Value) (osl : Array (Option Value)) (ccl cl : Value) (cdd cld : Option Addr) (ccs csl : Array (Option Value)) (vs : Array Value) (file : Str) (tf : Tok),
    K.lookup fI = some ⟨oc, od, .func (ksFn "__init__" qual (defArgs st) (defBody st) (defScope st) .none .none doc pm an (.ref cda) ct cc), osl⟩ ∧ codeIn K (.ref cda) qual = true ∧
    K.lookup cda = some ⟨ccl, cdd, .fields vs, ccs⟩ ∧ vs[2]? = some (.str file tf) ∧ ((P.main.file : Str) == file) = true ∧ K.lookup cc = some ⟨cl, cld, .cell (some (.ref C)), csl⟩
/-- what __init__ leaves of a fresh exception at x -/
structure ErrEnd (h h' : Heap) (x C dx : Addr) (fld : Str) (v : Value) : Prop where
  keep : ∀ b o, b ≠ x → h.get? b = some o → h'.get? b = some o
  obj : ∃ t1 : Addr, h'.get? x = some { cls := .ref C, dict := some dx, data := .fields #[.ref t1, .none, .none, .none, .bool false, .none] }
  dbig : h.objs.size ≤ dx
  dne : dx ≠ x
  ns : h'.Ns1 dx (fun y => if y = fld then some v else none)
section
variable {prog : Program} {w : World} {A : Around} {E : Value → Shared → Prop} {h : Heap} {g : Array GenState} {d : Drawn} {t : Nat} {os : OsState}
variable {nm q : Str} {C N : Addr} {bs bm : List Value} {hdct : Bool} {sn : List Str} {sub : List Value} {ab : Bool} {col : Option Bool} {dd : Option Addr} {k0 k1 k2 k3 k5 : Option Value} {B newId i : String} {bmB : List Value}
/-- the bound __init__ of the built-in base, called -/
theorem call_mw (FB : ExcBaseFacts B newId i bmB) {u e t0 : Addr} {rest : List Value} {Q : Value → Shared → Prop} (hC : h.get? C = some (excClassObj nm q C N bs bm hdct sn sub ab col dd k0 k1 k2 k3 k5 newId)) (he : h.get? e = some (excO C t0)) (hu : h.get? u = some (kxs_mw i e))
    (hrest : rest.length ≤ sizeLine) (hq : ∀ h' t1, (∀ b o, b ≠ e → h.get? b = some o → h'.get? b = some o) → h'.get? e = some (excO C t1) → Q .none ⟨h', g, d, t, os⟩) : wpAny (model prog w) A (call (.ref u) rest) Q E ⟨h, g, d, t, os⟩ := by
  refine wpAny_call (codeAny_of_tree ?_)
  show wpAny _ A.in1 (callAny (.ref u) ⟨rest, []⟩) _ _ _
  simp only [callAny]
  refine wpAny_bind (wpAny_load hu (KFB.if_so (show (Value.type "method-wrapper" == Value.type "method" || Value.type "method-wrapper" == Value.type "builtin_function_or_method" || Value.type "method-wrapper" == Value.type "method-wrapper") = true by decide) (wpAny_bind (check_bound_init FB.toExcCallFacts hC he rfl (wpAny_bind (wpAny_pure (wpAny_pure ⟨plainId_quiet FB.init.plain _, codeAny_builtin FB.initEntry ?_⟩)))))))
  exact exc_init_tree (cls := .ref C) (t0 := t0) (dv := none) (c2 := .none) (c3 := .none) (b4 := .bool false) he hrest fun h' k e' _ => hq h' _ k e'
end
abbrev sNoTask : Stmt := inClass (topS 3) 0
section
variable {prog : Program} {w : World} {A : Around} {E : Value → Shared → Prop} {R : Result → Shared → Prop} {s : Shared} {K : Frag} {mg mb : Str → Option Value} {C fI : Addr} {nm qual : Str}
theorem init_NoTask (T : ErrC prog K mg nm "part" qual sNoTask C fI) {x t0 : Addr} {v : Value} (X : K.In s.heap) (hlim : s.heap.NoLimit) (G : s.heap.Ns mainGlobals mg) (Bn : s.heap.Ns builtinsNs mb) (hbb : ∀ y : Str, y ≠ "__name__" → mb y = bootBuiltins y)
    (hx : s.heap.get? x = some (excO C t0)) (hnx : K.lookup x = none) (hroom : A.depth < recursionLimit) (hq : ∀ h' tk dx, ErrEnd s.heap h' x C dx "part" v → R (.ok (.ret .none)) { s with heap := h', toks := tk }) : codeAny (model prog w) A (.call (.ref fI) ⟨[.ref x, v], []⟩) R s := by
  obtain ⟨oc, od, doc, pm, an, cda, cc, ct, osl, ccl, cl, cdd, cld, ccs, csl, vs, file, tf, lk, hcd, hcode, hvs, hfile, hcell⟩ := T.fn
  obtain ⟨nm', q', N', bs, bm, sn, sub, ab, col, dd, k0, k1, k2, k3, k5, hC, hbm⟩ := T.cls
  have hcl : clsIn K C = some { name := nm', bases := bs, mro := .ref C :: bm, ns := N', qualname := q', hasDict := true, slotNames := sn, subclasses := sub, abstract := ab, collection := col, hasDel := false } := by unfold clsIn; rw [hC] <;> rfl
  have nocell : ∀ y ∈ (defScope sNoTask).names, y.2 ≠ .cell := by decide +kernel
  refine ks_codeAny_call_defAt (binds := [(("self" : Str), Value.ref x), ("part", v)]) hroom (X _ _ lk) rfl hlim (codeRec_of X hcd) rfl (BindsTo.of_eq rfl) nocell (fun y hy => ?_) (fun h1 hn k => ?_)
  · rcases List.mem_cons.mp hy with rfl | hy
    · rfl
    · rw [List.mem_singleton.mp hy]
      rfl
  have X1 : K.In h1 := X.keeps k
  have hx1 := k _ _ hx
  have I1 : InstAt h1 x (excO C t0) C none := ⟨hx1, rfl, rfl, trivial⟩
  obtain ⟨oD, hD1, cdD, hD2⟩ : ∃ oD, h1.get? C = some oD ∧ ∃ cd, oD.data = .cls cd := ⟨_, X1 _ _ hC, _, rfl⟩
  refine ks_wpAt_execs_cons (ks_wpAt_Expr_any (ks_wpAt_MethodCall ?_))
  refine ks_wpAt_super_base rfl rfl (by decide) rfl (X1 _ _ lk) rfl rfl rfl (X1 _ _ hcode) rfl hvs hfile T.top ?_
  refine ks_loadName_global rfl rfl (loadGlobal_builtin (G.keeps k) T.mS (Bn.keeps k) ((hbb _ (by decide)).trans PyProof.Rows.Boot.«super») ⟨rfl, ?_⟩)
  refine wpAny_loadName_free rfl rfl rfl ⟨_, X1 _ _ hcell, rfl⟩ ?_
  refine wpAny_loadName_local rfl rfl hn rfl ?_
  refine ks_wpAny_isType_cls hD1 hD2 ⟨rfl, ?_⟩
  refine ks_wpAny_call_super hD1 hD2 hx1 rfl (fun c e => by cases e) (looks_mroIn X1 T.mro) (fun h2 hso k2 => ?_)
  have X2 : K.In h2 := X1.keeps k2
  have hx2 := k2 _ _ hx1
  have I2 : InstAt h2 x (excO C t0) C none := ⟨hx2, rfl, rfl, trivial⟩
  have hm := T.sup
  unfold ks_superIn at hm
  rw [hcl] at hm
  have hmro : W.Looks (model prog w) h2 (mroOf (.ref C)) (.ref C :: bm) := (looks_clsIn X2 hcl).andThen .now
  refine kxs_getMethod kxs_ValueError hso (looks_opaque X2 T.any) hmro rfl X2 hm (I2.type.andThen (looks_subIn X2 T.veC)) (ks_ne X2 I2 hcl) (by decide) ?_
  have k3 : ∀ b o, h2.get? b = some o → (h2.push (kxs_mw "ValueError.__init__" x)).get? b = some o := fun b o e => Heap.get?_push_of_some _ e
  refine kxs_callWith (i := "ValueError.__init__") (x := x) rfl (evalArgs_plain (args_cons (Calls.Constant_str (args_nil ⟨Heap.get?_push_at rfl rfl, ?_⟩))))
  refine call_mw F.excBase_ValueError (k3 _ _ (X2 _ _ hC)) (k3 _ _ hx2) (Heap.get?_push_at rfl rfl) (by show 1 ≤ sizeLine; decide) fun h4 t1 k4 hx4 => ?_
  -- the field
  have kx : ∀ b o, b ≠ x → h1.get? b = some o → h4.get? b = some o := fun b o hb e => k4 b o hb (k3 b o (k2 b o e))
  have X4 : K.In h4 := fun b o e => kx b o (fun z => by rw [z, hnx] at e; cases e) (X1 b o e)
  have hL : s.heap.objs.size ≠ x := Nat.ne_of_gt (Heap.lt_size hx)
  obtain ⟨oL, esL, epL, eL, rL⟩ := id hn
  have hn4 : h4.Ns s.heap.objs.size _ := ⟨oL, esL, epL, kx _ _ hL eL, rL⟩
  refine ks_wpAt_execs_cons (ks_wpAt_Assign_Attr (wpAt_of_wpAny (wpAny_Name (wpAny_loadName_local rfl rfl hn4 rfl (wpAny_Name (wpAny_loadName_local rfl rfl hn4 rfl ?_) (by decide))) (by decide))))
  refine set_plain X4 (ox := excO C t1) (od := none) ⟨hx4, rfl, rfl, trivial⟩ T.sa ?_
  refine exc_osa X4 hx4 hcl (show refsVE (.ref C :: bm) = true from hbm) rfl T.noN (fun h5 tk5 dx k5 dn dne hx5 hn5 => ?_)
  refine wpAt_of_wpAny (wpAny_execs_nil (hq h5 tk5 dx ⟨fun b o hb e => k5 b o hb (kx b o hb (k b o e)), ⟨t1, hx5⟩, ?_, dne, hn5⟩))
  have z : s.heap.objs.size < h4.objs.size := hn4.lt
  have dn' : h4.objs.size ≤ dx := dn
  omega
/-- the error made -/
structure ErrMade (h h' : Heap) (e C d : Addr) (fld : Str) (v : Value) : Prop where
  keep : ∀ b o, h.get? b = some o → h'.get? b = some o
  new : h.objs.size ≤ e
  obj : ∃ oe vs, h'.get? e = some oe ∧ oe.cls = .ref C ∧ oe.dict = some d ∧ oe.data = .fields vs ∧ vs[1]? = some .none ∧ vs[2]? = some .none
  dbig : h.objs.size ≤ d
  dne : d ≠ e
  ns : h'.Ns1 d (fun y => if y = fld then some v else none)
theorem made_NoTask (T : ErrC prog K mg nm "part" qual sNoTask C fI) {v : Value} (X : K.In s.heap) (hlim : s.heap.NoLimit) (G : s.heap.Ns mainGlobals mg) (Bn : s.heap.Ns builtinsNs mb) (hbb : ∀ y : Str, y ≠ "__name__" → mb y = bootBuiltins y) (hroom : A.depth + 1 < recursionLimit)
    (hq : ∀ h' tk e d, ErrMade s.heap h' e C d "part" v → R (.ok (.ret (.ref e))) { s with heap := h', toks := tk }) : codeAny (model prog w) A (.call (.ref C) ⟨[v], []⟩) R s := by
  obtain ⟨nm', q', N', bs, bm, sn, sub, ab, col, dd, k0, k1, k2, k3, k5, hC, hbm⟩ := T.cls
  obtain ⟨hp, g, dr, tk, os⟩ := s
  have k : ∀ b o, hp.get? b = some o → ((hp.push (kdv_tup [v])).push (excO C hp.objs.size)).get? b = some o := fun b o e => Heap.get?_push_of_some _ (Heap.get?_push_of_some _ e)
  have hget : ((hp.push (kdv_tup [v])).push (excO C hp.objs.size)).get? (hp.objs.size + 1) = some (excO C hp.objs.size) := by heap_get
  have hnx : K.lookup (hp.objs.size + 1) = none := by
    cases e : K.lookup (hp.objs.size + 1) with
    | none => rfl
    | some o => exact absurd (Nat.lt_of_succ_lt (Heap.lt_size (show hp.get? (hp.objs.size + 1) = some o from X _ _ e))) (Nat.lt_irrefl _)
  refine call_own F.excBase_ValueError (fun X => refsVE_contains X bm hbm) (X _ _ hC) (looks_findIn X T.iC) (fun self => bind_fn X self T.tC) (by show 1 ≤ sizeLine; decide) ?_
  refine init_NoTask (s := ⟨(hp.push (kdv_tup [v])).push (excO C hp.objs.size), g, dr, tk, os⟩) T (X.keeps k) (hlim.keeps k) (G.keeps k) (Bn.keeps k) hbb hget hnx hroom fun h' tk' dx m => ?_
  obtain ⟨k', ⟨t1, hx⟩, dn, dne, hns⟩ := m
  have z : hp.objs.size + 1 + 1 ≤ dx := by
    have q := dn
    rw [Heap.size_push, Heap.size_push] at q
    exact q
  exact ⟨rfl, hq h' tk' (hp.objs.size + 1) dx ⟨fun b o e => k' b o (Nat.ne_of_lt (Nat.lt_succ_of_lt (Heap.lt_size e))) (k b o e), Nat.le_succ _, ⟨_, _, hx, rfl, rfl, rfl, rfl, rfl⟩, Nat.le_trans (Nat.le_trans (Nat.le_succ _) (Nat.le_succ _)) z, dne, hns⟩⟩
end
end Du

set_option Elab.async false
set_option linter.all false
set_option maxRecDepth 100000
set_option maxHeartbeats 1000000
namespace Du
open PySem PySem.Spec PyProof.Rows L2
open L2N (Zn)
/-- an object's classes as a tuple: how a clause's match is seen -/
def Mat (K : PySem.W.Frag) (cs : List Value) : Prop := ∀ {M : Model} {h : Heap} {cls : Value} {tp e : Addr}, K.In h → PySem.W.Looks M h (typeOf (.ref e)) cls → h.get? tp = some { cls := .type "tuple", data := .seq cs.toArray } → PySem.W.exmAny K cls cs = some true → PySem.W.Looks M h (excMatches (.ref e) (.ref tp)) true
theorem mat2 {K : PySem.W.Frag} {c1 c2 : Value} : Mat K [c1, c2] := fun X L hp hx => PySem.W.exm_tup2 X L hp hx
theorem mat3 {K : PySem.W.Frag} {c1 c2 c3 : Value} : Mat K [c1, c2, c3] := fun X L hp hx => PySem.W.exm_tup3 X L hp hx
/-- the clause's tuple, laid where the error is handled -/
def Lays (X : Cx) (te : Expr) (cs : List Value) : Prop := ∀ (a : Addr) (oe : Obj) (pn : List (Addr × Obj)) (σ : L2.St) (H : Hp) (s : Shared) (Q : Value → Shared → Prop) (E : Value → Shared → Prop), Inv (X.suite a ((a, oe) :: pn)) [] σ H s →
  (∀ tp h', h'.get? tp = some { cls := .type "tuple", data := .seq cs.toArray } → (∀ b o, s.heap.get? b = some o → h'.get? b = some o) → Q (.ref tp) { s with heap := h' }) → wpAny (model X.prog X.w) (X.A.mark (some (.ref a))) (eval te X.env) Q E s
theorem name_at {X : Cx} {x : Str} {c : Value} {np : Pos} (hc : Names X x c) {a : Addr} {oe : Obj} {pn : List (Addr × Obj)} {σ : L2.St} {H : Hp} {s : Shared} {Q : Value → Shared → Prop} {E : Value → Shared → Prop} (S : Inv (X.suite a ((a, oe) :: pn)) [] σ H s) (q : Q c s) :
    wpAny (model X.prog X.w) (X.A.mark (some (.ref a))) (eval (.Name x np) X.env) Q E s := by
  obtain ⟨hg, hd, hm | ⟨hm, hv, hn⟩⟩ := hc
  · exact ld_glob (X := X.suite a ((a, oe) :: pn)) S hg hm q hd
  · exact ld_blt (X := X.suite a ((a, oe) :: pn)) S hg hm hv q hn hd
theorem lays2 {X : Cx} {x1 x2 : Str} {c1 c2 : Value} {n1 n2 tp : Pos} {kk : Nat} (h1 : Names X x1 c1) (h2 : Names X x2 c2) : Lays X (.Tuple [.Name x1 n1, .Name x2 n2] kk tp) [c1, c2] := fun a oe pn σ H s Q E S q =>
  wpAny_Tuple_spliced (args_cons (name_at h1 S (args_cons (name_at h2 S (args_nil ⟨by show 2 ≤ sizeLine; decide, q _ _ (Heap.get?_push_size _ rfl) fun b o e => Heap.get?_push_of_some _ e⟩)))))
theorem lays3 {X : Cx} {x1 x2 x3 : Str} {c1 c2 c3 : Value} {n1 n2 n3 tp : Pos} {kk : Nat} (h1 : Names X x1 c1) (h2 : Names X x2 c2) (h3 : Names X x3 c3) : Lays X (.Tuple [.Name x1 n1, .Name x2 n2, .Name x3 n3] kk tp) [c1, c2, c3] := fun a oe pn σ H s Q E S q =>
  wpAny_Tuple_spliced (args_cons (name_at h1 S (args_cons (name_at h2 S (args_cons (name_at h3 S (args_nil ⟨by show 3 ≤ sizeLine; decide, q _ _ (Heap.get?_push_size _ rfl) fun b o e => Heap.get?_push_of_some _ e⟩)))))))
theorem flying_push {B h h' : Heap} {l : List Env} {a : Addr} {Z : Obj → Prop} (k : ∀ b o, h.get? b = some o → h'.get? b = some o) (f : HandSPX.FlyingZ B l a Z h) : HandSPX.FlyingZ B l a Z h' := by
  obtain ⟨f1, f2, f3, oe, vs, T, oT, ts, t1, t2, t3, t4, t5, t6, t7, t8, t9⟩ := f
  exact ⟨fun b o e => k b o (f1 b o e), f2, Heap.FunFrames.of_keeps (fun b o e _ => ⟨o, k b o e, rfl⟩) f3, oe, vs, T, oT, ts, k _ _ t1, t2, t3, t4, t5, t6, k _ _ t7, t8, t9⟩
/-- what 'except (..) as n' wishes of an exception of the body, each of which it takes -/
def wTup (K : PySem.W.Frag) (cs : List Value) (i : Nat) (ts : Addr → Value → Option Addr → TS) (D : Ends) : WX := fun cls d σ H =>
  PySem.W.exmAny K cls cs = some true ∧ ∀ a, H a = none → ts a cls d { nx := fun σ' H' => D.nx (σ'.set i none) H', rt := D.rt, bk := fun σ' H' => D.bk (σ'.set i none) H', ct := fun σ' H' => D.ct (σ'.set i none) H' } (σ.set i (some (.ref a))) H
theorem ps_try_tup {X : Cx} {n : Str} {i : Nat} {te : Expr} {cs : List Value} {body suite : List Stmt} {b0 : Stmt} {pos pos' : Pos} {tb : WX → TS} {ts : Addr → Value → Option Addr → TS} (hs : X.stack = X.env :: X.outer) (hf : X.env.frame = some X.env.locals) (hN : X.N.Nodup) (hi : X.N[i]? = some n)
    (hln : X.env.kindOf n = some .local) (hl : Lays X te cs) (hm : Mat X.K cs)
    (hb : ∀ (W : WX) (pn : List (Addr × Obj)) (xe : Value → Shared → Prop), L2N.Takes (X.tr pn xe) W → PassesOwn (model X.prog X.w) X.A X.env xe → PSs (X.tr pn xe) body (tb W))
    (hsu : ∀ (a : Addr) (oe : Obj) (cls : Value) (d : Option Addr) (pn : List (Addr × Obj)), Zn cls d oe → (∃ vs, oe.data = .fields vs) → PSs (X.suite a ((a, oe) :: pn)) (b0 :: suite) (ts a cls d)) :
    PS X (.Try body [.ExceptHandler (some te) (some n) (b0 :: suite) pos'] [] [] pos) (fun D σ H => tb (wTup X.K cs i ts D) D σ H) := by
  refine ⟨fun pins s σ H D I h => ?_⟩
  have ok := I.ok
  refine wpAny_Try_except (wpAny_mono ((hb (wTup X.K cs i ts D) (X.pn ++ pins) (fun e s1 => wpAny (model X.prog X.w) X.A (noteFrame e X.env) (fun _ s2 => wpAny (model X.prog X.w) X.A (setFlight e none) (fun _ s3 =>
    wpAny (model X.prog X.w) X.A (handleBy e X.env [.ExceptHandler (some te) (some n) (b0 :: suite) pos']) (SP X pins D) X.xe s3) X.xe s2) X.xe s1) (fun u s' xx => ?_) PassesOwn.looking).run [] s σ H D (I.toTry _) h) (fun f s1 hsp => ?_) (fun _ _ he => he))
  · obtain ⟨a, B, sI, pins', σ', H', cls, d, rfl, J', nb, up, sky, na, os, ag, hyes, go⟩ := xx
    have J : Inv X pins σ' H' sI := J'.ofTry ok
    have hfr : X.A.frames = some (X.env :: X.outer) := by rw [ok.frames, hs]
    show wpAny (model X.prog X.w) X.A (noteFrame (.ref a) X.env) _ _ _
    refine L2N.Sky.land Zn.steady hfr hf (by rw [← hs]; exact sky) fun h3 fl3 up3 => ?_
    obtain ⟨oe3, vs3, he3, hz3, hd3⟩ := fl3.there
    have nfr : a ∉ frs (X.env :: X.outer) := fun m => by
      obtain ⟨_, o', e', hnf⟩ := fl3.2.2.1.mem m
      cases he3.symm.trans e'
      exact hnf _ hd3
    have nL : a ≠ X.env.locals := fun z => nfr (List.mem_filterMap.mpr ⟨X.env, List.mem_cons_self, by rw [hf, z]⟩)
    have nF : a ∉ X.fs := fun m => by
      obtain ⟨e, he, q⟩ := List.mem_filterMap.mp m
      exact nfr (List.mem_filterMap.mpr ⟨e, List.mem_cons_of_mem _ he, q⟩)
    have J3 : Inv X pins σ' H' { s' with heap := h3 } := J.landed nb fl3.1 (up.trans up3) os ag
    refine wpAny_handleBy_cons (codeAny_handlers_test ?_) (by intro q; cases q)
    refine hl a oe3 (X.pn ++ pins) σ' H' _ _ _ (J3.suite he3 hd3 na nL nF) fun tp h4 ht k4 => ?_
    have fl4 := flying_push k4 fl3
    have up4 : h3.UpToSlots h4 := Heap.UpToSlots.of_keeps k4
    have LT : PySem.W.Looks (model X.prog X.w) h4 (typeOf (.ref a)) cls := fun A Q E s k q => wpAny_typeOf_ref (k _ _ (k4 _ _ he3)) (by rw [hz3.1]; exact q)
    refine (hm (J3.kIn.keeps k4) LT ht hyes).here ?_
    show codeAny (model X.prog X.w) (X.A.mark (some (.ref a))) (.handlers (.ref a) [.ExceptHandler none (some n) (b0 :: suite) pos'] X.env) _ _
    refine codeAny_handlers_suite_as (HandSPX.lands_againZ (s := { s' with heap := h4 }) fl4 fun h5 fl5 up5 => ?_)
    have J5 : Inv X pins σ' H' { s' with heap := h5 } := J.landed nb fl5.1 (((up.trans up3).trans up4).trans up5) os ag
    obtain ⟨oe5, vs5, he5, hz5, hd5⟩ := fl5.there
    refine store_ok (X := X.suite a ((a, oe5) :: (X.pn ++ pins))) (v := .ref a) (J5.suite he5 hd5 na nL nF) hN hi (.inl hln) rfl (fun s6 S6 => ?_) (.inr hln)
    refine wpAny_mono ((hsu a oe5 cls d (X.pn ++ pins) hz5 ⟨_, hd5⟩).run [] s6 _ H' _ S6 (go a na)) (fun f s7 hsp => ?_) (fun _ _ z => False.elim z)
    match f, hsp with
    | .next, ⟨σ6, H6, S7, q6⟩ => exact gone_ok (S7.unsuite ok) hN hi hln fun s8 J8 => ⟨_, _, J8, q6⟩
    | .brk, ⟨σ6, H6, S7, q6⟩ => exact gone_ok (S7.unsuite ok) hN hi hln fun s8 J8 => ⟨_, _, J8, q6⟩
    | .cont, ⟨σ6, H6, S7, q6⟩ => exact gone_ok (S7.unsuite ok) hN hi hln fun s8 J8 => ⟨_, _, J8, q6⟩
    | .ret u, ⟨v6, σ6, H6, S7, r6, q6⟩ => exact gone_ok (S7.unsuite ok) hN hi hln fun s8 J8 => ⟨_, _, _, J8, r6, q6⟩
  · match f, hsp with
    | .next, ⟨σ', H', J', q⟩ => exact wpAny_execs_nil ⟨σ', H', J'.ofTry ok, q⟩
    | .brk, ⟨σ', H', J', q⟩ => exact ⟨σ', H', J'.ofTry ok, q⟩
    | .cont, ⟨σ', H', J', q⟩ => exact ⟨σ', H', J'.ofTry ok, q⟩
    | .ret u, ⟨v, σ', H', J', r, q⟩ => exact ⟨v, σ', H', J'.ofTry ok, r, q⟩
end Du

set_option Elab.async false
set_option linter.all false
set_option maxRecDepth 100000
set_option maxHeartbeats 1000000
namespace Du
open PySem PySem.Spec PyProof.Rows L2
open L2N (Zn)
/-- an error class with one field, by its making -/
structure Err (P : Program) (w : World) (K : PySem.W.Frag) (mg : Str → Option Value) (x fld : Str) (C : Addr) : Prop where
  gC : mg x = some (.ref C)
  kC : PySem.W.keepIn K (.ref C) = true
  exC : PySem.W.subIn K (.ref C) (.type "BaseException") = some true
  tyC : PySem.W.typeIn K (.ref C) = some (.type "type")
  ga : PySem.W.findIn K (.ref C) "__getattribute__" = some (some (.builtin "BaseException.__getattribute__"))
  gg : PySem.W.findIn K (.ref C) "__getattr__" = some none
  noN : PySem.W.findIn K (.ref C) fld = some none
  hdC : PySem.W.hasDictIn K C = true
  made : ∀ {A : Around} {R : Result → Shared → Prop} {s : Shared} {mb : Str → Option Value} {v : Value}, K.In s.heap → s.heap.NoLimit → s.heap.Ns mainGlobals mg → s.heap.Ns builtinsNs mb → (∀ y : Str, y ≠ "__name__" → mb y = bootBuiltins y) → A.depth + 1 < recursionLimit →
    (∀ h' tk e d, ErrMade s.heap h' e C d fld v → R (.ok (.ret (.ref e))) { s with heap := h', toks := tk }) → codeAny (model P w) A (.call (.ref C) ⟨[v], []⟩) R s
theorem relO_fld {v : V} {u : Value} {fld : Str} (r : RelV v u) (f : Str) : RelO (List.lookup f [(fld, v)]) (if f = fld then some u else none) := by
  by_cases h : f = fld
  · subst h
    rw [if_pos rfl, show List.lookup f [(f, v)] = some v by simp [List.lookup]]
    exact r
  · have e : (f == fld) = false := by simpa using h
    rw [if_neg h, show List.lookup f [(fld, v)] = none by simp [List.lookup, e]]
    trivial
def tMkErr (C : Addr) (fld : Str) (ta : TA) : L2.St → Hp → XK → Prop := fun σ H Q => ta σ H fun vs H1 => ∃ v, vs = [v] ∧ ∀ d, H1 d = none → Q (.ref C) (some d) (upd H1 d (.xd [(fld, v)]))
theorem pmk_err {X : Cx} {C : Addr} {x fld : Str} {a : Expr} {ta : TA} {p pos : Pos} {k : Nat} (T : Err X.prog X.w X.K X.mg x fld C) (hr : Room k X.A) (hg : Gl X x) (ha : PA X [a] ta) (hdb : (x == ("__debug__" : Str)) = false := by decide)
    (he : starEach (a :: []) X.env = (false, eval a X.env) :: starEach [] X.env := by rfl) (hpl : (backTo pos (starEach [] X.env)).any (·.1) = false := by rfl) : L2N.PMk X (.Call (.Name x p) [a] [] pos) (tMkErr C fld ta) := by
  intro pins s σ H Q I h
  refine wpAny_Call_Name_kw (ld_glob I hg T.gC (PySem.W.callWith_K (h₀ := X.base) I.ok.mod.kin T.kC (thn (ha.run pos pins s σ H _ I h) fun us s1 hh => ?_) he hpl) hdb)
  obtain ⟨vs, H1, I1, r1, v, rfl, q1⟩ := hh
  obtain ⟨v', rfl, rv⟩ := vals1 r1
  refine ⟨I1.kIn, ?_⟩
  obtain ⟨mb, hb, hbb⟩ := I1.ok.mod.blt
  have hlim := I1.nolimit
  have G := I1.ok.mod.glob.keeps I1.bk
  have B := hb.keeps I1.bk
  show wpAny _ _ (call (.ref C) [v']) _ _ _
  refine wpAny_call (T.made I1.kIn hlim G B hbb (by have := hr.dp; omega) fun h' tk' e d M => ?_)
  obtain ⟨hp, g, dr, tk, os⟩ := s1
  show L2N.MkP X pins σ Q (.ref e) ⟨h', g, dr, tk', os⟩
  obtain ⟨oe, fv, hoe, hc, hd, hdat, h1, h2⟩ := M.obj
  obtain ⟨G', g1, g2⟩ := restrict h' fun b => decide (b ≠ e)
  have gk : ∀ b, b ≠ e → G'.get? b = h'.get? b := fun b hb => g1 b (decide_eq_true hb)
  have ge : G'.get? e = none := g2 e (by simp)
  have old : ∀ b o, hp.get? b = some o → G'.get? b = some o := fun b o q => (gk b (Nat.ne_of_lt (Nat.lt_of_lt_of_le (Heap.lt_size q) M.new))).trans (M.keep b o q)
  have J : Inv X pins σ (upd H1 d (.xd [(fld, v)])) ⟨G', g, dr, tk', os⟩ := I1.laid (t' := tk') old M.dbig ⟨_, M.ns.at (fun o q => (gk d M.dne).trans q), fun f => relO_fld rv f⟩
  refine ⟨e, oe, fv, ⟨G', g, dr, tk', os⟩, _, .ref C, some d, rfl, J, fun b o q => ?_, ge, hoe, ⟨hc, hd, fun vs ev => ?_⟩, hdat, h1, ?_, rfl, I1.bare, raises_own T.exC T.tyC, q1 d (I1.hok.fresh M.dbig)⟩
  · by_cases hb : b = e
    · rw [hb] at q
      cases ge.symm.trans q
    · exact (gk b hb).symm.trans q
  · cases hdat.symm.trans ev
    exact h2
  · rw [upd_ne (Ne.symm M.dne)]
    exact I1.hok.fresh M.new
/-- raise X(e) -/
theorem ps_raiseErr {X : Cx} {C : Addr} {x fld : Str} {a : Expr} {ta : TA} {W : WX} {p pos pos2 : Pos} {k : Nat} (hc : X.calm = true) (T : Err X.prog X.w X.K X.mg x fld C) (hr : Room k X.A) (tk : L2N.Takes X W) (hg : Gl X x) (ha : PA X [a] ta) (hdb : (x == ("__debug__" : Str)) = false := by decide)
    (he : starEach (a :: []) X.env = (false, eval a X.env) :: starEach [] X.env := by rfl) (hpl : (backTo pos (starEach [] X.env)).any (·.1) = false := by rfl) :
    PS X (.Raise (some (.Call (.Name x p) [a] [] pos)) none pos2) (fun _ σ H => tMkErr C fld ta σ H fun cls d H' => W cls d σ H') := L2N.ps_raise hc tk (pmk_err T hr hg ha hdb he hpl)
theorem err_of {P : Program} {w : World} {K : PySem.W.Frag} {mg : Str → Option Value} {x qual : Str} {C fI : Addr} (T : ErrC P K mg x "part" qual sNoTask C fI) : Err P w K mg x "part" C :=
  ⟨T.gC, T.kC, T.exC, T.tyC, T.ga, T.gg, T.noN, T.hdC, fun X l G B hb hr q => made_NoTask T X l G B hb hr q⟩
end Du

set_option Elab.async false
set_option linter.all false
set_option maxRecDepth 100000
set_option maxHeartbeats 1000000
namespace Du
open PySem PySem.Spec PyProof.Rows L2
open L2N (Zn)
open L2H (RoomH Hot1 PinOk cxH inv_startH roomH_of)
/-- what isinstance asks of an error's class -/
structure ErrI (K : PySem.W.Frag) (C : Addr) : Prop where
  ga : PySem.W.findIn K (.ref C) "__getattribute__" = some (some (.builtin "BaseException.__getattribute__"))
  gg : PySem.W.findIn K (.ref C) "__getattr__" = some none
  exC : PySem.W.subIn K (.ref C) (.type "BaseException") = some true
  hdC : PySem.W.hasDictIn K C = true
  ha : PySem.W.findIn K (.ref C) "__class__" = some (some (.builtin "object.__class__"))
  hn : PySem.W.specialIn K (.builtin "object.__class__") "__get__" = some (some (.builtin "getset_descriptor.__get__"))
  ht : PySem.W.takesIn K (.builtin "object.__class__") = some true
  hm : PySem.W.mroIn K C (.type "object") = some true
/-- a pinned error with its dict -/
theorem err_at {X : Cx} {pins : List (Addr × Obj)} {σ : L2.St} {H : Hp} {s : Shared} {a C dd : Addr} {oe : Obj} {fs : List (Str × V)} (hp : (a, oe) ∈ X.pn) (hz : Zn (.ref C) (some dd) oe) (hf : ∃ vs, oe.data = .fields vs) (I : Inv X pins σ H s) (hd : H dd = some (.xd fs)) :
    ∃ (od : Obj) (mA : Str → Option Value), PySem.W.InstAt s.heap a oe C (some od) ∧ (∀ f, RelO (fs.lookup f) (mA f)) ∧ ∀ f, PySem.W.lookIn f od = some (mA f) := by
  obtain ⟨ha, _⟩ := I.pin (a, oe) (List.mem_append_left _ hp)
  obtain ⟨vs, hv⟩ := hf
  obtain ⟨mA, hns, hr⟩ := (show ObjOk X.prog X.w H s.heap dd (.xd fs) from I.hok dd _ hd)
  obtain ⟨od, ho, hl⟩ := lookIn_ns hns
  exact ⟨od, mA, ⟨ha, hz.1, by unfold PySem.W.notCls; rw [hv] <;> rfl, by rw [hz.2.1]; exact ho⟩, hr, hl⟩
/-- isinstance(e, c), isinstance(e, (c, ..)), e a pinned error -/
def rIsX (K : PySem.W.Frag) (C a dd : Addr) : List V → Hp → VK → Prop := fun xs H Q => ∃ fs : List (Str × V), H dd = some (.xd fs) ∧
  ((∃ (c : V) (cv : Value) (b : Bool), xs = [.ref a, c] ∧ ClsV c cv ∧ PySem.W.kitOne K (.ref C) cv = some b ∧ Q (.bl b) H) ∨ (∃ (tp : Addr) (cs : List V) (us : List Value) (b : Bool), xs = [.ref a, .ref tp] ∧ H tp = some (.tup cs) ∧ Paired ClsV cs us ∧ PySem.W.kitAny K (.ref C) us = some b ∧ Q (.bl b) H))
theorem call_isX {X : Cx} {a C dd : Addr} {oe : Obj} (T : ErrI X.K C) (hp : (a, oe) ∈ X.pn) (hz : Zn (.ref C) (some dd) oe) (hf : ∃ vs, oe.data = .fields vs) : CallR X (.builtin "isinstance") (rIsX X.K C a dd) := by
  intro pins s σ H xs us Q I r h
  obtain ⟨fs, hd, h⟩ := h
  obtain ⟨od, mA, J, _, _⟩ := err_at hp hz hf I hd
  have Z := PySem.W.kitx_exc (x := a) (ox := oe) (od := some od) (by obtain ⟨cd, hc, _⟩ := PySem.W.any_some T.hdC; rw [hc]; rfl) T.ga T.gg T.exC T.ha T.hn T.ht T.hm
  rcases h with ⟨c, cv, b, rfl, k, e, q⟩ | ⟨tp, cs, ws, b, rfl, hT, k, e, q⟩
  · obtain ⟨u1, u2, rfl, r1, r2⟩ := vals2 r
    cases (show u1 = Value.ref a from r1)
    cases k.eq r2
    exact PySem.W.kia_one Z I.kIn J e (fun z => nomatch z) fun tk => ⟨.bl b, H, I.tok tk, rfl, q⟩
  · obtain ⟨u1, u2, rfl, r1, r2⟩ := vals2 r
    cases (show u1 = Value.ref a from r1)
    cases (show u2 = Value.ref tp from r2)
    obtain ⟨_, its, rv, ⟨oc, odd, dt, sl⟩, h1, h2, n, h3⟩ := (show ObjOk X.prog X.w H s.heap tp (.tup cs) from I.hok tp _ hT)
    cases ClsV.all k rv
    simp only at h2 h3
    subst h2 h3
    exact PySem.W.kia_tup Z I.kIn J h1 e (fun z => nomatch z) fun tk => ⟨.bl b, H, I.tok tk, rfl, q⟩
/-- e.fld, e a pinned error -/
theorem pe_fldX {X : Cx} {a C dd : Addr} {oe : Obj} {fld : Str} {e : Expr} {te : TE} {pos : Pos} (T : ErrI X.K C) (hno : PySem.W.findIn X.K (.ref C) fld = some none) (hp : (a, oe) ∈ X.pn) (hz : Zn (.ref C) (some dd) oe) (hf : ∃ vs, oe.data = .fields vs) (he : PE X e te)
    (hb : attributeBase e fld X.env (eval e X.env) = eval e X.env := by rfl) : PE X (.Attribute e fld pos) (fun σ H Q => te σ H fun x H1 => x = .ref a ∧ ∃ (fs : List (Str × V)) (v : V), H1 dd = some (.xd fs) ∧ fs.lookup fld = some v ∧ Q v H1) := by
  refine ⟨fun pins s σ H Q I h => attr_of hb (thn (he.run pins s σ H _ I h) fun u s1 hh => ?_)⟩
  obtain ⟨x, H1, I1, rx, rfl, fs, v, hd, hl, q⟩ := hh
  cases (show u = Value.ref a from rx)
  obtain ⟨od, mA, J, hr, hlk⟩ := err_at hp hz hf I1 hd
  obtain ⟨u, hu, ru⟩ := RelO.some_of (v := v) (o := mA fld) (by rw [← hl]; exact hr fld)
  exact HandSPX.exc_get I1.kIn J T.ga T.gg T.exC (PySem.W.findObj_own T.hdC hno rfl (by rw [hlk, hu])) (handed_of ru) ⟨v, H1, I1.tok _, ru, q⟩
/-! a def that is handed the error that is being handled -/
structure FnE (P : Program) (w : World) (K : PySem.W.Frag) (mg : Str → Option Value) (base : Heap) (k : Nat) (f : Addr) (fd : FuncData) (ps : List Str) (sp : Addr × Obj → Sp) : Prop where
  len : ∀ p vs H Q, sp p vs H Q E0 → vs.length = ps.length
  run : ∀ (A : Around) (outer : List Env) (s : Shared) (H : Hp) (args : Args) (us : List Value) (vs : List V) (Q : VK) (p : Addr × Obj), RoomH k A → Hot1 A p → PinOk outer H s p → Env0 P w K mg base A outer s H → BindsTo s fd args (ps.zip us) → Vals vs us → sp p vs H Q E0 →
    codeAny (model P w) A (.call (.ref f) args) (CR CX0 outer P w H s Q E0) s
theorem fnE_of {P : Program} {w : World} {K : PySem.W.Frag} {mg : Str → Option Value} {base : Heap} {k : Nat} {x qual : Str} {st : Stmt} {f : Addr} {fd : FuncData} {N ps : List Str} {sp : Addr × Obj → Sp} (F : Fun K x qual st f fd) (S : FnScope N ps (defScope st)) (len : ∀ p vs H Q, sp p vs H Q E0 → vs.length = ps.length)
    (hbody : ∀ (cdv : Value) (A : Around) (outer : List Env) (s : Shared) (H : Hp) (vs : List V) (Q : VK) (p : Addr × Obj), Hot1 A p → RoomH k (A.deeper (envOfC qual (defScope st) s.heap.objs.size f cdv)) → sp p vs H Q E0 →
      ∃ t, PSs (cxH CX0 P w K mg base N qual (defScope st) f cdv A outer s H E0 p).nox (defBody st) t ∧ t { nx := fun _ H' => Q .non H', rt := Q } (L2.start N vs) H) : FnE P w K mg base (k + 1) f fd ps sp := by
  obtain ⟨oc, od, kV, doc, pm, an, cdv, ct, osl, rfl, lk, hcd⟩ := F.ex
  refine ⟨len, fun A outer s H args us vs Q p hr hot hpin e0 hb r hsp => ?_⟩
  have kept := fun b o e => (e0.bs b o e).1
  have KX : K.In s.heap := e0.mod.kin.keeps kept
  refine codeAny_call_function hr.depth (KX _ _ lk) rfl S.co S.gen rfl (PySem.W.codeRec_of KX hcd) (hb _ _ _ _ (wpAny_newFunctionEnv_cells S.kind (fun y hy => (S.par y.1 (List.of_mem_zip hy).1).imp id fun q => ⟨q, PySem.W.cellsFrom_some _ _ _ (.inl q)⟩) fun env he s1 x => ?_))
  subst he
  obtain ⟨t, ht, hq⟩ := hbody cdv A outer s H vs Q p hot (hr.deeper _) hsp
  have I := inv_startH (CX := CX0) (E := E0) S hpin e0 (len p vs H Q hsp) r x
  refine ⟨(e0.mod.nolimit.keeps kept).keeps x.toInCall.keep, codeAny_func (wpAny_mono (ht.nox.run [] s1 _ H _ I hq) (fun fl s' hs => ?_) fun _ _ z => z)⟩
  match fl, hs with
  | .ret u, ⟨v, σ', H', J, rv, q⟩ => exact ⟨v, H', J.os, J.bare, J.base, J.hok, rv, q⟩
  | .next, ⟨σ', H', J, q⟩ => exact ⟨V.non, H', J.os, J.bare, J.base, J.hok, rfl, q⟩
  | .brk, ⟨_, _, _, q⟩ => exact q.elim
  | .cont, ⟨_, _, _, q⟩ => exact q.elim
/-- f(e), e the error that is being handled -/
theorem pe_callE {X : Cx} {k : Nat} {f : Addr} {fd : FuncData} {ps : List Str} {sp : Addr × Obj → Sp} {x : Str} {q pos : Pos} {e : Expr} {es : List Expr} {t : TA} {p : Addr × Obj} (F : FnE X.prog X.w X.K X.mg X.base k f fd ps sp) (hr : RoomH k X.A) (hot : Hot1 X.A p) (hp : p ∈ X.pn) (hg : Gl X x) (hm : X.mg x = some (.ref f))
    (hk : PySem.W.keepIn X.K (.ref f) = true) (hb : Binds X.K fd ps []) (ha : PA X (e :: es) t) (hdb : (x == ("__debug__" : Str)) = false := by decide) (he : starEach (e :: es) X.env = (false, eval e X.env) :: starEach es X.env := by rfl) (hpl : (backTo pos (starEach es X.env)).any (·.1) = false := by rfl) :
    PE X (.Call (.Name x q) (e :: es) [] pos) (fun σ H Q => t σ H fun vs H1 => sp p vs H1 Q E0) := by
  refine ⟨fun pins s σ H Q I h => wpAny_Call_Name_kw (ld_glob I hg hm (PySem.W.callWith_K (h₀ := X.base) I.ok.mod.kin hk (thn (ha.run pos pins s σ H _ I h) fun us s1 ⟨vs, H1, I1, r, q⟩ => ⟨I1.kIn, ?_⟩) he hpl) hdb)⟩
  have b := hb s1 us I1.kIn (by rw [List.append_nil, ← r.length]; exact F.len _ _ _ _ q)
  rw [List.append_nil] at b
  have P1 := I1.pin p (List.mem_append_left _ hp)
  refine wpAny_call (codeAny_mono (F.run X.A X.stack s1 H1 ⟨us, []⟩ us vs Q p hr hot ⟨P1.1, P1.2.1, fun m => (List.mem_cons.mp (I1.stkSub p.1 m)).elim P1.2.2.1 P1.2.2.2.1, P1.2.2.2.2⟩ I1.env0 b r q) fun z s' hq => ?_)
  match z, hq with
  | .error _, hq => exact hq.elim
  | .ok (.ret u), hq => exact I1.after hq
  | .ok .next, hq => exact hq.elim
  | .ok .brk, hq => exact hq.elim
  | .ok .cont, hq => exact hq.elim
end Du

set_option Elab.async false
set_option linter.all false
set_option maxRecDepth 100000
set_option maxHeartbeats 1000000
namespace Du
open PySem L2 PyProof.Rows
section
variable {X : Cx} {k : Nat} {f C : Addr} {fd : FuncData} {ps : List Str} {sp : Sp}
/-- what an own __repr__ promises of the object at a: the text t -/
def ReprSp (sp : Sp) (H0 : Hp) (a : Addr) (t : Str) : Prop := ∀ H, Same H0 H → ∀ Q : VK, (∀ H', Same H H' → Q (.str t) H') → sp [.ref a] H Q E0
/-- a class with an own __repr__ -/
structure OwnR (P : Program) (w : World) (K : PySem.W.Frag) (mg : Str → Option Value) (base : Heap) (k : Nat) (C : Addr) (sp : Sp) : Prop where
  ex : ∃ (f : Addr) (fd : FuncData) (ps : List Str), FnOk P w K mg base CX0 k f fd ps sp ∧ Binds K fd ps [] ∧ PySem.W.findIn K (.ref C) "__repr__" = some (some (.ref f)) ∧ PySem.W.isFn K (.ref f) = true
/-- repr(x), x of an own class -/
theorem call_reprO (R : OwnR X.prog X.w X.K X.mg X.base k C sp) (hr : Room (k + 1) X.A) : CallR X (.builtin "repr") (fun xs H Q => ∃ (a dx : Addr) (fs : List (Str × V)) (t : Str), xs = [.ref a] ∧ H a = some (.ins C dx fs) ∧ ReprSp sp H a t ∧ ∀ H', Same H H' → Q (.str t) H') := by
  obtain ⟨f, fd, ps, F, hb, hs, hf⟩ := R.ex
  intro pins s σ H xs us Q I r h
  obtain ⟨a, dx, fs, t, rfl, ha, hsp, q⟩ := h
  obtain ⟨u, rfl, ru⟩ := vals1 r
  cases ru
  obtain ⟨mA, J, _⟩ := ins_get I.hok ha
  obtain ⟨od, J, _⟩ := J.look
  obtain ⟨m, hF⟩ := I.fr
  refine PySem.W.repr_K (by have := hr.un; show X.A.units + 1 < cLine; omega) hF I.ok.mod.kin J hs hf (wpAny_mono (own_call F hb ⟨hr.in1, rfl⟩ I (vs := [.ref a]) (Q := fun v H' => v = .str t ∧ Q (.str t) H') (.cons rfl .nil) (hsp H (Same.refl _) _ fun H' s' => ⟨rfl, q H' s'⟩)) (fun v s' q => ?_) fun _ _ z => z)
  obtain ⟨z, H', I', rz, rfl, q⟩ := q
  obtain ⟨tk, rfl⟩ := rz
  exact ⟨.str t, H', I', ⟨_, rfl⟩, q⟩
/-- v is shown as t by repr, whatever else is being shown -/
def SItem (X : Cx) (n : Nat) (H0 : Hp) (v : V) (t : Str) : Prop := ∀ (A : Around) (g : List Code) (pins : List (Addr × Obj)) (σ : L2.St) (s : Shared) (H : Hp) (u : Value) (Q : Str → Shared → Prop) (base : Nat), A.guards = some g → (∀ b, v = .ref b → Clear g b) → Same H0 H → base + t.length ≤ sizeLine → Sub X n A → Inv X pins σ H s → RelV v u →
  (∀ s' H', Same H H' → Inv X pins σ H' s' → Q t s') → wpAny (model X.prog X.w) A (pyReprUnder base u) Q X.xe s
theorem SItem.of_is {n : Nat} {H0 : Hp} {v : V} {t : Str} (h : ∀ u, RelV v u → ReprIs X.prog X.w u t) : SItem X n H0 v t := fun A g pins σ s H u Q base _ _ _ hb _ I r q => h u r base hb A X.xe s Q fun tk => q _ H (Same.refl _) (I.tok tk)
theorem SItem.int {n : Nat} {H0 : Hp} {i : Int} (h : i.natAbs.log2 < 1920) : SItem X n H0 (.int i) (toString i) := .of_is fun u r => by
  obtain ⟨t, rfl⟩ := r
  exact ReprIs.int t h
theorem SItem.str {n : Nat} {H0 : Hp} {z : Str} (h : (reprText z).length ≤ sizeLine) : SItem X n H0 (.str z) (reprText z) := .of_is fun u r => by
  obtain ⟨t, rfl⟩ := r
  exact ReprIs.str z t h
theorem SItem.bl {n : Nat} {H0 : Hp} {b : Bool} : SItem X n H0 (.bl b) (if b then "True" else "False") := .of_is fun u r => by
  cases r
  exact ReprIs.bool b
theorem SItem.non {n : Nat} {H0 : Hp} : SItem X n H0 .non "None" := .of_is fun u r => by
  cases r
  exact ReprIs.none
theorem SItem.own {H0 : Hp} {a dx : Addr} {fs : List (Str × V)} {t : Str} (R : OwnR X.prog X.w X.K X.mg X.base k C sp) (ha : H0 a = some (.ins C dx fs)) (hsp : ReprSp sp H0 a t) : SItem X k H0 (.ref a) t := by
  obtain ⟨f, fd, ps, F, hb, hs, hf⟩ := R.ex
  intro A g pins σ s H u Q base _ _ s0 hbase sb I r q
  cases (show u = Value.ref a from r)
  obtain ⟨mA, J, _⟩ := ins_get I.hok (s0 _ _ ha)
  obtain ⟨od, J, _⟩ := J.look
  have hu : A.units < cLine := by have := sb.room.un; omega
  refine wpAny_pyReprUnder_ref (by omega) ?_
  unfold pyReprObjUnder pyReprObjBy
  refine wpAny_bind (wpAny_cRoomFor hu (wpAny_bind (wpAny_bind (J.type.here ((PySem.W.looks_findIn I.kIn hs).here ?_)))))
  show wpAny _ _ (if (some (Value.ref f)).isNone = true then _ else _) _ _ _
  rw [if_neg (by simp)]
  have go : wpAny (model X.prog X.w) A (call (.ref f) [.ref a]) (fun v s' => ∃ tk, v = .str t tk ∧ Q t s') X.xe s := wpAny_mono (own_call F hb sb I (vs := [.ref a]) (Q := fun v H' => v = .str t ∧ Same H H') (.cons rfl .nil) (hsp H s0 _ fun H' s' => ⟨rfl, s'⟩)) (fun v s' z => by
    obtain ⟨z, H', I', rz, rfl, sm⟩ := z
    obtain ⟨tk, rfl⟩ := rz
    exact ⟨tk, rfl, q s' H' sm I'⟩) fun _ _ z => z
  refine wpAny_bind (m := callSpecialIfBoundBy? _ (.ref a) (Str.ofString "__repr__")) ?_
  simp only [callSpecialIfBoundBy?, bindSpecialIfBound?]
  refine wpAny_holding (wpAny_bind (wpAny_bind (wpAny_bind (J.type.here ((PySem.W.looks_findIn I.kIn hs).here (wpAny_bind (wpAny_askSetting (wpAny_ite ?_))))))))
  have fin : wpAny (model X.prog X.w) A (call (.ref f) ([.ref a] ++ []) >>= fun v => pure (some v)) (fun r s' => wpAny (model X.prog X.w) A (match r with
      | some r => do
        if ← isInstance r (.type "str") then pure r else raiseError "TypeError" s!"__repr__ returned non-string (type {← typeNameOf r})"
      | none => unsupported "repr:special-get-raises") (fun v s' => ∃ x u, v = .str x u ∧ Q x s') X.xe s') X.xe s := by
    refine wpAny_bind (wpAny_mono go (fun v s' z => ?_) fun _ _ z => z)
    obtain ⟨tk, rfl, q'⟩ := z
    exact wpAny_pure (wpAny_bind (wpAny_isInstance (T := "str") (b := true) rfl isSubtype_str_str (wpAny_pure ⟨t, tk, rfl, q'⟩)))
  split
  · exact wpAny_bind ((PySem.W.bind_fn I.kIn _ (beq_iff_eq.mp hf)).here (wpAny_pure (by exact fin)))
  · exact wpAny_tryCatch (wpAny_bind ((PySem.W.bind_fn I.kIn _ (beq_iff_eq.mp hf)).here (wpAny_pure (by exact fin))))
/-- item by item -/
inductive SItems (X : Cx) (n : Nat) (H : Hp) : List V → List Str → Prop
  | nil : SItems X n H [] []
  | cons {v : V} {t : Str} {vs : List V} {ts : List Str} : SItem X n H v t → SItems X n H vs ts → SItems X n H (v :: vs) (t :: ts)
theorem SItems.len {n : Nat} {H : Hp} {vs : List V} {ts : List Str} (h : SItems X n H vs ts) : ts.length = vs.length := by
  induction h with
  | nil => rfl
  | cons _ _ ih => simp [ih]
theorem tupFoldJ {n : Nat} {H0 : Hp} {A : Around} {g : List Code} {pins : List (Addr × Obj)} {σ : L2.St} (sb : Sub X n A) (hg : A.guards = some g) : ∀ (vs : List V) (ts : List Str) (us : List Value) (acc : Array Str) (m : Nat) (s : Shared) (H : Hp) (Q : (Array Str × Nat) → Shared → Prop), SItems X n H0 vs ts → (∀ v ∈ vs, ∀ b, v = .ref b → Clear g b) → Vals vs us → Same H0 H → Inv X pins σ H s → m + piled ts ≤ sizeLine →
    (∀ s' H', Same H H' → Inv X pins σ H' s' → Q ⟨acc ++ ts.toArray, m + piled ts⟩ s') → wpAny (model X.prog X.w) A (forIn us (⟨acc, m⟩ : (Array Str × Nat)) tupBody) Q X.xe s := by
  intro vs
  induction vs with
  | nil =>
    intro ts us acc m s H Q hT _ hv _ I hn q
    cases hT
    cases hv
    rw [List.forIn_nil]
    exact wpAny_pure (by simpa [piled] using q s H (Same.refl _) I)
  | cons v vs ih =>
    intro ts us acc m s H Q hT hc hv s0 I hn q
    cases hT with
    | cons hx hl =>
      rename_i t ts'
      cases hv with
      | cons r rs =>
        rw [piled_cons] at hn
        rw [List.forIn_cons]
        refine wpAny_bind (wpAny_bind (hx A g pins σ s H _ _ (m + 1) hg (hc v List.mem_cons_self) s0 (by omega) sb I r fun s' H' sm I' => wpAny_pure ?_))
        refine ih ts' _ (acc.push t) (m + (t.length + 2)) s' H' Q hl (fun v hv => hc v (List.mem_cons_of_mem _ hv)) rs (s0.trans sm) I' (by omega) fun s2 H2 sm2 I2 => ?_
        have e : m + piled (t :: ts') = m + (t.length + 2) + piled ts' := by
          rw [piled_cons]
          omega
        have q' := q s2 H2 (sm.trans sm2) I2
        rw [e] at q'
        simpa using q'
/-- repr of a tuple, shown item by item, where nothing is being shown -/
theorem call_reprT {n : Nat} (hg : X.A.guards = some []) (hr : Room (n + 2) X.A) : CallR X (.builtin "repr") (fun xs H Q => ∃ (a : Addr) (vs : List V) (ts : List Str), xs = [.ref a] ∧ H a = some (.tup vs) ∧ SItems X n H vs ts ∧ (∀ v ∈ vs, v ≠ .ref a) ∧ (tupleText ts).length ≤ sizeLine ∧ ∀ H', Same H H' → Q (.str (tupleText ts)) H') := by
  intro pins s σ H xs us Q I r h
  obtain ⟨a, vs, ts, rfl, ha, hT, hne, hz, q⟩ := h
  obtain ⟨u, rfl, ru⟩ := vals1 r
  cases ru
  obtain ⟨_, its, rv, ⟨oc, odd, dt, sl⟩, h1, h2, m, h3⟩ := (show ObjOk X.prog X.w H s.heap a (.tup vs) from I.hok a _ ha)
  simp only at h2 h3
  subst h2 h3
  have hTy : s.TypeIs (.ref a) "tuple" := ⟨_, h1, rfl⟩
  have hun := hr.un
  have hp := piled_le_tupleText ts
  have hlen : ts.length = its.length := hT.len.trans rv.length
  refine call_repr_slot (by omega) hTy F.slot_tuple_repr ?_
  refine wpAny_call (codeAny_call_builtin_own (Code.quiet_builtin _ (by decide +kernel)) F.entry_tuple_repr (F.slot_tuple_repr.check _ _ _ _ _ _ _ _ hTy (F.args_tuple_repr_1 _) ?_))
  show wpOwn _ _ _ (Builtin.tupleReprAt 0 ⟨[.ref a], []⟩) _ _ _
  rw [tuple_repr_tree, tupleReprUnderWay_eq]
  refine wpOwn_bind (wpOwn_stackTailAny (A := X.A.in1) hg (tupGuardF_off _) (tupGuardF_pos _) (wpOwn_of_wpAny ?_))
  show wpAny _ _ (tupleReprRest 0 (.ref a)) _ _ s
  unfold tupleReprRest Builtin.Tuple.tupleItemsOf
  refine wpAny_bind (wpAny_bind (wpAny_seqItems h1 rfl (wpAny_pure ?_)))
  rw [← Array.forIn_toList]
  have sb : Sub X n (X.A.in1.under (.builtin "tuple.__repr__" ⟨[.ref a], []⟩)) := by
    refine ⟨⟨hr.hd, ?_, ?_⟩, rfl⟩
    · have := hr.dp
      have hw : (Code.builtin "tuple.__repr__" ⟨[.ref a], []⟩).weight = 1 := by first | rfl | (show 0 + 0 + (if (Code.builtin "tuple.__repr__" ⟨[.ref a], []⟩).isGuard then 1 else 0) + 0 = 1; rw [isGuard_tuple_repr]; rfl)
      show X.A.depth + (Code.builtin "tuple.__repr__" ⟨[.ref a], []⟩).weight + 3 * n + 5 < _
      omega
    · rw [units_under_tuple_repr]
      show X.A.units + 1 + 1 + 16 * n + 200 < _
      omega
  refine wpAny_bind (tupFoldJ sb (guards_under_guard (isGuard_tuple_repr _) hg) vs ts _ _ _ s H _ hT (fun v hv b e => (Clear.nil b).cons (a := a) fun z => hne v hv (by rw [e, z])) rv (Same.refl _) I (by omega) fun s' H' sm I' => ?_)
  refine wpAny_bind (wpAny_mkStr (wpAny_pure ?_) (by simpa [tupleText, hlen] using hz))
  have q' := q H' sm
  refine ⟨_, _, rfl, .str (tupleText ts), H', I'.tok _, ⟨s'.toks, ?_⟩, q'⟩
  simp [tupleText, hlen]
end
end Du

set_option Elab.async false
set_option linter.all false
set_option maxRecDepth 100000
set_option maxHeartbeats 1000000
namespace Du
open PySem L2 PyProof.Rows
/-- what is shown whatever else is being shown: as t -/
inductive It (P : Program) (w : World) (K : PySem.W.Frag) (mg : Str → Option Value) (base : Heap) (n : Nat) (H : Hp) : V → Str → Prop
  | non : It P w K mg base n H .non "None"
  | bl (b : Bool) : It P w K mg base n H (.bl b) (if b then "True" else "False")
  | int (i : Int) : i.natAbs.log2 < 1920 → It P w K mg base n H (.int i) (toString i)
  | str (z : Str) : (reprText z).length ≤ sizeLine → It P w K mg base n H (.str z) (reprText z)
  | own {C a dx : Addr} {k : Nat} {sp : Sp} {fs : List (Str × V)} {t : Str} : OwnR P w K mg base k C sp → k ≤ n → H a = some (.ins C dx fs) → ReprSp sp H a t → It P w K mg base n H (.ref a) t
  | emp {a : Addr} : H a = some (.dK []) → It P w K mg base n H (.ref a) "{}"
inductive Its (P : Program) (w : World) (K : PySem.W.Frag) (mg : Str → Option Value) (base : Heap) (n : Nat) (H : Hp) : List V → List Str → Prop
  | nil : Its P w K mg base n H [] []
  | cons {v : V} {t : Str} {vs : List V} {ts : List Str} : It P w K mg base n H v t → Its P w K mg base n H vs ts → Its P w K mg base n H (v :: vs) (t :: ts)
/-- v is shown as t by repr -/
inductive Sh (P : Program) (w : World) (K : PySem.W.Frag) (mg : Str → Option Value) (base : Heap) (n : Nat) (H : Hp) : V → Str → Prop
  | it {v : V} {t : Str} : It P w K mg base n H v t → Sh P w K mg base n H v t
  | dat {a : Addr} {d : PyData} : Dp K H (.ref a) d → d.showable = true → d.hasDict = false → d.depth ≤ 64 → d.shown.length ≤ sizeLine → Sh P w K mg base n H (.ref a) d.shown
  | tup {a : Addr} {vs : List V} {ts : List Str} : H a = some (.tup vs) → Its P w K mg base n H vs ts → (∀ v ∈ vs, v ≠ .ref a) → (tupleText ts).length ≤ sizeLine → Sh P w K mg base n H (.ref a) (tupleText ts)
section
variable {P : Program} {w : World} {K : PySem.W.Frag} {mg : Str → Option Value} {base : Heap} {n : Nat} {H H' : Hp} {v : V} {t : Str}
theorem ReprSp.same {sp : Sp} {a : Addr} (h : ReprSp sp H a t) (s : Same H H') : ReprSp sp H' a t := fun H2 s2 => h H2 (s.trans s2)
theorem It.same (h : It P w K mg base n H v t) (s : Same H H') : It P w K mg base n H' v t := by
  cases h with
  | non => exact .non
  | bl b => exact .bl b
  | int i h => exact .int i h
  | str z h => exact .str z h
  | own R hk ha hs => exact .own R hk (s _ _ ha) (hs.same s)
  | emp h => exact .emp (s _ _ h)
theorem Its.same {vs : List V} {ts : List Str} (h : Its P w K mg base n H vs ts) (s : Same H H') : Its P w K mg base n H' vs ts := by
  induction h with
  | nil => exact .nil
  | cons h _ ih => exact .cons (h.same s) ih
mutual
theorem dp_same (s : Same H H') : ∀ (d : PyData) (v : V), Dp K H v d → Dp K H' v d
  | .none, _, h => by cases h; exact .non
  | .bool _, _, h => by cases h; exact .bl _
  | .int _, _, h => by cases h; exact .int _
  | .str _, _, h => by cases h; exact .str _
  | .list ds, _, h => by
    cases h with
    | lst q a => exact .lst (q.ext s) (dps_same s ds _ a)
  | .tuple ds, _, h => by
    cases h with
    | tup q a => exact .tup (q.ext s) (dps_same s ds _ a)
  | .dict _, _, h => nomatch h
theorem dps_same (s : Same H H') : ∀ (ds : List PyData) (vs : List V), DpAll K H vs ds → DpAll K H' vs ds
  | [], _, h => by cases h; exact .nil
  | d :: ds, _, h => by
    cases h with
    | cons h1 h2 => exact .cons (dp_same s d _ h1) (dps_same s ds _ h2)
end
theorem Sh.same (h : Sh P w K mg base n H v t) (s : Same H H') : Sh P w K mg base n H' v t := by
  cases h with
  | it h => exact .it (h.same s)
  | dat h a b c d => exact .dat (dp_same s _ _ h) a b c d
  | tup h i a b => exact .tup (s _ _ h) (i.same s) a b
end
section
variable {X : Cx} {n : Nat} {H : Hp} {v : V} {t : Str}
theorem emp_reprK {pins : List (Addr × Obj)} {σ : L2.St} {s : Shared} {a : Addr} (I : Inv X pins σ H s) (h : H a = some (.dK [])) : ReprK X.prog X.w [a] s.heap 1 (.ref a) "{}" := by
  obtain ⟨_, hsm, vs, hkv, o, es, ep, ho, hx, hd, _, hp, _⟩ := dk_of I.hok h
  cases hkv
  have e : es.toList = [] := by
    generalize es.toList = l at hp
    cases hp
    rfl
  have z : dictText [] = ("{}" : Str) := by decide +kernel
  rw [← z]
  exact ReprK.dict ho hx.1 hd hsm (fun q => nomatch q) (by rw [e]; exact .nil)
theorem It.item (h : It X.prog X.w X.K X.mg X.base n H v t) : SItem X n H v t := by
  cases h with
  | non => exact .non
  | bl b => exact .bl
  | int i h => exact .int h
  | str z h => exact .str h
  | own R hk ha hs => exact fun A g pins σ s H2 u Q base hg hc s0 hb sb I r q => SItem.own R ha hs A g pins σ s H2 u Q base hg hc s0 hb (sb.mono hk) I r q
  | emp h =>
    intro A g pins σ s H2 u Q base hg hc s0 hb sb I r q
    cases (show u = Value.ref _ from r)
    have hun := sb.room.un
    exact emp_reprK I (s0 _ _ h) base hb A g X.xe s Q hg (fun b hb => by rw [List.mem_singleton.mp hb]; exact hc _ rfl) (by omega) (fun _ _ e => e) fun h' tk k => q _ H2 (Same.refl _) (I.kept k)
theorem Its.items {vs : List V} {ts : List Str} (h : Its X.prog X.w X.K X.mg X.base n H vs ts) : SItems X n H vs ts := by
  induction h with
  | nil => exact .nil
  | cons h _ ih => exact .cons h.item ih
/-- repr(v) -/
theorem call_repr (hg : X.A.guards = some []) (hr : Room (n + 2) X.A) : CallR X (.builtin "repr") (fun xs H Q => ∃ (v : V) (t : Str), xs = [v] ∧ Sh X.prog X.w X.K X.mg X.base n H v t ∧ ∀ H', Same H H' → Q (.str t) H') := by
  intro pins s σ H xs us Q I r h
  obtain ⟨v, t, rfl, hs, q⟩ := h
  have hun := hr.un
  cases hs with
  | it h =>
    cases h with
    | non =>
      obtain ⟨u, rfl, ru⟩ := vals1 r
      cases ru
      exact P.repr_of_none ⟨.str "None", H, I.tok _, ⟨_, rfl⟩, q H (Same.refl _)⟩
    | bl b =>
      obtain ⟨u, rfl, ru⟩ := vals1 r
      cases ru
      exact P.repr_of_bool ⟨.str _, H, I.tok _, ⟨_, rfl⟩, q H (Same.refl _)⟩
    | int i h =>
      obtain ⟨u, rfl, ru⟩ := vals1 r
      obtain ⟨tk, rfl⟩ := ru
      exact P.repr_of_int h ⟨.str _, H, I.tok _, ⟨_, rfl⟩, q H (Same.refl _)⟩
    | str z h =>
      obtain ⟨u, rfl, ru⟩ := vals1 r
      obtain ⟨tk, rfl⟩ := ru
      exact P.repr_of_str ⟨.str _, H, I.tok _, ⟨_, rfl⟩, q H (Same.refl _)⟩ h
    | own R hk ha hs => exact call_reprO R (hr.mono (by omega)) pins s σ H _ us Q I r ⟨_, _, _, _, rfl, ha, hs, q⟩
    | emp h =>
      obtain ⟨u, rfl, ru⟩ := vals1 r
      cases ru
      obtain ⟨_, hsm, vs, hkv, o, es, ep, ho, hx, hd, _, hp, _⟩ := dk_of I.hok h
      cases hkv
      have e : es.toList = [] := by
        generalize es.toList = l at hp
        cases hp
        rfl
      have rd : Reads s.heap (.ref _) (.dict []) _ := .dict (kvs := []) ho hx.1 hd (by rw [e]; exact .nil) (by rw [e]; exact .nil)
      have z : PyData.shown (.dict []) = ("{}" : Str) := by decide +kernel
      refine repr_of_reads' rd rfl (fun _ hm => ?_) hg (by show X.A.units + (0 + 1 + 1) < cLine; omega) (fun _ _ e => e) (fun h' u tk hk => ⟨.str "{}", H, I.kept hk, ⟨u, by rw [z]⟩, q H (Same.refl _)⟩) (by rw [z]; decide +kernel)
      simp only [List.append_nil, List.mem_singleton] at hm
      rw [← hm] at hsm
      simp at hsm
  | dat h a b c d => exact call_reprD hg (by omega) pins s σ H _ us Q I r ⟨_, _, rfl, h, a, b, c, d, q H (Same.refl _)⟩
  | tup h i a b => exact call_reprT hg hr pins s σ H _ us Q I r ⟨_, _, _, rfl, h, i.items, a, b, q⟩
end
end Du

set_option Elab.async false
set_option linter.all false
set_option maxRecDepth 100000
set_option maxHeartbeats 1000000
namespace Du
open PySem L2 PyProof.Rows
open L2N (Zn)
open L2H (RoomH Hot1 PinOk cxH roomH_of)
/-- o.m(k = v, ..) -/
def tMethK (C : Addr) (m : Str) (n : Nat) (sp : Sp) (gV : List V → List V → List V) (E : XK) (ta : TE) (tk : TA) : TE := fun σ H Q => ta σ H fun x H1 => ∃ a dx fs, x = .ref a ∧ H1 a = some (.ins C dx fs) ∧ fs.lookup m = none ∧ tk σ H1 fun zs H2 => zs.length = n ∧ sp (gV [.ref a] zs) H2 Q E
theorem pe_methK0 {X : Cx} {CX : CXT} {k : Nat} {f C : Addr} {fd : FuncData} {ps ks : List Str} {sp : Sp} {E : XK} {m : Str} {o : Expr} {kws : List Keyword} {ta : TE} {tk : TA} {apos pos : Pos} {g : List Value → List Value → List Value} {gV : List V → List V → List V} {pl : Sem Bool}
    (he : PE X o ta) (c : Cls X.K C) (hm : Meth X.K C m f) (F : FnOk X.prog X.w X.K X.mg X.base CX k f fd ps sp) (hr : Room k X.A) (hb : KBn X.K fd ps 1 ks g gV) (hx : Passes CX X E) (hkw : PK X kws tk)
    (hall : (backToKw pos (keywordEach kws X.env)).all (·.1.isSome) = true := by rfl) (hks : (backToKw pos (keywordEach kws X.env)).filterMap (·.1) = ks := by rfl)
    (hpl : ((backTo pos (starEach [] X.env)).any (·.1) || (backToKw pos (keywordEach kws X.env)).any (·.1.isNone)) = false := by rfl)
    (ht : eval (.Call (.Attribute o m apos) [] kws pos) X.env = (do
      let ov ← eval o X.env
      standAt apos.atName
      let (f, first) ← holding [ov] (getMethod ov m pl)
      callWith pos f first (backTo pos (starEach [] X.env)) (backToKw pos (keywordEach kws X.env))) := by rfl) : PE X (.Call (.Attribute o m apos) [] kws pos) (tMethK C m ks.length sp gV E ta tk) := by
  refine ⟨fun pins s σ H Q I h => PySem.W.methodCall_KW (pl := pl) (thn (he.run pins s σ H _ I h) fun u s1 ⟨x, H1, I1, rx, a, dx, fs, ex, ea, l, q⟩ => ?_) ht⟩
  subst ex
  obtain rfl : u = Value.ref a := rx
  refine getmeth_ok I1 ea c hm l (PySem.W.callWith_KW0 (first := [.ref a]) (h₀ := X.base) I.ok.mod.kin hm.kp hall ?_ hpl)
  refine thn (hkw.run pos pins s1 σ H1 _ I1 q) fun ws s2 ⟨zs, H2, I2, rz, l2, q2⟩ => ⟨I2.kIn, ?_⟩
  rw [hks]
  have r1 : Vals [V.ref a] [Value.ref a] := .cons rfl .nil
  refine wpAny_call (codeAny_mono (F.run X.A X.stack s2 H2 ⟨[Value.ref a], ks.zip ws⟩ (g [Value.ref a] ws) (gV [.ref a] zs) Q E hr I2.env0 (hb.to s2 [Value.ref a] ws I2.kIn rfl (rz.length.symm.trans l2)) (hb.rel r1 rz) q2) fun r s' hq => ?_)
  match r, hq with
  | .error e, hq => exact hx pins σ H2 s2 e s' I2 hq
  | .ok (.ret u), hq => exact I2.after hq
  | .ok .next, hq => exact hq.elim
  | .ok .brk, hq => exact hq.elim
  | .ok .cont, hq => exact hq.elim
/-- o.m(k = v, ..) in a try: what is raised may be seen with the slots as they are -/
def tMethKT (C : Addr) (m : Str) (n : Nat) (sp : Sp) (gV : List V → List V → List V) (E : L2.St → XK) (ta : TE) (tk : TA) : TE := fun σ H Q => ta σ H fun x H1 => ∃ a dx fs, x = .ref a ∧ H1 a = some (.ins C dx fs) ∧ fs.lookup m = none ∧ tk σ H1 fun zs H2 => zs.length = n ∧ sp (gV [.ref a] zs) H2 Q (E σ)
theorem pe_methKT0 {X : Cx} {CX : CXT} {k : Nat} {f C : Addr} {fd : FuncData} {ps ks : List Str} {sp : Sp} {E : L2.St → XK} {m : Str} {o : Expr} {kws : List Keyword} {ta : TE} {tk : TA} {apos pos : Pos} {g : List Value → List Value → List Value} {gV : List V → List V → List V} {pl : Sem Bool}
    (he : PE X o ta) (c : Cls X.K C) (hm : Meth X.K C m f) (F : FnOk X.prog X.w X.K X.mg X.base CX k f fd ps sp) (hr : Room k X.A) (hb : KBn X.K fd ps 1 ks g gV) (hx : ∀ σ, PassesAt CX X σ (E σ)) (hkw : PK X kws tk)
    (hall : (backToKw pos (keywordEach kws X.env)).all (·.1.isSome) = true := by rfl) (hks : (backToKw pos (keywordEach kws X.env)).filterMap (·.1) = ks := by rfl)
    (hpl : ((backTo pos (starEach [] X.env)).any (·.1) || (backToKw pos (keywordEach kws X.env)).any (·.1.isNone)) = false := by rfl)
    (ht : eval (.Call (.Attribute o m apos) [] kws pos) X.env = (do
      let ov ← eval o X.env
      standAt apos.atName
      let (f, first) ← holding [ov] (getMethod ov m pl)
      callWith pos f first (backTo pos (starEach [] X.env)) (backToKw pos (keywordEach kws X.env))) := by rfl) : PE X (.Call (.Attribute o m apos) [] kws pos) (tMethKT C m ks.length sp gV E ta tk) := by
  refine ⟨fun pins s σ H Q I h => PySem.W.methodCall_KW (pl := pl) (thn (he.run pins s σ H _ I h) fun u s1 ⟨x, H1, I1, rx, a, dx, fs, ex, ea, l, q⟩ => ?_) ht⟩
  subst ex
  obtain rfl : u = Value.ref a := rx
  refine getmeth_ok I1 ea c hm l (PySem.W.callWith_KW0 (first := [.ref a]) (h₀ := X.base) I.ok.mod.kin hm.kp hall ?_ hpl)
  refine thn (hkw.run pos pins s1 σ H1 _ I1 q) fun ws s2 ⟨zs, H2, I2, rz, l2, q2⟩ => ⟨I2.kIn, ?_⟩
  rw [hks]
  have r1 : Vals [V.ref a] [Value.ref a] := .cons rfl .nil
  refine wpAny_call (codeAny_mono (F.run X.A X.stack s2 H2 ⟨[Value.ref a], ks.zip ws⟩ (g [Value.ref a] ws) (gV [.ref a] zs) Q (E σ) hr I2.env0 (hb.to s2 [Value.ref a] ws I2.kIn rfl (rz.length.symm.trans l2)) (hb.rel r1 rz) q2) fun r s' hq => ?_)
  match r, hq with
  | .error e, hq => exact hx σ pins H2 s2 e s' I2 hq
  | .ok (.ret u), hq => exact I2.after hq
  | .ok .next, hq => exact hq.elim
  | .ok .brk, hq => exact hq.elim
  | .ok .cont, hq => exact hq.elim
/-- o.m(e, ..) in a try -/
def tMethT (C : Addr) (m : Str) (sp : Sp) (E : L2.St → XK) (ta : TE) (t : TA) : TE := fun σ H Q => ta σ H fun x H1 => ∃ a dx fs, x = .ref a ∧ H1 a = some (.ins C dx fs) ∧ fs.lookup m = none ∧ t σ H1 fun vs H2 => sp (.ref a :: vs) H2 Q (E σ)
theorem pe_methT {X : Cx} {CX : CXT} {k : Nat} {f C : Addr} {fd : FuncData} {ps : List Str} {sp : Sp} {E : L2.St → XK} {m : Str} {o e : Expr} {es : List Expr} {ta : TE} {t : TA} {apos pos : Pos} {pl : Sem Bool}
    (he : PE X o ta) (c : Cls X.K C) (hm : Meth X.K C m f) (F : FnOk X.prog X.w X.K X.mg X.base CX k f fd ps sp) (hr : Room k X.A) (hb : Binds X.K fd ps []) (hx : ∀ σ, PassesAt CX X σ (E σ)) (ha : PA X (e :: es) t)
    (hst : starEach (e :: es) X.env = (false, eval e X.env) :: starEach es X.env := by rfl) (hpl : (backTo pos (starEach es X.env)).any (·.1) = false := by rfl)
    (ht : eval (.Call (.Attribute o m apos) (e :: es) [] pos) X.env = (do
      let ov ← eval o X.env
      standAt apos.atName
      let (f, first) ← holding [ov] (getMethod ov m pl)
      callWith pos f first (backTo pos (starEach (e :: es) X.env)) (backToKw pos (keywordEach [] X.env))) := by rfl) : PE X (.Call (.Attribute o m apos) (e :: es) [] pos) (tMethT C m sp E ta t) := by
  refine ⟨fun pins s σ H Q I h => PySem.W.methodCall_KW (pl := pl) (thn (he.run pins s σ H _ I h) fun u s1 ⟨x, H1, I1, rx, a, dx, fs, ex, ea, l, q⟩ => ?_) ht⟩
  subst ex
  obtain rfl : u = Value.ref a := rx
  refine getmeth_ok I1 ea c hm l (PySem.W.callWith_K (first := [.ref a]) (h₀ := X.base) I.ok.mod.kin hm.kp (thn (ha.run pos pins s1 σ H1 _ I1 q) fun us s2 ⟨vs, H2, I2, r, q2⟩ => ⟨I2.kIn, ?_⟩) hst hpl)
  exact run_fnS (us := .ref a :: us) (vs := .ref a :: vs) F hr hb (hx σ) I2 (.cons rfl r) q2
/-- o.m() in a try -/
theorem pe_methT0 {X : Cx} {CX : CXT} {k : Nat} {f C : Addr} {fd : FuncData} {ps : List Str} {sp : Sp} {E : L2.St → XK} {m : Str} {o : Expr} {ta : TE} {apos pos : Pos} {pl : Sem Bool}
    (he : PE X o ta) (c : Cls X.K C) (hm : Meth X.K C m f) (F : FnOk X.prog X.w X.K X.mg X.base CX k f fd ps sp) (hr : Room k X.A) (hb : Binds X.K fd ps []) (hx : ∀ σ, PassesAt CX X σ (E σ))
    (ht : eval (.Call (.Attribute o m apos) [] [] pos) X.env = (do
      let ov ← eval o X.env
      standAt apos.atName
      let (f, first) ← holding [ov] (getMethod ov m pl)
      callWith pos f first (backTo pos (starEach [] X.env)) (backToKw pos (keywordEach [] X.env))) := by rfl) : PE X (.Call (.Attribute o m apos) [] [] pos) (tMethT C m sp E ta tNil) := by
  refine ⟨fun pins s σ H Q I h => PySem.W.methodCall_KW (pl := pl) (thn (he.run pins s σ H _ I h) fun u s1 ⟨x, H1, I1, rx, a, dx, fs, ex, ea, l, q⟩ => ?_) ht⟩
  subst ex
  obtain rfl : u = Value.ref a := rx
  exact getmeth_ok I1 ea c hm l (PySem.W.callWith_K0 (first := [.ref a]) I1.kIn hm.kp (run_fnS (us := [.ref a]) (vs := [.ref a]) F hr hb (hx σ) I1 (.cons rfl .nil) q))
/-- a block by what it is seen to do -/
theorem pss_of {X : Cx} {st : List Stmt} {t' : TS} (h : ∀ (pins : List (Addr × Obj)) (s : Shared) (σ : L2.St) (H : Hp) (D : Ends), Inv X pins σ H s → t' D σ H → ∃ t, PSs X st t ∧ t D σ H) : PSs X st t' := ⟨fun pins s σ H D I q => by
  obtain ⟨t, ht, q'⟩ := h pins s σ H D I q
  exact ht.run pins s σ H D I q'⟩
/-! a def that must know that nothing is being shown -/
structure FnG (P : Program) (w : World) (K : PySem.W.Frag) (mg : Str → Option Value) (base : Heap) (k : Nat) (f : Addr) (fd : FuncData) (ps : List Str) (sp : Sp) : Prop where
  len : ∀ vs H Q, sp vs H Q E0 → vs.length = ps.length
  run : ∀ (A : Around) (outer : List Env) (s : Shared) (H : Hp) (args : Args) (us : List Value) (vs : List V) (Q : VK), A.guards = some [] → Room k A → Env0 P w K mg base A outer s H → BindsTo s fd args (ps.zip us) → Vals vs us → sp vs H Q E0 →
    codeAny (model P w) A (.call (.ref f) args) (CR CX0 outer P w H s Q E0) s
theorem fnG_of {P : Program} {w : World} {K : PySem.W.Frag} {mg : Str → Option Value} {base : Heap} {k : Nat} {x qual : Str} {st : Stmt} {f : Addr} {fd : FuncData} {N ps : List Str} {sp : Sp} (F : Fun K x qual st f fd) (S : FnScope N ps (defScope st)) (len : ∀ vs H Q, sp vs H Q E0 → vs.length = ps.length)
    (hbody : ∀ (cdv : Value) (A : Around) (outer : List Env) (s : Shared) (H : Hp) (vs : List V) (Q : VK), (A.deeper (envOfC qual (defScope st) s.heap.objs.size f cdv)).guards = some [] → Room k (A.deeper (envOfC qual (defScope st) s.heap.objs.size f cdv)) → sp vs H Q E0 →
      ∃ t, PSs (cxOf CX0 P w K mg base N qual (defScope st) f cdv A outer s H E0).nox (defBody st) t ∧ t { nx := fun _ H' => Q .non H', rt := Q } (L2.start N vs) H) : FnG P w K mg base (k + 1) f fd ps sp := by
  obtain ⟨oc, od, kV, doc, pm, an, cdv, ct, osl, rfl, lk, hcd⟩ := F.ex
  exact ⟨len, fun A outer s H args us vs Q hg hr e0 hb r hsp => fn_at lk hcd S hr e0 hb r (len vs H Q hsp) (hbody cdv A outer s H vs Q hg (hr.deeper _) hsp)⟩
structure DnG (P : Program) (w : World) (K : PySem.W.Frag) (mg : Str → Option Value) (base : Heap) (k : Nat) (x : Str) (ps : List Str) (sp : Sp) : Prop where
  ex : ∃ (f : Addr) (fd : FuncData), FnG P w K mg base k f fd ps sp ∧ mg x = some (.ref f) ∧ PySem.W.keepIn K (.ref f) = true ∧ Binds K fd ps []
theorem pcallG {X : Cx} {k : Nat} {x : Str} {ps : List Str} {sp : Sp} {p pos : Pos} {e : Expr} {es : List Expr} {t : TA} (D : DnG X.prog X.w X.K X.mg X.base k x ps sp) (hG : X.A.guards = some []) (hr : Room k X.A) (hg : Gl X x) (ha : PA X (e :: es) t)
    (hdb : (x == ("__debug__" : Str)) = false := by decide) (he : starEach (e :: es) X.env = (false, eval e X.env) :: starEach es X.env := by rfl) (hpl : (backTo pos (starEach es X.env)).any (·.1) = false := by rfl) :
    PE X (.Call (.Name x p) (e :: es) [] pos) (tCall sp [] E0 t) := by
  obtain ⟨f, fd, F, hm, hk, hb⟩ := D.ex
  refine ⟨fun pins s σ H Q I h => wpAny_Call_Name_kw (ld_glob I hg hm (PySem.W.callWith_K (h₀ := X.base) I.ok.mod.kin hk (thn (ha.run pos pins s σ H _ I h) fun us s1 ⟨vs, H1, I1, r, q⟩ => ⟨I1.kIn, ?_⟩) he hpl) hdb)⟩
  have q : sp vs H1 Q E0 := by
    have z : sp (vs ++ []) H1 Q E0 := q
    rwa [List.append_nil] at z
  have b := hb s1 us I1.kIn (by rw [List.append_nil, ← r.length]; exact F.len _ _ _ q)
  rw [List.append_nil] at b
  refine wpAny_call (codeAny_mono (F.run X.A X.stack s1 H1 ⟨us, []⟩ us vs Q hG hr I1.env0 b r q) fun z s' hq => ?_)
  match z, hq with
  | .error _, hq => exact hq.elim
  | .ok (.ret u), hq => exact I1.after hq
  | .ok .next, hq => exact hq.elim
  | .ok .brk, hq => exact hq.elim
  | .ok .cont, hq => exact hq.elim
/-- repr(x), x of an own class, while an error is being handled -/
theorem call_reprOE {X : Cx} {k : Nat} {f C : Addr} {fd : FuncData} {sp : Sp} {p : Addr × Obj} (F : FnE X.prog X.w X.K X.mg X.base k f fd ["self"] (fun _ => sp)) (hb : Binds X.K fd ["self"] []) (hs : PySem.W.findIn X.K (.ref C) "__repr__" = some (some (.ref f))) (hf : PySem.W.isFn X.K (.ref f) = true)
    (hr : RoomH (k + 1) X.A) (hot : Hot1 X.A p) (hp : p ∈ X.pn) : CallR X (.builtin "repr") (fun xs H Q => ∃ (a dx : Addr) (fs : List (Str × V)) (t : Str), xs = [.ref a] ∧ H a = some (.ins C dx fs) ∧ ReprSp sp H a t ∧ ∀ H', Same H H' → Q (.str t) H') := by
  intro pins s σ H xs us Q I r h
  obtain ⟨a, dx, fs, t, rfl, ha, hsp, q⟩ := h
  obtain ⟨u, rfl, ru⟩ := vals1 r
  cases ru
  obtain ⟨mA, J, _⟩ := ins_get I.hok ha
  obtain ⟨od, J, _⟩ := J.look
  obtain ⟨m, hF⟩ := I.fr
  have hu := hr.un
  have hd := hr.dp
  refine PySem.W.repr_K (by show X.A.units + 1 < cLine; omega) hF I.ok.mod.kin J hs hf ?_
  have e := I.env0
  have e0 : Env0 X.prog X.w X.K X.mg X.base X.A.in1 X.stack s H := ⟨e.frames, e.mod, e.bs, e.bsz, e.funs, e.frf, e.hok, e.bare⟩
  have b := hb s [Value.ref a] I.kIn (by rfl)
  rw [List.append_nil] at b
  have P1 := I.pin p (List.mem_append_left _ hp)
  refine wpAny_call (codeAny_mono (F.run X.A.in1 X.stack s H ⟨[Value.ref a], []⟩ [Value.ref a] [V.ref a] (fun v H' => v = .str t ∧ Q (.str t) H') p ⟨by show X.A.depth + 3 * k + 5 < _; omega, by show X.A.units + 1 + 16 * k + 200 < _; omega⟩ hot
    ⟨P1.1, P1.2.1, fun m => (List.mem_cons.mp (I.stkSub p.1 m)).elim P1.2.2.1 P1.2.2.2.1, P1.2.2.2.2⟩ e0 b (.cons rfl .nil) (hsp H (Same.refl _) _ fun H' s' => ⟨rfl, q H' s'⟩)) fun z s' hq => ?_)
  match z, hq with
  | .error _, hq => exact hq.elim
  | .ok .next, hq => exact hq.elim
  | .ok .brk, hq => exact hq.elim
  | .ok .cont, hq => exact hq.elim
  | .ok (.ret u), hq =>
    obtain ⟨v, H', I', rv, rfl, q'⟩ := I.after hq
    obtain ⟨tk, rfl⟩ := rv
    exact ⟨.str t, H', I', ⟨_, rfl⟩, q'⟩
/-- repr of plain things, while an error is being handled too -/
theorem call_reprP {X : Cx} (hg : X.A.guards = some []) (hu : X.A.units + 66 < cLine) : CallR X (.builtin "repr") (fun xs H Q => ∃ (v : V) (t : Str), xs = [v] ∧ (v = .non ∧ t = "None" ∨ (∃ b : Bool, v = .bl b ∧ t = (if b then ("True" : Str) else ("False" : Str))) ∨ (∃ i : Int, v = .int i ∧ i.natAbs.log2 < 1920 ∧ t = toString i) ∨ (∃ z : Str, v = .str z ∧ (reprText z).length ≤ sizeLine ∧ t = reprText z) ∨
    (∃ a, v = .ref a ∧ H a = some (.dK []) ∧ t = "{}") ∨ (∃ a d, v = .ref a ∧ Dp X.K H (.ref a) d ∧ d.showable = true ∧ d.hasDict = false ∧ d.depth ≤ 64 ∧ d.shown.length ≤ sizeLine ∧ t = d.shown)) ∧ Q (.str t) H) := by
  intro pins s σ H xs us Q I r h
  obtain ⟨v, t, rfl, hs, q⟩ := h
  obtain ⟨u, rfl, ru⟩ := vals1 r
  rcases hs with ⟨rfl, rfl⟩ | ⟨b, rfl, rfl⟩ | ⟨i, rfl, hi, rfl⟩ | ⟨z, rfl, hz, rfl⟩ | ⟨a, rfl, h, rfl⟩ | ⟨a, d, rfl, hd, h1, h2, h3, h4, rfl⟩
  · cases ru
    exact P.repr_of_none ⟨.str "None", H, I.tok _, ⟨_, rfl⟩, q⟩
  · cases ru
    exact P.repr_of_bool ⟨.str _, H, I.tok _, ⟨_, rfl⟩, q⟩
  · obtain ⟨tk, rfl⟩ := ru
    exact P.repr_of_int hi ⟨.str _, H, I.tok _, ⟨_, rfl⟩, q⟩
  · obtain ⟨tk, rfl⟩ := ru
    exact P.repr_of_str ⟨.str _, H, I.tok _, ⟨_, rfl⟩, q⟩ hz
  · cases ru
    obtain ⟨_, hsm, vs, hkv, o, es, ep, ho, hx, hd, _, hp, _⟩ := dk_of I.hok h
    cases hkv
    have e : es.toList = [] := by
      generalize es.toList = l at hp
      cases hp
      rfl
    have rd : Reads s.heap (.ref _) (.dict []) _ := .dict (kvs := []) ho hx.1 hd (by rw [e]; exact .nil) (by rw [e]; exact .nil)
    have z : PyData.shown (.dict []) = ("{}" : Str) := by decide +kernel
    refine repr_of_reads' rd rfl (fun _ hm => ?_) hg (by show X.A.units + (0 + 1 + 1) < cLine; omega) (fun _ _ e => e) (fun h' u tk hk => ⟨.str "{}", H, I.kept hk, ⟨u, by rw [z]⟩, q⟩) (by rw [z]; decide +kernel)
    simp only [List.append_nil, List.mem_singleton] at hm
    rw [← hm] at hsm
    simp at hsm
  · exact call_reprD hg (by omega) pins s σ H _ [u] Q I (.cons ru .nil) ⟨_, _, rfl, hd, h1, h2, h3, h4, q⟩
end Du

set_option Elab.async false
set_option linter.all false
set_option maxRecDepth 100000
namespace Du
open PySem L2 PyProof.Rows
theorem iteN {c : Bool} {A B : Prop} (e : c = false) (h : B) : if c = true then A else B := by
  rw [e]
  exact iteF h
theorem iteY {c : Bool} {A B : Prop} (e : c = true) (h : A) : if c = true then A else B := by
  rw [e]
  exact iteT h
/-- a statement whose end is told once for all its ways -/
def tJ (t : TS) : TS := fun D σ H => ∃ J : L2.St → Hp → Prop, t { D with nx := J } σ H ∧ ∀ σ' H', J σ' H' → D.nx σ' H'
theorem ps_j {X : Cx} {st : Stmt} {t : TS} (h : PS X st t) : PS X st (tJ t) := by
  refine ⟨fun pins s σ H D I ⟨J, hJ, hN⟩ => thn (h.run pins s σ H { D with nx := J } I hJ) fun f s1 q => ?_⟩
  cases f with
  | next =>
    obtain ⟨σ', H', I', q⟩ := q
    exact ⟨σ', H', I', hN _ _ q⟩
  | ret v => exact q
  | brk => exact q
  | cont => exact q
/-- an expression whose value is told once for all its ways -/
def tJe (t : TE) : TE := fun σ H Q => ∃ J : VK, t σ H J ∧ ∀ v H', J v H' → Q v H'
theorem pe_j {X : Cx} {e : Expr} {t : TE} (h : PE X e t) : PE X e (tJe t) := ⟨fun pins s σ H Q I ⟨J, hJ, hN⟩ => thn (h.run pins s σ H J I hJ) fun u s1 ⟨v, H', I', r, q⟩ => ⟨v, H', I', r, hN _ _ q⟩⟩
/-- f(k = v, ..) -/
def tCallK0 (n : Nat) (sp : Sp) (gV : List V → List V → List V) (E : XK) (tk : TA) : TE := fun σ H Q => tk σ H fun zs H2 => zs.length = n ∧ sp (gV [] zs) H2 Q E
theorem pe_callK0 {X : Cx} {CX : CXT} {k : Nat} {f : Addr} {fd : FuncData} {x : Str} {p pos : Pos} {ps ks : List Str} {sp : Sp} {E : XK} {kws : List Keyword} {tk : TA} {g : List Value → List Value → List Value} {gV : List V → List V → List V}
    (F : FnOk X.prog X.w X.K X.mg X.base CX k f fd ps sp) (hr : Room k X.A) (hg : Gl X x) (hm : X.mg x = some (.ref f)) (hk : PySem.W.keepIn X.K (.ref f) = true) (hb : KBn X.K fd ps 0 ks g gV) (hx : Passes CX X E) (hkw : PK X kws tk)
    (hall : (backToKw pos (keywordEach kws X.env)).all (·.1.isSome) = true := by rfl) (hks : (backToKw pos (keywordEach kws X.env)).filterMap (·.1) = ks := by rfl)
    (hdb : (x == ("__debug__" : Str)) = false := by decide)
    (hpl : ((backTo pos (starEach [] X.env)).any (·.1) || (backToKw pos (keywordEach kws X.env)).any (·.1.isNone)) = false := by rfl) :
    PE X (.Call (.Name x p) [] kws pos) (tCallK0 ks.length sp gV E tk) := by
  refine ⟨fun pins s σ H Q I h => ?_⟩
  refine wpAny_Call_Name_kw (ld_glob I hg hm ?_ hdb)
  refine PySem.W.callWith_KW0 (h₀ := X.base) I.ok.mod.kin hk hall ?_ hpl
  refine thn (hkw.run pos pins s σ H _ I h) fun ws s2 ⟨zs, H2, I2, rz, l2, q2⟩ => ⟨I2.kIn, ?_⟩
  rw [hks]
  refine wpAny_call (codeAny_mono (F.run X.A X.stack s2 H2 ⟨[], ks.zip ws⟩ (g [] ws) (gV [] zs) Q E hr I2.env0 (hb.to s2 [] ws I2.kIn rfl (rz.length.symm.trans l2)) (hb.rel .nil rz) q2) fun r s' hq => ?_)
  match r, hq with
  | .error e, hq => exact hx pins σ H2 s2 e s' I2 hq
  | .ok (.ret u), hq => exact I2.after hq
  | .ok .next, hq => exact hq.elim
  | .ok .brk, hq => exact hq.elim
  | .ok .cont, hq => exact hq.elim
/-- a def by its name, for keywords -/
structure DnK (P : Program) (w : World) (K : PySem.W.Frag) (mg : Str → Option Value) (base : Heap) (k : Nat) (x : Str) (ps : List Str) (sp : Sp) (n : Nat) (ks : List Str) (gV : List V → List V → List V) : Prop where
  ex : ∃ (f : Addr) (fd : FuncData) (g : List Value → List Value → List Value), FnOk P w K mg base CX0 k f fd ps sp ∧ mg x = some (.ref f) ∧ PySem.W.keepIn K (.ref f) = true ∧ KBn K fd ps n ks g gV
theorem pcallK0 {X : Cx} {k : Nat} {x : Str} {ps ks : List Str} {sp : Sp} {p pos : Pos} {kws : List Keyword} {tk : TA} {gV : List V → List V → List V} (D : DnK X.prog X.w X.K X.mg X.base k x ps sp 0 ks gV) (hr : Room k X.A) (hg : Gl X x) (hkw : PK X kws tk)
    (hall : (backToKw pos (keywordEach kws X.env)).all (·.1.isSome) = true := by rfl) (hks : (backToKw pos (keywordEach kws X.env)).filterMap (·.1) = ks := by rfl)
    (hdb : (x == ("__debug__" : Str)) = false := by decide)
    (hpl : ((backTo pos (starEach [] X.env)).any (·.1) || (backToKw pos (keywordEach kws X.env)).any (·.1.isNone)) = false := by rfl) :
    PE X (.Call (.Name x p) [] kws pos) (tCallK0 ks.length sp gV E0 tk) := by
  obtain ⟨f, fd, g, F, hm, hk, hb⟩ := D.ex
  exact pe_callK0 F hr hg hm hk hb pass0 hkw hall hks hdb hpl
end Du

set_option Elab.async false
set_option linter.all false
set_option maxRecDepth 100000
namespace Du
open PySem L2
/-! things of any kind, known for good -/
/-- neither a purse nor a list of five -/
def Fix (o : HO) : Prop := (∀ i j k : Int, o ≠ .lst [.int i, .int j, .int k]) ∧ ∀ ys : List V, o = .lst ys → ys.length ≠ 5
def Kp (H H' : Hp) : Prop := ∀ a o, H a = some o → Fix o → H' a = some o
def ObT (K : PySem.W.Frag) (H : Hp) (x : V) (t : Value) : Prop := ∃ (a : Addr) (o : HO), x = .ref a ∧ H a = some o ∧ Fix o ∧ ∀ H' : Hp, H' a = some o → TyX K H' (.ref a) t
def Ty2 (K : PySem.W.Frag) (H : Hp) (x : V) (t : Value) : Prop := (∀ H' : Hp, TyX K H' x t) ∨ ObT K H x t
section
variable {K : PySem.W.Frag} {H H' : Hp} {x : V} {t : Value} {p a : Addr} {lo hi : Int} {b : Bool} {xs : List V}
theorem Kp.trans {H H1 H2 : Hp} (a : Kp H H1) (b : Kp H1 H2) : Kp H H2 := fun x o e n => b x o (a x o e n) n
theorem Kp.of_same (s : Same H H') : Kp H H' := fun a o e _ => s a o e
theorem Kp.of_step (hp : Purse H p) (s : Step p H H') : Kp H H' := fun a o e n => by
  obtain ⟨i, j, l, ep, _⟩ := id hp
  exact s.keep a o (ne_of e ep (n.1 i j l)) e
theorem Kp.upd {T : Addr} {ys : List V} {o' : HO} (h : H T = some (.lst ys)) (h5 : ys.length = 5) : Kp H (upd H T o') := fun a o e n => by
  rw [upd_ne (ne_of e h (fun z => n.2 _ z h5))]
  exact e
theorem Fix.tup : Fix (.tup xs) := ⟨(fun _ _ _ z => nomatch z), (fun _ z => nomatch z)⟩
theorem Fix.frz {o : Obj} {u : HO} : Fix (.frz o u) := ⟨(fun _ _ _ z => nomatch z), (fun _ z => nomatch z)⟩
theorem Fix.dK {ks : List (Key × V)} : Fix (.dK ks) := ⟨(fun _ _ _ z => nomatch z), (fun _ z => nomatch z)⟩
theorem Fix.ins {C dx : Addr} {fs : List (Str × V)} : Fix (.ins C dx fs) := ⟨(fun _ _ _ z => nomatch z), (fun _ z => nomatch z)⟩
theorem Ty2.ty (h : Ty2 K H x t) : TyX K H x t := by
  rcases h with h | ⟨a, o, rfl, e, _, k⟩
  · exact h H
  · exact k H e
theorem Ty2.kp (h : Ty2 K H x t) (s : Kp H H') : Ty2 K H' x t := by
  rcases h with h | ⟨a, o, rfl, e, n, k⟩
  · exact .inl h
  · exact .inr ⟨a, o, rfl, s _ _ e n, n, k⟩
theorem sqT_kp (h : SqT K H a xs) (s : Kp H H') : SqT K H' a xs := by
  rcases h with (z | ⟨o, z⟩) | z
  · exact .inl (.inl (s _ _ z .tup))
  · exact .inl (.inr ⟨o, s _ _ z .frz⟩)
  · exact .inr z
theorem HdAt.kp {v : V} {h : Hold} (d : HdAt K H v h) (s : Kp H H') : HdAt K H' v h := by
  obtain ⟨a, e, q⟩ := d
  exact ⟨a, e, sqT_kp q s⟩
theorem HdsAt.kp {t : Addr} {hs : List Hold} (d : HdsAt K H t hs) (s : Kp H H') : HdsAt K H' t hs := by
  obtain ⟨vs, h1, h2, h3⟩ := d
  exact ⟨vs, sqT_kp h1 s, h2, fun i v h e1 e2 => (h3 i v h e1 e2).kp s⟩
def BadN (K : PySem.W.Frag) (H : Hp) (x : V) : Prop := (∃ z : Str, x = .str z ∧ z.length ≤ sizeLine ∧ isNm z = false) ∨ (∃ t, Ty2 K H x t ∧ PySem.W.kitOne K t (.type "str") = some false)
def BadL (K : PySem.W.Frag) (H : Hp) (x : V) (lo hi : Int) : Prop := (∃ i : Int, x = .int i ∧ (decide (lo ≤ i) && decide (i ≤ hi)) = false) ∨ (∃ b : Bool, x = .bl b) ∨ (∃ t, Ty2 K H x t ∧ PySem.W.kitOne K t (.type "int") = some false)
def GoodN (x : V) : Prop := ∃ z : Str, x = .str z ∧ isNm z = true
def GoodL (x : V) (lo hi : Int) : Prop := ∃ i : Int, x = .int i ∧ lo ≤ i ∧ i ≤ hi
def NmV (K : PySem.W.Frag) (H : Hp) (x : V) (b : Bool) : Prop := (b = false ∧ GoodN x) ∨ (b = true ∧ BadN K H x)
def WhV (K : PySem.W.Frag) (H : Hp) (x : V) (lo hi : Int) (b : Bool) : Prop := (b = false ∧ GoodL x lo hi) ∨ (b = true ∧ BadL K H x lo hi)
theorem BadN.kp (h : BadN K H x) (s : Kp H H') : BadN K H' x := h.imp id fun ⟨t, a, b⟩ => ⟨t, a.kp s, b⟩
theorem BadL.kp (h : BadL K H x lo hi) (s : Kp H H') : BadL K H' x lo hi := h.imp id fun h => h.imp id fun ⟨t, a, b⟩ => ⟨t, a.kp s, b⟩
theorem NmV.kp (h : NmV K H x b) (s : Kp H H') : NmV K H' x b := h.imp id fun h => ⟨h.1, h.2.kp s⟩
theorem WhV.kp (h : WhV K H x lo hi b) (s : Kp H H') : WhV K H' x lo hi b := h.imp id fun h => ⟨h.1, h.2.kp s⟩
theorem NmV.good (h : NmV K H x false) : GoodN x := by
  rcases h with h | h
  · exact h.2
  · cases h.1
theorem WhV.good (h : WhV K H x lo hi false) : GoodL x lo hi := by
  rcases h with h | h
  · exact h.2
  · cases h.1
/-- is_name, asked -/
theorem ask_name {Q : VK} {E : XK} (h : NmV K H x b) (q : ∀ H', Same H H' → Q (.bl (!b)) H') : spName K [x] H Q E := by
  refine ⟨x, rfl, ?_⟩
  rcases h with ⟨rfl, z, rfl, hz⟩ | ⟨rfl, ⟨z, rfl, hl, hz⟩ | ⟨t, ht, hk⟩⟩
  · refine .inl ⟨z, rfl, Nat.le_trans (nm_len hz).2 (by decide), fun H' s => ?_⟩
    rw [hz]
    exact q H' s
  · refine .inl ⟨z, rfl, hl, fun H' s => ?_⟩
    rw [hz]
    exact q H' s
  · exact .inr ⟨t, ht.ty, hk, q H (Same.refl _)⟩
theorem ask_whole {Q : VK} {E : XK} (h : WhV K H x lo hi b) (q : Q (.bl (!b)) H) : spWhole K [x, .int lo, .int hi] H Q E := by
  refine ⟨x, lo, hi, rfl, ?_⟩
  rcases h with ⟨rfl, i, rfl, h1, h2⟩ | ⟨rfl, ⟨i, rfl, hz⟩ | ⟨c, rfl⟩ | ⟨t, ht, hk⟩⟩
  · refine .inl ⟨i, rfl, ?_⟩
    rw [decide_eq_true h1, decide_eq_true h2]
    exact q
  · refine .inl ⟨i, rfl, ?_⟩
    rw [hz]
    exact q
  · exact .inr (.inl ⟨c, rfl, q⟩)
  · exact .inr (.inr ⟨t, ht.ty, hk, q⟩)
/-- no hold -/
def BadH (K : PySem.W.Frag) (H : Hp) (v : V) (cost : Int) : Prop := (∃ t, Ty2 K H v t ∧ PySem.W.kitOne K t (.type "tuple") = some false) ∨ (∃ a xs, v = .ref a ∧ SqT K H a xs ∧ xs.length ≠ 3) ∨
  (∃ a x0 x1 x2, v = .ref a ∧ SqT K H a [x0, x1, x2] ∧ (BadN K H x0 ∨ (GoodN x0 ∧ BadL K H x1 0 cost) ∨ (GoodN x0 ∧ ∃ s : Int, x1 = .int s ∧ 0 ≤ s ∧ s ≤ cost ∧ BadL K H x2 1 (cost - s))))
theorem BadH.kp {v : V} {cost : Int} (h : BadH K H v cost) (s : Kp H H') : BadH K H' v cost := by
  rcases h with ⟨t, a, b⟩ | ⟨a, xs, e, q, n⟩ | ⟨a, x0, x1, x2, e, q, h⟩
  · exact .inl ⟨t, a.kp s, b⟩
  · exact .inr (.inl ⟨a, xs, e, sqT_kp q s, n⟩)
  · refine .inr (.inr ⟨a, x0, x1, x2, e, sqT_kp q s, ?_⟩)
    rcases h with h | ⟨g, h⟩ | ⟨g, n, e, h1, h2, h⟩
    · exact .inl (h.kp s)
    · exact .inr (.inl ⟨g, h.kp s⟩)
    · exact .inr (.inr ⟨g, n, e, h1, h2, h.kp s⟩)
/-- a hold or none -/
def ElV (K : PySem.W.Frag) (H : Hp) (cost : Int) (v : V) (r : Bool) : Prop := (∃ h : Hold, HdAt K H v h ∧ h.1.length ≤ sizeLine ∧ r = isHd h cost) ∨ (r = false ∧ BadH K H v cost)
theorem ElV.kp {v : V} {r : Bool} {cost : Int} (h : ElV K H cost v r) (s : Kp H H') : ElV K H' cost v r := by
  rcases h with ⟨h, a, b, c⟩ | ⟨a, b⟩
  · exact .inl ⟨h, a.kp s, b, c⟩
  · exact .inr ⟨a, b.kp s⟩
/-- no row of holds -/
def BadHs (K : PySem.W.Frag) (H : Hp) (x : V) (cost : Int) : Prop := (∃ t, Ty2 K H x t ∧ PySem.W.kitOne K t (.type "tuple") = some false) ∨ (∃ a xs, x = .ref a ∧ SqT K H a xs ∧ 4 < xs.length) ∨
  (∃ (a : Addr) (xs : List V) (rs : List Bool), x = .ref a ∧ SqT K H a xs ∧ xs.length ≤ 4 ∧ rs.length = xs.length ∧ (∀ (i : Nat) v r, xs[i]? = some v → rs[i]? = some r → ElV K H cost v r) ∧ false ∈ rs) ∨
  (∃ (t : Addr) (hs : List Hold), x = .ref t ∧ HdsAt K H t hs ∧ (∀ h ∈ hs, h.1.length ≤ sizeLine) ∧ areHds hs cost = false)
theorem BadHs.kp {cost : Int} (h : BadHs K H x cost) (s : Kp H H') : BadHs K H' x cost := by
  rcases h with ⟨t, a, b⟩ | ⟨a, xs, e, q, n⟩ | ⟨a, xs, rs, e, q, n, l, h, m⟩ | ⟨t, hs, e, q, l, h⟩
  · exact .inl ⟨t, a.kp s, b⟩
  · exact .inr (.inl ⟨a, xs, e, sqT_kp q s, n⟩)
  · exact .inr (.inr (.inl ⟨a, xs, rs, e, sqT_kp q s, n, l, fun i v r e1 e2 => (h i v r e1 e2).kp s, m⟩))
  · exact .inr (.inr (.inr ⟨t, hs, e, q.kp s, l, h⟩))
def GoodHs (K : PySem.W.Frag) (H : Hp) (x : V) (cost : Int) : Prop := ∃ (t : Addr) (hs : List Hold), x = .ref t ∧ HdsAt K H t hs ∧ (∀ h ∈ hs, h.1.length ≤ sizeLine) ∧ areHds hs cost = true
def HoV (K : PySem.W.Frag) (H : Hp) (x : V) (cost : Int) (b : Bool) : Prop := (b = false ∧ GoodHs K H x cost) ∨ (b = true ∧ BadHs K H x cost)
theorem HoV.kp {cost : Int} (h : HoV K H x cost b) (s : Kp H H') : HoV K H' x cost b := h.imp (fun ⟨e, t, hs, e1, q, l, h⟩ => ⟨e, t, hs, e1, q.kp s, l, h⟩) fun h => ⟨h.1, h.2.kp s⟩
/-- a due: None or a number -/
def DuV (K : PySem.W.Frag) (H : Hp) (x : V) (g : Int) (b : Bool) : Prop := (x = .non ∧ b = false) ∨ (x ≠ .non ∧ WhV K H x 1 g b)
theorem DuV.kp {g : Int} (h : DuV K H x g b) (s : Kp H H') : DuV K H' x g b := h.imp id fun h => ⟨h.1, h.2.kp s⟩
end
section
variable {P : Program} {w : World} {K : PySem.W.Frag} {mg : Str → Option Value} {base : Heap}
def spOr (a b : Sp) : Sp := fun vs H Q E => a vs H Q E ∨ b vs H Q E
theorem fnOr {CX : CXT} {k : Nat} {f : Addr} {fd : FuncData} {ps : List Str} {a b : Sp} (x : FnOk P w K mg base CX k f fd ps a) (y : FnOk P w K mg base CX k f fd ps b) : FnOk P w K mg base CX k f fd ps (spOr a b) :=
  ⟨fun vs H Q E h => h.elim (x.len vs H Q E) (y.len vs H Q E), fun A outer s H args us vs Q E hr e0 hb r h => h.elim (x.run A outer s H args us vs Q E hr e0 hb r) (y.run A outer s H args us vs Q E hr e0 hb r)⟩
/-! is_hold of what is none -/
def spHoldB (K : PySem.W.Frag) : Sp := fun vs H Q _ => ∃ (v : V) (cost : Int), vs = [v, .int cost] ∧ BadH K H v cost ∧ ∀ H', Same H H' → Q (.bl false) H'
theorem ok_holdB {f : Addr} {fd : FuncData} (F : Fun K "is_hold" "is_hold" sHold f fd) (mI : mg "isinstance" = none) (mt : mg "tuple" = none) (ml : mg "len" = none)
    (DN : Dn P w K mg base 3 "is_name" ["thing"] (spName K)) (DW : Dn P w K mg base 3 "is_whole" ["thing", "least", "most"] (spWhole K)) :
    FnOk P w K mg base CX0 4 f fd ["thing", "cost"] (spHoldB K) := by
  refine F.ok scHold (fun vs H Q E h => ?_) (fun cdv A outer s H vs Q E hr h => ?_)
  · obtain ⟨v, cost, rfl, _⟩ := h
    rfl
  · obtain ⟨v, cost, rfl, hb, q⟩ := h
    refine ⟨_, (pss_cons (ps_if (PW.pt (pw_or (pt_not (pt_val (pe_callB call_isi (by rfl) mI (by decide +kernel) (pa_cons (pv 0) (pa_cons (pe_bltn (v := .ty "tuple") (by rfl) mt (by decide +kernel) rfl) pa_nil))))) (pw_or1 (pt_cmpR op_ne (pe_callB call_len_seq (by rfl) ml (by decide +kernel) (pa_cons (pv 0) pa_nil)) pe_int (nomark _))))) (pss_one (ps_ret pe_bl)) pss_nil) (pss_cons (ps_asg (pv 0) (pg_tup rfl (pgs_cons (pg_name (i := 2) scHold.nd rfl (.inl rfl)) (pgs_cons (pg_name (i := 3) scHold.nd rfl (.inl rfl)) (pgs_cons (pg_name (i := 4) scHold.nd rfl (.inl rfl)) pgs_nil))))) (pss_one (ps_ret (pe_and (pcall DN hr (by rfl) (pa_cons (pv 2) pa_nil)) (pe_and (pcall DW hr (by rfl) (pa_cons (pv 3) (pa_cons pe_int (pa_cons (pv 1) pa_nil)))) (pe_one (pcall DW hr (by rfl) (pa_cons (pv 4) (pa_cons pe_int (pa_cons (pe_op op_sub (pv 1) (pv 3)) pa_nil))))))))))), ?_⟩
    rcases hb with ⟨t, ht, hk⟩ | ⟨a, xs, rfl, hS, hn⟩ | ⟨a, x0, x1, x2, rfl, hS, h⟩
    · exact ⟨_, rfl, _, _, _, _, false, rfl, .ty "tuple", ht.ty, hk, false, rfl, iteT (q H (Same.refl _))⟩
    · refine ⟨_, rfl, _, _, _, _, true, rfl, .ty "tuple", tyx_tup hS, kit_tt, true, rfl, ?_⟩
      refine ⟨_, rfl, a, _, rfl, .inr hS, rfl, _, rfl, ?_⟩
      have e : (!decide (V.int (xs.length : Nat) = V.int 3)) = true := by
        have : ¬ (V.int (xs.length : Nat) = V.int 3) := fun z => hn (by have := V.int.inj z; omega)
        rw [decide_eq_false this]
        rfl
      rw [e]
      exact iteT (q H (Same.refl _))
    · refine ⟨_, rfl, _, _, _, _, true, rfl, .ty "tuple", tyx_tup hS, kit_tt, true, rfl, ?_⟩
      refine ⟨_, rfl, a, _, rfl, .inr hS, rfl, _, rfl, ?_⟩
      show if (!decide ((V.int (3 : Nat)) = V.int 3)) = true then _ else _
      refine iteNS rfl ?_
      refine ⟨_, rfl, a, _, rfl, hS, rfl, _, _, rfl, _, _, rfl, _, _, rfl, rfl, ?_⟩
      refine ⟨_, rfl, ?_⟩
      unfold tNil
      rcases h with h | ⟨g, h⟩ | ⟨g, n, rfl, h1, h2, h⟩
      · refine ask_name (.inr ⟨rfl, h⟩) fun H1 s1 => ⟨_, rfl, ?_⟩
        exact iteF (q H1 s1)
      · refine ask_name (.inl ⟨rfl, g⟩) fun H1 s1 => ⟨_, rfl, iteT ⟨_, rfl, ?_⟩⟩
        unfold tCons tC
        refine ⟨_, rfl, ?_⟩
        refine ask_whole (.inr ⟨rfl, h.kp (.of_same s1)⟩) ?_
        exact ⟨_, rfl, iteF (q H1 s1)⟩
      · refine ask_name (.inl ⟨rfl, g⟩) fun H1 s1 => ⟨_, rfl, iteT ⟨_, rfl, ?_⟩⟩
        unfold tCons tC
        refine ⟨_, rfl, ?_⟩
        refine ask_whole (.inl ⟨rfl, n, rfl, h1, h2⟩) ?_
        refine ⟨_, rfl, iteT ⟨_, rfl, _, rfl, _, rfl, _, _, rfl, rfl, ?_⟩⟩
        refine ask_whole (.inr ⟨rfl, h.kp (.of_same s1)⟩) ?_
        exact q H1 s1
end
end Du

set_option Elab.async false
set_option linter.all false
set_option maxRecDepth 100000
namespace Du
open PySem L2
abbrev sWrongD : Stmt := topS 24
abbrev sDInit : Stmt := inClass (topS 26) 0
abbrev sTRepr : Stmt := inClass (topS 25) 5
abbrev sDRepr : Stmt := inClass (topS 26) 4
/-! all but lists stay -/
def Kt (H H' : Hp) : Prop := ∀ a o, H a = some o → (∀ ys : List V, o ≠ .lst ys) → H' a = some o
section
variable {K : PySem.W.Frag} {H H1 H2 H' : Hp} {p a : Addr} {xs : List V}
theorem Kt.refl : Kt H H := fun _ _ e _ => e
theorem Kt.trans (a : Kt H H1) (b : Kt H1 H2) : Kt H H2 := fun x o e n => b x o (a x o e n) n
theorem Kt.of_same (s : Same H H') : Kt H H' := fun a o e _ => s a o e
theorem Kt.of_step (hp : Purse H p) (s : Step p H H') : Kt H H' := fun a o e n => by
  obtain ⟨i, j, l, ep, _⟩ := id hp
  exact s.keep a o (ne_of e ep (n _)) e
theorem Kt.put {ys zs : List V} (h : H a = some (.lst ys)) : Kt H (upd H a (.lst zs)) := fun b o e n => by
  rw [upd_ne (ne_of e h (n _))]
  exact e
theorem Kt.lst {a : Addr} {zs : List V} (s : Kt H H') (n : H a = none) : Kt H (upd H' a (.lst zs)) := fun b o e h => by
  rw [upd_ne (ne_of_none e n)]
  exact s b o e h
theorem sqT_kt (h : SqT K H a xs) (s : Kt H H') : SqT K H' a xs := by
  rcases h with (z | ⟨o, z⟩) | z
  · exact .inl (.inl (s _ _ z (fun _ q => nomatch q)))
  · exact .inl (.inr ⟨o, s _ _ z (fun _ q => nomatch q)⟩)
  · exact .inr z
theorem HdAt.kt {v : V} {h : Hold} (d : HdAt K H v h) (s : Kt H H') : HdAt K H' v h := by
  obtain ⟨a, e, q⟩ := d
  exact ⟨a, e, sqT_kt q s⟩
theorem HdsAt.kt {t : Addr} {hs : List Hold} (d : HdsAt K H t hs) (s : Kt H H') : HdsAt K H' t hs := by
  obtain ⟨vs, h1, h2, h3⟩ := d
  exact ⟨vs, sqT_kt h1 s, h2, fun i v h e1 e2 => (h3 i v h e1 e2).kt s⟩
theorem TaskAt.kt {C x h : Addr} {v : TaskV} (d : TaskAt K C H x v h) (s : Kt H H') : TaskAt K C H' x v h := by
  obtain ⟨⟨dx, e⟩, q⟩ := d
  exact ⟨⟨dx, s _ _ e (fun _ q => nomatch q)⟩, q.kt s⟩
end
/-! doors -/
def df (n : Str) (r g : Int) : List (Str × V) := [("name", .str n), ("room", .int r), ("gap", .int g)]
theorem df_name (n : Str) (r g : Int) : (df n r g).lookup ("name" : Str) = some (.str n) := rfl
theorem df_room (n : Str) (r g : Int) : (df n r g).lookup ("room" : Str) = some (.int r) := rfl
theorem df_gap (n : Str) (r g : Int) : (df n r g).lookup ("gap" : Str) = some (.int g) := rfl
structure DoorC (K : PySem.W.Frag) (mg : Str → Option Value) (C : Addr) : Prop where
  cl : Cls K C
  nN : NoAttr K C "name"
  nR : NoAttr K C "room"
  nG : NoAttr K C "gap"
  mg : mg "Door" = some (.ref C)
  kc : PySem.W.findIn K (.ref C) "__class__" = some (some (.builtin "object.__class__"))
  kg : PySem.W.specialIn K (.builtin "object.__class__") "__get__" = some (some (.builtin "getset_descriptor.__get__"))
  kt : PySem.W.takesIn K (.builtin "object.__class__") = some true
  km : PySem.W.mroIn K C (.type "object") = some true
abbrev pD : List Str := ["self", "name", "room", "gap"]
def DoorAt (C : Addr) (H : Hp) (x : Addr) (n : Str) (r g : Int) : Prop := ∃ dx, H x = some (.ins C dx (df n r g))
section
variable {P : Program} {w : World} {K : PySem.W.Frag} {mg : Str → Option Value} {base : Heap}
/-! wrong_in_door of a good one -/
abbrev nWrongD : List Str := ["name", "room", "gap"]
theorem scWrongD : FnScope nWrongD nWrongD (defScope sWrongD) := ⟨rfl, rfl, rfl, by decide +kernel, rfl, by decide +kernel, by decide +kernel⟩
def spWrongD : Sp := fun vs H Q _ => ∃ (n : Str) (r g : Int), vs = [.str n, .int r, .int g] ∧ isNm n = true ∧ (1 ≤ r ∧ r ≤ 99) ∧ (1 ≤ g ∧ g ≤ 600) ∧ ∀ H', Same H H' → Q .non H'
theorem ok_wrongD {f : Addr} {fd : FuncData} (F : Fun K "wrong_in_door" "wrong_in_door" sWrongD f fd) (mC : ∃ t, mg "MOST_COST" = some (.int 99 t)) (mG : ∃ t, mg "MOST_GAP" = some (.int 600 t))
    (DN : Dn P w K mg base 2 "is_name" ["thing"] (spName K)) (DW : Dn P w K mg base 2 "is_whole" ["thing", "least", "most"] (spWhole K)) : FnOk P w K mg base CX0 3 f fd nWrongD spWrongD := by
  obtain ⟨uC, mC⟩ := mC
  obtain ⟨uG, mG⟩ := mG
  refine F.ok scWrongD (fun vs H Q E h => ?_) (fun cdv A outer s H vs Q E hr h => ?_)
  · obtain ⟨n, r, g, rfl, _⟩ := h
    rfl
  · obtain ⟨n, r, g, rfl, hn, hr1, hg1, k⟩ := h
    refine ⟨_, (pss_cons (ps_if (pt_not (pt_val (pcall DN hr (by rfl) (pa_cons (pv 0) pa_nil)))) pss_never pss_nil) (pss_cons (ps_if (pt_not (pt_val (pcall DW hr (by rfl) (pa_cons (pv 1) (pa_cons pe_int (pa_cons (pe_glob (v := .int 99) rfl mC ⟨_, rfl⟩) pa_nil)))))) pss_never pss_nil) (pss_cons (ps_if (pt_not (pt_val (pcall DW hr (by rfl) (pa_cons (pv 2) (pa_cons pe_int (pa_cons (pe_glob (v := .int 600) rfl mG ⟨_, rfl⟩) pa_nil)))))) pss_never pss_nil) (pss_one (ps_ret pe_non))))), ?_⟩
    refine ⟨_, rfl, ?_⟩
    unfold tNil
    refine ask_name (.inl ⟨rfl, n, rfl, hn⟩) fun H1 s1 => ⟨_, rfl, iteF ⟨_, rfl, ?_⟩⟩
    unfold tCons tC
    refine ask_whole (.inl ⟨rfl, r, rfl, hr1.1, hr1.2⟩) ?_
    refine ⟨_, rfl, iteF ⟨_, rfl, ?_⟩⟩
    refine ask_whole (.inl ⟨rfl, g, rfl, hg1.1, hg1.2⟩) ?_
    exact ⟨_, rfl, iteF (k H1 s1)⟩
abbrev nDInit : List Str := ["self", "name", "room", "gap", "part"]
theorem scDInit : FnScope nDInit pD (defScope sDInit) := ⟨rfl, rfl, rfl, by decide +kernel, rfl, by decide +kernel, by decide +kernel⟩
/-- a good door's __init__ -/
def spDInit (C : Addr) : Sp := fun vs H Q _ => ∃ (x dx : Addr) (n : Str) (r g : Int), vs = [.ref x, .str n, .int r, .int g] ∧ isNm n = true ∧ (1 ≤ r ∧ r ≤ 99) ∧ (1 ≤ g ∧ g ≤ 600) ∧ H x = some (.ins C dx []) ∧
  ∀ H', DoorAt C H' x n r g → (∀ b o, H b = some o → b ≠ x → H' b = some o) → Q .non H'
theorem ok_dinit {C f : Addr} {fd : FuncData} (F : Fun K "__init__" "Door.__init__" sDInit f fd) (T : DoorC K mg C) (DD : Dn P w K mg base 3 "wrong_in_door" nWrongD spWrongD) : FnOk P w K mg base CX0 4 f fd pD (spDInit C) := by
  refine F.ok scDInit (fun vs H Q E h => ?_) (fun cdv A outer s H vs Q E hr h => ?_)
  · obtain ⟨x, dx, n, r, g, rfl, _⟩ := h
    rfl
  · obtain ⟨x, dx, n, r, g, rfl, hn, hr1, hg1, hx, k⟩ := h
    refine ⟨_, (pss_cons (ps_set (i := 4) scDInit.nd rfl (.inl rfl) (pcall DD hr (by rfl) (pa_cons (pv 1) (pa_cons (pv 2) (pa_cons (pv 3) pa_nil))))) (pss_cons (ps_if (pt_cmpR op_notN (pv 4) pe_non (nomark _)) pss_never pss_nil) (pss_cons (ps_fld (pv 0) (pv 1) rfl) (pss_cons (ps_fld (pv 0) (pv 2) rfl) (pss_one (ps_fld (pv 0) (pv 3) rfl)))))), ?_⟩
    refine ⟨_, rfl, _, rfl, _, rfl, n, r, g, rfl, hn, hr1, hg1, fun H1 s1 => ?_⟩
    refine ⟨_, rfl, rfl, _, rfl, ?_⟩
    refine iteF ?_
    refine ⟨_, rfl, _, rfl, x, C, dx, [], rfl, s1 _ _ hx, T.cl, T.nN, (by show 0 < 1000; decide), ?_⟩
    refine ⟨_, rfl, _, rfl, x, C, dx, _, rfl, upd_same, T.cl, T.nR, (by show 1 < 1000; decide), ?_⟩
    refine ⟨_, rfl, _, rfl, x, C, dx, _, rfl, upd_same, T.cl, T.nG, (by show 2 < 1000; decide), ?_⟩
    refine k _ ⟨dx, upd_same⟩ fun b o eb hb => ?_
    rw [upd_ne hb, upd_ne hb, upd_ne hb]
    exact s1 _ _ eb
theorem doorSp {C : Addr} {H : Hp} {n : Str} {r g : Int} {Q : Addr → Hp → Prop} (hn : isNm n = true) (hr : 1 ≤ r ∧ r ≤ 99) (hg : 1 ≤ g ∧ g ≤ 600) (k : ∀ x H', Same H H' → H x = none → DoorAt C H' x n r g → Q x H') :
    ∀ x dx, H x = none → H dx = none → dx ≠ x → spDInit C [.ref x, .str n, .int r, .int g] (upd (upd H dx (.own x)) x (.ins C dx [])) (fun u H3 => u = .non ∧ Q x H3) E0 := by
  intro x dx nx ndx hne
  have s1 : Same H (upd (upd H dx (.own x)) x (.ins C dx [])) := same_upd2 (same_upd ndx) nx
  exact ⟨x, dx, n, r, g, rfl, hn, hr, hg, upd_same, fun H' hi keep => ⟨rfl, k x H' (fun b o e => keep b o (s1 b o e) (ne_of_none e nx)) nx hi⟩⟩
theorem taskSp {C h : Addr} {H : Hp} {v : TaskV} {od : Option Int} {Q : Addr → Hp → Prop} (hh : HdsAt K H h v.holds) (ho : v.ok) (hd : v.due = od.getD v.gap) (q : ∀ x H', Same H H' → H x = none → TaskAt K C H' x v h → Q x H') :
    ∀ x dx, H x = none → H dx = none → dx ≠ x → spInit K C [.ref x, .str v.name, .int v.cost, .int v.gap, dueV od, .ref h] (upd (upd H dx (.own x)) x (.ins C dx [])) (fun u H3 => u = .non ∧ Q x H3) E0 := by
  intro x dx nx ndx hne
  have s1 : Same H (upd (upd H dx (.own x)) x (.ins C dx [])) := same_upd2 (same_upd ndx) nx
  exact ⟨x, dx, h, v, od, rfl, hd, ho, hh.same s1, upd_same, fun H' tk keep => ⟨rfl, q x H' (fun b o e => keep b o (s1 b o e) (ne_of_none e nx)) nx tk⟩⟩
/-! repr of tasks and doors -/
def inText (a n : Str) : Str := Str.empty ++ a ++ n ++ ")"
theorem inText_len (a n : Str) (ha : a.length ≤ 10) (h : n.length ≤ 1000) : (inText a n).length ≤ sizeLine := by
  unfold inText
  rw [strLen_append, strLen_append, strLen_append]
  have e1 : Str.empty.length ≤ 10 := by decide +kernel
  have e2 : ((")" : Str)).length ≤ 10 := by decide +kernel
  exact Nat.le_trans (show _ ≤ 1100 by omega) (by decide)
theorem inText_len2 (a n : Str) (ha : a.length ≤ 10) (h : n.length ≤ 1000) : (Str.empty ++ a ++ n).length ≤ sizeLine := by
  have z := inText_len a n ha h
  unfold inText at z
  rw [strLen_append] at z
  omega
theorem scTRepr : FnScope ["self"] ["self"] (defScope sTRepr) := ⟨rfl, rfl, rfl, by decide +kernel, rfl, by decide +kernel, by decide +kernel⟩
theorem scDRepr : FnScope ["self"] ["self"] (defScope sDRepr) := ⟨rfl, rfl, rfl, by decide +kernel, rfl, by decide +kernel, by decide +kernel⟩
def spTRepr (K : PySem.W.Frag) (C : Addr) : Sp := fun vs H Q _ => ∃ (x h : Addr) (v : TaskV), vs = [.ref x] ∧ TaskAt K C H x v h ∧ v.name.length ≤ 1000 ∧ Q (.str (inText "Task(" v.name)) H
def spDRepr (C : Addr) : Sp := fun vs H Q _ => ∃ (x : Addr) (n : Str) (r g : Int), vs = [.ref x] ∧ DoorAt C H x n r g ∧ n.length ≤ 1000 ∧ Q (.str (inText "Door(" n)) H
theorem ok_trepr {C f : Addr} {fd : FuncData} (F : Fun K "__repr__" "Task.__repr__" sTRepr f fd) (T : TaskC K mg C) : FnOk P w K mg base CX0 3 f fd ["self"] (spTRepr K C) := by
  refine F.ok scTRepr (fun vs H Q E h => ?_) (fun cdv A outer s H vs Q E hr h => ?_)
  · obtain ⟨x, h, v, rfl, _⟩ := h
    rfl
  · obtain ⟨x, h, v, rfl, ⟨⟨dx, hx⟩, hh⟩, hn, q⟩ := h
    refine ⟨_, (pss_one (ps_ret (pe_joined (.cons pe_str (.cons (pe_fmt (pe_fld (pv 0) rfl)) (.cons pe_str .nil)))))), ?_⟩
    refine ⟨_, rfl, by decide +kernel, ?_⟩
    exact ⟨_, rfl, x, C, dx, _, _, rfl, hx, T.cl, T.nN, tf_name _ _ _ _ _, .inl ⟨v.name, rfl, Nat.le_trans hn (by decide), v.name, rfl, inText_len2 _ _ (by decide +kernel) hn, _, rfl, inText_len _ _ (by decide +kernel) hn, q⟩⟩
theorem ok_drepr {C f : Addr} {fd : FuncData} (F : Fun K "__repr__" "Door.__repr__" sDRepr f fd) (T : DoorC K mg C) : FnOk P w K mg base CX0 3 f fd ["self"] (spDRepr C) := by
  refine F.ok scDRepr (fun vs H Q E h => ?_) (fun cdv A outer s H vs Q E hr h => ?_)
  · obtain ⟨x, n, r, g, rfl, _⟩ := h
    rfl
  · obtain ⟨x, n, r, g, rfl, ⟨dx, hx⟩, hn, q⟩ := h
    refine ⟨_, (pss_one (ps_ret (pe_joined (.cons pe_str (.cons (pe_fmt (pe_fld (pv 0) rfl)) (.cons pe_str .nil)))))), ?_⟩
    refine ⟨_, rfl, by decide +kernel, ?_⟩
    exact ⟨_, rfl, x, C, dx, _, _, rfl, hx, T.cl, T.nN, df_name _ _ _, .inl ⟨n, rfl, Nat.le_trans hn (by decide), n, rfl, inText_len2 _ _ (by decide +kernel) hn, _, rfl, inText_len _ _ (by decide +kernel) hn, q⟩⟩
end
/-! members -/
inductive Mem
  | task (v : TaskV)
  | door (n : Str) (r g : Int)
def Mem.name : Mem → Str
  | .task v => v.name
  | .door n _ _ => n
def Mem.ok : Mem → Prop
  | .task v => v.ok
  | .door n r g => isNm n = true ∧ (1 ≤ r ∧ r ≤ 99) ∧ (1 ≤ g ∧ g ≤ 600)
theorem Mem.nm {m : Mem} (h : m.ok) : isNm m.name = true := by
  cases m with
  | task v => exact h.1
  | door n r g => exact h.1
def MemAt (K : PySem.W.Frag) (CT CD : Addr) (H : Hp) (x : Addr) : Mem → Prop
  | .task v => ∃ h, TaskAt K CT H x v h
  | .door n r g => DoorAt CD H x n r g
/-- members in a row: the things of a list or tuple -/
def Mems (K : PySem.W.Frag) (CT CD : Addr) (H : Hp) (vs : List V) (ms : List Mem) : Prop := vs.length = ms.length ∧ ∀ (i : Nat) v m, vs[i]? = some v → ms[i]? = some m → ∃ x, v = .ref x ∧ MemAt K CT CD H x m
def MemsAt (K : PySem.W.Frag) (CT CD : Addr) (H : Hp) (t : Addr) (ms : List Mem) : Prop := ∃ vs : List V, SqT K H t vs ∧ Mems K CT CD H vs ms
def crewF (t : Addr) : List (Str × V) := [("members", .ref t)]
def CrewAt (K : PySem.W.Frag) (CT CD CC : Addr) (H : Hp) (c : Addr) (ms : List Mem) : Prop := ∃ dx t, H c = some (.ins CC dx (crewF t)) ∧ MemsAt K CT CD H t ms
structure CrewOk (ms : List Mem) : Prop where
  len : ms.length ≤ 8
  nd : (ms.map Mem.name).Nodup
  all : ∀ m ∈ ms, m.ok
section
variable {K : PySem.W.Frag} {CT CD CC : Addr} {H H' : Hp} {x t c : Addr} {m : Mem} {ms : List Mem} {vs : List V}
theorem MemAt.kt (h : MemAt K CT CD H x m) (s : Kt H H') : MemAt K CT CD H' x m := by
  cases m with
  | task v => exact h.imp fun a q => q.kt s
  | door n r g => exact h.imp fun a q => s _ _ q (fun _ q => nomatch q)
theorem Mems.kt (h : Mems K CT CD H vs ms) (s : Kt H H') : Mems K CT CD H' vs ms := ⟨h.1, fun i v m e1 e2 => (h.2 i v m e1 e2).imp fun x q => ⟨q.1, q.2.kt s⟩⟩
theorem MemsAt.kt (h : MemsAt K CT CD H t ms) (s : Kt H H') : MemsAt K CT CD H' t ms := h.imp fun vs q => ⟨sqT_kt q.1 s, q.2.kt s⟩
theorem CrewAt.kt (h : CrewAt K CT CD CC H c ms) (s : Kt H H') : CrewAt K CT CD CC H' c ms := by
  obtain ⟨dx, t, e, q⟩ := h
  exact ⟨dx, t, s _ _ e (fun _ q => nomatch q), q.kt s⟩
theorem Mems.nil : Mems K CT CD H [] [] := ⟨rfl, fun i v m e _ => by simp at e⟩
theorem Mems.add (h : Mems K CT CD H vs ms) (q : MemAt K CT CD H x m) : Mems K CT CD H (vs ++ [.ref x]) (ms ++ [m]) := by
  refine ⟨by rw [List.length_append, List.length_append, h.1]; rfl, fun i v n e1 e2 => ?_⟩
  by_cases hi : i < vs.length
  · rw [List.getElem?_append_left hi] at e1
    rw [List.getElem?_append_left (h.1 ▸ hi)] at e2
    exact h.2 i v n e1 e2
  · rw [List.getElem?_append_right (by omega)] at e1
    rw [List.getElem?_append_right (by rw [← h.1]; omega), ← h.1] at e2
    have z : i - vs.length = 0 := by
      have := (List.getElem?_eq_some_iff.mp e1).1
      simp at this
      omega
    rw [z] at e1 e2
    cases e1
    cases e2
    exact ⟨x, rfl, q⟩
theorem Mems.at (h : Mems K CT CD H vs ms) {i : Nat} {v : V} (e : vs[i]? = some v) : ∃ (x : Addr) (m : Mem), v = .ref x ∧ ms[i]? = some m ∧ MemAt K CT CD H x m := by
  have hi : i < ms.length := by
    rw [← h.1]
    exact (List.getElem?_eq_some_iff.mp e).1
  have e2 : ms[i]? = some ms[i] := List.getElem?_eq_getElem hi
  obtain ⟨x, ex, q⟩ := h.2 i v _ e e2
  exact ⟨x, _, ex, e2, q⟩
end
end Du

set_option Elab.async false
set_option linter.all false
set_option maxRecDepth 100000
namespace Du
open PySem L2
abbrev sIsMem : Stmt := topS 30
abbrev sAreMem : Stmt := topS 31
abbrev sTwice : Stmt := topS 32
abbrev sCInit : Stmt := inClass (topS 33) 0
abbrev sNames : Stmt := inClass (topS 33) 1
abbrev sCRepr : Stmt := inClass (topS 33) 11
/-- the classes of members -/
structure MemC (K : PySem.W.Frag) (mg : Str → Option Value) (CT CD : Addr) : Prop where
  T : TaskC K mg CT
  D : DoorC K mg CD
  aT : PySem.W.kitAny K (.ref CT) [.ref CT, .ref CD] = some true
  aD : PySem.W.kitAny K (.ref CD) [.ref CT, .ref CD] = some true
  oT : PySem.W.kitOne K (.ref CT) (.ref CT) = some true
  oD : PySem.W.kitOne K (.ref CD) (.ref CT) = some false
structure CrewC (K : PySem.W.Frag) (mg : Str → Option Value) (CC : Addr) : Prop where
  cl : Cls K CC
  nM : NoAttr K CC "members"
  mg : mg "Crew" = some (.ref CC)
  kc : PySem.W.findIn K (.ref CC) "__class__" = some (some (.builtin "object.__class__"))
  kg : PySem.W.specialIn K (.builtin "object.__class__") "__get__" = some (some (.builtin "getset_descriptor.__get__"))
  kt : PySem.W.takesIn K (.builtin "object.__class__") = some true
  km : PySem.W.mroIn K CC (.type "object") = some true
section
variable {P : Program} {w : World} {K : PySem.W.Frag} {mg : Str → Option Value} {base : Heap} {CT CD CC : Addr}
theorem mem_name {H : Hp} {x : Addr} {m : Mem} (M : MemC K mg CT CD) (h : MemAt K CT CD H x m) : ∃ (C dx : Addr) (fs : List (Str × V)), H x = some (.ins C dx fs) ∧ Cls K C ∧ NoAttr K C "name" ∧ fs.lookup ("name" : Str) = some (V.str m.name) := by
  cases m with
  | task v =>
    obtain ⟨a, ⟨dx, e⟩, _⟩ := h
    exact ⟨CT, dx, _, e, M.T.cl, M.T.nN, tf_name _ _ _ _ _⟩
  | door n r g =>
    obtain ⟨dx, e⟩ := h
    exact ⟨CD, dx, _, e, M.D.cl, M.D.nN, df_name _ _ _⟩
theorem mem_ty {H : Hp} {x : Addr} {m : Mem} (M : MemC K mg CT CD) (h : MemAt K CT CD H x m) : ∃ t, TyX K H (.ref x) t ∧ PySem.W.kitAny K t [.ref CT, .ref CD] = some true ∧ PySem.W.kitOne K t (.ref CT) = some (match m with | .task _ => true | .door _ _ _ => false) := by
  cases m with
  | task v =>
    obtain ⟨a, ⟨dx, e⟩, _⟩ := h
    exact ⟨.ref CT, .base (.ins e M.T.cl M.T.kc M.T.kg M.T.kt M.T.km), M.aT, M.oT⟩
  | door n r g =>
    obtain ⟨dx, e⟩ := h
    exact ⟨.ref CD, .base (.ins e M.D.cl M.D.kc M.D.kg M.D.kt M.D.km), M.aD, M.oD⟩
/-! is_member -/
theorem scIsMem : FnScope ["thing"] ["thing"] (defScope sIsMem) := ⟨rfl, rfl, rfl, by decide +kernel, rfl, by decide +kernel, by decide +kernel⟩
def spIsMem (K : PySem.W.Frag) (CT CD : Addr) : Sp := fun vs H Q _ => ∃ (x : Addr) (m : Mem), vs = [.ref x] ∧ MemAt K CT CD H x m ∧ ∀ H', Same H H' → Q (.bl true) H'
theorem ok_isMem {f : Addr} {fd : FuncData} (F : Fun K "is_member" "is_member" sIsMem f fd) (M : MemC K mg CT CD) (mI : mg "isinstance" = none) : FnOk P w K mg base CX0 3 f fd ["thing"] (spIsMem K CT CD) := by
  refine F.ok scIsMem (fun vs H Q E h => ?_) (fun cdv A outer s H vs Q E hr h => ?_)
  · obtain ⟨x, m, rfl, _⟩ := h
    rfl
  · obtain ⟨x, m, rfl, hm, q⟩ := h
    refine ⟨_, (pss_one (ps_ret (pe_callB call_isiT (by rfl) mI (by decide +kernel) (pa_cons (pv 0) (pa_cons (pe_tup (pa_cons (pe_glob (v := .ref CT) rfl M.T.mg rfl) (pa_cons (pe_glob (v := .ref CD) rfl M.D.mg rfl) pa_nil))) pa_nil))))), ?_⟩
    refine ⟨_, rfl, (by show 2 ≤ sizeLine; decide), fun t nt => ?_⟩
    obtain ⟨ty, h1, h2, _⟩ := mem_ty M (hm.kt (.of_same (same_upd (o := .tup [.ref CT, .ref CD]) nt)))
    exact ⟨_, t, _, ty, _, true, rfl, upd_same, .cons (.own _) (.cons (.own _) .nil), h1, h2, q _ (same_upd nt)⟩
/-! are_members -/
theorem scAreMem : FnScope ["thing", "member"] ["thing"] (defScope sAreMem) := ⟨rfl, rfl, rfl, by decide +kernel, rfl, by decide +kernel, by decide +kernel⟩
def spAreMem (K : PySem.W.Frag) (CT CD : Addr) : Sp := fun vs H Q _ => ∃ (t : Addr) (ms : List Mem), vs = [.ref t] ∧ MemsAt K CT CD H t ms ∧ ms.length ≤ 8 ∧ ∀ H', Same H H' → Q (.bl true) H'
theorem ok_areMem {f : Addr} {fd : FuncData} (F : Fun K "are_members" "are_members" sAreMem f fd) (mI : mg "isinstance" = none) (mt : mg "tuple" = none) (ml : mg "len" = none) (ma : mg "all" = none) (mM : ∃ t, mg "MOST_MEMBERS" = some (.int 8 t)) (DI : Dn P w K mg base 3 "is_member" ["thing"] (spIsMem K CT CD)) :
    FnOk P w K mg base CX0 4 f fd ["thing"] (spAreMem K CT CD) := by
  obtain ⟨tM, mM⟩ := mM
  refine F.ok scAreMem (fun vs H Q E h => ?_) (fun cdv A outer s H vs Q E hr h => ?_)
  · obtain ⟨t, ms, rfl, _⟩ := h
    rfl
  · obtain ⟨t, ms, rfl, ⟨vs, hS, hl, hm⟩, h8, q⟩ := h
    refine ⟨_, (pss_cons (ps_if (PW.pt (pw_or (pt_not (pt_val (pe_callB call_isi (by rfl) mI (by decide +kernel) (pa_cons (pv 0) (pa_cons (pe_bltn (v := .ty "tuple") (by rfl) mt (by decide +kernel) rfl) pa_nil))))) (pw_or1 (pt_cmpR op_gt (pe_callB call_len_seq (by rfl) ml (by decide +kernel) (pa_cons (pv 0) pa_nil)) (pe_glob (v := .int 8) rfl mM ⟨_, rfl⟩) (nomark _))))) pss_never pss_nil) (pss_one (ps_ret (pe_callB (cr_all rfl) (by rfl) ma (by decide +kernel) (pa_cons (pe_lc (own := [("member", 1)]) (g := gName 1) (tt := tYes) rfl scAreMem.nd (pi_tup (pv 0))
        (blkOk_by (N := ["thing", "member"]) (sc := defScope sAreMem) (by decide +kernel)) (fun _ _ _ _ _ => pg_name (i := 1) scAreMem.nd rfl (Or.inl rfl)) (fun _ _ _ _ _ => pts_nil)
        (fun _ _ _ _ _ => pcall DI hr (by rfl) (pa_cons (pv 1) pa_nil))) pa_nil))))), ?_⟩
    refine ⟨_, rfl, _, _, _, _, true, rfl, .ty "tuple", tyx_tup hS, kit_tt, true, rfl, ?_⟩
    refine ⟨_, rfl, t, _, rfl, .inr hS, _, _, rfl, rfl, _, rfl, ?_⟩
    rw [decide_eq_false (show ¬ (8 : Int) < ((vs.length : Nat) : Int) by omega)]
    refine iteF ?_
    refine ⟨_, rfl, t, rfl, ⟨vs, hS⟩, fun D nD => lc_tup (K := K) (a := t) (xs := vs) (fun i H' => Same H H' ∧ H' D = some (.lst ((List.replicate i true).map V.bl))) ⟨same_upd nD, upd_same⟩ (fun i H' _ z => hS.ext z.1) ?_ ?_⟩
    · rintro i y H1 hy ⟨s1, e⟩
      obtain ⟨x, m, rfl, em, hx⟩ := Mems.at ⟨hl, hm⟩ hy
      refine ⟨rfl, _, rfl, x, m, rfl, hx.kt (.of_same s1), fun H2 s2 => ⟨_, s2 _ _ e, ?_, same_upd2 (s1.trans s2) nD, ?_⟩⟩
      · rw [List.length_map, List.length_replicate]
        have := (List.getElem?_eq_some_iff.mp hy).1
        exact Nat.lt_of_lt_of_le (show i < 8 by omega) (by decide)
      · rw [upd_same, List.replicate_succ', List.map_append]
        rfl
    · rintro H1 ⟨s1, e⟩
      refine ⟨D, _, rfl, SqL.of e, ?_⟩
      rw [show (List.replicate vs.length true).all id = true from List.all_eq_true.mpr fun b hb => (List.mem_replicate.mp hb).2]
      exact q H1 s1
/-! name_twice, of unlike names -/
theorem in_strs {z : Str} {xs : List Str} : inV (.str z) (xs.map V.str) = decide (z ∈ xs) := by
  unfold inV
  rw [List.any_map]
  by_cases h : z ∈ xs
  · rw [decide_eq_true h]
    exact List.any_eq_true.mpr ⟨z, h, by show (z == z) = true; simp⟩
  · rw [decide_eq_false h]
    refine List.any_eq_false.mpr fun y hy => ?_
    show ¬ (y == z) = true
    rw [beq_iff_eq]
    exact fun e => h (e ▸ hy)
theorem flat_strs {xs : List Str} : (xs.map V.str).all flatV = true := by
  rw [List.all_map]
  exact List.all_eq_true.mpr fun _ _ => rfl
theorem scTwice : FnScope ["members", "ahead", "member"] ["members"] (defScope sTwice) := ⟨rfl, rfl, rfl, by decide +kernel, rfl, by decide +kernel, by decide +kernel⟩
def spTwice (K : PySem.W.Frag) (CT CD : Addr) : Sp := fun vs H Q _ => ∃ (t : Addr) (ms : List Mem), vs = [.ref t] ∧ MemsAt K CT CD H t ms ∧ ms.length ≤ 8 ∧ (ms.map Mem.name).Nodup ∧ ∀ H', Same H H' → Q .non H'
theorem ok_twice {f : Addr} {fd : FuncData} (F : Fun K "name_twice" "name_twice" sTwice f fd) (M : MemC K mg CT CD) : FnOk P w K mg base CX0 3 f fd ["members"] (spTwice K CT CD) := by
  refine F.ok scTwice (fun vs H Q E h => ?_) (fun cdv A outer s H vs Q E hr h => ?_)
  · obtain ⟨t, ms, rfl, _⟩ := h
    rfl
  · obtain ⟨t, ms, rfl, ⟨vs, hS, hms⟩, h8, hnd, q⟩ := h
    refine ⟨_, (pss_cons (ps_set (i := 1) scTwice.nd rfl (.inl rfl) (pe_lst pa_nil)) (pss_cons (ps_for PassesOwn.never rfl (pi_tup (pv 0)) (pg_name (i := 2) scTwice.nd rfl (.inl rfl))
        (pss_cons (ps_if (pt_cmpR op_in_seq (pe_fld (pv 2) rfl) (pv 1) (by rfl)) pss_never pss_nil) (pss_one (ps_expr (pe_bm PySem.F.plainAttrs_list PySem.F.slot_list_append PySem.F.type_list_append mt_append (pv 1) (pa_cons (pe_fld (pv 2) rfl) pa_nil)))))) (pss_one (ps_ret pe_non)))), ?_⟩
    refine ⟨Nat.zero_le _, fun L nL => ?_⟩
    refine ⟨_, rfl, t, rfl, ⟨vs, hS.ext (same_upd nL)⟩, for_tup (K := K) (a := t) (xs := vs) (fun j σ H' => ∃ v2 : Option V, σ = [some (.ref t), some (.ref L), v2] ∧ Same H H' ∧ H' L = some (.lst (((ms.take j).map Mem.name).map V.str))) ⟨_, rfl, same_upd nL, upd_same⟩ ?_ ?_ ?_⟩
    · rintro j σ H1 _ ⟨_, _, s1, _⟩
      exact hS.ext s1
    · rintro j y σ H1 hy ⟨v2, rfl, s1, eL⟩
      obtain ⟨x, m, rfl, em, hx⟩ := hms.at hy
      have hx1 := hx.kt (.of_same s1)
      obtain ⟨C, dx, fs, ex, c1, c2, c3⟩ := mem_name M hx1
      have et : (ms.take (j + 1)).map Mem.name = (ms.take j).map Mem.name ++ [m.name] := by
        rw [List.take_add_one, em, List.map_append]
        rfl
      have nin : m.name ∉ (ms.take j).map Mem.name := fun hm => by
        have z : ((ms.take (j + 1)).map Mem.name).Nodup := hnd.sublist ((List.take_sublist _ _).map _)
        rw [et] at z
        exact (List.nodup_append.mp z).2.2 _ hm _ (List.mem_singleton.mpr rfl) rfl
      refine ⟨_, rfl, x, C, dx, _, _, rfl, ex, c1, c2, c3, _, rfl, L, _, rfl, .inl (SqL.of eL), rfl, flat_strs, _, rfl, ?_⟩
      have eN : (if false = true then !inV (.str m.name) (((ms.take j).map Mem.name).map V.str) else inV (.str m.name) (((ms.take j).map Mem.name).map V.str)) = false := by
        show inV (.str m.name) (((ms.take j).map Mem.name).map V.str) = false
        rw [in_strs, decide_eq_false nin]
      rw [eN]
      refine iteF ⟨_, rfl, .inl ⟨rfl, _, SqL.of eL⟩, _, rfl, x, C, dx, _, _, rfl, ex, c1, c2, c3, L, _, _, rfl, rfl, eL, ?_, ?_⟩
      · rw [List.length_map, List.length_map]
        have := (List.getElem?_eq_some_iff.mp hy).1
        have h2 := hms.1
        exact Nat.lt_of_le_of_lt (List.length_take_le _ _) (Nat.lt_of_lt_of_le (show j < 8 by omega) (by decide))
      · refine ⟨_, rfl, same_upd2 s1 nL, ?_⟩
        rw [upd_same, et, List.map_append]
        rfl
    · rintro σ H1 ⟨v2, rfl, s1, eL⟩
      exact q H1 s1
/-! a crew's __init__ -/
theorem scCInit : FnScope ["self", "members", "twice"] ["self", "members"] (defScope sCInit) := ⟨rfl, rfl, rfl, by decide +kernel, rfl, by decide +kernel, by decide +kernel⟩
def spCInit (K : PySem.W.Frag) (CT CD CC : Addr) : Sp := fun vs H Q _ => ∃ (c dx t : Addr) (ms : List Mem), vs = [.ref c, .ref t] ∧ MemsAt K CT CD H t ms ∧ ms.length ≤ 8 ∧ (ms.map Mem.name).Nodup ∧ H c = some (.ins CC dx []) ∧
  ∀ H', H' c = some (.ins CC dx (crewF t)) → (∀ b o, H b = some o → b ≠ c → H' b = some o) → Q .non H'
abbrev FunCI (K : PySem.W.Frag) (e0 f : Addr) (fd : FuncData) : Prop := FunD K "__init__" "Crew.__init__" (defArgs sCInit) (defBody sCInit) (defScope sCInit) [.ref e0] [] f fd
theorem ok_cinit {f e0 : Addr} {fd : FuncData} (F : FunCI K e0 f fd) (T : CrewC K mg CC) (DA : Dn P w K mg base 4 "are_members" ["thing"] (spAreMem K CT CD)) (DT : Dn P w K mg base 3 "name_twice" ["members"] (spTwice K CT CD)) : FnOk P w K mg base CX0 5 f fd ["self", "members"] (spCInit K CT CD CC) := by
  refine F.ok (CX := CX0) scCInit (fun vs H Q E h => ?_) (fun cdv A outer s H vs Q E hr h => ?_)
  · obtain ⟨c, dx, t, ms, rfl, _⟩ := h
    rfl
  · obtain ⟨c, dx, t, ms, rfl, hm, h8, hnd, hc, k⟩ := h
    have hr1 : Room 3 _ := hr.mono (by decide)
    refine ⟨_, (pss_cons (ps_if (pt_not (pt_val (pcall DA hr (by rfl) (pa_cons (pv 1) pa_nil)))) pss_never pss_nil) (pss_cons (ps_set (i := 2) scCInit.nd rfl (.inl rfl) (pcall DT hr1 (by rfl) (pa_cons (pv 1) pa_nil))) (pss_cons (ps_if (pt_cmpR op_notN (pv 2) pe_non (nomark _)) pss_never pss_nil) (pss_one (ps_fld (pv 0) (pv 1) rfl))))), ?_⟩
    refine ⟨_, rfl, t, ms, rfl, hm, h8, fun H1 s1 => ⟨_, rfl, iteF ⟨_, rfl, t, ms, rfl, hm.kt (.of_same s1), h8, hnd, fun H2 s2 => ?_⟩⟩⟩
    refine ⟨_, rfl, rfl, _, rfl, ?_⟩
    rw [decide_eq_true rfl]
    have s12 := s1.trans s2
    refine iteF ⟨_, rfl, _, rfl, c, CC, dx, [], rfl, s12 _ _ hc, T.cl, T.nM, (by show 0 < 1000; decide), ?_⟩
    refine k _ upd_same fun b o eb hb => ?_
    rw [upd_ne hb]
    exact s12 _ _ eb
theorem crewSp {H : Hp} {t : Addr} {ms : List Mem} {Q : Addr → Hp → Prop} (hm : MemsAt K CT CD H t ms) (h8 : ms.length ≤ 8) (hnd : (ms.map Mem.name).Nodup) (q : ∀ c H', Same H H' → H c = none → CrewAt K CT CD CC H' c ms → Q c H') :
    ∀ x dx, H x = none → H dx = none → dx ≠ x → spCInit K CT CD CC [.ref x, .ref t] (upd (upd H dx (.own x)) x (.ins CC dx [])) (fun u H3 => u = .non ∧ Q x H3) E0 := by
  intro x dx nx ndx hne
  have s1 : Same H (upd (upd H dx (.own x)) x (.ins CC dx [])) := same_upd2 (same_upd ndx) nx
  refine ⟨x, dx, t, ms, rfl, hm.kt (.of_same s1), h8, hnd, upd_same, fun H' e keep => ?_⟩
  have s2 : Same H H' := fun b o e => keep b o (s1 b o e) (ne_of_none e nx)
  exact ⟨rfl, q x H' s2 nx ⟨dx, t, e, hm.kt (.of_same s2)⟩⟩
/-! names, repr -/
theorem crew_members {H : Hp} {c t dx : Addr} (e : H c = some (.ins CC dx (crewF t))) : (crewF t).lookup ("members" : Str) = some (.ref t) := rfl
theorem scNames : FnScope ["self", "member"] ["self"] (defScope sNames) := ⟨rfl, rfl, rfl, by decide +kernel, rfl, by decide +kernel, by decide +kernel⟩
def spNames (K : PySem.W.Frag) (CT CD CC : Addr) : Sp := fun vs H Q _ => ∃ (c : Addr) (ms : List Mem), vs = [.ref c] ∧ CrewAt K CT CD CC H c ms ∧ ms.length ≤ 8 ∧ ∀ r H', Same H H' → H r = none → H' r = some (.tup ((ms.map Mem.name).map V.str)) → Q (.ref r) H'
theorem ok_names {f : Addr} {fd : FuncData} (F : Fun K "names" "Crew.names" sNames f fd) (M : MemC K mg CT CD) (T : CrewC K mg CC) (mt : mg "tuple" = none) : FnOk P w K mg base CX0 3 f fd ["self"] (spNames K CT CD CC) := by
  refine F.ok scNames (fun vs H Q E h => ?_) (fun cdv A outer s H vs Q E hr h => ?_)
  · obtain ⟨c, ms, rfl, _⟩ := h
    rfl
  · obtain ⟨c, ms, rfl, ⟨dx, t, ec, vs, hS, hms⟩, h8, q⟩ := h
    refine ⟨_, (pss_one (ps_ret (pe_callTy call_tuple_of (by rfl) mt (by decide +kernel) (pa_cons (pe_lc (own := [("member", 1)]) (g := gName 1) (tt := tYes) (te := tFld K (tVar 1) "name") rfl scNames.nd (pi_tup (pe_fld (pv 0) rfl)) (blkOk_by (N := ["self", "member"]) (sc := defScope sNames) (by decide +kernel))
        (fun _ _ _ _ _ => pg_name (i := 1) scNames.nd rfl (Or.inl rfl)) (fun _ _ _ _ _ => pts_nil) (fun _ _ _ _ _ => pe_fld (pv 1) rfl)) pa_nil)))), ?_⟩
    refine ⟨_, rfl, c, CC, dx, _, _, rfl, ec, T.cl, T.nM, rfl, t, rfl, ⟨vs, hS⟩, fun D nD => lc_tup (K := K) (a := t) (xs := vs) (fun j H' => Same H H' ∧ H' D = some (.lst (((ms.take j).map Mem.name).map V.str))) ⟨same_upd nD, upd_same⟩ (fun j H' _ z => hS.ext z.1) ?_ ?_⟩
    · rintro j y H1 hy ⟨s1, e⟩
      obtain ⟨x, m, rfl, em, hx⟩ := hms.at hy
      obtain ⟨C, dx', fs, ex, c1, c2, c3⟩ := mem_name M (hx.kt (.of_same s1))
      refine ⟨rfl, _, rfl, x, C, dx', _, _, rfl, ex, c1, c2, c3, _, e, ?_, same_upd2 s1 nD, ?_⟩
      · rw [List.length_map, List.length_map]
        have := (List.getElem?_eq_some_iff.mp hy).1
        have h2 := hms.1
        exact Nat.lt_of_le_of_lt (List.length_take_le _ _) (Nat.lt_of_lt_of_le (show j < 8 by omega) (by decide))
      · rw [upd_same, List.take_add_one, em, List.map_append, List.map_append]
        rfl
    · rintro H1 ⟨s1, e⟩
      rw [hms.1, List.take_length] at e
      exact ⟨D, _, rfl, .inl ⟨SqL.of e, fun r nr => q r _ (s1.trans (same_upd nr)) (s1.free nr) upd_same⟩⟩
def crewText (ms : List Mem) : Str := inText "Crew(" (Txt.join ", " (ms.map Mem.name))
theorem crew_len {ms : List Mem} (h : CrewOk ms) : (Txt.join ", " (ms.map Mem.name)).length ≤ 1000 ∧ ((ms.map Mem.name).map (·.length)).sum + (ms.map Mem.name).length * (", " : Str).length ≤ 16777216 := by
  have a : ((ms.map Mem.name).map (·.length)).sum ≤ ms.length * 8 := by
    have := h.all
    clear h
    induction ms with
    | nil => simp
    | cons m r ih =>
      have h1 := (nm_len (Mem.nm (this m (by simp)))).2
      have h2 := ih fun k hk => this k (by simp [hk])
      simp only [List.map_cons, List.sum_cons, List.length_cons]
      omega
  have b := h.len
  have c : ((", " : Str)).length = 2 := rfl
  have d : (Txt.join ", " (ms.map Mem.name)).length ≤ ((ms.map Mem.name).map (·.length)).sum + (ms.map Mem.name).length * (", " : Str).length := by
    show (Builtin.Str.glued ", " (ms.map Mem.name)).length ≤ _
    rw [StrLaws.glued_eq_join]
    exact StrLaws.join_length_le ", " _
  rw [List.length_map, c] at d
  rw [List.length_map, c]
  omega
theorem scCRepr : FnScope ["self"] ["self"] (defScope sCRepr) := ⟨rfl, rfl, rfl, by decide +kernel, rfl, by decide +kernel, by decide +kernel⟩
def spCRepr (K : PySem.W.Frag) (CT CD CC : Addr) : Sp := fun vs H Q _ => ∃ (c : Addr) (ms : List Mem), vs = [.ref c] ∧ CrewAt K CT CD CC H c ms ∧ CrewOk ms ∧ ∀ H', Same H H' → Q (.str (crewText ms)) H'
theorem ok_crepr {f fn : Addr} {fd fdn : FuncData} (F : Fun K "__repr__" "Crew.__repr__" sCRepr f fd) (T : CrewC K mg CC) (mn : Meth K CC "names" fn) (G : FnOk P w K mg base CX0 3 fn fdn ["self"] (spNames K CT CD CC)) (bn : Binds K fdn ["self"] []) : FnOk P w K mg base CX0 4 f fd ["self"] (spCRepr K CT CD CC) := by
  refine F.ok scCRepr (fun vs H Q E h => ?_) (fun cdv A outer s H vs Q E hr h => ?_)
  · obtain ⟨c, ms, rfl, _⟩ := h
    rfl
  · obtain ⟨c, ms, rfl, hc, hok, q⟩ := h
    obtain ⟨dx, t, ec, hms⟩ := id hc
    obtain ⟨l1, l2⟩ := crew_len hok
    refine ⟨_, (pss_one (ps_ret (pe_joined (.cons pe_str (.cons (pe_fmt (pe_join pe_str (pe_meth0 (pv 0) T.cl mn G hr bn .nil pass0))) (.cons pe_str .nil)))))), ?_⟩
    refine ⟨_, rfl, by decide +kernel, ?_⟩
    refine ⟨⟨_, rfl⟩, _, rfl, c, dx, _, rfl, ec, rfl, c, ms, rfl, hc, hok.len, fun r H1 s1 nr er => ?_⟩
    refine ⟨_, r, ms.map Mem.name, rfl, rfl, .inr (SqT.of er), l2, ?_⟩
    exact .inl ⟨_, rfl, Nat.le_trans l1 (by decide), _, rfl, inText_len2 _ _ (by decide +kernel) l1, _, rfl, inText_len _ _ (by decide +kernel) l1, q H1 s1⟩
end
end Du

set_option Elab.async false
set_option linter.all false
set_option maxRecDepth 100000
namespace Du
open PySem L2
/-- the class Crew and its making -/
structure CrewM (P : Program) (w : World) (K : PySem.W.Frag) (mg : Str → Option Value) (base : Heap) (CT CD CC : Addr) : Prop where
  M : MemC K mg CT CD
  c : CrewC K mg CC
  ex : ∃ (f : Addr) (fd : FuncData), Mk K CC f ∧ FnOk P w K mg base CX0 5 f fd ["self", "members"] (spCInit K CT CD CC) ∧ Binds K fd ["self", "members"] []
theorem kc1 {K : PySem.W.Frag} {e0 f : Addr} {fd : FuncData} (F : FunCI K e0 f fd) : Binds K fd ["self", "members"] [] := by
  obtain ⟨ds, h1, h2⟩ := FunD.binds1 (ps := ["self", "members"]) F 2 1 (by simp) rfl fun T kV doc pm an cdv ct us its h1 h2 => match us, its, h1, h2 with | [_, _], [_], _, _ => ⟨_, rfl, rfl⟩
  cases (show Vals [] ds from h1)
  exact h2
def Mem.cost : Mem → Int
  | .task v => v.cost
  | .door _ r _ => r
def Mem.gap : Mem → Int
  | .task v => v.gap
  | .door _ _ g => g
def Mem.due : Mem → Int
  | .task v => v.due
  | .door _ _ g => g
theorem Mem.dueb {m : Mem} (h : m.ok) : 1 ≤ m.due ∧ m.due ≤ m.gap := by
  cases m with
  | task v => exact h.2.2.2.1
  | door n r g => exact ⟨h.2.2.1, Int.le_refl _⟩
theorem Mem.b {m : Mem} (h : m.ok) : (1 ≤ m.cost ∧ m.cost ≤ 99) ∧ (1 ≤ m.gap ∧ m.gap ≤ 600) := by
  cases m with
  | task v => exact ⟨h.2.1, h.2.2.1⟩
  | door n r g => exact ⟨h.2.1, h.2.2⟩
section
variable {P : Program} {w : World} {K : PySem.W.Frag} {mg : Str → Option Value} {base : Heap} {CT CD CC : Addr}
theorem mem_gap {H : Hp} {x : Addr} {m : Mem} (M : MemC K mg CT CD) (h : MemAt K CT CD H x m) : ∃ (C dx : Addr) (fs : List (Str × V)), H x = some (.ins C dx fs) ∧ Cls K C ∧ NoAttr K C "gap" ∧ fs.lookup ("gap" : Str) = some (V.int m.gap) := by
  cases m with
  | task v =>
    obtain ⟨a, ⟨dx, e⟩, _⟩ := h
    exact ⟨CT, dx, _, e, M.T.cl, M.T.nG, rfl⟩
  | door n r g =>
    obtain ⟨dx, e⟩ := h
    exact ⟨CD, dx, _, e, M.D.cl, M.D.nG, df_gap _ _ _⟩
end
end Du

set_option Elab.async false
set_option linter.all false
set_option maxRecDepth 100000
namespace Du
open PySem L2
abbrev sTaskL : Stmt := topS 47
abbrev sDoorL : Stmt := topS 48
abbrev sMember : Stmt := topS 50
abbrev sCrewL : Stmt := topS 51
theorem at_some {xs : List V} {r : Int} (h0 : 0 ≤ r) (h1 : r < (xs.length : Int)) : ∃ v, atI xs r = some v ∧ v ∈ xs := by
  have hl : r.toNat < xs.length := by omega
  exact ⟨xs[r.toNat], at_of (j := r.toNat) (by omega) (List.getElem?_eq_getElem hl), List.getElem_mem hl⟩
theorem sqL_step {K : PySem.W.Frag} {p a : Addr} {H H' : Hp} {xs : List V} (s : Step p H H') (ha : a ≠ p) (h : H a = some (.lst xs)) : SqL K H' a xs := SqL.of (s.keep a _ ha h)
/-- a member's row -/
def RowAt (K : PySem.W.Frag) (H : Hp) (r : Addr) : Mem → Prop
  | .task v => ∃ t, H r = some (.tup [.str "task", .str v.name, .int v.cost, .int v.gap, .int v.due, .ref t]) ∧ HdsAt K H t v.holds
  | .door n rm g => H r = some (.tup [.str "door", .str n, .int rm, .int g])
def Rows (K : PySem.W.Frag) (H : Hp) (vs : List V) (ms : List Mem) : Prop := vs.length = ms.length ∧ ∀ (i : Nat) v m, vs[i]? = some v → ms[i]? = some m → ∃ r, v = .ref r ∧ RowAt K H r m
section
variable {K : PySem.W.Frag} {H H' : Hp} {r : Addr} {m : Mem} {ms : List Mem} {vs : List V}
theorem RowAt.kt (h : RowAt K H r m) (s : Kt H H') : RowAt K H' r m := by
  cases m with
  | task v => exact h.imp fun t q => ⟨s _ _ q.1 (fun _ q => nomatch q), q.2.kt s⟩
  | door n rm g => exact s _ _ h (fun _ q => nomatch q)
theorem Rows.kt (h : Rows K H vs ms) (s : Kt H H') : Rows K H' vs ms := ⟨h.1, fun i v m e1 e2 => (h.2 i v m e1 e2).imp fun x q => ⟨q.1, q.2.kt s⟩⟩
theorem Rows.nil : Rows K H [] [] := ⟨rfl, fun i v m e _ => by simp at e⟩
theorem Rows.append {ws : List V} {ns : List Mem} (h : Rows K H vs ms) (q : Rows K H ws ns) : Rows K H (vs ++ ws) (ms ++ ns) := by
  refine ⟨by rw [List.length_append, List.length_append, h.1, q.1], fun i v n e1 e2 => ?_⟩
  by_cases hi : i < vs.length
  · rw [List.getElem?_append_left hi] at e1
    rw [List.getElem?_append_left (h.1 ▸ hi)] at e2
    exact h.2 i v n e1 e2
  · rw [List.getElem?_append_right (by omega)] at e1
    rw [List.getElem?_append_right (by rw [← h.1]; omega), ← h.1] at e2
    exact q.2 _ v n e1 e2
theorem Rows.one (q : RowAt K H r m) : Rows K H [.ref r] [m] := ⟨rfl, fun i v n e1 e2 => by
  match i, e1, e2 with
  | 0, e1, e2 => cases e1; cases e2; exact ⟨r, rfl, q⟩
  | i + 1, e1, e2 => simp at e1⟩
theorem Rows.at (h : Rows K H vs ms) {i : Nat} {v : V} (e : vs[i]? = some v) : ∃ (r : Addr) (m : Mem), v = .ref r ∧ ms[i]? = some m ∧ RowAt K H r m := by
  have hi : i < ms.length := by
    rw [← h.1]
    exact (List.getElem?_eq_some_iff.mp e).1
  have e2 : ms[i]? = some ms[i] := List.getElem?_eq_getElem hi
  obtain ⟨x, ex, q⟩ := h.2 i v _ e e2
  exact ⟨x, _, ex, e2, q⟩
theorem Rows.sub {a b : Nat} (h : Rows K H vs ms) : Rows K H ((vs.drop a).take b) ((ms.drop a).take b) := by
  refine ⟨by rw [List.length_take, List.length_take, List.length_drop, List.length_drop, h.1], fun i v m e1 e2 => ?_⟩
  rw [List.getElem?_take] at e1 e2
  by_cases hi : i < b
  · rw [if_pos hi, List.getElem?_drop] at e1 e2
    exact h.2 _ v m e1 e2
  · rw [if_neg hi] at e1
    cases e1
end
section
variable {P : Program} {w : World} {K : PySem.W.Frag} {mg : Str → Option Value} {base : Heap} {CT CD CC : Addr}
/-! _law_task -/
abbrev nTaskL : List Str := ["_law_purse_here", "_law_name", "_law_many", "_law_tools", "_law_gap", "_law_top", "_law_cost", "_law_term", "_law_grips"]
abbrev pTaskL : List Str := ["_law_purse_here", "_law_name", "_law_many", "_law_tools"]
theorem scTaskL : FnScope nTaskL pTaskL (defScope sTaskL) := ⟨rfl, rfl, rfl, by decide +kernel, rfl, by decide +kernel, by decide +kernel⟩
def spTaskL (K : PySem.W.Frag) : Sp := fun vs H Q _ => ∃ (p L : Addr) (n : Str) (k : Int) (ws : List Str), vs = [.ref p, .str n, .int k, .ref L] ∧ Purse H p ∧ isNm n = true ∧ 1 ≤ k ∧ k ≤ 100 ∧ L ≠ p ∧ H L = some (.lst (ws.map V.str)) ∧ ws.length < 64 ∧ ws.Nodup ∧ (∀ z ∈ ws, isNm z = true) ∧
  ∀ r v H', Step p H H' → H r = none → RowAt K H' r (.task v) → v.ok → v.name = n → v.cost ≤ 9 → v.gap ∣ 60 → (∀ g ∈ v.holds, g.1 ∈ ws) → Q (.ref r) H'
theorem dp_strs {H : Hp} : ∀ l : List Str, DpAll K H (l.map V.str) (l.map PyData.str)
  | [] => .nil
  | z :: l => .cons (.str z) (dp_strs l)
theorem names_can : ∀ l : List Str, (∀ z ∈ l, isNm z = true) → PyData.canLayAll0 (l.map .str) = true
  | [], _ => by simp [PyData.canLayAll0]
  | z :: l, h => by
    show (PyData.strOk z && PyData.canLayAll0 (l.map .str)) = true
    rw [nm_strOk (h z (by simp)), names_can l fun y hy => h y (by simp [hy])]
    rfl
theorem names_depth : ∀ l : List Str, PyData.depthAll (l.map .str) = 0
  | [] => by simp [PyData.depthAll]
  | z :: l => by
    simp only [List.map_cons, PyData.depthAll, names_depth l, PyData.depth]
    rfl
theorem lnames_shaped {l : List Str} (h : ∀ z ∈ l, isNm z = true) : SeqAt.shaped (.list (l.map .str)) = true := by
  unfold SeqAt.shaped
  have a : PyData.canLay0 (.list (l.map .str)) = true := by
    show PyData.canLayAll0 (l.map .str) = true
    exact names_can l h
  have b : PyData.depth (.list (l.map .str)) ≤ 64 := by
    show PyData.depthAll (l.map .str) + 1 ≤ 64
    rw [names_depth]
    decide
  rw [a, decide_eq_true b]
  rfl
set_option maxHeartbeats 2000000 in
theorem ok_taskL {f : Addr} {fd : FuncData} (F : Fun K "_law_task" "_law_task" sTaskL f fd) (mx : mg "max" = none) (mn : mg "min" = none) (DT : Dn P w K mg base 3 "_law_take" ["_law_purse_here", "_law_many"] spTake) (DH : Dn P w K mg base 4 "_law_holds" ["_law_purse_here", "_law_cost", "_law_tools"] (spHoldsL K)) : FnOk P w K mg base CX0 5 f fd pTaskL (spTaskL K) := by
  refine F.ok scTaskL (fun vs H Q E h => ?_) (fun cdv A outer s H vs Q E hr h => ?_)
  · obtain ⟨p, L, n, k, ws, rfl, _⟩ := h
    rfl
  · obtain ⟨p, L, n, k, ws, rfl, hp, hn, hk1, hk2, hLp, eL, hw1, hw2, hw3, q⟩ := h
    have hr1 : Room 3 _ := hr.mono (by decide)
    refine ⟨_, (pss_cons (ps_set (i := 4) scTaskL.nd rfl (.inl rfl) (pe_ix ix_list (pe_lst (pa_cons pe_int (pa_cons pe_int (pa_cons pe_int (pa_cons pe_int (pa_cons pe_int (pa_cons pe_int (pa_cons pe_int (pa_cons pe_int (pa_cons pe_int (pa_cons pe_int (pa_cons pe_int (pa_cons pe_int pa_nil))))))))))))) (pcall DT hr1 (by rfl) (pa_cons (pv 0) (pa_cons pe_int pa_nil))) (fun _ _ => rfl))) (pss_cons (ps_set (i := 5) scTaskL.nd rfl (.inl rfl) (pe_ix ix_list (pe_lst (pa_cons (pe_callB (call_max2 rfl) (by rfl) mx (by decide +kernel) (pa_cons pe_int (pa_cons (pe_op op_fdiv (pv 4) (pv 2)) pa_nil))) (pa_cons (pv 4) (pa_cons (pe_callB (call_max2 rfl) (by rfl) mx (by decide +kernel) (pa_cons pe_int (pa_cons (pe_op op_fdiv (pv 4) (pe_op op_mul pe_int (pv 2))) pa_nil))) pa_nil)))) (pcall DT hr1 (by rfl) (pa_cons (pv 0) (pa_cons pe_int pa_nil))) (fun _ _ => rfl))) (pss_cons (ps_set (i := 6) scTaskL.nd rfl (.inl rfl) (pe_op op_add pe_int (pcall DT hr1 (by rfl) (pa_cons (pv 0) (pa_cons (pe_callB (call_min2 rfl) (by rfl) mn (by decide +kernel) (pa_cons pe_int (pa_cons (pv 5) pa_nil))) pa_nil))))) (pss_cons (ps_set (i := 7) scTaskL.nd rfl (.inl rfl) (pe_op op_sub (pv 4) (pe_ix ix_list (pe_lst (pa_cons pe_int (pa_cons (pcall DT hr1 (by rfl) (pa_cons (pv 0) (pa_cons (pv 4) pa_nil))) (pa_cons (pcall DT hr1 (by rfl) (pa_cons (pv 0) (pa_cons (pe_op op_add (pe_op op_fdiv (pv 4) pe_int) pe_int) pa_nil))) pa_nil)))) (pcall DT hr1 (by rfl) (pa_cons (pv 0) (pa_cons pe_int pa_nil))) (fun _ _ => rfl)))) (pss_cons (ps_set (i := 8) scTaskL.nd rfl (.inl rfl) (pe_tup pa_nil)) (pss_cons (ps_if (PW.pt (pw_and (pt_cmpR (op_neD hr.units) (pv 3) (pe_lst pa_nil) (nomark _)) (pw_and1 (pt_cmpR op_gt (pcall DT hr1 (by rfl) (pa_cons (pv 0) (pa_cons pe_int pa_nil))) pe_int (nomark _))))) (pss_one (ps_set (i := 8) scTaskL.nd rfl (.inl rfl) (pcall DH hr (by rfl) (pa_cons (pv 0) (pa_cons (pv 6) (pa_cons (pv 3) pa_nil)))))) pss_nil) (pss_one (ps_ret (pe_tup (pa_cons pe_str (pa_cons (pv 1) (pa_cons (pv 6) (pa_cons (pv 4) (pa_cons (pv 7) (pa_cons (pv 8) pa_nil))))))))))))))), ?_⟩
    -- the gap
    refine ⟨(by show 12 ≤ sizeLine; decide), fun L1 n1 => ?_⟩
    have t1 := Step.new (o := .lst [.int 2, .int 3, .int 4, .int 5, .int 6, .int 10, .int 12, .int 15, .int 20, .int 30, .int 60, .int 1]) hp n1
    refine ⟨_, rfl, p, 12, rfl, by decide, by decide, t1.purse, fun r1 H1 a1 b1 s1 => ?_⟩
    obtain ⟨gv, hgv, hgm⟩ := at_some (xs := [.int 2, .int 3, .int 4, .int 5, .int 6, .int 10, .int 12, .int 15, .int 20, .int 30, .int 60, .int 1]) a1 b1
    obtain ⟨gap, rfl, hg1, hg2, hg3⟩ : ∃ c : Int, gv = .int c ∧ 1 ≤ c ∧ c ≤ 60 ∧ c ∣ 60 := by
      simp at hgm
      rcases hgm with rfl | rfl | rfl | rfl | rfl | rfl | rfl | rfl | rfl | rfl | rfl | rfl <;> exact ⟨_, rfl, by omega, by omega, by decide⟩
    refine ⟨L1, _, _, _, rfl, rfl, sqL_step s1 (hp.ne n1) upd_same, hgv, ?_⟩
    have u1 := t1.trans s1
    -- the top
    have d1 : 0 ≤ gap / k ∧ gap / k ≤ 60 := ⟨Int.ediv_nonneg (by omega) (by omega), Int.le_trans (Int.ediv_le_self _ (by omega)) hg2⟩
    have d2 : 0 ≤ gap / (2 * k) ∧ gap / (2 * k) ≤ 60 := ⟨Int.ediv_nonneg (by omega) (by omega), Int.le_trans (Int.ediv_le_self _ (by omega)) hg2⟩
    refine ⟨_, rfl, _, rfl, _, _, rfl, rfl, ⟨by omega, by omega⟩, _, _, rfl, _, rfl, _, rfl, _, rfl, _, _, rfl, rfl, .inl ⟨by decide, by decide⟩, _, _, rfl, rfl, ⟨by omega, by omega⟩, _, _, rfl, (by show 3 ≤ sizeLine; decide), fun L2' n2 => ?_⟩
    have t2 := Step.new (o := .lst [.int (if gap / k > 1 then gap / k else 1), .int gap, .int (if gap / (2 * k) > 1 then gap / (2 * k) else 1)]) u1.purse n2
    refine ⟨_, rfl, p, 3, rfl, by decide, by decide, t2.purse, fun r2 H2 a2 b2 s2 => ?_⟩
    obtain ⟨tv, htv, htm⟩ := at_some (xs := [.int (if gap / k > 1 then gap / k else 1), .int gap, .int (if gap / (2 * k) > 1 then gap / (2 * k) else 1)]) a2 b2
    obtain ⟨top, rfl, ht1, ht2⟩ : ∃ c : Int, tv = .int c ∧ 1 ≤ c ∧ c ≤ 60 := by
      simp only [List.mem_cons, List.not_mem_nil, or_false] at htm
      rcases htm with rfl | rfl | rfl
      · exact ⟨_, rfl, by split <;> omega, by split <;> omega⟩
      · exact ⟨_, rfl, by omega, by omega⟩
      · exact ⟨_, rfl, by split <;> omega, by split <;> omega⟩
    refine ⟨L2', _, _, _, rfl, rfl, sqL_step s2 (u1.purse.ne n2) upd_same, htv, ?_⟩
    have u2 := (u1.trans t2).trans s2
    -- the cost
    have hm1 : 0 < (if top < 9 then top else 9) := by split <;> omega
    have hm2 : (if top < 9 then top else 9) ≤ 9 := by split <;> omega
    refine ⟨_, rfl, _, rfl, _, _, rfl, p, _, rfl, hm1, Int.lt_of_le_of_lt hm2 (by decide), u2.purse, fun r3 H3 a3 b3 s3 => ⟨_, _, rfl, rfl, ?_⟩⟩
    have u3 := u2.trans s3
    -- the term
    refine ⟨_, rfl, _, rfl, _, rfl, p, gap, rfl, by omega, by omega, s3.purse, fun r4 H4 a4 b4 s4 => ?_⟩
    have d3 : 0 ≤ gap / 2 ∧ gap / 2 < gap := by omega
    refine ⟨_, rfl, _, rfl, _, _, rfl, rfl, ⟨by decide, by decide⟩, _, _, rfl, rfl, p, gap / 2 + 1, rfl, by omega, by omega, s4.purse, fun r5 H5 a5 b5 s5 => ?_⟩
    refine ⟨(by show 3 ≤ sizeLine; decide), fun L3 n3 => ?_⟩
    have u5 := (u3.trans s4).trans s5
    have t3 := Step.new (o := .lst [.int 0, .int r4, .int r5]) u5.purse n3
    refine ⟨_, rfl, p, 3, rfl, by decide, by decide, t3.purse, fun r6 H6 a6 b6 s6 => ?_⟩
    obtain ⟨mv, hmv, hmm⟩ := at_some (xs := [.int 0, .int r4, .int r5]) a6 b6
    obtain ⟨off, rfl, ho1, ho2⟩ : ∃ c : Int, mv = .int c ∧ 0 ≤ c ∧ c < gap := by
      simp only [List.mem_cons, List.not_mem_nil, or_false] at hmm
      rcases hmm with rfl | rfl | rfl
      · exact ⟨_, rfl, by omega, by omega⟩
      · exact ⟨_, rfl, by omega, by omega⟩
      · exact ⟨_, rfl, by omega, by omega⟩
    refine ⟨L3, _, _, _, rfl, rfl, sqL_step s6 (u5.purse.ne n3) upd_same, hmv, _, _, rfl, rfl, ?_⟩
    have u6 := (u5.trans t3).trans s6
    -- no holds
    refine ⟨Nat.zero_le _, fun E0' nE => ?_⟩
    have t4 := Step.new (o := .tup []) u6.purse nE
    have u7 := u6.trans t4
    have cost1 : 1 ≤ 1 + r3 ∧ 1 + r3 ≤ 9 := by omega
    -- the end
    have fin : ∀ (H7 : Hp) (t : Addr) (hs : List Hold), Step p H H7 → HdsAt K H7 t hs → areHds hs (1 + r3) = true → (∀ h ∈ hs, isNm h.1 = true) → (∀ g ∈ hs, g.1 ∈ ws) →
        tRet (fun σ H Q => tCons (tC (.str "task")) (tCons (tVar 1) (tCons (tVar 6) (tCons (tVar 4) (tCons (tVar 7) (tCons (tVar 8) tNil))))) σ H fun vs H1 => vs.length ≤ sizeLine ∧ ∀ p, H1 p = none → Q (.ref p) (upd H1 p (.tup vs))) { nx := fun _ H' => Q .non H', rt := Q } [some (.ref p), some (.str n), some (.int k), some (.ref L), some (.int gap), some (.int top), some (.int (1 + r3)), some (.int (gap - off)), some (.ref t)] H7 := by
      intro H7 t hs u hh ha hnm hmem
      refine ⟨_, rfl, _, rfl, _, rfl, _, rfl, _, rfl, (by show 6 ≤ sizeLine; decide), fun r nr => ?_⟩
      have t5 := Step.new (o := .tup [.str "task", .str n, .int (1 + r3), .int gap, .int (gap - off), .ref t]) u.purse nr
      refine q r ⟨n, 1 + r3, gap, gap - off, hs⟩ _ (u.trans t5) (u.free nr) ⟨t, upd_same, hh.kt (.of_step u.purse t5)⟩ ?_ rfl cost1.2 hg3 hmem
      refine ⟨hn, ⟨cost1.1, by show 1 + r3 ≤ 99; omega⟩, ⟨hg1, by show gap ≤ 600; omega⟩, ⟨by show 1 ≤ gap - off; omega, by show gap - off ≤ gap; omega⟩, ha, fun h hh => ?_⟩
      exact Nat.le_trans (nm_len (hnm h hh)).2 (by decide)
    have fin0 : ∀ H7, Step p H H7 → H7 E0' = some (.tup []) → _ := fun H7 u e => fin H7 E0' [] u ⟨[], SqT.of e, rfl, fun i u g e1 _ => by simp at e1⟩ (by simp [areHds]) (fun h hh => nomatch hh) (fun h hh => nomatch hh)
    -- the tools
    have eL7 := u7.keep L _ hLp eL
    refine ⟨_, rfl, Nat.zero_le _, fun L5 n5 => ?_⟩
    have t5 := Step.new (o := .lst []) u7.purse n5
    refine ⟨.list (ws.map .str), .list [], .lst (SqL.of (t5.keep L _ hLp eL7)) (dp_strs ws), .lst (SqL.of upd_same) .nil, lnames_shaped hw3, by decide +kernel, _, rfl, ?_⟩
    have eE : (upd (upd H6 E0' (.tup [])) L5 (.lst [])) E0' = some (.tup []) := (same_upd n5) _ _ upd_same
    cases hb : (!PyData.eqv (.list (ws.map .str)) (.list [])) with
    | false => exact iteF (iteF (fin0 _ (u7.trans t5) eE))
    | true =>
      refine iteT ⟨_, rfl, p, 4, rfl, by decide, by decide, t5.purse, fun r7 H8 a7 b7 s7 => ⟨_, _, rfl, rfl, _, rfl, ?_⟩⟩
      have u8 := (u7.trans t5).trans s7
      have eE8 : H8 E0' = some (.tup []) := s7.keep _ _ (u6.purse.ne nE) eE
      refine ite2 (fun _ => ?_) (fun _ => fin0 _ u8 eE8)
      refine ⟨_, rfl, _, rfl, _, rfl, p, L, 1 + r3, ws, rfl, cost1.1, by omega, u8.purse, SqL.of (u8.keep L _ hLp eL), hw1, hw2, hw3, fun t hs H9 s9 hh gd hmem => ?_⟩
      exact fin H9 t hs (u8.trans s9) hh gd.ok gd.nm hmem
end
end Du

set_option Elab.async false
set_option linter.all false
set_option maxRecDepth 100000
namespace Du
open PySem L2
/-- the classes Task and Door and their making, of good arguments -/
structure MemM (P : Program) (w : World) (K : PySem.W.Frag) (mg : Str → Option Value) (base : Heap) (CT CD : Addr) : Prop where
  M : MemC K mg CT CD
  T : ∃ (e0 f : Addr) (fd : FuncData), FunI K e0 f fd ∧ Mk K CT f ∧ FnOk P w K mg base CX0 6 f fd pInit (spInit K CT) ∧ ∀ H : Hp, SqT K H e0 []
  D : ∃ (f : Addr) (fd : FuncData), Binds K fd pD [] ∧ Mk K CD f ∧ FnOk P w K mg base CX0 4 f fd pD (spDInit CD)
section
variable {P : Program} {w : World} {K : PySem.W.Frag} {mg : Str → Option Value} {base : Heap} {CT CD CC : Addr}
/-! _law_door -/
abbrev nDoorL : List Str := ["_law_purse_here", "_law_name", "_law_many", "_law_gap", "_law_top"]
abbrev pDoorL : List Str := ["_law_purse_here", "_law_name", "_law_many"]
theorem scDoorL : FnScope nDoorL pDoorL (defScope sDoorL) := ⟨rfl, rfl, rfl, by decide +kernel, rfl, by decide +kernel, by decide +kernel⟩
def spDoorL (K : PySem.W.Frag) : Sp := fun vs H Q _ => ∃ (p : Addr) (n : Str) (k : Int), vs = [.ref p, .str n, .int k] ∧ Purse H p ∧ isNm n = true ∧ 1 ≤ k ∧ k ≤ 100 ∧
  ∀ r rm g H', Step p H H' → H r = none → RowAt K H' r (.door n rm g) → (Mem.door n rm g).ok → rm ≤ 6 → g ∣ 60 → Q (.ref r) H'
set_option maxHeartbeats 1000000 in
theorem ok_doorL {f : Addr} {fd : FuncData} (F : Fun K "_law_door" "_law_door" sDoorL f fd) (mx : mg "max" = none) (mn : mg "min" = none) (mi : mg "int" = none) (DT : Dn P w K mg base 3 "_law_take" ["_law_purse_here", "_law_many"] spTake) : FnOk P w K mg base CX0 4 f fd pDoorL (spDoorL K) := by
  refine F.ok scDoorL (fun vs H Q E h => ?_) (fun cdv A outer s H vs Q E hr h => ?_)
  · obtain ⟨p, n, k, rfl, _⟩ := h
    rfl
  · obtain ⟨p, n, k, rfl, hp, hn, hk1, hk2, q⟩ := h
    refine ⟨_, (pss_cons (ps_set (i := 3) scDoorL.nd rfl (.inl rfl) (pe_ix ix_list (pe_lst (pa_cons pe_int (pa_cons pe_int (pa_cons pe_int (pa_cons pe_int (pa_cons pe_int (pa_cons pe_int (pa_cons pe_int (pa_cons pe_int (pa_cons pe_int pa_nil)))))))))) (pcall DT hr (by rfl) (pa_cons (pv 0) (pa_cons pe_int pa_nil))) (fun _ _ => rfl))) (pss_cons (ps_set (i := 4) scDoorL.nd rfl (.inl rfl) (pe_ix ix_list (pe_lst (pa_cons (pe_callB (call_max2 rfl) (by rfl) mx (by decide +kernel) (pa_cons pe_int (pa_cons (pe_op op_fdiv (pv 3) (pv 2)) pa_nil))) (pa_cons (pv 3) pa_nil))) (pe_callTy call_int1 (by rfl) mi (by decide +kernel) (pa_cons (pe_cmpR op_eq (pcall DT hr (by rfl) (pa_cons (pv 0) (pa_cons pe_int pa_nil))) pe_int (nomark _)) pa_nil)) (fun _ _ => rfl))) (pss_one (ps_ret (pe_tup (pa_cons pe_str (pa_cons (pv 1) (pa_cons (pe_op op_add pe_int (pcall DT hr (by rfl) (pa_cons (pv 0) (pa_cons (pe_callB (call_min2 rfl) (by rfl) mn (by decide +kernel) (pa_cons pe_int (pa_cons (pv 4) pa_nil))) pa_nil)))) (pa_cons (pv 3) pa_nil))))))))), ?_⟩
    refine ⟨(by show 9 ≤ sizeLine; decide), fun L1 n1 => ?_⟩
    have t1 := Step.new (o := .lst [.int 3, .int 4, .int 5, .int 6, .int 10, .int 12, .int 15, .int 20, .int 30]) hp n1
    refine ⟨_, rfl, p, 9, rfl, by decide, by decide, t1.purse, fun r1 H1 a1 b1 s1 => ?_⟩
    obtain ⟨gv, hgv, hgm⟩ := at_some (xs := [.int 3, .int 4, .int 5, .int 6, .int 10, .int 12, .int 15, .int 20, .int 30]) a1 b1
    obtain ⟨gap, rfl, hg1, hg2, hg3⟩ : ∃ c : Int, gv = .int c ∧ 1 ≤ c ∧ c ≤ 60 ∧ c ∣ 60 := by
      simp at hgm
      rcases hgm with rfl | rfl | rfl | rfl | rfl | rfl | rfl | rfl | rfl <;> exact ⟨_, rfl, by omega, by omega, by decide⟩
    refine ⟨L1, _, _, _, rfl, rfl, sqL_step s1 (hp.ne n1) upd_same, hgv, ?_⟩
    have u1 := t1.trans s1
    have d1 : 0 ≤ gap / k ∧ gap / k ≤ 60 := ⟨Int.ediv_nonneg (by omega) (by omega), Int.le_trans (Int.ediv_le_self _ (by omega)) hg2⟩
    refine ⟨_, rfl, _, rfl, _, _, rfl, rfl, ⟨by omega, by omega⟩, _, _, rfl, _, rfl, (by show 2 ≤ sizeLine; decide), fun L2' n2 => ?_⟩
    have t2 := Step.new (o := .lst [.int (if gap / k > 1 then gap / k else 1), .int gap]) u1.purse n2
    refine ⟨_, rfl, p, 5, rfl, by decide, by decide, t2.purse, fun r2 H2 a2 b2 s2 => ⟨rfl, .inr ⟨_, rfl, ?_⟩⟩⟩
    obtain ⟨ix, hix, i0, i1⟩ : ∃ ix : Int, (if decide (V.int r2 = V.int 1) = true then 1 else 0) = ix ∧ 0 ≤ ix ∧ ix < 2 := ⟨_, rfl, by split <;> omega, by split <;> omega⟩
    obtain ⟨tv, htv, htm⟩ := at_some (xs := [.int (if gap / k > 1 then gap / k else 1), .int gap]) i0 i1
    obtain ⟨top, rfl, ht1, ht2⟩ : ∃ c : Int, tv = .int c ∧ 1 ≤ c ∧ c ≤ 60 := by
      simp only [List.mem_cons, List.not_mem_nil, or_false] at htm
      rcases htm with rfl | rfl
      · exact ⟨_, rfl, by split <;> omega, by split <;> omega⟩
      · exact ⟨_, rfl, by omega, by omega⟩
    refine ⟨L2', _, _, _, rfl, rfl, sqL_step s2 (u1.purse.ne n2) upd_same, by rw [hix]; exact htv, ?_⟩
    have u2 := (u1.trans t2).trans s2
    have hm1 : 0 < (if top < 6 then top else 6) := by split <;> omega
    have hm2 : (if top < 6 then top else 6) ≤ 6 := by split <;> omega
    refine ⟨_, rfl, _, rfl, _, rfl, _, _, rfl, p, _, rfl, hm1, Int.lt_of_le_of_lt hm2 (by decide), u2.purse, fun r3 H3 a3 b3 s3 => ⟨_, _, rfl, rfl, ?_⟩⟩
    have u3 := u2.trans s3
    refine ⟨_, rfl, (by show 4 ≤ sizeLine; decide), fun r nr => ?_⟩
    have t5 := Step.new (o := .tup [.str "door", .str n, .int (1 + r3), .int gap]) u3.purse nr
    exact q r (1 + r3) gap _ (u3.trans t5) (u3.free nr) upd_same ⟨hn, ⟨by omega, by omega⟩, ⟨by omega, by omega⟩⟩ (by omega) hg3
/-! _law_member -/
theorem scMember : FnScope ["_law_row"] ["_law_row"] (defScope sMember) := ⟨rfl, rfl, rfl, by decide +kernel, rfl, by decide +kernel, by decide +kernel⟩
def spMember (K : PySem.W.Frag) (CT CD : Addr) : Sp := fun vs H Q _ => ∃ (r : Addr) (m : Mem), vs = [.ref r] ∧ RowAt K H r m ∧ m.ok ∧ ∀ x H', Same H H' → H x = none → MemAt K CT CD H' x m → Q (.ref x) H'
theorem ok_member {f : Addr} {fd : FuncData} (F : Fun K "_law_member" "_law_member" sMember f fd) (MM : MemM P w K mg base CT CD) : FnOk P w K mg base CX0 8 f fd ["_law_row"] (spMember K CT CD) := by
  obtain ⟨M, ⟨e0, fj, fdj, FJ, MJ, GJ, hE⟩, ⟨fi, fdi, kd, MI, GI⟩⟩ := MM
  obtain ⟨mv2, kB⟩ := kb2 FJ
  refine F.ok scMember (fun vs H Q E h => ?_) (fun cdv A outer s H vs Q E hr h => ?_)
  · obtain ⟨r, m, rfl, _⟩ := h
    rfl
  · obtain ⟨r, m, rfl, hrow, hok, q⟩ := h
    have hr3 : Room 5 _ := hr.mono (by decide)
    refine ⟨_, (pss_cons (ps_if (pt_cmpR op_eq (pe_ix ix_tup (pv 0) pe_int (fun _ _ => rfl)) pe_str (nomark _)) (pss_one (ps_ret (pe_make MI GI hr3 (by rfl) M.D.mg kd .nil pass0 (pa_cons (pe_ix ix_tup (pv 0) pe_int (fun _ _ => rfl)) (pa_cons (pe_ix ix_tup (pv 0) pe_int (fun _ _ => rfl)) (pa_cons (pe_ix ix_tup (pv 0) pe_int (fun _ _ => rfl)) pa_nil)))))) pss_nil) (pss_one (ps_ret (pe_makeK MJ GJ hr (by rfl) M.T.mg kB pass0 (pa_cons (pe_ix ix_tup (pv 0) pe_int (fun _ _ => rfl)) (pa_cons (pe_ix ix_tup (pv 0) pe_int (fun _ _ => rfl)) (pa_cons (pe_ix ix_tup (pv 0) pe_int (fun _ _ => rfl)) pa_nil))) (pk_cons (pe_ix ix_tup (pv 0) pe_int (fun _ _ => rfl)) (pk_cons (pe_ix ix_tup (pv 0) pe_int (fun _ _ => rfl)) pk_nil)))))), ?_⟩
    cases m with
    | door n rm g =>
      have e : SqT K H r _ := SqT.of hrow
      obtain ⟨o1, o2, o3⟩ := hok
      refine ⟨_, rfl, r, _, _, _, rfl, rfl, e, at_of (j := 0) rfl rfl, rfl, _, rfl, ?_⟩
      rw [decide_eq_true rfl]
      refine iteT ⟨_, rfl, r, _, _, _, rfl, rfl, e, at_of (j := 1) rfl rfl, _, rfl, r, _, _, _, rfl, rfl, e, at_of (j := 2) rfl rfl, _, rfl, r, _, _, _, rfl, rfl, e, at_of (j := 3) rfl rfl, ?_⟩
      exact doorSp o1 o2 o3 fun x H' s nx hd => q x H' s nx hd
    | task v =>
      obtain ⟨t, er, hh⟩ := hrow
      have e : SqT K H r _ := SqT.of er
      refine ⟨_, rfl, r, _, _, _, rfl, rfl, e, at_of (j := 0) rfl rfl, rfl, _, rfl, ?_⟩
      have z : decide (V.str "task" = V.str "door") = false := by decide +kernel
      rw [z]
      refine iteF ⟨_, rfl, r, _, _, _, rfl, rfl, e, at_of (j := 1) rfl rfl, _, rfl, r, _, _, _, rfl, rfl, e, at_of (j := 2) rfl rfl, _, rfl, r, _, _, _, rfl, rfl, e, at_of (j := 3) rfl rfl, _, rfl, r, _, _, _, rfl, rfl, e, at_of (j := 4) rfl rfl, _, rfl, r, _, _, _, rfl, rfl, e, at_of (j := 5) rfl rfl, rfl, rfl, ?_⟩
      exact taskSp (od := some v.due) hh hok rfl fun x H' s nx hd => q x H' s nx ⟨t, hd⟩
/-! _law_crew -/
theorem scCrewL : FnScope ["_law_rows_here", "_law_row"] ["_law_rows_here"] (defScope sCrewL) := ⟨rfl, rfl, rfl, by decide +kernel, rfl, by decide +kernel, by decide +kernel⟩
def spCrewL (K : PySem.W.Frag) (CT CD CC : Addr) : Sp := fun vs H Q _ => ∃ (L : Addr) (rs : List V) (ms : List Mem), vs = [.ref L] ∧ SqL K H L rs ∧ Rows K H rs ms ∧ CrewOk ms ∧ ∀ c H', Same H H' → H c = none → CrewAt K CT CD CC H' c ms → Q (.ref c) H'
theorem ok_crewL {f : Addr} {fd : FuncData} (F : Fun K "_law_crew" "_law_crew" sCrewL f fd) (CM : CrewM P w K mg base CT CD CC) (mt : mg "tuple" = none) (DM : Dn P w K mg base 8 "_law_member" ["_law_row"] (spMember K CT CD)) : FnOk P w K mg base CX0 9 f fd ["_law_rows_here"] (spCrewL K CT CD CC) := by
  obtain ⟨M, T, fi, fdi, MK, GK, bK⟩ := CM
  refine F.ok scCrewL (fun vs H Q E h => ?_) (fun cdv A outer s H vs Q E hr h => ?_)
  · obtain ⟨L, rs, ms, rfl, _⟩ := h
    rfl
  · obtain ⟨L, rs, ms, rfl, hS, hrs, hok, q⟩ := h
    have hr4 : Room 6 _ := hr.mono (by decide)
    refine ⟨_, (pss_one (ps_ret (pe_make MK GK hr4 (by rfl) T.mg bK .nil pass0 (pa_cons (pe_callTy call_tuple_of (by rfl) mt (by decide +kernel) (pa_cons (pe_lc (own := [("_law_row", 1)]) (g := gName 1) (tt := tYes) rfl scCrewL.nd (pi_list (pv 0)) (blkOk_by (N := ["_law_rows_here", "_law_row"]) (sc := defScope sCrewL) (by decide +kernel))
        (fun _ _ _ _ _ => pg_name (i := 1) scCrewL.nd rfl (Or.inl rfl)) (fun _ _ _ _ _ => pts_nil) (fun _ _ _ _ _ => pcall DM hr (by rfl) (pa_cons (pv 1) pa_nil))) pa_nil)) pa_nil)))), ?_⟩
    refine ⟨_, rfl, L, rfl, ⟨_, hS⟩, fun D nD => lc_list (K := K) (a := L) (xs := rs) (fun j H' => Same H H' ∧ ∃ ys : List V, H' D = some (.lst ys) ∧ Mems K CT CD H' ys (ms.take j)) ⟨same_upd nD, [], upd_same, .nil⟩ (fun j H' _ z => hS.ext z.1) ?_ ?_⟩
    · rintro j y H1 hy ⟨s1, ys, e, hys⟩
      obtain ⟨r, m, rfl, em, hrow⟩ := hrs.at hy
      have hj := (List.getElem?_eq_some_iff.mp em).1
      refine ⟨rfl, _, rfl, r, m, rfl, hrow.kt (.of_same s1), hok.all m (List.mem_of_getElem? em), fun x H2 s2 nx hx => ⟨ys, s2 _ _ e, ?_, same_upd2 (s1.trans s2) nD, ys ++ [.ref x], upd_same, ?_⟩⟩
      · rw [hys.1]
        have := hok.len
        exact Nat.lt_of_le_of_lt (List.length_take_le _ _) (Nat.lt_of_lt_of_le (show j < 8 by omega) (by decide))
      · rw [List.take_add_one, em]
        exact ((hys.kt (.of_same s2)).add hx).kt (Kt.put (s2 _ _ e))
    · rintro H1 ⟨s1, ys, e, hys⟩
      rw [hrs.1, List.take_length] at hys
      refine ⟨D, _, rfl, .inl ⟨SqL.of e, fun r2 nr2 => ?_⟩⟩
      have s4 := same_upd (o := .tup ys) nr2
      refine crewSp (K := K) (CT := CT) (CD := CD) (CC := CC) (ms := ms) ⟨ys, SqT.of upd_same, hys.kt (.of_same s4)⟩ hok.len hok.nd fun d H5 s5 nd hd => ?_
      have s14 := s1.trans s4
      exact q d H5 (s14.trans s5) (s14.free nd) hd
end
end Du

set_option Elab.async false
set_option linter.all false
set_option maxRecDepth 100000
namespace Du
open PySem L2
abbrev sRowsL : Stmt := topS 49
def cutL (ws : List Str) (lo hi : Option Int) : List Str := (ws.drop (HT.sIx ws.length 0 lo)).take (HT.sIx ws.length ws.length hi - HT.sIx ws.length 0 lo)
theorem cutV_map (ws : List Str) (lo hi : Option Int) : cutV (ws.map V.str) lo hi = (cutL ws lo hi).map V.str := by
  unfold cutV cutL
  rw [List.length_map, List.map_take, List.map_drop]
theorem cutL_sub (ws : List Str) (lo hi : Option Int) : (cutL ws lo hi).Sublist ws := (List.take_sublist _ _).trans (List.drop_sublist _ _)
/-- a member as _law_rows draws it -/
structure Small (ts : List Str) (m : Mem) : Prop where
  ok : m.ok
  cost : m.cost ≤ 9
  gap : m.gap ∣ 60
  tools : ∀ v, m = .task v → ∀ g ∈ v.holds, g.1 ∈ ts
section
variable {P : Program} {w : World} {K : PySem.W.Frag} {mg : Str → Option Value} {base : Heap} {CT CD CC : Addr}
abbrev nRowsL : List Str := ["_law_purse_here", "_law_least", "_law_top", "_law_tools", "_law_doors", "_law_many", "_law_called", "_law_own", "_law_found", "_law_k"]
abbrev pRowsL : List Str := ["_law_purse_here", "_law_least", "_law_top", "_law_tools", "_law_doors"]
theorem scRowsL : FnScope nRowsL pRowsL (defScope sRowsL) := ⟨rfl, rfl, rfl, by decide +kernel, rfl, by decide +kernel, by decide +kernel⟩
def spRowsL (K : PySem.W.Frag) : Sp := fun vs H Q _ => ∃ (p : Addr) (a b t : Int) (d : Bool), vs = [.ref p, .int a, .int b, .int t, .bl d] ∧ Purse H p ∧ 0 ≤ a ∧ a ≤ b ∧ b ≤ 8 ∧ 0 ≤ t ∧ t ≤ 8 ∧
  ∀ (F : Addr) (rs : List V) (ms : List Mem) (ts : List Str) H', Step p H H' → H F = none → H' F = some (.lst rs) → Rows K H' rs ms → CrewOk ms → a ≤ (ms.length : Int) → (ms.length : Int) ≤ b → (∀ m ∈ ms, Small ts m) → ts.Nodup → (ts.length : Int) ≤ t → (∀ z ∈ ts, isNm z = true) → (d = false → ∀ m ∈ ms, ∃ v, m = .task v) → Q (.ref F) H'
set_option maxHeartbeats 2000000 in
theorem ok_rowsL {f : Addr} {fd : FuncData} (F : Fun K "_law_rows" "_law_rows" sRowsL f fd) (mr : mg "range" = none) (DT : Dn P w K mg base 3 "_law_take" ["_law_purse_here", "_law_many"] spTake) (DWd : Dn P w K mg base 4 "_law_words" ["_law_purse_here", "_law_many"] spWords)
    (DDo : Dn P w K mg base 4 "_law_door" pDoorL (spDoorL K)) (DTk : Dn P w K mg base 5 "_law_task" pTaskL (spTaskL K)) : FnOk P w K mg base CX0 6 f fd pRowsL (spRowsL K) := by
  refine F.ok scRowsL (fun vs H Q E h => ?_) (fun cdv A outer s H vs Q E hr h => ?_)
  · obtain ⟨p, a, b, t, d, rfl, _⟩ := h
    rfl
  · obtain ⟨p, a, b, t, d, rfl, hp, ha, hab, hb8, ht0, ht8, q⟩ := h
    have hr3 : Room 3 _ := hr.mono (by decide)
    have hr4 : Room 4 _ := hr.mono (by decide)
    have hr5 : Room 5 _ := hr.mono (by decide)
    refine ⟨_, (pss_cons (ps_set (i := 5) scRowsL.nd rfl (.inl rfl) (pe_op op_add (pv 1) (pcall DT hr3 (by rfl) (pa_cons (pv 0) (pa_cons (pe_op op_add (pe_op op_sub (pv 2) (pv 1)) pe_int) pa_nil))))) (pss_cons (ps_par (i := 6) (j := 7) rfl scRowsL.nd rfl rfl (by decide) rfl rfl (pa_cons (pcall DWd hr4 (by rfl) (pa_cons (pv 0) (pa_cons pe_int pa_nil))) (pa_cons (pe_slice sl_list (pcall DWd hr4 (by rfl) (pa_cons (pv 0) (pa_cons pe_int pa_nil))) po_none (po_some (pv 3))) pa_nil)) (by rfl)) (pss_cons (ps_set (i := 8) scRowsL.nd rfl (.inl rfl) (pe_lst pa_nil)) (pss_cons (ps_for PassesOwn.never rfl (pi_range1 (by rfl) mr (pa_cons (pv 5) pa_nil)) (pg_name (i := 9) scRowsL.nd rfl (.inl rfl))
        (pss_one (ps_if (PW.pt (pw_and (pt_val (pv 4)) (pw_and1 (pt_cmpR op_eq (pcall DT hr3 (by rfl) (pa_cons (pv 0) (pa_cons pe_int pa_nil))) pe_int (nomark _)))))
          (pss_one (ps_expr (pe_bm PySem.F.plainAttrs_list PySem.F.slot_list_append PySem.F.type_list_append mt_append (pv 8) (pa_cons (pcall DDo hr4 (by rfl) (pa_cons (pv 0) (pa_cons (pe_ix ix_list (pv 6) (pv 9) (fun _ _ => rfl)) (pa_cons (pv 5) pa_nil)))) pa_nil))))
          (pss_one (ps_expr (pe_bm PySem.F.plainAttrs_list PySem.F.slot_list_append PySem.F.type_list_append mt_append (pv 8) (pa_cons (pcall DTk hr5 (by rfl) (pa_cons (pv 0) (pa_cons (pe_ix ix_list (pv 6) (pv 9) (fun _ _ => rfl)) (pa_cons (pv 5) (pa_cons (pv 7) pa_nil))))) pa_nil))))))) (pss_one (ps_ret (pv 8))))))), ?_⟩
    refine ⟨_, rfl, _, rfl, _, rfl, _, rfl, _, _, rfl, rfl, _, _, rfl, rfl, p, b - a + 1, rfl, by omega, by omega, hp, fun z H1 z0 z1 s1 => ⟨_, _, rfl, rfl, ?_⟩⟩
    obtain ⟨many, hmany⟩ : ∃ many, many = a + z := ⟨_, rfl⟩
    have m0 : 0 ≤ many := by omega
    have mb : many ≤ b := by omega
    have ma : a ≤ many := by omega
    -- the words
    refine ⟨_, rfl, p, 8, rfl, by decide, s1.purse, fun Ln wn H2 s2 nLn eLn hn1 hn2 hn3 => ?_⟩
    refine ⟨_, rfl, p, 8, rfl, by decide, s2.purse, fun Lo wo H3 s3 nLo eLo ho1 ho2 ho3 => ?_⟩
    refine ⟨_, rfl, _, rfl, Lo, _, rfl, SqL.of eLo, fun C1 nC1 => ⟨_, _, rfl, ?_⟩⟩
    have hLn : Ln ≠ p := s1.purse.ne nLn
    have t1 := Step.new (o := .lst (cutV (wo.map V.str) none (some t))) s3.purse nC1
    have hC1 : C1 ≠ p := s3.purse.ne nC1
    have u4 := ((s1.trans s2).trans s3).trans t1
    have eLn4 := t1.keep _ _ hLn (s3.keep _ _ hLn eLn)
    obtain ⟨ts, hts⟩ : ∃ ts, ts = cutL wo none (some t) := ⟨_, rfl⟩
    have eC1 : (upd H3 C1 (.lst (cutV (wo.map V.str) none (some t)))) C1 = some (.lst (ts.map V.str)) := by rw [hts, ← cutV_map]; exact upd_same
    have hts1 : ts.length ≤ 8 := by rw [hts]; exact Nat.le_trans (cutL_sub _ _ _).length_le (by omega)
    have hts2 : ts.Nodup := by rw [hts]; exact (cutL_sub _ _ _).nodup ho2
    have hts3 : ∀ z ∈ ts, isNm z = true := by rw [hts]; exact fun z hz => ho3 z ((cutL_sub _ _ _).mem hz)
    have hts4 : (ts.length : Int) ≤ t := by
      rw [hts]
      unfold cutL
      rw [List.length_take]
      have : (HT.sIx wo.length wo.length (some t) : Nat) ≤ t.toNat := by
        simp only [HT.sIx]
        split <;> omega
      omega
    generalize upd H3 C1 (.lst (cutV (wo.map V.str) none (some t))) = H4 at t1 u4 eLn4 eC1
    -- the rows
    refine ⟨Nat.zero_le _, fun G nG => ?_⟩
    have hGp : G ≠ p := u4.purse.ne nG
    have t6 := Step.new (o := .lst []) u4.purse nG
    refine ⟨_, rfl, a + z, rfl, by omega, by omega, for_range (lo := 0) (n := (a + z).toNat) (fun j σ H' => ∃ v9 : Option V, σ = [some (.ref p), some (.int a), some (.int b), some (.int t), some (.bl d), some (.int (a + z)), some (.ref Ln), some (.ref C1), some (.ref G), v9] ∧ Step p H4 H' ∧ ∃ (rs : List V) (ms : List Mem), H' G = some (.lst rs) ∧ Rows K H' rs ms ∧ ms.map Mem.name = wn.take j ∧ (∀ m ∈ ms, Small ts m) ∧ (d = false → ∀ m ∈ ms, ∃ v, m = .task v)) ⟨_, rfl, t6, [], [], upd_same, .nil, rfl, (fun m hm => nomatch hm), (fun _ m hm => nomatch hm)⟩ ?_ ?_⟩
    · rintro j σ H6 hj ⟨v9, rfl, s6, rs, ms, eG, hrs, hnm, hok, hdt⟩
      have hj8 : j < 8 := by omega
      have hjw : j < wn.length := by omega
      have ewj : wn[j]? = some wn[j] := List.getElem?_eq_getElem hjw
      have hwj : isNm wn[j] = true := hn3 _ (List.getElem_mem hjw)
      generalize wn[j] = nm at ewj hwj
      have ewV : (wn.map V.str)[j]? = some (V.str nm) := by rw [List.getElem?_map, ewj]; rfl
      have hl : rs.length = j := by
        rw [hrs.1, ← List.length_map (f := Mem.name), hnm, List.length_take]
        omega
      have fin : ∀ (H7 : Hp) (r : Addr) (m : Mem), Step p H6 H7 → RowAt K H7 r m → Small ts m → m.name = nm → (d = false → ∃ v, m = .task v) → ∃ xs, H7 G = some (.lst xs) ∧ xs.length < sizeLine ∧ (∃ v9 : Option V, ([some (.ref p), some (.int a), some (.int b), some (.int t), some (.bl d), some (.int (a + z)), some (.ref Ln), some (.ref C1), some (.ref G), some (.int (0 + (j : Int)))] : L2.St) = [some (.ref p), some (.int a), some (.int b), some (.int t), some (.bl d), some (.int (a + z)), some (.ref Ln), some (.ref C1), some (.ref G), v9] ∧ Step p H4 (upd H7 G (.lst (xs ++ [.ref r]))) ∧ ∃ (rs : List V) (ms : List Mem), (upd H7 G (.lst (xs ++ [.ref r]))) G = some (.lst rs) ∧ Rows K (upd H7 G (.lst (xs ++ [.ref r]))) rs ms ∧ ms.map Mem.name = wn.take (j + 1) ∧ (∀ m ∈ ms, Small ts m) ∧ (d = false → ∀ m ∈ ms, ∃ v, m = .task v)) := by
        intro H7 r m s7 hrow hmo hmn hmd
        have eG7 := s7.keep _ _ hGp eG
        have k7 := Kt.of_step s6.purse s7
        have kp : Kt H7 (upd H7 G (.lst (rs ++ [.ref r]))) := Kt.put eG7
        refine ⟨rs, eG7, Nat.lt_of_le_of_lt (Nat.le_of_eq hl) (Nat.lt_of_lt_of_le hj8 (by decide)), _, rfl, (s6.trans s7).put nG hGp, rs ++ [.ref r], ms ++ [m], upd_same, ((hrs.kt k7).append (.one hrow)).kt kp, ?_, fun n hn => ?_, fun hd n hn => ?_⟩
        · rw [List.map_append, hnm, List.take_add_one, ewj, ← hmn]
          rfl
        · rcases List.mem_append.mp hn with h | h
          · exact hok n h
          · rw [List.mem_singleton.mp h]
            exact hmo
        · rcases List.mem_append.mp hn with h | h
          · exact hdt hd n h
          · rw [List.mem_singleton.mp h]
            exact hmd hd
      have kk : ∀ H7 c o, c ≠ p → Step p H6 H7 → H4 c = some o → H7 c = some o := fun H7 c o hc s7 e => s7.keep _ _ hc (s6.keep _ _ hc e)
      refine ⟨_, rfl, d, rfl, ?_⟩
      cases d with
      | false =>
        refine iteF (iteF ?_)
        refine ⟨_, rfl, .inl ⟨rfl, _, SqL.of (eG)⟩, _, rfl, _, rfl, _, rfl, Ln, _, _, _, rfl, rfl, SqL.of (kk _ _ _ hLn (Step.refl s6.purse) eLn4), at_of (j := j) (by omega) ewV, _, rfl, _, rfl, p, C1, nm, a + z, ts, rfl, s6.purse, hwj, by omega, by omega, hC1, kk _ _ _ hC1 (Step.refl s6.purse) eC1, by omega, hts2, hts3, fun r v H8 s8 nr hrow hmo hvn hvc hvg hvt => ?_⟩
        obtain ⟨xs, e1, e2, e3⟩ := fin H8 r (.task v) (s8) hrow ⟨hmo, hvc, hvg, fun u hu g hg => by cases hu; exact hvt g hg⟩ hvn (fun _ => ⟨v, rfl⟩)
        exact ⟨G, xs, _, rfl, rfl, e1, e2, e3⟩
      | true =>
        refine iteT ⟨_, rfl, p, 4, rfl, by decide, by decide, s6.purse, fun r7 H7 a7 b7 s7 => ⟨rfl, _, rfl, ite2 (fun _ => ?_) (fun _ => ?_)⟩⟩
        · refine ⟨_, rfl, .inl ⟨rfl, _, SqL.of (s7.keep _ _ hGp eG)⟩, _, rfl, _, rfl, _, rfl, Ln, _, _, _, rfl, rfl, SqL.of (kk _ _ _ hLn s7 eLn4), at_of (j := j) (by omega) ewV, _, rfl, p, nm, a + z, rfl, s7.purse, hwj, by omega, by omega, fun r rm g H8 s8 nr hrow hmo hrm hrg => ?_⟩
          obtain ⟨xs, e1, e2, e3⟩ := fin H8 r (.door nm rm g) (s7.trans s8) hrow ⟨hmo, by show rm ≤ 9; omega, hrg, fun u hu => nomatch hu⟩ rfl (fun h => nomatch h)
          exact ⟨G, xs, _, rfl, rfl, e1, e2, e3⟩
        · refine ⟨_, rfl, .inl ⟨rfl, _, SqL.of (s7.keep _ _ hGp eG)⟩, _, rfl, _, rfl, _, rfl, Ln, _, _, _, rfl, rfl, SqL.of (kk _ _ _ hLn s7 eLn4), at_of (j := j) (by omega) ewV, _, rfl, _, rfl, p, C1, nm, a + z, ts, rfl, s7.purse, hwj, by omega, by omega, hC1, kk _ _ _ hC1 s7 eC1, by omega, hts2, hts3, fun r v H8 s8 nr hrow hmo hvn hvc hvg hvt => ?_⟩
          obtain ⟨xs, e1, e2, e3⟩ := fin H8 r (.task v) (s7.trans s8) hrow ⟨hmo, hvc, hvg, fun u hu g hg => by cases hu; exact hvt g hg⟩ hvn (fun _ => ⟨v, rfl⟩)
          exact ⟨G, xs, _, rfl, rfl, e1, e2, e3⟩
    · rintro σ H6 ⟨v9, rfl, s6, rs, ms, eG, hrs, hnm, hok, hdt⟩
      have lm : ms.length = (a + z).toNat := by
        rw [← List.length_map (f := Mem.name), hnm, List.length_take]
        omega
      refine ⟨_, rfl, q G rs ms ts H6 (u4.trans s6) (u4.free nG) eG hrs ⟨by omega, ?_, fun m hm => (hok m hm).ok⟩ (by omega) (by omega) hok hts2 hts4 hts3 hdt⟩
      rw [hnm]
      exact (List.take_sublist _ _).nodup hn2
end
end Du

set_option Elab.async false
set_option linter.all false
set_option maxRecDepth 100000
namespace Du
open PySem PySem.Spec PyProof.Rows L2
/-! ### a set of texts, made of a list, and its sorted list -/
def uqS (acc : List Str) (z : Str) : List Str := if z ∈ acc then acc else z :: acc
def uq (xs : List Str) : List Str := xs.foldl uqS []
theorem uq_snoc (xs : List Str) (z : Str) : uq (xs ++ [z]) = uqS (uq xs) z := by
  unfold uq
  rw [List.foldl_append]
  rfl
theorem uqS_mem {acc : List Str} {z y : Str} : y ∈ uqS acc z ↔ y ∈ acc ∨ y = z := by
  unfold uqS
  split
  · rename_i h
    exact ⟨.inl, fun q => q.elim id fun e => e ▸ h⟩
  · rw [List.mem_cons]
    exact Or.comm
theorem uqS_nd {acc : List Str} {z : Str} (h : acc.Nodup) : (uqS acc z).Nodup := by
  unfold uqS
  split
  · exact h
  · rename_i q
    exact List.nodup_cons.mpr ⟨q, h⟩
theorem uqS_len {acc : List Str} {z : Str} : (uqS acc z).length ≤ acc.length + 1 := by
  unfold uqS
  split
  · exact Nat.le_succ _
  · exact Nat.le_refl _
theorem fold_uq : ∀ (xs acc : List Str), acc.Nodup → (xs.foldl uqS acc).Nodup ∧ (∀ y, y ∈ xs.foldl uqS acc ↔ y ∈ acc ∨ y ∈ xs) ∧ (xs.foldl uqS acc).length ≤ acc.length + xs.length
  | [], acc, h => ⟨h, fun y => by simp, Nat.le_refl _⟩
  | x :: xs, acc, h => by
    obtain ⟨a, b, c⟩ := fold_uq xs (uqS acc x) (uqS_nd h)
    refine ⟨a, fun y => ?_, ?_⟩
    · show y ∈ xs.foldl uqS (uqS acc x) ↔ _
      rw [b y, uqS_mem, List.mem_cons, or_assoc]
    · show (xs.foldl uqS (uqS acc x)).length ≤ _
      have := uqS_len (acc := acc) (z := x)
      rw [List.length_cons]
      omega
theorem uq_nd (xs : List Str) : (uq xs).Nodup := (fold_uq xs [] .nil).1
theorem uq_mem {xs : List Str} {y : Str} : y ∈ uq xs ↔ y ∈ xs := by
  have := (fold_uq xs [] .nil).2.1 y
  rw [show uq xs = xs.foldl uqS [] from rfl, this]
  simp
theorem uq_len (xs : List Str) : (uq xs).length ≤ xs.length := by
  have := (fold_uq xs [] .nil).2.2
  rw [List.length_nil, Nat.zero_add] at this
  exact this
def sKey (e : Int × Value) : Str := match e.2 with
  | .str z _ => z
  | _ => Str.empty
def SEnt (P : Program) (w : World) (e : Int × Value) : Prop := ∃ (z : Str) (t : Tok), e = ((PySem.strKind P w).hash z, Value.str z t)
def SetS (P : Program) (w : World) (h : Heap) (a : Addr) (zs : List Str) : Prop :=
  ∃ (o : Obj) (es : Array (Int × Value)) (ep : Nat) (t : SetTable), h.get? a = some o ∧ o.ExactSet ∧ o.data = .set es ep t ∧ (∀ e ∈ es.toList, SEnt P w e) ∧ (es.toList.map sKey).Perm zs ∧
    es.size < scanBound ∧ t.fits es.size = true ∧ Ris t.place.toList ∧ (w.params.followText "set-order" = true ∨ t.led = true)
section
variable {P : Program} {w : World} {A : Around} {E : Value → Shared → Prop} {s : Shared} {a : Addr} {zs : List Str}
theorem SetS.mono {h h' : Heap} (R : SetS P w h a zs) (k : ∀ o, h.get? a = some o → h'.get? a = some o) : SetS P w h' a zs := by
  obtain ⟨o, es, ep, t, ho, r⟩ := R
  exact ⟨o, es, ep, t, k o ho, r⟩
theorem sent_elems {l : List (Int × Value)} (g : ∀ e ∈ l, SEnt P w e) : ElemsOf (PySem.strKind P w) l := fun e he => by
  obtain ⟨z, t, rfl⟩ := g e he
  exact ⟨⟨z, strKind_is P w z t, rfl⟩, rfl⟩
theorem sent_is {e : Int × Value} (g : SEnt P w e) (k : Str) : (PySem.strKind P w).is k e.2 = true ↔ sKey e = k := by
  obtain ⟨z, t, rfl⟩ := g
  show (z == k) = true ↔ z = k
  exact beq_iff_eq
/-- stored, relaid where it is too full -/
theorem sset_tail {g : Bool → Sem Unit} {o : Obj} {es es1 : Array (Int × Value)} {ep : Nat} {t t2 : SetTable} {ys : List Str} {dm : Bool} {R : Option Bool → Shared → Prop} (quiet : ∀ (b : Bool) (s1 : Shared) (Q1 : Unit → Shared → Prop), Q1 () s1 → wpAny (model P w) A (g b) Q1 E s1)
    (ho : s.heap.get? a = some o) (hx : o.ExactSet) (hd : o.data = .set es ep t) (h1 : ∀ e ∈ es1.toList, SEnt P w e) (h2 : (es1.toList.map sKey).Perm ys) (h3 : es1.size < scanBound) (h4 : t2.fits es1.size = true) (h5 : Ris t2.place.toList) (h6 : w.params.followText "set-order" = true ∨ t2.led = true)
    (k : ∀ h', Heap.SameBut a s.heap h' → SetS P w h' a ys → R (some true) { s with heap := h' }) :
    wpAny (model P w) A (do
      storeSet a es1 t2
      if (!dm && t2.tooFull) = true then do
        g (relayAll t2 es1 (SetTable.grown es1.size)).2.2
        storeSet a (relayAll t2 es1 (SetTable.grown es1.size)).1 (relayAll t2 es1 (SetTable.grown es1.size)).2.1
        pure (some true)
      else pure (some true)) R E s := by
  have e1 := store_at (es' := es1) (t' := t2) ho hd
  have b1 := Heap.SameBut.update s.heap a (Obj.putSet es1 t2)
  refine wpAny_bind (wpAny_storeSet_of ho hd ?_ (fits_of_scanBound h3))
  by_cases c : (!dm && t2.tooFull) = true
  · rw [if_pos c]
    have p := relayAll_perm t2 es1 (SetTable.grown es1.size)
    have f := relayAll_fits t2 es1 (SetTable.grown es1.size)
    have r := relayAll_ris t2 es1 (SetTable.grown es1.size)
    have l := relayAll_led t2 es1 (SetTable.grown es1.size)
    revert p f r l
    generalize relayAll t2 es1 (SetTable.grown es1.size) = W
    obtain ⟨es2, t3, gv⟩ := W
    intro p f r l
    have z : es2.size = es1.size := by
      have := p.length_eq
      simpa using this
    refine wpAny_bind (quiet _ _ _ (wpAny_bind (wpAny_storeSet_of e1 rfl ?_ (fits_of_scanBound (z ▸ h3)))))
    refine wpAny_pure (k _ (b1.trans (Heap.SameBut.update _ a _)) ⟨_, es2, _, t3, store_at (es' := es2) (t' := t3) e1 rfl, hx, rfl, fun e he => h1 e (p.mem_iff.mp he), (p.map sKey).trans h2, z ▸ h3, f, r, h6.imp id fun q => l ▸ q⟩)
  · rw [if_neg c]
    exact wpAny_pure (k _ b1 ⟨_, es1, _, t2, e1, hx, rfl, h1, h2, h3, h4, h5, h6⟩)
end
end Du

set_option Elab.async false
set_option linter.all false
set_option maxRecDepth 100000
namespace Du
open PySem PySem.Spec PyProof.Rows L2
section
variable {P : Program} {w : World} {A : Around} {E : Value → Shared → Prop} {s : Shared} {a : Addr} {zs : List Str}
theorem gave_ok (b : Bool) {s1 : Shared} {Q1 : Unit → Shared → Prop} (q : Q1 () s1) : wpAny (model P w) A (match b with | true => rule "set.scan.the-table-gave-way" | false => pure ()) Q1 E s1 := by
  cases b
  · exact wpAny_pure q
  · exact wpAny_rule q
theorem sset_add {z : Str} {tk : Tok} {Q : Bool → Shared → Prop} (R : SetS P w s.heap a zs) (room : zs.length + 1 < scanBound)
    (k : ∀ (b : Bool) (h' : Heap), Heap.SameBut a s.heap h' → SetS P w h' a (uqS zs z) → Q b { s with heap := h' }) :
    wpAny (model P w) A (setAddHashed a (.str z tk) ((PySem.strKind P w).hash z)) Q E s := by
  obtain ⟨o, es, ep, t, ho, hx, hd, g, pm, sz, ft, rs, ld⟩ := R
  have lz : es.size = zs.length := by
    have := pm.length_eq
    simpa using this
  have kz : (PySem.strKind P w).is z (.str z tk) = true := strKind_is P w z tk
  have el := sent_elems (P := P) (w := w) g
  unfold setAddHashed setAddHashedIn
  refine wpAny_holding (wpAny_bind (wpAny_setState_of ho hd ft ?_))
  dsimp only
  rw [byScan_of (show (Value.str z tk).scannable = true from rfl) sz el]
  simp only [↓reduceIte]
  unfold setAddByScan
  refine wpAny_bind (wpAny_bind (wpAny_rule (wpAny_bind (wpAny_setScan_of kz ho hd ft el ?_))))
  cases fi : List.findIdx? (fun e => (PySem.strKind P w).is z e.2) es.toList with
  | some j =>
    obtain ⟨hj, pj, _⟩ := List.findIdx?_eq_some_iff_getElem.mp fi
    have hin : z ∈ zs := pm.mem_iff.mp (List.mem_map.mpr ⟨_, List.getElem_mem hj, (sent_is (g _ (List.getElem_mem hj)) z).mp pj⟩)
    dsimp only
    refine wpAny_pure (wpAny_pure (k _ s.heap (Heap.SameBut.refl a s.heap) ?_))
    rw [uqS, if_pos hin]
    exact ⟨o, es, ep, t, ho, hx, hd, g, pm, sz, ft, rs, ld⟩
  | none =>
    have hout : z ∉ zs := fun q => by
      obtain ⟨e, he, q2⟩ := List.mem_map.mp (pm.mem_iff.mpr q)
      have c := List.findIdx?_eq_none_iff.mp fi e he
      rw [(sent_is (g e he) z).mpr q2] at c
      cases c
    have uz : uqS zs z = z :: zs := if_neg hout
    rw [uz] at k
    dsimp only
    have p1 := layNew_perm t es ((PySem.strKind P w).hash z) (.str z tk)
    have f1 := layNew_fits t es ((PySem.strKind P w).hash z) (.str z tk)
    have r1 := layNew_ris t es ((PySem.strKind P w).hash z) (.str z tk) rs
    have l1 := layNew_led t es ((PySem.strKind P w).hash z) (.str z tk)
    revert p1 f1 r1 l1
    generalize layNew t es ((PySem.strKind P w).hash z) (.str z tk) = W
    obtain ⟨es1, t1, dm, gv⟩ := W
    intro p1 f1 r1 l1
    dsimp only at p1 f1 r1 l1 ⊢
    have p2 : es1.toList.Perm (((PySem.strKind P w).hash z, Value.str z tk) :: es.toList) := by
      rw [Array.toList_push] at p1
      exact p1.trans (List.perm_append_singleton _ _)
    have g1 : ∀ e ∈ es1.toList, SEnt P w e := fun e he => by
      rcases List.mem_cons.mp (p2.mem_iff.mp he) with rfl | q
      · exact ⟨z, tk, rfl⟩
      · exact g e q
    have m1 : (es1.toList.map sKey).Perm (z :: zs) := (p2.map sKey).trans (pm.cons z)
    have sz1 : es1.size < scanBound := by
      have := m1.length_eq
      simp at this
      omega
    have ld1 : w.params.followText "set-order" = true ∨ t1.led = true := ld.imp id fun q => l1 ▸ q
    refine wpAny_bind (gave_ok _ ?_)
    split
    · refine wpAny_bind ?_
      rw [hashByValue_scannable 8 (show (Value.str z tk).scannable = true from rfl)]
      refine wpAny_pure (sset_tail (fun b _ _ q => gave_ok b q) ho hx hd g1 m1 sz1 ?_ ?_ ?_ fun h' sb r => ?_)
      · split
        · exact f1
        · exact SetTable.fits_plain_off f1
      · split <;> exact r1
      · split <;> exact ld1
      · exact wpAny_pure (k true h' sb r)
    · refine wpAny_bind (wpAny_pure ?_)
      simp only [↓reduceIte]
      exact sset_tail (fun b _ _ q => gave_ok b q) ho hx hd g1 m1 sz1 f1 r1 ld1 fun h' sb r => wpAny_pure (k true h' sb r)
end
section
variable {P : Program} {w : World} {A : Around} {R : Result → Shared → Prop} {I : Addr} {fp wr : List Addr} {G : Array GenState → Array GenState → Prop} {n : Nat} {Pv : Nat → Value → Prop} {St : Nat → Shared → Prop}
/-- the loop behind set(texts) -/
theorem sset_loop (W : WalksS P w A.in1 I fp wr G n Pv St) (a : Addr) (na : a ∉ fp) (xs : List Str) (hl : xs.length = n) (hn : n + 1 < scanBound) (hv : ∀ i v, Pv i v → ∃ z t, xs[i]? = some z ∧ v = .str z t) :
    ∀ (m i : Nat) (s : Shared), m + i = n → St i s → SetS P w s.heap a (uq (xs.take i)) → (∀ s', Moved (a :: wr) G s s' → SetS P w s'.heap a (uq xs) → R (.ok (.ret .none)) s') → codeAny (model P w) A (.builtin "set.update.loop" ⟨[.ref a, .ref I], []⟩) R s
  | 0, i, s, hi, hst, hS, hR => by
    refine codeAny_builtin PyProof.Rows.F.entry_set_update_loop ?_
    rw [Around.under_plainId PyProof.Rows.F.plain_set_update_loop _, ]
    have hin : i = n := by omega
    subst hin
    refine wpAny_bind (m := pyNext (.ref I)) (W.done s _ _ hst fun s1 mv => ?_)
    refine (show wpAny _ A.in1 (ret Value.none) _ _ s1 from wpAny_pure (hR s1 (mv.mono fun b hb => List.mem_cons_of_mem _ hb) ?_))
    rw [List.take_of_length_le (Nat.le_of_eq hl)] at hS
    exact hS.mono fun o ho => mv.heap a o (fun h => na (W.sub _ h)) ho
  | m + 1, i, s, hi, hst, hS, hR => by
    refine codeAny_builtin PyProof.Rows.F.entry_set_update_loop ?_
    rw [Around.under_plainId PyProof.Rows.F.plain_set_update_loop _, ]
    have hlt : i < n := by omega
    refine wpAny_bind (m := pyNext (.ref I)) (W.item i s _ _ hlt hst fun v s1 hP hst1 mv => ?_)
    obtain ⟨z, t, hz, rfl⟩ := hv i v hP
    have hS1 : SetS P w s1.heap a (uq (xs.take i)) := hS.mono fun o ho => mv.heap a o (fun h => na (W.sub _ h)) ho
    have hlen : (uq (xs.take i)).length + 1 < scanBound := by
      have := uq_len (xs.take i)
      rw [List.length_take] at this
      omega
    refine wpAny_bind (m := holding [Value.str z t] (setAdd a (.str z t))) (wpAny_holding ?_)
    unfold setAdd
    refine wpAny_holding (wpAny_bind ((PySem.strKind P w).pyHash (strKind_is P w z t) ?_))
    refine sset_add (s := { s1 with toks := s1.toks + 1 }) hS1 hlen fun b h' sb hS2 => ?_
    have e : uqS (uq (xs.take i)) z = uq (xs.take (i + 1)) := by
      rw [List.take_add_one, hz]
      exact (uq_snoc _ _).symm
    rw [e] at hS2
    refine wpAny_pure ⟨plainId_quiet PyProof.Rows.F.plain_set_update_loop _, sset_loop W a na xs hl hn hv m (i + 1) _ (by omega) (W.frame _ s1 _ _ hst1 (Nat.le_succ _) fun c hc o eo => (sb.2 c fun h => na (h ▸ hc)).trans eo) hS2 fun s2 mv2 hS3 => ?_⟩
    refine hR s2 (Moved.trans W.gtrans ((mv.mono fun c hc => List.mem_cons_of_mem _ hc).then_heap (Nat.le_succ _) fun c o hc eo => ?_) mv2) hS3
    exact (sb.2 c fun h => hc (h ▸ List.mem_cons_self)).trans eo
end
end Du

set_option Elab.async false
set_option linter.all false
set_option maxRecDepth 100000
namespace Du
open PySem PySem.Spec PyProof.Rows L2
abbrev fset (w : World) : Obj := { cls := .type "set", dict := none, data := .set #[] 0 (.fresh 0 0 (!w.params.followText "set-order")) }
section
variable {P : Program} {w : World} {A : Around} {E : Value → Shared → Prop} {s : Shared}
theorem sset_fresh {h : Heap} {a : Addr} (ho : h.get? a = some (fset w)) : SetS P w h a [] := by
  refine ⟨_, #[], 0, _, ho, ⟨rfl, rfl, rfl⟩, rfl, (fun e he => by simp at he), (by simp), (by decide), (by rfl), List.Pairwise.nil, ?_⟩
  show _ ∨ (!w.params.followText "set-order") = true
  cases w.params.followText "set-order"
  · exact .inr rfl
  · exact .inl rfl
set_option maxHeartbeats 3200000 in
/-- set(texts) -/
theorem call_sset {l : Addr} {vs : Array Value} {xs : List Str} {Q : Value → Shared → Prop} (hn : A.handled = none) (hl : s.heap.IsList l vs) (hv : StrsAre vs.toList xs) (few : xs.length < 64)
    (k : ∀ (h1 : Heap) (tk : Nat), SetS P w h1 s.heap.objs.size (uq xs) → (∀ b o, s.heap.get? b = some o → h1.get? b = some o) → Q (.ref s.heap.objs.size) { s with heap := h1, toks := tk }) :
    wpAny (model P w) A (call (.type "set") [.ref l]) Q E s := by
  have hz : vs.size = xs.length := by rw [← StrsAre.len_eq hv, Array.length_toList]
  obtain ⟨mc, mt, mro⟩ := PySem.F.called_set.mro
  have made := PySem.F.called_set.made
  have subs := PySem.F.called_set.sub
  have ntype := PySem.F.called_set.notType
  have cancr := PySem.F.called_set.canCreate
  have tcall := PySem.F.typeCall_set_1 (.ref l)
  refine wpAny_call (codeAny_of_tree ?_)
  change wpAny _ _ (callAny (.type "set") ⟨[.ref l], []⟩) _ _ s
  refine wpAny_pure ⟨Code.quiet_builtin _ (by decide +kernel), codeAny_builtin PySem.F.entry_type_call ?_⟩
  rw [Around.under_plain (weight_type_call_type "set" [.ref l] []) (by rfl)]
  repeat (any_goals (first | assumption | wp_step))
  have made0 : codeAny (model P w) A.in1 (Code.call (Value.builtin "set.__new__") ⟨[.type "set", .ref l], []⟩) (wants (fun v s1 => v = .ref s.heap.objs.size ∧ s1 = { s with heap := s.heap.push (fset w) }) E) s := code_set_led1 (.ref l) ⟨rfl, rfl⟩
  refine codeAny_mono made0 fun r s1 hr => ?_
  match r, hr with
  | .error _, hr => exact hr
  | .ok (.ret v), ⟨ev, es⟩ =>
    subst ev
    subst es
    have gS : (s.heap.push (fset w)).get? s.heap.objs.size = some (fset w) := Heap.get?_push_size _ rfl
    have tS : Shared.TypeIs { s with heap := s.heap.push (fset w) } (.ref s.heap.objs.size) "set" := ⟨_, gS, rfl⟩
    have look := PySem.F.called_set.init.lookup
    have bnd := PySem.F.called_set.init.bind (.ref s.heap.objs.size)
    repeat (any_goals (first | assumption | wp_step))
    have inner : codeAny (model P w) A.in1 (Code.call (Value.builtin "set.__init__") ⟨[.ref s.heap.objs.size, .ref l], []⟩) (wants (fun v s2 => v = .none ∧ ∃ (h1 : Heap) (tk : Nat), s2 = { s with heap := h1, toks := tk } ∧ SetS P w h1 s.heap.objs.size (uq xs) ∧ (∀ b o, s.heap.get? b = some o → h1.get? b = some o)) E) { s with heap := s.heap.push (fset w) } := by
      refine codeAny_call_builtin PySem.F.called_set.init.plain PySem.F.entry_set_init (check_set_init_1 tS ?_)
      obtain ⟨lo, hlo, hcls, ln, hdat⟩ := hl
      obtain ⟨lc, ld, ldata, lsl⟩ := lo
      dsimp only at hcls hdat
      subst hcls
      subst hdat
      have glo := Heap.get?_push_of_some (fset w) hlo
      have nls := PySem.F.sub_list_set
      have nlf := PySem.F.sub_list_frozenset
      have nld : (Value.type "list" == Value.type "dict") = false := by decide
      have isl : (s.heap.push (fset w)).IsList l vs := ⟨_, glo, rfl, ln, rfl⟩
      have ltl : l < s.heap.objs.size := Heap.lt_size hlo
      unfold Builtin.«set.__init__» noKeywords Builtin.Frozenset.updateFrom
      generalize ePI : pyIter = PI
      wp_walk
      subst ePI
      refine wpAny_pyIter_list isl (wpAny_bind (wpAny_runValue ?_))
      have zI : (s.heap.push (fset w)).objs.size = s.heap.objs.size + 1 := Heap.size_push ..
      have walk := (Walks.list (prog := P) (w := w) (A := A.in1.in1.in1) (by simp [hn]) (s.heap.push (fset w)).objs.size l (by rw [zI]; exact Nat.ne_of_lt (Nat.lt_succ_of_lt ltl)) vs).toS
      refine sset_loop walk s.heap.objs.size (fun h => ?_) xs hz.symm (Nat.lt_of_lt_of_le (show vs.size + 1 < 65 by omega) (by decide)) (fun i v e => ?_) vs.size 0 _ rfl ⟨⟨_, Heap.get?_push_size _ rfl, rfl, rfl⟩, isl.push _⟩ (sset_fresh (Heap.get?_push_of_some _ gS)) fun s2 mv hS2 => ?_
      · rcases List.mem_cons.mp h with h | h
        · rw [zI] at h
          exact absurd h (Nat.ne_of_lt (Nat.lt_succ_self _))
        · exact absurd (List.mem_singleton.mp h) (Nat.ne_of_gt ltl)
      · have e2 : vs.toList[i]? = some v := by rw [Array.getElem?_toList]; exact e
        obtain ⟨t, rfl⟩ := SS.strs_at hv i v e2
        have li : i < xs.length := by
          have := (List.getElem?_eq_some_iff.mp e2).1
          rw [Array.length_toList] at this
          omega
        refine ⟨_, t, ?_, rfl⟩
        rw [List.getD_eq_getElem?_getD, List.getElem?_eq_getElem li]
        rfl
      · obtain ⟨h2, g2, d2, tk2, os2⟩ := s2
        have e1 : g2 = s.gens := mv.gens
        have e2 : d2 = s.drawn := mv.drawn
        have e3 : os2 = s.os := mv.os
        subst e1 e2 e3
        refine wpAny_pure ?_
        change wpAny (model P w) _ (ret Value.none) _ _ _
        refine wpAny_pure ⟨rfl, h2, tk2, rfl, hS2, fun b o e => ?_⟩
        have lb : b < s.heap.objs.size := Heap.lt_size e
        refine mv.heap b o (fun h => ?_) (Heap.get?_push_of_some _ (Heap.get?_push_of_some _ e))
        rcases List.mem_cons.mp h with h | h
        · exact absurd h (Nat.ne_of_lt lb)
        · have h3 := List.mem_singleton.mp h
          rw [zI] at h3
          exact absurd h3 (Nat.ne_of_lt (Nat.lt_succ_of_lt lb))
    refine codeAny_mono inner fun r2 s2 hr2 => ?_
    match r2, hr2 with
    | .error _, hr2 => exact hr2
    | .ok (.ret v2), ⟨ev2, h1, tk, es2, hS2, kp⟩ =>
      subst ev2
      subst es2
      repeat (any_goals (first | assumption | wp_step))
      exact k h1 tk hS2 kp
    | .ok .next, hr2 => exact hr2.elim
    | .ok .brk, hr2 => exact hr2.elim
    | .ok .cont, hr2 => exact hr2.elim
  | .ok .next, hr => exact hr.elim
  | .ok .brk, hr => exact hr.elim
  | .ok .cont, hr => exact hr.elim
end
end Du

set_option Elab.async false
set_option linter.all false
set_option maxRecDepth 100000
namespace Du
open PySem PySem.Spec PyProof.Rows L2
section
variable {P : Program} {w : World} {A : Around} {E : Value → Shared → Prop} {s : Shared} {a : Addr} {zs : List Str}
theorem sent_strs : ∀ l : List (Int × Value), (∀ e ∈ l, SEnt P w e) → StrsAre (l.map (·.2)) (l.map sKey)
  | [], _ => .nil
  | e :: l, h => by
    obtain ⟨z, t, rfl⟩ := h e (by simp)
    exact .cons z t (sent_strs l fun u hu => h u (by simp [hu]))
def txtOf : Value → Str
  | .str z _ => z
  | _ => Str.empty
theorem strs_txt : ∀ l : List Value, (∀ v ∈ l, ∃ z t, v = .str z t) → StrsAre l (l.map txtOf)
  | [], _ => .nil
  | v :: l, h => by
    obtain ⟨z, t, rfl⟩ := h v (by simp)
    exact .cons z t (strs_txt l fun u hu => h u (by simp [hu]))
set_option maxHeartbeats 4000000 in
/-- sorted(set of texts) -/
theorem sorted_sset {Q : Value → Shared → Prop} (R : SetS P w s.heap a zs) (hn : A.handled = none) (few : zs.length < 64)
    (k : ∀ (s1 : Shared) (p : Addr) (out : Array Value) (c : Nat) (ys : List Str), (∀ b o, s.heap.get? b = some o → s1.heap.get? b = some o) → s1.gens = s.gens → s1.os = s.os → s.heap.objs.size ≤ p →
      s1.heap.get? p = some (seqObj "list" out c) → StrsAre out.toList ys → ys.Perm zs → sortedS ys = true → Q (.ref p) s1) :
    wpAny (model P w) A (call (.builtin "sorted") [.ref a]) Q E s := by
  obtain ⟨o, es, ep, t, ho, hx, hd, g, pm, sz, ft, rs, ld⟩ := R
  refine Calls.call_function_entry kind_sorted plain_sorted entry_sorted (args_sorted1 _) ?_
  unfold Builtin.«sorted»
  refine wpAny_bind (m := checkCount "sorted" 1 1 _) (wpAny_pure ?_)
  refine wpAny_bind (collect_set (A := A.in1) hn ⟨o, ho, hx.1, hd⟩ ft sz rs ld fun s1 vs kp z1 g1 o1 pv => ?_)
  have sv : ∀ v ∈ vs, ∃ z t, v = Value.str z t := fun v hv => by
    obtain ⟨e, he, q⟩ := List.mem_map.mp (pv.mem_iff.mp hv)
    obtain ⟨z, t, rfl⟩ := g e he
    exact ⟨z, t, q.symm⟩
  have sS := strs_txt vs sv
  have e1 : es.toList.map sKey = (es.toList.map (·.2)).map txtOf := by
    rw [List.map_map]
    rfl
  have pz : (vs.map txtOf).Perm zs := ((pv.map txtOf).trans (e1 ▸ .refl _)).trans pm
  have lv : vs.length < 64 := by
    have := pz.length_eq
    rw [List.length_map] at this
    omega
  refine wpAny_bind (wpAny_newList ?_ (by rw [sizeLine_eq]; omega))
  have gL : (s1.heap.push (seqObj "list" vs.toArray 0)).get? s1.heap.objs.size = some (seqObj "list" vs.toArray 0) := Heap.get?_push_size _ rfl
  refine wpAny_bind (wpAny_holding (wpAny_call_entry slot_list_sort ⟨_, gL, rfl⟩ entry_list_sort (list_sort_treeK strKind_oneLt gL sS.keysOf (fun v1 v2 rest e => keyKind_strs (by rw [← e]; exact sS)) lv fun st p1 p2 => ⟨_, rfl, ?_⟩) (args_list_sort _)))
  obtain ⟨ys, y1, y2, y3⟩ := sorted_out_str sS p1 p2
  obtain ⟨c, hc⟩ := sortedHeap_at (vs := vs) (out := (arrOf st).map (·.2)) gL
  refine wpAny_pure ⟨_, rfl, k _ s1.heap.objs.size _ c ys (fun b u e => ?_) g1 o1 z1 hc y1 (y2.trans pz) y3⟩
  have q := kp b u e
  have lt := Heap.lt_size q
  exact (sortedHeap_old (Nat.ne_of_lt lt) (by rw [size_push']; exact Nat.lt_succ_of_lt lt)).trans (Heap.get?_push_of_some _ q)
end
def SetSO (P : Program) (w : World) (a : Addr) (zs : List Str) : HO := .ext fun h => SetS P w h a zs
theorem setSO_new {P : Program} {w : World} {H : Hp} {h : Heap} {a : Addr} {zs : List Str} (R : SetS P w h a zs) : ObjOk P w H h a (SetSO P w a zs) := by
  have ⟨o, _, _, _, ho, _⟩ := R
  exact ⟨R, ⟨o, ho⟩, fun h1 h2 p k => SetS.mono p k⟩
section
variable {X : Cx}
def rSetS (K : PySem.W.Frag) (P : Program) (w : World) : List V → Hp → VK → Prop := fun xs H Q => ∃ (l : Addr) (ys : List Str), xs = [.ref l] ∧ SqL K H l (ys.map V.str) ∧ ys.length < 64 ∧ ∀ a, H a = none → Q (.ref a) (upd H a (SetSO P w a (uq ys)))
theorem cr_setS (hc : X.calm = true) : CallR X (.type "set") (rSetS X.K X.prog X.w) := by
  intro pins s σ H xs us Q I r h
  obtain ⟨l, ys, rfl, hl, few, q⟩ := h
  rw [Vals.ref1 r]
  obtain ⟨its, rv, pl, hz⟩ := I.list hl
  refine call_sset (P := X.prog) (w := X.w) (I.ok.hd hc) pl.isList (by simpa using rv.strs) few fun h1 tk R kp => ?_
  exact ⟨.ref s.heap.objs.size, upd H s.heap.objs.size (SetSO X.prog X.w s.heap.objs.size (uq ys)), I.laid (t' := tk) kp (Nat.le_refl _) (setSO_new R), rfl, q _ (I.hok.fresh (Nat.le_refl _))⟩
def rSortedSS (P : Program) (w : World) : List V → Hp → VK → Prop := fun xs H Q => ∃ (a : Addr) (zs : List Str), xs = [.ref a] ∧ H a = some (SetSO P w a zs) ∧ zs.length < 64 ∧ ∀ (ys : List Str) (p : Addr), ys.Perm zs → sortedS ys = true → H p = none → Q (.ref p) (upd H p (.lst (ys.map V.str)))
theorem cr_sortedSS (hc : X.calm = true) : CallR X (.builtin "sorted") (rSortedSS X.prog X.w) := by
  intro pins s σ H xs us Q I r h
  obtain ⟨a, zs, rfl, ha, few, q⟩ := h
  have R : SetS X.prog X.w s.heap a zs := (I.hok a _ ha).1
  rw [Vals.ref1 r]
  refine sorted_sset R (I.ok.hd hc) few fun s1 p out c ys kp g1 o1 hp gp st pm sd => ?_
  have fresh : H p = none := I.hok.fresh hp
  have hlen : (ys.map V.str).length ≤ sizeLine := by
    rw [List.length_map, pm.length_eq, sizeLine_eq]
    omega
  have J : Inv X pins σ (upd H p (.lst (ys.map V.str))) { s with heap := s1.heap, gens := s1.gens, drawn := s1.drawn, toks := s1.toks } :=
    I.call (ch := []) (Un.laid kp hp fresh) (I.hok.laid kp hp ⟨hlen, out.toList, c, vals_of_strs st, gp⟩) (by rw [g1]; exact I.bare) fun _ z => nomatch z
  have e : s1 = { s with heap := s1.heap, gens := s1.gens, drawn := s1.drawn, toks := s1.toks } := by
    obtain ⟨_, _, _, _, _⟩ := s1
    obtain ⟨_, _, _, _, _⟩ := s
    subst o1
    rfl
  rw [e]
  exact ⟨.ref p, _, J, rfl, q ys p pm sd fresh⟩
end
end Du

set_option Elab.async false
set_option linter.all false
set_option maxRecDepth 100000
namespace Du
open PySem PySem.Spec PyProof.Rows L2
/-! ### {k: v for a in xs for b in ys} -/
abbrev dcX (kx vx ta ia tb ib : Expr) (fa fb : List Expr) (sc : Scope) (p : Pos) : Expr := .DictComp kx vx [⟨ta, ia, fa, 0⟩, ⟨tb, ib, fb, 0⟩] sc p
abbrev tests (env : Env) (fs : List Expr) : Sem Bool := forIn fs true fun c r => if r = true then do let b ← isTrue c env (eval c env); pure (ForInStep.yield b) else pure (ForInStep.yield r)
section
variable {P : Program} {w : World} {A : Around} {R : Result → Shared → Prop} {kx vx ta ia tb ib : Expr} {fa fb : List Expr} {sc : Scope} {p : Pos} {it : Value} {D : Addr} {env : Env}
theorem dturn0 : compTurn (dcX kx vx ta ia tb ib fa fb sc p) 0 it (.ref D) env = (do
      standAt ia.pos
      match ← pyNext it with
      | none => pure (.done .next)
      | some v =>
        letOwnedTupleGo ta it v
        assign ta env v
        let mut go := true
        for c in fa do
          if go then go ← isTrue c env (eval c env)
        if go then
          let y ← eval ib env
          standAt ib.pos
          let y ← foldedSetIterable ib env y
          let _ ← runOwn (.compStart (dcX kx vx ta ia tb ib fa fb sc p) 1 (← holding [y] (pyIter y)) (.ref D) env) env
        again (.compLoop (dcX kx vx ta ia tb ib fa fb sc p) 0 it (.ref D) env)) := by rfl
theorem dturn1 : compTurn (dcX kx vx ta ia tb ib fa fb sc p) 1 it (.ref D) env = (do
      standAt ib.pos
      match ← pyNext it with
      | none => pure (.done .next)
      | some v =>
        letOwnedTupleGo tb it v
        assign tb env v
        let mut go := true
        for c in fb do
          if go then go ← isTrue c env (eval c env)
        if go then
          (do
            let kv ← eval kx env
            let vv ← holding [kv] (eval vx env)
            standAt { kx.pos with endLine := vx.pos.endLine, endCol := vx.pos.endCol }
            holding [kv, vv] (dictSet D kv vv))
        again (.compLoop (dcX kx vx ta ia tb ib fa fb sc p) 1 it (.ref D) env)) := by rfl
/-- the inner loop: N what its end wants -/
theorem dloop1 {N : Shared → Prop} (I : Nat → Shared → Prop)
    (turn : ∀ n s, I n s → wpAny (model P w) A (pyNext it) (fun r s1 => match r with
      | none => N s1
      | some v => wpAny (model P w) A (letOwnedTupleGo tb it v) (fun _ s2 => wpAny (model P w) A (assign tb env v) (fun _ s3 => wpAny (model P w) A (tests env fb) (fun b s4 =>
          if b = true then wpAny (model P w) A (eval kx env) (fun kv s5 => wpAny (model P w) A (eval vx env) (fun vv s6 => wpAny (model P w) A (dictSet D kv vv) (fun _ s7 => ∃ m, m < n ∧ I m s7) (fun _ _ => False) s6) (fun _ _ => False) s5) (fun _ _ => False) s4
          else ∃ m, m < n ∧ I m s4) (fun _ _ => False) s3) (fun _ _ => False) s2) (fun _ _ => False) s1) (fun _ _ => False) s)
    (n : Nat) (s : Shared) (h : I n s) : codeAny (model P w) A (.compLoop (dcX kx vx ta ia tb ib fa fb sc p) 1 it (.ref D) env) (fun r s' => match r with
      | .ok _ => N s'
      | .error _ => False) s := by
  refine codeAny_loop rfl I (fun n s hI => ?_) n h
  change wpAny _ A ((compTurn (dcX kx vx ta ia tb ib fa fb sc p) 1 it (.ref D) env).onRaise fun x => do noteFrame x env; theTreesLotGoes x) _ _ s
  refine wpAny_noted ?_
  rw [dturn1]
  refine wpAny_bind (wpAny_standAt (wpAny_bind (wpAny_mono (turn n s hI) (fun r s1 h1 => ?_) fun _ _ z => z.elim)))
  match r, h1 with
  | none, h1 => exact wpAny_pure h1
  | some v, h1 =>
    refine wpAny_bind (wpAny_mono h1 (fun _ s2 h2 => wpAny_bind (wpAny_mono h2 (fun _ s3 h3 => wpAny_bind (wpAny_mono h3 (fun b s4 h4 => ?_) fun _ _ z => z.elim)) fun _ _ z => z.elim)) fun _ _ z => z.elim)
    match b, h4 with
    | false, h4 => exact wpAny_pure ⟨rfl, h4⟩
    | true, h4 =>
      refine wpAny_bind (wpAny_bind (wpAny_mono h4 (fun kv s5 h5 => wpAny_bind (wpAny_holding (wpAny_mono h5 (fun vv s6 h6 => ?_) fun _ _ z => z.elim))) fun _ _ z => z.elim))
      exact wpAny_bind (wpAny_standAt (wpAny_holding (wpAny_mono h6 (fun _ s7 h7 => wpAny_pure ⟨rfl, h7⟩) fun _ _ z => z.elim)))
/-- the outer loop -/
theorem dloop0 (plain : ∀ y, foldedSetIterable ib env y = pure y) (I : Nat → Shared → Prop)
    (turn : ∀ n s, I n s → wpAny (model P w) A (pyNext it) (fun r s1 => match r with
      | none => R (.ok .next) s1
      | some v => wpAny (model P w) A (letOwnedTupleGo ta it v) (fun _ s2 => wpAny (model P w) A (assign ta env v) (fun _ s3 => wpAny (model P w) A (tests env fa) (fun b s4 =>
          if b = true then wpAny (model P w) A (eval ib env) (fun y s5 => wpAny (model P w) A (pyIter y) (fun it1 s6 => codeAny (model P w) A (.compStart (dcX kx vx ta ia tb ib fa fb sc p) 1 it1 (.ref D) env) (fun r s' => match r with
              | .ok _ => ∃ m, m < n ∧ I m s'
              | .error _ => False) s6) (fun _ _ => False) s5) (fun _ _ => False) s4
          else ∃ m, m < n ∧ I m s4) (fun _ _ => False) s3) (fun _ _ => False) s2) (fun _ _ => False) s1) (fun _ _ => False) s)
    (n : Nat) (s : Shared) (h : I n s) : codeAny (model P w) A (.compLoop (dcX kx vx ta ia tb ib fa fb sc p) 0 it (.ref D) env) R s := by
  refine codeAny_loop rfl I (fun n s hI => ?_) n h
  change wpAny _ A ((compTurn (dcX kx vx ta ia tb ib fa fb sc p) 0 it (.ref D) env).onRaise fun x => do noteFrame x env; theTreesLotGoes x) _ _ s
  refine wpAny_noted ?_
  rw [dturn0]
  refine wpAny_bind (wpAny_standAt (wpAny_bind (wpAny_mono (turn n s hI) (fun r s1 h1 => ?_) fun _ _ z => z.elim)))
  match r, h1 with
  | none, h1 => exact wpAny_pure h1
  | some v, h1 =>
    refine wpAny_bind (wpAny_mono h1 (fun _ s2 h2 => wpAny_bind (wpAny_mono h2 (fun _ s3 h3 => wpAny_bind (wpAny_mono h3 (fun b s4 h4 => ?_) fun _ _ z => z.elim)) fun _ _ z => z.elim)) fun _ _ z => z.elim)
    match b, h4 with
    | false, h4 => exact wpAny_pure ⟨rfl, h4⟩
    | true, h4 =>
      refine wpAny_bind (wpAny_mono h4 (fun y s5 h5 => wpAny_bind (wpAny_standAt (wpAny_bind (wpAny_of_eq (plain y) (wpAny_bind (wpAny_holding (wpAny_mono h5 (fun it1 s6 h6 => ?_) fun _ _ z => z.elim))))))) fun _ _ z => z.elim)
      refine wpAny_bind (wpAny_runOwn ?_)
      rw [Around.mark_none]
      refine codeAny_mono h6 fun r s' hr => ?_
      match r, hr with
      | .error _, hr => exact hr.elim
      | .ok _, hr => exact wpAny_pure ⟨rfl, hr⟩
/-- the inner loop's start, from an iterator that is its own -/
theorem dstart1 {s : Shared} (h : codeAny (model P w) A (.compLoop (dcX kx vx ta ia tb ib fa fb sc p) 1 it (.ref D) env) R s)
    (h2 : wpAny (model P w) A (pyIter it) (fun u s' => codeAny (model P w) A (.compLoop (dcX kx vx ta ia tb ib fa fb sc p) 1 u (.ref D) env) R s') (notedBy (model P w) A env fun x s' => R (.error x) s') s) :
    codeAny (model P w) A (.compStart (dcX kx vx ta ia tb ib fa fb sc p) 1 it (.ref D) env) R s := by
  refine codeAny_of_tree ?_
  change wpAny _ _ ((compStart (dcX kx vx ta ia tb ib fa fb sc p) 1 it (.ref D) env).onRaise fun x => do noteFrame x env; standAt theWindowsPlace) _ _ s
  refine wpAny_notedAt ?_
  unfold compStart
  refine wpAny_bind (m := ask) (wpAny_askSetting (wpAny_ite ?_))
  split
  · first
      | exact wpAny_pure ⟨rfl, h⟩
      | exact wpAny_bind (wpAny_pure (wpAny_pure ⟨rfl, h⟩))
  · refine wpAny_bind (wpAny_rule ?_)
    refine wpAny_bind (m := standAt ib.pos) (wpAny_standAt (wpAny_bind (wpAny_mono h2 (fun u s' h' => wpAny_pure ⟨rfl, h'⟩) fun _ _ z => z)))
end
end Du

set_option Elab.async false
set_option linter.all false
set_option maxRecDepth 100000
set_option maxHeartbeats 1000000
namespace Du
open PySem PySem.Spec PyProof.Rows L2
section
variable {X : Cx}
/-- one turn of the inner clause, from W1 -/
def dIn (J1 : L2.It) (g1 : TG) (tt1 : TT) (tk tv : TE) (vs1 : List Nat) (D : Addr) (Nx : Hp → Prop) (σ2 : L2.St) (W1 : Nat → Nat → Hp → Prop) : Prop := ∀ j k H, W1 j k H →
  (J1.stop j H ∧ Nx H) ∨ (J1.go j H ∧ ∃ Nx1 : Hp → Prop, (∀ H', Nx1 H' → ∃ k', k' < k ∧ W1 (j + 1) k' H') ∧ ∀ x H', J1.yld j H x H' → g1 x (wipe σ2 vs1) H' fun σ3 H5 => wipe σ3 vs1 = wipe σ2 vs1 ∧ tt1 σ3 H5 fun b H6 =>
    if b = true then tk σ3 H6 fun y H7 => tv σ3 H7 fun z H8 => ∃ kvs key, y = kV key ∧ H8 D = some (.dK kvs) ∧ kvs.length < sizeLine ∧ Nx1 (upd H8 D (.dK (putK kvs key z))) else Nx1 H6)
def tDc2 (wi : TI) (g : TG) (tt : TT) (wi1 : TI) (g1 : TG) (tt1 : TT) (tk tv : TE) (vs vs1 : List Nat) : TE := fun σ H Q => wi σ H fun J H1 => ∀ D, H1 D = none → ∃ W : Nat → Nat → Hp → Prop, (∃ m, W 0 m (upd H1 D (.dK []))) ∧ ∀ i m H, W i m H →
  (J.stop i H ∧ Q (.ref D) H) ∨ (J.go i H ∧ ∃ Nx : Hp → Prop, (∀ H', Nx H' → ∃ m', m' < m ∧ W (i + 1) m' H') ∧ ∀ x H', J.yld i H x H' → g x (wipe σ vs) H' fun σ2 H2 => wipe σ2 vs = wipe σ vs ∧ tt σ2 H2 fun b H3 =>
    if b = true then wi1 σ2 H3 fun J1 H4 => ∃ W1 : Nat → Nat → Hp → Prop, (∃ m, W1 0 m H4) ∧ dIn J1 g1 tt1 tk tv vs1 D Nx σ2 W1 else Nx H3)
abbrev Blk (X : Cx) (sc : Scope) (Jd : Cx → Prop) : Prop := ∀ (s : Shared) (H : Hp) (C : Addr) (cl : List (Str × Addr)) (fp : List Addr), Jd (X.blk s H sc (compEnvC sc cl C X.env) fp)
theorem pe_dc2 {kx vx ta ia tb ib : Expr} {fa fb : List Expr} {sc : Scope} {own : List (Str × Nat)} {vs1 : List Nat} {p : Pos} {wi wi1 : TI} {g g1 : TG} {tt tt1 : TT} {tk tv : TE} (hc : X.calm = true) (hN : X.N.Nodup) (hi : PI X ta ia wi) (ok : BlkOk X.N X.env.scope sc own) (hv : ∀ i ∈ vs1, i ∈ own.map (·.2))
    (hg : Blk X sc fun Y => PG Y ta g) (ht : Blk X sc fun Y => PTs Y fa tt) (hi1 : Blk X sc fun Y => PI Y tb ib wi1) (hg1 : Blk X sc fun Y => PG Y tb g1) (ht1 : Blk X sc fun Y => PTs Y fb tt1) (hk : Blk X sc fun Y => PE Y kx tk) (he : Blk X sc fun Y => PE Y vx tv)
    (pl : ∀ y, foldedSetIterable ia X.env y = pure y := by intro _; rfl) (pl1 : ∀ env y, foldedSetIterable ib env y = pure y := by intro _ _; rfl) :
    PE X (dcX kx vx ta ia tb ib fa fb sc p) (tDc2 wi g tt wi1 g1 tt1 tk tv (own.map (·.2)) vs1) := by
  refine ⟨fun pins s σ H Q I h => ?_⟩
  rw [arm_eval_DictComp]
  have frees : ∀ y ∈ sc.names, y.2 = .free → ∃ c, X.env.cells.lookup y.1 = some c := fun y hy e => (ok.free y hy e).elim (fun k => I.ok.has _ (.inl k)) fun k => I.ok.has _ (.inr k)
  refine wpAny_comprehension_free rfl pl (closure_ok frees) ok.kind (fun y hy e => by rw [ok.uniq y hy, e]) (thn (hi.run pins s σ H _ I h) fun xv s1 hx => thn hx fun itv s2 h2 => ?_)
  obtain ⟨it, fp, tn, J, H2, rfl, I2, T, st2, f2, q⟩ := h2
  refine wpAny_newObj_type (newEnv_comp ?_)
  obtain ⟨D, eD⟩ : ∃ D, s2.heap.objs.size = D := ⟨_, rfl⟩
  have nD : H2 D = none := I2.hok.fresh (Nat.le_of_eq eD)
  obtain ⟨W, ⟨m0, w0⟩, turn⟩ := q D nD
  rw [eD]
  obtain ⟨s3, e3⟩ : ∃ s3 : Shared, { s2 with heap := s2.heap.push { cls := .type "dict", data := .dict #[] } } = s3 := ⟨_, rfl⟩
  have h3 : s3.heap = s2.heap.push { cls := .type "dict", data := .dict #[] } := by rw [← e3]
  have I3 : Inv X pins σ (upd H2 D (.dK [])) s3 := by
    rw [← e3]
    refine I2.laid (t' := s2.toks) (fun b o e => Heap.get?_push_of_some _ e) (Nat.le_of_eq eD) ?_
    rw [← eD]
    exact dk_empty s2.heap I2.big
  have szf : ∀ b ∈ fp, b < s2.heap.objs.size := fun b hb => let ⟨o, e, _⟩ := T.obj _ _ st2 b hb; Heap.lt_size e
  have f3 : ∀ b ∈ fp, FpOk X pins (upd H2 D (.dK [])) b ∧ b < s3.heap.objs.size := fun b hb => by
    have lt := szf b hb
    refine ⟨⟨(upd_ne (show b ≠ D by rw [← eD]; exact Nat.ne_of_lt lt)).trans (f2 b hb).1, (f2 b hb).2⟩, ?_⟩
    rw [h3, Heap.size_push]
    exact Nat.lt_succ_of_lt lt
  have st3 : tn 0 s3.heap := T.keep _ _ _ st2 fun b _ o e => h3 ▸ Heap.get?_push_of_some _ e
  have I4 := block_start I3 ok hN f3
  obtain ⟨cl, ecl⟩ : ∃ cl, cellsFrom (s3.heap.objs.size + 1) sc.names (cloFrom X.env.cells sc.names []) = cl := ⟨_, rfl⟩
  obtain ⟨H3, eH3⟩ : ∃ H3, upd H2 D (.dK []) = H3 := ⟨_, rfl⟩
  rw [eH3] at I3 f3 w0
  have pg := hg s3 H3 s3.heap.objs.size cl fp
  have pt := ht s3 H3 s3.heap.objs.size cl fp
  have pi1 := hi1 s3 H3 s3.heap.objs.size cl fp
  have pg1 := hg1 s3 H3 s3.heap.objs.size cl fp
  have pt1 := ht1 s3 H3 s3.heap.objs.size cl fp
  have pk := hk s3 H3 s3.heap.objs.size cl fp
  have pv := he s3 H3 s3.heap.objs.size cl fp
  obtain ⟨ce, ece⟩ : ∃ ce, compEnvC sc cl s3.heap.objs.size X.env = ce := ⟨_, rfl⟩
  rw [ece] at pg pt pi1 pg1 pt1 pk pv
  rw [ecl, eH3, ece] at I4
  have cL : ce.locals = s3.heap.objs.size := by rw [← ece]; rfl
  obtain ⟨s4, e4⟩ : ∃ s4 : Shared, { s3 with heap := pushCells (s3.heap.push { cls := .type "dict", data := .dict #[] }) sc.names } = s4 := ⟨_, rfl⟩
  rw [e4] at I4
  have none3 : ∀ b ∈ fp, H3 b = none := fun b hb => (f3 b hb).1.1
  have st4 : tn 0 s4.heap := T.keep _ _ _ st3 fun b _ o e => by rw [← e4]; exact pushCells_keeps _ _ _ _ (Heap.get?_push_of_some _ e)
  have fpY : ∀ {σ' : L2.St} {H' : Hp} {s' : Shared}, Inv (X.blk s3 H3 sc ce fp) [] σ' H' s' → (∀ b ∈ fp, H' b = none) → ∀ b ∈ fp, FpOk (X.blk s3 H3 sc ce fp) [] H' b := fun {σ' H' s'} J' hn b hb => by
    refine ⟨hn b hb, (J'.ok.exf b hb).1, J'.ok.exfs b hb, .inl hb, (J'.ok.exf b hb).2, fun q hq => ?_⟩
    have hq : q ∈ ([] : List (Addr × Obj)) ++ [] := hq
    simp at hq
  have loop : codeAny (model X.prog X.w) X.A (.compLoop (dcX kx vx ta ia tb ib fa fb sc p) 0 (.ref it) (.ref D) ce) (compPost (model X.prog X.w) X.A X.xe none (EP X pins σ Q) (.ref D) s3.heap.objs.size) s4 := by
    refine dloop0 (pl1 ce) (fun n s' => ∃ i H', Inv (X.blk s3 H3 sc ce fp) [] (wipe σ (own.map (·.2))) H' s' ∧ tn i s'.heap ∧ (∀ b ∈ fp, H' b = none) ∧ W i n H') ?_ m0 s4 ⟨0, H3, I4, st4, none3, w0⟩
    rintro n s5 ⟨i, H5, I5, st5, n5, w5⟩
    rcases turn i n H5 w5 with ⟨stop, qq⟩ | ⟨go, Nx, hNx, step⟩
    · refine thnF (T.done (X.blk s3 H3 sc ce fp) rfl rfl rfl hc i [] s5 _ H5 (fun _ _ => False) I5 (fpY I5 n5) st5 stop) fun r s6 ⟨er, I6⟩ => ?_
      subst er
      have back : Inv X pins σ H5 s6 := I3.call' (ch := fp) I6.os I6.base I6.hok I6.bare fun b hb => let z := (f3 b hb).1.2; ⟨z.2.2.1, z.1, z.2.2.2.1, z.2.2.2.2⟩
      have nC : H5 s3.heap.objs.size = none := cL ▸ (show H5 ce.locals = none from I6.free)
      obtain ⟨m, hns, _⟩ := I6.loc
      have hns : s6.heap.Ns s3.heap.objs.size m := cL ▸ (show s6.heap.Ns ce.locals m from hns)
      obtain ⟨f0, f1, f2', f3', f4, f5⟩ := I3.fpOk (Nat.le_refl _) nC
      exact ⟨m, hns, fun h7 sb => ⟨.ref D, H5, back.turned (t' := s6.toks) (fun b o hb e => (sb.2 b hb).trans e) f0 f1 f3' f4 f5, rfl, qq⟩⟩
    · refine thnF (T.item (X.blk s3 H3 sc ce fp) rfl rfl rfl hc i [] s5 _ H5 (fun _ _ => False) I5 (fpY I5 n5) st5 go) fun r s6 ⟨u, er, h6⟩ => ?_
      subst er
      refine thnF h6 fun _ s7 ⟨x, H7, I7, r7, y7, st7, n7⟩ => ?_
      refine thnF (pg.run _ s7 _ H7 x u _ (I7.pinned (fpY I7 n7) (T.obj _ _ st7)) r7 (step x H7 y7)) fun _ s8 ⟨σ8, H8, I8, w8, q8⟩ => ?_
      refine thnF (pt.run _ s8 σ8 H8 _ I8 q8) fun b s9 ⟨H9, I9, q9⟩ => ?_
      have fin : ∀ {σ9 : L2.St} {s' : Shared} {H' : Hp}, Inv (X.blk s3 H3 sc ce fp) ([] ++ pinsAt fp s7.heap) σ9 H' s' → (wipe σ (own.map (·.2))).length = σ9.length → (∀ (j : Nat) v, (wipe σ (own.map (·.2)))[j]? = some (some v) → σ9[j]? = some (some v)) → Nx H' →
          ∃ m, m < n ∧ ∃ i H', Inv (X.blk s3 H3 sc ce fp) [] (wipe σ (own.map (·.2))) H' s' ∧ tn i s'.heap ∧ (∀ b ∈ fp, H' b = none) ∧ W i m H' := fun {σ9 s' H'} J' ln kp nx => by
        obtain ⟨m2, lt2, w2⟩ := hNx H' nx
        have pinned : ∀ b ∈ fp, ∀ o, s7.heap.get? b = some o → s'.heap.get? b = some o ∧ H' b = none := fun b hb o e =>
          have z := J'.pin (b, o) (List.mem_append_right _ (List.mem_append_right _ (mem_pinsAt hb e)))
          ⟨z.1, z.2.1⟩
        exact ⟨m2, lt2, i + 1, H', (J'.unpinned (pins := [])).weak ln kp, T.keep _ _ _ st7 fun b hb o e => (pinned b hb o e).1, fun b hb => let ⟨o, e, _⟩ := T.obj _ _ st7 b hb; (pinned b hb o e).2, w2⟩
      have len8 : (wipe σ (own.map (·.2))).length = σ8.length := by rw [← w8, wipe_length]
      have kp8 : ∀ (j : Nat) v, (wipe σ (own.map (·.2)))[j]? = some (some v) → σ8[j]? = some (some v) ∧ j ∉ own.map (·.2) := fun j v e => wipe_some (w8 ▸ e)
      match b, q9 with
      | false, q9 => exact fin I9 len8 (fun j v e => (kp8 j v e).1) q9
      | true, q9 =>
        refine thnF (pi1.run _ s9 σ8 H9 _ I9 q9) fun xv2 s10 hx2 => thnF hx2 fun itv2 s11 h11 => ?_
        obtain ⟨it1, fp1, tn1, J1, H11, rfl, I11, T1, st11, f11, W1, ⟨m1, w1⟩, turn1⟩ := h11
        have fpZ : ∀ {H' : Hp}, (∀ b ∈ fp1, H' b = none) → ∀ b ∈ fp1, FpOk (X.blk s3 H3 sc ce fp) ([] ++ pinsAt fp s7.heap) H' b := fun hn b hb => ⟨hn b hb, (f11 b hb).2⟩
        have inner : codeAny (model X.prog X.w) X.A (.compLoop (dcX kx vx ta ia tb ib fa fb sc p) 1 (.ref it1) (.ref D) ce) (fun r s' => match r with
            | .ok _ => ∃ m, m < n ∧ ∃ i H', Inv (X.blk s3 H3 sc ce fp) [] (wipe σ (own.map (·.2))) H' s' ∧ tn i s'.heap ∧ (∀ b ∈ fp, H' b = none) ∧ W i m H'
            | .error _ => False) s11 := by
          refine dloop1 (fun k s' => ∃ j H', Inv (X.blk s3 H3 sc ce fp) ([] ++ pinsAt fp s7.heap) (wipe σ8 vs1) H' s' ∧ tn1 j s'.heap ∧ (∀ b ∈ fp1, H' b = none) ∧ W1 j k H') ?_ m1 s11 ⟨0, H11, I11.weak (wipe_length _ _) (fun j v e => (wipe_some e).1), st11, fun b hb => (f11 b hb).1, w1⟩
          rintro k s12 ⟨j, H12, I12, st12, n12, w12⟩
          rcases turn1 j k H12 w12 with ⟨stop1, nx1⟩ | ⟨go1, Nx1, hNx1, step1⟩
          · refine thnF (T1.done (X.blk s3 H3 sc ce fp) rfl rfl rfl hc j _ s12 (wipe σ8 vs1) H12 (fun _ _ => False) I12 (fpZ n12) st12 stop1) fun r s13 ⟨er, I13⟩ => ?_
            subst er
            refine fin I13 (len8.trans (wipe_length σ8 vs1).symm) (fun j2 v e => ?_) nx1
            obtain ⟨z1, z2⟩ := kp8 j2 v e
            rw [wipe_out fun z => z2 (hv j2 z)]
            exact z1
          · refine thnF (T1.item (X.blk s3 H3 sc ce fp) rfl rfl rfl hc j _ s12 (wipe σ8 vs1) H12 (fun _ _ => False) I12 (fpZ n12) st12 go1) fun r s13 ⟨u1, er, h13⟩ => ?_
            subst er
            refine thnF h13 fun _ s14 ⟨x1, H14, I14, r14, y14, st14, n14⟩ => ?_
            refine thnF (pg1.run _ s14 (wipe σ8 vs1) H14 x1 u1 _ (I14.pinned (fpZ n14) (T1.obj _ _ st14)) r14 (step1 x1 H14 y14)) fun _ s15 ⟨σ15, H15, I15, w15, q15⟩ => ?_
            refine thnF (pt1.run _ s15 σ15 H15 _ I15 q15) fun b1 s16 ⟨H16, I16, q16⟩ => ?_
            have fin1 : ∀ {s' : Shared} {H' : Hp}, Inv (X.blk s3 H3 sc ce fp) (([] ++ pinsAt fp s7.heap) ++ pinsAt fp1 s14.heap) σ15 H' s' → Nx1 H' → ∃ m, m < k ∧ ∃ j H', Inv (X.blk s3 H3 sc ce fp) ([] ++ pinsAt fp s7.heap) (wipe σ8 vs1) H' s' ∧ tn1 j s'.heap ∧ (∀ b ∈ fp1, H' b = none) ∧ W1 j m H' := fun {s' H'} J' nx => by
              obtain ⟨m2, lt2, w2⟩ := hNx1 H' nx
              have pinned : ∀ b ∈ fp1, ∀ o, s14.heap.get? b = some o → s'.heap.get? b = some o ∧ H' b = none := fun b hb o e =>
                have z := J'.pin (b, o) (List.mem_append_right _ (List.mem_append_right _ (mem_pinsAt hb e)))
                ⟨z.1, z.2.1⟩
              exact ⟨m2, lt2, j + 1, H', J'.unpinned.weak (by rw [← w15, wipe_length]) (fun j v e => (wipe_some (w15 ▸ e)).1), T1.keep _ _ _ st14 fun b hb o e => (pinned b hb o e).1, fun b hb => let ⟨o, e, _⟩ := T1.obj _ _ st14 b hb; (pinned b hb o e).2, w2⟩
            match b1, q16 with
            | false, q16 => exact fin1 I16 q16
            | true, q16 =>
              refine thnF (pk.run _ s16 σ15 H16 _ I16 q16) fun z s17 ⟨yk, H17, I17, r17, q17⟩ => ?_
              refine thnF (pv.run _ s17 σ15 H17 _ I17 q17) fun z2 s18 ⟨yv, H18, I18, r18, kvs, key, ek, hD18, hz18, nx⟩ => ?_
              subst ek
              exact d_dictSet (X := (X.blk s3 H3 sc ce fp)) I18 hD18 hz18 r17 r18 fun s19 I19 => fin1 I19 nx
        exact dstart1 inner (T1.self X.A 0 _ _ _ st11 inner)
  rw [e3, ecl]
  change codeAny _ _ (.compStart (dcX kx vx ta ia tb ib fa fb sc p) 0 (.ref it) (.ref D) (compEnvC sc cl s3.heap.objs.size X.env)) (compPost (model X.prog X.w) X.A X.xe none (EP X pins σ Q) (.ref D) s3.heap.objs.size) { s3 with heap := pushCells (s3.heap.push { cls := .type "dict", data := .dict #[] }) sc.names }
  rw [ece, e4]
  exact codeAny_compStart_dict loop (T.self X.A 0 _ _ _ st4 loop)
end
end Du

set_option Elab.async false
set_option linter.all false
set_option maxRecDepth 100000
namespace Du
open PySem L2
/-- over a list that stays -/
theorem dc2_list {K : PySem.W.Frag} {a : Addr} {xs : List V} {g : TG} {tt : TT} {wi1 : TI} {g1 : TG} {tt1 : TT} {tk tv : TE} {vs vs1 : List Nat} {σ : L2.St} {H1 : Hp} {D : Addr} {Qd : Hp → Prop} (Pv : Nat → Hp → Prop) (h0 : Pv 0 (upd H1 D (.dK []))) (hl : ∀ i H, i ≤ xs.length → Pv i H → SqL K H a xs)
    (hs : ∀ i x H, xs[i]? = some x → Pv i H → g x (wipe σ vs) H fun σ2 H2 => wipe σ2 vs = wipe σ vs ∧ tt σ2 H2 fun b H3 => if b = true then wi1 σ2 H3 fun J1 H4 => ∃ W1 : Nat → Nat → Hp → Prop, (∃ m, W1 0 m H4) ∧ dIn J1 g1 tt1 tk tv vs1 D (Pv (i + 1)) σ2 W1 else Pv (i + 1) H3)
    (hd : ∀ H, Pv xs.length H → Qd H) :
    ∃ W : Nat → Nat → Hp → Prop, (∃ m, W 0 m (upd H1 D (.dK []))) ∧ ∀ i m H, W i m H →
      ((Itl K a).stop i H ∧ Qd H) ∨ ((Itl K a).go i H ∧ ∃ Nx : Hp → Prop, (∀ H', Nx H' → ∃ m', m' < m ∧ W (i + 1) m' H') ∧ ∀ x H', (Itl K a).yld i H x H' → g x (wipe σ vs) H' fun σ2 H2 => wipe σ2 vs = wipe σ vs ∧ tt σ2 H2 fun b H3 =>
        if b = true then wi1 σ2 H3 fun J1 H4 => ∃ W1 : Nat → Nat → Hp → Prop, (∃ m, W1 0 m H4) ∧ dIn J1 g1 tt1 tk tv vs1 D Nx σ2 W1 else Nx H3) := by
  refine ⟨fun i m H => m = xs.length - i ∧ i ≤ xs.length ∧ Pv i H, ⟨xs.length, by simp, Nat.zero_le _, h0⟩, ?_⟩
  rintro i m H ⟨rfl, hi, p⟩
  have q := hl i H hi p
  rcases Nat.lt_or_ge i xs.length with lt | ge
  · refine .inr ⟨⟨xs, xs[i], q, List.getElem?_eq_getElem lt⟩, Pv (i + 1), fun H' p' => ⟨xs.length - (i + 1), by omega, rfl, lt, p'⟩, fun x H' y => ?_⟩
    obtain ⟨e, y⟩ := y
    subst e
    exact hs i x _ (y xs q) p
  · have e : i = xs.length := by omega
    subst e
    exact .inl ⟨⟨xs, q, Nat.le_refl _⟩, hd H p⟩
/-- the inner clause over a tuple that stays -/
theorem dIn_tup {K : PySem.W.Frag} {a : Addr} {xs : List V} {g1 : TG} {tt1 : TT} {tk tv : TE} {vs1 : List Nat} {σ2 : L2.St} {H4 : Hp} {D : Addr} {Nx : Hp → Prop} (Pv : Nat → Hp → Prop) (h0 : Pv 0 H4) (hl : ∀ i H, i ≤ xs.length → Pv i H → SqT K H a xs)
    (hs : ∀ i x H, xs[i]? = some x → Pv i H → g1 x (wipe σ2 vs1) H fun σ3 H5 => wipe σ3 vs1 = wipe σ2 vs1 ∧ tt1 σ3 H5 fun b H6 =>
      if b = true then tk σ3 H6 fun y H7 => tv σ3 H7 fun z H8 => ∃ kvs key, y = kV key ∧ H8 D = some (.dK kvs) ∧ kvs.length < sizeLine ∧ Pv (i + 1) (upd H8 D (.dK (putK kvs key z))) else Pv (i + 1) H6) (hd : ∀ H, Pv xs.length H → Nx H) :
    ∃ W1 : Nat → Nat → Hp → Prop, (∃ m, W1 0 m H4) ∧ dIn (Itt K a) g1 tt1 tk tv vs1 D Nx σ2 W1 := by
  refine ⟨fun i m H => m = xs.length - i ∧ i ≤ xs.length ∧ Pv i H, ⟨xs.length, by simp, Nat.zero_le _, h0⟩, ?_⟩
  rintro i m H ⟨rfl, hi, p⟩
  have q := hl i H hi p
  rcases Nat.lt_or_ge i xs.length with lt | ge
  · refine .inr ⟨⟨xs, xs[i], q, List.getElem?_eq_getElem lt⟩, Pv (i + 1), fun H' p' => ⟨xs.length - (i + 1), by omega, rfl, lt, p'⟩, fun x H' y => ?_⟩
    obtain ⟨e, y⟩ := y
    subst e
    exact hs i x _ (y xs q) p
  · have e : i = xs.length := by omega
    subst e
    exact .inl ⟨⟨xs, q, Nat.le_refl _⟩, hd H p⟩
end Du

set_option Elab.async false
set_option linter.all false
set_option maxRecDepth 100000
namespace Du
open PySem L2
abbrev oAdd : V → V → Hp → VK → Prop := rI0 fun i j => .int (i + j)
abbrev oSub : V → V → Hp → VK → Prop := rI0 fun i j => .int (i - j)
abbrev oMul : V → V → Hp → VK → Prop := rI CMul fun i j => .int (i * j)
abbrev oDiv : V → V → Hp → VK → Prop := rI CDiv fun i j => .int (i / j)
abbrev oMod : V → V → Hp → VK → Prop := rI (fun _ j => 0 < j) fun i j => .int (i % j)
/-! what must be so, where it is so -/
abbrev sMust : Stmt := topS 18
abbrev sMustCrew : Stmt := topS 34
section
variable {P : Program} {w : World} {K : PySem.W.Frag} {mg : Str → Option Value} {base : Heap} {CT CD CC : Addr}
theorem scMust : FnScope ["thing", "least", "most"] ["thing", "least", "most"] (defScope sMust) := ⟨rfl, rfl, rfl, by decide +kernel, rfl, by decide +kernel, by decide +kernel⟩
def spMustW : Sp := fun vs H Q _ => ∃ i lo hi : Int, vs = [.int i, .int lo, .int hi] ∧ lo ≤ i ∧ i ≤ hi ∧ Q .non H
theorem ok_mustW {f : Addr} {fd : FuncData} (F : Fun K "must_be_whole" "must_be_whole" sMust f fd) (DW : Dn P w K mg base 2 "is_whole" ["thing", "least", "most"] (spWhole K)) : FnOk P w K mg base CX0 3 f fd ["thing", "least", "most"] spMustW := by
  refine F.ok scMust (fun vs H Q E h => ?_) (fun cdv A outer s H vs Q E hr h => ?_)
  · obtain ⟨i, lo, hi, rfl, _⟩ := h
    rfl
  · obtain ⟨i, lo, hi, rfl, h1, h2, q⟩ := h
    have hr2 : Room 2 _ := hr.mono (by decide)
    refine ⟨_, (pss_one (ps_if (pt_not (pt_val (pcall DW hr2 (by rfl) (pa_cons (pv 0) (pa_cons (pv 1) (pa_cons (pv 2) pa_nil)))))) pss_never pss_nil)), ?_⟩
    refine ⟨_, rfl, _, rfl, _, rfl, _, _, _, rfl, .inl ⟨i, rfl, ?_⟩⟩
    rw [decide_eq_true h1, decide_eq_true h2]
    exact ⟨_, rfl, iteF q⟩
theorem scMustC : FnScope ["thing"] ["thing"] (defScope sMustCrew) := ⟨rfl, rfl, rfl, by decide +kernel, rfl, by decide +kernel, by decide +kernel⟩
def spMustC (K : PySem.W.Frag) (CT CD CC : Addr) : Sp := fun vs H Q _ => ∃ (c : Addr) (ms : List Mem), vs = [.ref c] ∧ CrewAt K CT CD CC H c ms ∧ Q .non H
theorem ok_mustC {f : Addr} {fd : FuncData} (F : Fun K "must_be_crew" "must_be_crew" sMustCrew f fd) (T : CrewC K mg CC) (mI : mg "isinstance" = none) (oC : PySem.W.kitOne K (.ref CC) (.ref CC) = some true) : FnOk P w K mg base CX0 3 f fd ["thing"] (spMustC K CT CD CC) := by
  refine F.ok scMustC (fun vs H Q E h => ?_) (fun cdv A outer s H vs Q E hr h => ?_)
  · obtain ⟨c, ms, rfl, _⟩ := h
    rfl
  · obtain ⟨c, ms, rfl, ⟨dx, t, ec, hms⟩, q⟩ := h
    refine ⟨_, (pss_one (ps_if (pt_not (pt_val (pe_callB call_isi (by rfl) mI (by decide +kernel) (pa_cons (pv 0) (pa_cons (pe_glob (v := .ref CC) rfl T.mg rfl) pa_nil))))) pss_never pss_nil)), ?_⟩
    refine ⟨_, rfl, _, _, .ref CC, _, true, rfl, .own _, .base (.ins ec T.cl T.kc T.kg T.kt T.km), oC, _, rfl, iteF q⟩
end
end Du

set_option Elab.async false
set_option linter.all false
set_option maxRecDepth 100000
namespace Du
open PySem L2
abbrev sLevel : Stmt := inClass (topS 33) 7
/-- whether a task uses a tool -/
def uses (z : Str) (v : TaskV) : Bool := decide (z ∈ v.holds.map (·.1))
def tasksOf : List Mem → List TaskV
  | [] => []
  | .task v :: r => v :: tasksOf r
  | .door _ _ _ :: r => tasksOf r
def duesOf (ms : List Mem) (z : Str) : List Int := ((tasksOf ms).filter (uses z)).map (·.due)
theorem tasksOf_append (a b : List Mem) : tasksOf (a ++ b) = tasksOf a ++ tasksOf b := by
  induction a with
  | nil => rfl
  | cons m r ih =>
    cases m with
    | task v => simp only [List.cons_append, tasksOf, ih]
    | door n r' g => simp only [List.cons_append, tasksOf, ih]
theorem tasksOf_len (ms : List Mem) : (tasksOf ms).length ≤ ms.length := by
  induction ms with
  | nil => exact Nat.le_refl _
  | cons m r ih =>
    cases m with
    | task v => simp only [tasksOf, List.length_cons]; omega
    | door n r' g => simp only [tasksOf, List.length_cons]; omega
theorem tasksOf_mem {ms : List Mem} {v : TaskV} (h : v ∈ tasksOf ms) : Mem.task v ∈ ms := by
  induction ms with
  | nil => exact absurd h (by simp [tasksOf])
  | cons m r ih =>
    cases m with
    | task u =>
      simp only [tasksOf, List.mem_cons] at h ⊢
      rcases h with rfl | h
      · exact .inl rfl
      · exact .inr (ih h)
    | door n r' g =>
      simp only [tasksOf] at h
      exact List.mem_cons_of_mem _ (ih h)
/-- tasks in a row -/
def Tsks (K : PySem.W.Frag) (CT : Addr) (H : Hp) (ys : List V) (ts : List TaskV) : Prop := ys.length = ts.length ∧ ∀ (i : Nat) y v, ys[i]? = some y → ts[i]? = some v → ∃ x h, y = .ref x ∧ TaskAt K CT H x v h
/-- the least of some numbers -/
def minI : List Int → Int
  | [] => 0
  | [a] => a
  | a :: b :: r => if a ≤ minI (b :: r) then a else minI (b :: r)
theorem minI_spec : ∀ xs : List Int, xs ≠ [] → minI xs ∈ xs ∧ ∀ y ∈ xs, minI xs ≤ y
  | [], h => absurd rfl h
  | [a], _ => ⟨by simp [minI], fun y hy => by rw [List.mem_singleton.mp hy]; exact Int.le_refl _⟩
  | a :: b :: r, _ => by
    obtain ⟨h1, h2⟩ := minI_spec (b :: r) (by simp)
    unfold minI
    split
    · rename_i h
      refine ⟨by simp, fun y hy => ?_⟩
      rcases List.mem_cons.mp hy with rfl | hy
      · exact Int.le_refl _
      · exact Int.le_trans h (h2 y hy)
    · rename_i h
      refine ⟨List.mem_cons_of_mem _ h1, fun y hy => ?_⟩
      rcases List.mem_cons.mp hy with rfl | hy
      · omega
      · exact h2 y hy
theorem minI_eq {xs : List Int} {m : Int} (h1 : m ∈ xs) (h2 : ∀ y ∈ xs, m ≤ y) : m = minI xs := by
  have hne : xs ≠ [] := fun e => by rw [e] at h1; cases h1
  obtain ⟨h3, h4⟩ := minI_spec xs hne
  have := h2 _ h3
  have := h4 _ h1
  omega
/-- the level of a tool -/
def lev (ms : List Mem) (z : Str) : Int := minI (duesOf ms z)
section
variable {P : Program} {w : World} {K : PySem.W.Frag} {mg : Str → Option Value} {base : Heap} {CT CD CC : Addr}
theorem Tsks.kt {H H' : Hp} {ys : List V} {ts : List TaskV} (h : Tsks K CT H ys ts) (s : Kt H H') : Tsks K CT H' ys ts := ⟨h.1, fun i y v e1 e2 => by
  obtain ⟨x, a, e, q⟩ := h.2 i y v e1 e2
  exact ⟨x, a, e, q.kt s⟩⟩
theorem Tsks.add {H : Hp} {ys : List V} {ts : List TaskV} {x a : Addr} {v : TaskV} (h : Tsks K CT H ys ts) (q : TaskAt K CT H x v a) : Tsks K CT H (ys ++ [.ref x]) (ts ++ [v]) := by
  refine ⟨by rw [List.length_append, List.length_append, h.1]; rfl, fun i y u e1 e2 => ?_⟩
  by_cases hi : i < ys.length
  · rw [List.getElem?_append_left hi] at e1
    rw [List.getElem?_append_left (h.1 ▸ hi)] at e2
    exact h.2 i y u e1 e2
  · rw [List.getElem?_append_right (by omega)] at e1
    rw [List.getElem?_append_right (by rw [← h.1]; omega), ← h.1] at e2
    have z : i - ys.length = 0 := by
      have := (List.getElem?_eq_some_iff.mp e1).1
      simp at this
      omega
    rw [z] at e1 e2
    cases e1
    cases e2
    exact ⟨x, a, rfl, q⟩
def scLvT : Scope := { kind := .function, names := [(".0", .local), ("task", .local), ("tool", .cell)], isGenerator := false, isCoroutine := false }
abbrev nLevel : List Str := ["self", "tool", "tasks", "dues", "member", "task", "hold"]
theorem scLevel : FnScope nLevel ["self", "tool"] (defScope sLevel) := ⟨rfl, rfl, rfl, by decide +kernel, rfl, by decide +kernel, by decide +kernel⟩
theorem tf_due' (n : Str) (c g d : Int) (h : Addr) : (tf n c g d h).lookup ("due" : Str) = some (.int d) := rfl
theorem tf_holds' (n : Str) (c g d : Int) (h : Addr) : (tf n c g d h).lookup ("holds" : Str) = some (.ref h) := rfl
def spLevel (K : PySem.W.Frag) (CT CD CC : Addr) : Sp := fun vs H Q _ => ∃ (c : Addr) (ms : List Mem) (z : Str), vs = [.ref c, .str z] ∧ CrewAt K CT CD CC H c ms ∧ CrewOk ms ∧ isNm z = true ∧ duesOf ms z ≠ [] ∧ ∀ H', Same H H' → Q (.int (lev ms z)) H'
set_option maxHeartbeats 1000000 in
theorem ok_level {f : Addr} {fd : FuncData} (F : Fun K "level" "Crew.level" sLevel f fd) (M : MemC K mg CT CD) (T : CrewC K mg CC) (mI : mg "isinstance" = none) (mm : mg "min" = none) (DN : Dn P w K mg base 2 "is_name" ["thing"] (spName K)) :
    FnOk P w K mg base CX0 3 f fd ["self", "tool"] (spLevel K CT CD CC) := by
  refine F.ok scLevel (fun vs H Q E h => ?_) (fun cdv A outer s H vs Q E hr h => ?_)
  · obtain ⟨c, ms, z, rfl, _⟩ := h
    rfl
  · obtain ⟨c, ms, z, rfl, ⟨dx, t, ec, vs, hS, hms⟩, hok, hz, hne, q⟩ := h
    have hr2 : Room 2 _ := hr.mono (by decide)
    refine ⟨_, (pss_cons (ps_if (pt_not (pt_val (pcall DN hr2 (by rfl) (pa_cons (pv 1) pa_nil)))) pss_never pss_nil) (pss_cons (ps_setLc (i := 2) (own := [("member", 4)]) (g := gName 4) (tt := tB (tCB (rIsi K) (tCons (tVar 4) (tCons (tC (.ref CT)) tNil)))) rfl scLevel.nd rfl rfl (sw_true rfl rfl rfl (by decide +kernel)) (pi_tup (pe_fld (pv 0) rfl)) (blkOk_by (N := nLevel) (sc := defScope sLevel) (by decide +kernel))
        (fun _ _ _ _ _ => pg_name (i := 4) scLevel.nd rfl (Or.inl rfl)) (fun _ _ _ _ _ => pts_one (pt_val (pe_callB call_isi (by rfl) mI (by decide +kernel) (pa_cons (pv 4) (pa_cons (pe_glob (v := .ref CT) rfl M.T.mg rfl) pa_nil))))) (fun _ _ _ _ _ => pv 4)) (pss_cons (ps_setLc (i := 3) (own := [("task", 5)]) (g := gName 5) (tt := tTest (tOp (rIn K false) (tVar 1) (tLc (iTup K (tFld K (tVar 5) "holds")) (gName 6) tYes (tOp (rIxT K) (tVar 6) (tC (.int 0))) [6]))) (te := tFld K (tVar 5) "due") rfl scLevel.nd rfl rfl (sw_true rfl rfl rfl (by decide +kernel)) (pi_list (pv 2)) (blkOk_by (N := nLevel) (sc := defScope sLevel) (by decide +kernel))
        (fun _ _ _ _ _ => pg_name (i := 5) scLevel.nd rfl (Or.inl rfl)) (fun _ _ _ _ _ => pts_one (pt_cmpR op_in_seq (pv 1) (pe_lc (own := [("hold", 6)]) rfl scLevel.nd (pi_tup (pe_fld (pv 5) rfl)) (blkOk_by (N := nLevel) (sc := scLvT) (by decide +kernel)) (fun _ _ _ _ _ => pg_name (i := 6) scLevel.nd rfl (Or.inl rfl)) (fun _ _ _ _ _ => pts_nil) (fun _ _ _ _ _ => pe_ix ix_tup (pv 6) pe_int (fun _ _ => rfl))) (by rfl)))
        (fun _ _ _ _ _ => pe_fld (pv 5) rfl)) (pss_cons (ps_if (pt_not (pt_truth (pv 3) (fun _ => rfl))) pss_never pss_nil) (pss_one (ps_ret (pe_callB (cr_min rfl) (by rfl) mm (by decide +kernel) (pa_cons (pv 3) pa_nil)))))))), ?_⟩
    refine ⟨_, rfl, ?_⟩
    unfold tNil
    refine ask_name (.inl ⟨rfl, z, rfl, hz⟩) fun H1 s1 => ⟨_, rfl, iteF ?_⟩
    -- the tasks
    refine ⟨_, rfl, c, CC, dx, _, _, rfl, s1 _ _ ec, T.cl, T.nM, rfl, t, rfl, ⟨vs, hS.ext s1⟩, fun D nD => lc_tup (K := K) (a := t) (xs := vs) (fun j H' => Same H1 H' ∧ ∃ ys : List V, H' D = some (.lst ys) ∧ Tsks K CT H' ys (tasksOf (ms.take j))) ⟨same_upd nD, [], upd_same, rfl, fun i y v e _ => by simp at e⟩ (fun j H' _ z => hS.ext (s1.trans z.1)) ?_ ?_⟩
    · rintro j y H2 hy ⟨s2, ys, e, hys⟩
      obtain ⟨x, m, rfl, em, hx⟩ := hms.at hy
      have hx2 := hx.kt (.of_same (s1.trans s2))
      obtain ⟨ty, h1, _, h3⟩ := mem_ty M hx2
      have et : tasksOf (ms.take (j + 1)) = tasksOf (ms.take j) ++ tasksOf [m] := by
        rw [List.take_add_one, em, tasksOf_append]
        rfl
      have hl : ys.length < sizeLine := by
        rw [hys.1]
        have a1 := tasksOf_len (ms.take j)
        have a2 := (List.getElem?_eq_some_iff.mp em).1
        have a3 := hok.len
        rw [List.length_take] at a1
        exact Nat.lt_of_le_of_lt a1 (Nat.lt_of_le_of_lt (Nat.min_le_left _ _) (Nat.lt_of_lt_of_le (show j < 8 by omega) (by decide)))
      refine ⟨rfl, _, rfl, _, _, ty, _, _, rfl, .own _, h1, h3, _, rfl, ?_⟩
      cases m with
      | task v =>
        obtain ⟨a, ha⟩ := hx2
        refine iteT ⟨_, rfl, ys, e, hl, same_upd2 s2 nD, ys ++ [.ref x], upd_same, ?_⟩
        rw [et]
        exact (hys.add ha).kt (Kt.put e)
      | door n r g =>
        refine iteF ⟨s2, ys, e, ?_⟩
        rw [et]
        simpa [tasksOf] using hys
    rintro H2 ⟨s2, ys, eD, hys⟩
    rw [hms.1, List.take_length] at hys
    have s12 := s1.trans s2
    -- the dues
    refine ⟨_, rfl, D, rfl, ⟨_, SqL.of eD⟩, fun D2 nD2 => lc_list (K := K) (a := D) (xs := ys) (fun j H' => Same H2 H' ∧ H' D2 = some (.lst ((((tasksOf ms).take j).filter (uses z)).map fun v => V.int v.due))) ⟨same_upd nD2, upd_same⟩ (fun j H' _ z => SqL.of (z.1 _ _ eD)) ?_ ?_⟩
    · rintro j y H3 hy ⟨s3, e3⟩
      have hj : j < (tasksOf ms).length := by
        rw [← hys.1]
        exact (List.getElem?_eq_some_iff.mp hy).1
      have ev : (tasksOf ms)[j]? = some (tasksOf ms)[j] := List.getElem?_eq_getElem hj
      have hmem : (tasksOf ms)[j] ∈ tasksOf ms := List.getElem_mem hj
      generalize (tasksOf ms)[j] = v at ev hmem
      obtain ⟨x, a, rfl, hT⟩ := hys.2 j y v hy ev
      have hT3 := hT.kt (.of_same s3)
      obtain ⟨⟨dx', ex⟩, hvs, hSh, hlh, hel⟩ := id hT3
      have hlen4 : v.holds.length ≤ 4 := by
        have := (hok.all _ (tasksOf_mem hmem)).2.2.2.2.1
        unfold areHds at this
        rw [Bool.and_eq_true] at this
        exact of_decide_eq_true this.1
      refine ⟨rfl, _, rfl, _, rfl, x, CT, dx', _, _, rfl, ex, M.T.cl, M.T.nH, tf_holds' _ _ _ _ _, a, rfl, ⟨_, hSh⟩, fun D3 nD3 => lc_tup (K := K) (a := a) (xs := hvs) (fun i H' => Same H3 H' ∧ H' D3 = some (.lst ((v.holds.take i).map fun h => V.str h.1))) ⟨same_upd nD3, upd_same⟩ (fun i H' _ z => hSh.ext z.1) ?_ ?_⟩
      · rintro i u H4 hu ⟨s4, e4⟩
        have hi : i < v.holds.length := by
          rw [← hlh]
          exact (List.getElem?_eq_some_iff.mp hu).1
        have eg : v.holds[i]? = some v.holds[i] := List.getElem?_eq_getElem hi
        generalize v.holds[i] = g at eg
        obtain ⟨b, rfl, hA⟩ := (hel i u g hu eg).same s4
        refine ⟨rfl, _, rfl, b, _, _, _, rfl, rfl, hA, at_of (j := 0) rfl rfl, _, e4, ?_, same_upd2 s4 nD3, ?_⟩
        · rw [List.length_map]
          exact Nat.lt_of_le_of_lt (List.length_take_le _ _) (Nat.lt_of_lt_of_le (Nat.lt_of_lt_of_le hi hlen4) (by decide))
        · rw [upd_same, take_map1 _ eg]
      · rintro H4 ⟨s4, e4⟩
        rw [hlh, List.take_length] at e4
        have e4' : H4 D3 = some (.lst ((v.holds.map (·.1)).map V.str)) := by
          rw [e4, List.map_map]
          rfl
        refine ⟨D3, _, rfl, .inl (SqL.of e4'), rfl, flat_strs, _, rfl, ?_⟩
        have eU : (if false = true then !inV (.str z) ((v.holds.map (·.1)).map V.str) else inV (.str z) ((v.holds.map (·.1)).map V.str)) = uses z v := by
          show inV (.str z) ((v.holds.map (·.1)).map V.str) = uses z v
          rw [in_strs]
          rfl
        rw [eU]
        have et : ((tasksOf ms).take (j + 1)).filter (uses z) = ((tasksOf ms).take j).filter (uses z) ++ (if uses z v then [v] else []) := by
          rw [List.take_add_one, ev, List.filter_append]
          cases h : uses z v <;> simp [h]
        have e34 := s4 _ _ e3
        cases hU : uses z v with
        | true =>
          refine iteT ⟨_, rfl, x, CT, dx', _, _, rfl, s4 _ _ ex, M.T.cl, M.T.nD, tf_due' _ _ _ _ _, _, e34, ?_, same_upd2 (s3.trans s4) nD2, ?_⟩
          · rw [List.length_map]
            have a1 := tasksOf_len ms
            have a3 := hok.len
            exact Nat.lt_of_le_of_lt (List.length_filter_le _ _) (Nat.lt_of_le_of_lt (List.length_take_le _ _) (Nat.lt_of_lt_of_le (show j < 8 by omega) (by decide)))
          · rw [upd_same, et, hU, List.map_append]
            rfl
        | false =>
          refine iteF ⟨s3.trans s4, ?_⟩
          rw [e34, et, hU]
          simp
    · rintro H3 ⟨s3, e3⟩
      rw [hys.1, List.take_length] at e3
      have e3' : H3 D2 = some (.lst ((duesOf ms z).map V.int)) := by
        rw [e3]
        unfold duesOf
        rw [List.map_map]
        rfl
      have s13 := s12.trans s3
      refine ⟨_, rfl, _, .inl ⟨_, SqL.of e3', rfl⟩, ?_⟩
      have z0 : (!(!((duesOf ms z).map V.int).isEmpty)) = false := by
        cases h : duesOf ms z with
        | nil => exact absurd h hne
        | cons a r => rfl
      refine iteN z0 ?_
      refine ⟨_, rfl, D2, duesOf ms z, rfl, SqL.of e3', List.length_pos_iff.mpr hne, fun m hm hmin => ?_⟩
      rw [minI_eq hm hmin]
      exact q H3 s13
end
end Du

set_option Elab.async false
set_option linter.all false
set_option maxRecDepth 100000
namespace Du
open PySem L2
abbrev sHeld : Stmt := inClass (topS 25) 1
/-- what is held when so many moments are done -/
def held (i : Int) (h : Hold) : Bool := decide (h.2.1 < i) && decide (i < h.2.1 + h.2.2)
def heldL (hs : List Hold) (i : Int) : List Str := (hs.filter (held i)).map (·.1)
abbrev nHeld : List Str := ["self", "done", "tool", "start", "long"]
section
variable {P : Program} {w : World} {K : PySem.W.Frag} {mg : Str → Option Value} {base : Heap} {CT CD CC : Addr}
theorem scHeld : FnScope nHeld ["self", "done"] (defScope sHeld) := ⟨rfl, rfl, rfl, by decide +kernel, rfl, by decide +kernel, by decide +kernel⟩
def spHeld (K : PySem.W.Frag) (C : Addr) : Sp := fun vs H Q _ => ∃ (x h : Addr) (v : TaskV) (i : Int), vs = [.ref x, .int i] ∧ TaskAt K C H x v h ∧ v.holds.length ≤ 4 ∧ 0 ≤ i ∧ i ≤ v.cost ∧ ∀ t H', Same H H' → H t = none → H' t = some (.tup ((heldL v.holds i).map V.str)) → Q (.ref t) H'
theorem ok_held {C f : Addr} {fd : FuncData} (F : Fun K "held" "Task.held" sHeld f fd) (T : TaskC K mg C) (mt : mg "tuple" = none) (DM : Dn P w K mg base 3 "must_be_whole" ["thing", "least", "most"] spMustW) : FnOk P w K mg base CX0 4 f fd ["self", "done"] (spHeld K C) := by
  refine F.ok scHeld (fun vs H Q E h => ?_) (fun cdv A outer s H vs Q E hr h => ?_)
  · obtain ⟨x, h, v, i, rfl, _⟩ := h
    rfl
  · obtain ⟨x, h, v, i, rfl, ⟨⟨dx, hx⟩, hh⟩, hl, h0, h1, q⟩ := h
    have hr3 : Room 3 _ := hr.mono (by decide)
    refine ⟨_, (pss_cons (ps_expr (pcall DM hr3 (by rfl) (pa_cons (pv 1) (pa_cons pe_int (pa_cons (pe_fld (pv 0) rfl) pa_nil))))) (pss_one (ps_ret (pe_callTy call_tuple_of (by rfl) mt (by decide +kernel) (pa_cons (pe_lc (own := [("tool", 2), ("start", 3), ("long", 4)]) (g := gTup K 3 (gCons (gName 2) (gCons (gName 3) (gCons (gName 4) gNil)))) rfl scHeld.nd (pi_tup (pe_fld (pv 0) rfl)) (blkOk_by (N := nHeld) (sc := defScope sHeld) (by decide +kernel))
        (fun _ _ _ _ _ => pg_tup rfl (pgs_cons (pg_name (i := 2) scHeld.nd rfl (Or.inl rfl)) (pgs_cons (pg_name (i := 3) scHeld.nd rfl (Or.inl rfl)) (pgs_cons (pg_name (i := 4) scHeld.nd rfl (Or.inl rfl)) pgs_nil))))
        (fun _ _ _ _ _ => pts_one (pt_chain op_lt op_lt (pv 3) (pv 1) (pe_op op_add (pv 3) (pv 4)))) (fun _ _ _ _ _ => pv 2)) pa_nil))))), ?_⟩
    refine ⟨_, rfl, _, rfl, x, C, dx, _, _, rfl, hx, T.cl, T.nC, tf_cost _ _ _ _ _, ?_⟩
    refine ⟨i, 0, v.cost, rfl, h0, h1, ?_⟩
    · skip
      obtain ⟨vs, hS, hlen, hel⟩ := hh
      refine ⟨_, rfl, x, C, dx, _, _, rfl, hx, T.cl, T.nH, tf_holds _ _ _ _ _, h, rfl, ⟨vs, hS⟩, fun D nD => lc_tup (K := K) (a := h) (xs := vs) (fun j H' => Same H H' ∧ H' D = some (.lst (((v.holds.take j).filter (held i)).map fun h => V.str h.1))) ⟨same_upd nD, upd_same⟩ (fun j H' _ z => hS.ext z.1) ?_ ?_⟩
      · rintro j y H1 hy ⟨s1, e⟩
        have hj : j < v.holds.length := by
          rw [← hlen]
          exact (List.getElem?_eq_some_iff.mp hy).1
        have hg : v.holds[j]? = some v.holds[j] := List.getElem?_eq_getElem hj
        generalize v.holds[j] = g at hg
        obtain ⟨a, rfl, hA⟩ := (hel j y g hy hg).same s1
        have et : (v.holds.take (j + 1)).filter (held i) = (v.holds.take j).filter (held i) ++ (if held i g then [g] else []) := by
          rw [List.take_add_one, hg, List.filter_append]
          cases z : held i g <;> simp [z]
        refine ⟨a, _, rfl, hA, rfl, _, _, rfl, _, _, rfl, _, _, rfl, rfl, rfl, ?_⟩
        refine ⟨_, rfl, _, rfl, _, _, rfl, rfl, _, rfl, ?_⟩
        by_cases c1 : g.2.1 < i
        · rw [decide_eq_true c1]
          refine iteT ⟨_, rfl, _, rfl, _, _, rfl, rfl, _, _, rfl, rfl, _, rfl, ?_⟩
          by_cases c2 : i < g.2.1 + g.2.2
          · rw [decide_eq_true c2]
            refine iteT ⟨_, rfl, _, e, ?_, same_upd2 s1 nD, ?_⟩
            · rw [List.length_map]
              refine Nat.lt_of_le_of_lt (Nat.le_trans (List.length_filter_le _ _) (List.length_take_le _ _)) (Nat.lt_of_lt_of_le (Nat.lt_of_lt_of_le hj hl) (by decide))
            · rw [upd_same, et]
              have z : held i g = true := by
                unfold held
                rw [decide_eq_true c1, decide_eq_true c2]
                rfl
              rw [z, List.map_append]
              rfl
          · rw [decide_eq_false c2]
            refine iteF ⟨s1, ?_⟩
            have z : held i g = false := by
              unfold held
              rw [decide_eq_false c2]
              simp
            rw [e, et, z]
            simp
        · rw [decide_eq_false c1]
          refine iteF ⟨_, rfl, ?_⟩
          refine iteF ⟨s1, ?_⟩
          have z : held i g = false := by
            unfold held
            rw [decide_eq_false c1]
            rfl
          rw [e, et, z]
          simp
      · rintro H1 ⟨s1, e⟩
        rw [hlen, List.take_length] at e
        refine ⟨D, _, rfl, .inl ⟨SqL.of e, fun t nt => ?_⟩⟩
        refine q t _ (s1.trans (same_upd nt)) (s1.free nt) ?_
        rw [upd_same]
        unfold heldL
        rw [List.map_map]
        rfl
end
end Du

set_option Elab.async false
set_option linter.all false
set_option maxRecDepth 100000
namespace Du
open PySem L2
abbrev sLevels : Stmt := topS 36
def toolIn (ts : List TaskV) (z : Str) : Prop := ∃ v ∈ ts, z ∈ v.holds.map (·.1)
def LevOk (ms : List Mem) (kvs : List (Key × V)) (ts : List TaskV) : Prop := ∀ z, toolIn ts z → valV kvs (.inr z) = some (.int (lev ms z))
theorem dues_ne {ms : List Mem} {z : Str} (h : toolIn (tasksOf ms) z) : duesOf ms z ≠ [] := by
  obtain ⟨v, hv, hz⟩ := h
  intro e
  have : v ∈ (tasksOf ms).filter (uses z) := List.mem_filter.mpr ⟨hv, decide_eq_true hz⟩
  have := List.mem_map_of_mem (f := (·.due)) this
  unfold duesOf at e
  rw [e] at this
  cases this
theorem LevOk.put {ms : List Mem} {kvs : List (Key × V)} {ts : List TaskV} {z : Str} (h : LevOk ms kvs ts) : LevOk ms (putK kvs (.inr z) (.int (lev ms z))) ts ∧ valV (putK kvs (.inr z) (.int (lev ms z))) (.inr z) = some (.int (lev ms z)) := by
  refine ⟨fun y hy => ?_, by rw [valV_put, if_pos rfl]⟩
  rw [valV_put]
  split
  · rename_i e
    cases e
    rfl
  · exact h y hy
theorem tools_nm {ms : List Mem} (hok : CrewOk ms) {v : TaskV} (hv : v ∈ tasksOf ms) {g : Hold} (hg : g ∈ v.holds) : isNm g.1 = true := by
  have z := (hok.all _ (tasksOf_mem hv)).2.2.2.2.1
  unfold areHds at z
  simp only [Bool.and_eq_true, List.all_eq_true] at z
  have := z.2.1 g hg
  unfold isHd at this
  simp only [Bool.and_eq_true] at this
  exact this.1
theorem holds4 {ms : List Mem} (hok : CrewOk ms) {v : TaskV} (hv : v ∈ tasksOf ms) : v.holds.length ≤ 4 := by
  have z := (hok.all _ (tasksOf_mem hv)).2.2.2.2.1
  unfold areHds at z
  rw [Bool.and_eq_true] at z
  exact of_decide_eq_true z.1
section
variable {P : Program} {w : World} {K : PySem.W.Frag} {mg : Str → Option Value} {base : Heap} {CT CD CC : Addr}
abbrev nLevels : List Str := ["crew", "tasks", "member", "task", "hold"]
theorem scLevels : FnScope nLevels ["crew"] (defScope sLevels) := ⟨rfl, rfl, rfl, by decide +kernel, rfl, by decide +kernel, by decide +kernel⟩
def spLevels (K : PySem.W.Frag) (CT CD CC : Addr) : Sp := fun vs H Q _ => ∃ (c : Addr) (ms : List Mem), vs = [.ref c] ∧ CrewAt K CT CD CC H c ms ∧ CrewOk ms ∧ ∀ D kvs H', Same H H' → H D = none → H' D = some (.dK kvs) → LevOk ms kvs (tasksOf ms) → Q (.ref D) H'
set_option maxHeartbeats 1000000 in
theorem ok_levels {f fl : Addr} {fd fdl : FuncData} (F : Fun K "levels_of" "levels_of" sLevels f fd) (M : MemC K mg CT CD) (T : CrewC K mg CC) (mI : mg "isinstance" = none) (ml : Meth K CC "level" fl) (GL : FnOk P w K mg base CX0 3 fl fdl ["self", "tool"] (spLevel K CT CD CC)) (bl : Binds K fdl ["self", "tool"] []) : FnOk P w K mg base CX0 4 f fd ["crew"] (spLevels K CT CD CC) := by
  refine F.ok scLevels (fun vs H Q E h => ?_) (fun cdv A outer s H vs Q E hr h => ?_)
  · obtain ⟨c, ms, rfl, _⟩ := h
    rfl
  · obtain ⟨c, ms, rfl, hc, hok, q⟩ := h
    obtain ⟨dx, t, ec, vs, hS, hms⟩ := id hc
    have hr3 : Room 3 _ := hr.mono (by decide)
    have h8 := hok.len
    refine ⟨_, (pss_cons (ps_setLc (i := 1) (own := [("member", 2)]) (g := gName 2) (tt := tB (tCB (rIsi K) (tCons (tVar 2) (tCons (tC (.ref CT)) tNil)))) (te := tVar 2) rfl scLevels.nd rfl rfl (sw_true rfl rfl rfl (by decide +kernel)) (pi_tup (pe_fld (pv 0) rfl)) (blkOk_by (N := nLevels) (sc := defScope sLevels) (by decide +kernel))
        (fun _ _ _ _ _ => pg_name (i := 2) scLevels.nd rfl (Or.inl rfl)) (fun _ _ _ _ _ => pts_one (pt_val (pe_callB call_isi (by rfl) mI (by decide +kernel) (pa_cons (pv 2) (pa_cons (pe_glob (v := .ref CT) rfl M.T.mg rfl) pa_nil))))) (fun _ _ _ _ _ => pv 2)) (pss_one (ps_ret (pe_dc2 (own := [("task", 3), ("hold", 4)]) (vs1 := [4]) (g := gName 3) (tt := tYes) (wi1 := iTup K (tFld K (tVar 3) "holds")) (g1 := gName 4) (tt1 := tYes) (tk := tOp (rIxT K) (tVar 4) (tC (.int 0))) (tv := tMeth CC "level" (spLevel K CT CD CC) [] E0 (tVar 0) (tCons (tOp (rIxT K) (tVar 4) (tC (.int 0))) tNil)) rfl scLevels.nd (pi_list (pv 1)) (blkOk_by (N := nLevels) (sc := defScope sLevels) (by decide +kernel)) (by simp)
        (fun _ _ _ _ _ => pg_name (i := 3) scLevels.nd rfl (Or.inl rfl)) (fun _ _ _ _ _ => pts_nil) (fun _ _ _ _ _ => pi_tup (pe_fld (pv 3) rfl)) (fun _ _ _ _ _ => pg_name (i := 4) scLevels.nd rfl (Or.inl rfl)) (fun _ _ _ _ _ => pts_nil)
        (fun _ _ _ _ _ => pe_ix ix_tup (pv 4) pe_int (fun _ _ => rfl)) (fun _ _ _ _ _ => pe_meth (pv 0) T.cl ml GL hr3 bl .nil pass0 (pa_cons (pe_ix ix_tup (pv 4) pe_int (fun _ _ => rfl)) pa_nil)))))), ?_⟩
    -- the tasks
    refine ⟨_, rfl, c, CC, dx, _, _, rfl, ec, T.cl, T.nM, rfl, t, rfl, ⟨vs, hS⟩, fun D nD => lc_tup (K := K) (a := t) (xs := vs) (fun j H' => Same H H' ∧ ∃ ys : List V, H' D = some (.lst ys) ∧ Tsks K CT H' ys (tasksOf (ms.take j))) ⟨same_upd nD, [], upd_same, rfl, fun i y v e _ => by simp at e⟩ (fun j H' _ z => hS.ext z.1) ?_ ?_⟩
    · rintro j y H2 hy ⟨s2, ys, e, hys⟩
      obtain ⟨x, m, rfl, em, hx⟩ := hms.at hy
      have hx2 := hx.kt (.of_same s2)
      obtain ⟨ty, h1, _, h3⟩ := mem_ty M hx2
      have et : tasksOf (ms.take (j + 1)) = tasksOf (ms.take j) ++ tasksOf [m] := by
        rw [List.take_add_one, em, tasksOf_append]
        rfl
      have hl : ys.length < sizeLine := by
        rw [hys.1]
        have a1 := tasksOf_len (ms.take j)
        have a2 := (List.getElem?_eq_some_iff.mp em).1
        rw [List.length_take] at a1
        exact Nat.lt_of_le_of_lt a1 (Nat.lt_of_le_of_lt (Nat.min_le_left _ _) (Nat.lt_of_lt_of_le (show j < 8 by omega) (by decide)))
      refine ⟨rfl, _, rfl, _, _, ty, _, _, rfl, .own _, h1, h3, _, rfl, ?_⟩
      cases m with
      | task v =>
        obtain ⟨a, ha⟩ := hx2
        refine iteT ⟨_, rfl, ys, e, hl, same_upd2 s2 nD, ys ++ [.ref x], upd_same, ?_⟩
        rw [et]
        exact (hys.add ha).kt (Kt.put e)
      | door n r g =>
        refine iteF ⟨s2, ys, e, ?_⟩
        rw [et]
        simpa [tasksOf] using hys
    rintro H2 ⟨s2, ys, eD, hys⟩
    rw [hms.1, List.take_length] at hys
    have ht8 : (tasksOf ms).length ≤ 8 := Nat.le_trans (tasksOf_len ms) h8
    refine ⟨_, rfl, D, rfl, ⟨_, SqL.of eD⟩, fun D2 nD2 => dc2_list (K := K) (a := D) (xs := ys) (fun j H' => Same H2 H' ∧ ∃ kvs, H' D2 = some (.dK kvs) ∧ kvs.length ≤ 4 * j ∧ LevOk ms kvs ((tasksOf ms).take j)) ⟨same_upd nD2, [], upd_same, Nat.zero_le _, fun z hz => by obtain ⟨v, hv, _⟩ := hz; simp at hv⟩ (fun j H' _ z => SqL.of (z.1 _ _ eD)) ?_ ?_⟩
    · rintro j y H3 hy ⟨s3, kvs, e3, hl3, hk3⟩
      have hj : j < (tasksOf ms).length := by
        rw [← hys.1]
        exact (List.getElem?_eq_some_iff.mp hy).1
      have ev : (tasksOf ms)[j]? = some (tasksOf ms)[j] := List.getElem?_eq_getElem hj
      have hmem : (tasksOf ms)[j] ∈ tasksOf ms := List.getElem_mem hj
      generalize (tasksOf ms)[j] = v at ev hmem
      obtain ⟨x, a, rfl, hT⟩ := hys.2 j y v hy ev
      obtain ⟨⟨dx', ex⟩, hvs, hSh, hlh, hel⟩ := id hT
      have hlen4 := holds4 hok hmem
      refine ⟨rfl, _, rfl, x, CT, dx', _, _, rfl, s3 _ _ ex, M.T.cl, M.T.nH, tf_holds' _ _ _ _ _, a, rfl, ⟨_, hSh.ext s3⟩, ?_⟩
      refine dIn_tup (K := K) (a := a) (xs := hvs) (fun i H' => Same H2 H' ∧ ∃ kvs, H' D2 = some (.dK kvs) ∧ kvs.length ≤ 4 * j + i ∧ LevOk ms kvs ((tasksOf ms).take j) ∧ ∀ g ∈ v.holds.take i, valV kvs (.inr g.1) = some (.int (lev ms g.1))) ⟨s3, kvs, e3, hl3, hk3, fun g hg => by simp at hg⟩ (fun i H' _ z => hSh.ext z.1) ?_ ?_
      · rintro i u H4 hu ⟨s4, kvs, e4, hl4, hk4, hg4⟩
        have hi : i < v.holds.length := by
          rw [← hlh]
          exact (List.getElem?_eq_some_iff.mp hu).1
        have eg : v.holds[i]? = some v.holds[i] := List.getElem?_eq_getElem hi
        have hgm : v.holds[i] ∈ v.holds := List.getElem_mem hi
        generalize v.holds[i] = g at eg hgm
        obtain ⟨b, rfl, hA⟩ := (hel i u g hu eg).same s4
        have s04 := s2.trans s4
        refine ⟨rfl, _, rfl, b, _, _, _, rfl, rfl, hA, at_of (j := 0) rfl rfl, ?_⟩
        refine ⟨_, rfl, c, dx, _, rfl, s04 _ _ ec, rfl, _, rfl, b, _, _, _, rfl, rfl, hA, at_of (j := 0) rfl rfl, c, ms, g.1, rfl, hc.kt (.of_same s04), hok, tools_nm hok hmem hgm, dues_ne ⟨v, hmem, List.mem_map_of_mem hgm⟩, fun H5 s5 => ?_⟩
        have p1 := LevOk.put (z := g.1) hk4
        refine ⟨kvs, .inr g.1, rfl, s5 _ _ e4, Nat.lt_of_le_of_lt hl4 (Nat.lt_of_lt_of_le (show 4 * j + i < 64 by omega) (by decide)), same_upd2 (s4.trans s5) nD2, _, upd_same, ?_, p1.1, fun k hk => ?_⟩
        · have := length_putK kvs (.inr g.1) (.int (lev ms g.1))
          omega
        · rw [List.take_add_one, eg] at hk
          rw [valV_put]
          split
          · rename_i e
            rw [Sum.inr.inj e]
          · rename_i e
            rcases List.mem_append.mp hk with hk | hk
            · exact hg4 k hk
            · have : k = g := by simpa using hk
              rw [this] at e
              exact absurd rfl e
      · rintro H4 ⟨s4, kvs, e4, hl4, hk4, hg4⟩
        rw [hlh, List.take_length] at hg4
        refine ⟨s4, kvs, e4, ?_, fun z hz => ?_⟩
        · rw [hlh] at hl4
          omega
        · obtain ⟨k, hk, hkz⟩ := hz
          rw [List.take_add_one, ev] at hk
          rcases List.mem_append.mp hk with hk | hk
          · exact hk4 z ⟨k, hk, hkz⟩
          · have : k = v := by simpa using hk
            rw [this] at hkz
            obtain ⟨g, hg, rfl⟩ := List.mem_map.mp hkz
            exact hg4 g hg
    · rintro H3 ⟨s3, kvs, e3, hl3, hk3⟩
      rw [hys.1, List.take_length] at hk3
      exact q D2 kvs H3 (s2.trans s3) (s2.free nD2) e3 hk3
end
end Du

set_option Elab.async false
set_option linter.all false
set_option maxRecDepth 100000
namespace Du
open PySem L2
abbrev sLongest : Stmt := topS 37
abbrev sBlocking : Stmt := topS 40
/-- run, longest run and its first one, of so many turns -/
structure LH where
  run : Int
  best : Int
  first : Option Int
def lhS (s : LH) (b : Bool) (i : Nat) : LH :=
  let r : Int := if b = true then s.run + 1 else 0
  if s.best < r then ⟨r, r, some ((i : Int) - r + 1)⟩ else ⟨r, s.best, s.first⟩
def lh (f : Nat → Bool) : Nat → LH
  | 0 => ⟨0, 0, none⟩
  | n + 1 => lhS (lh f n) (f n) n
def optV : Option Int → V
  | none => .non
  | some i => .int i
def holdsAt (ms : List Mem) (n : Int) (v : TaskV) (i : Nat) : Bool := (heldL v.holds i).any fun z => decide (lev ms z ≤ n)
theorem heldL_tool {ms : List Mem} {v : TaskV} {i : Int} {z : Str} (hv : v ∈ tasksOf ms) (h : z ∈ heldL v.holds i) : toolIn (tasksOf ms) z := by
  obtain ⟨g, hg, rfl⟩ := List.mem_map.mp h
  exact ⟨v, hv, List.mem_map_of_mem (List.mem_filter.mp hg).1⟩
theorem heldL_len (hs : List Hold) (i : Int) : (heldL hs i).length ≤ hs.length := by
  unfold heldL
  rw [List.length_map]
  exact List.length_filter_le _ _
section
variable {P : Program} {w : World} {K : PySem.W.Frag} {mg : Str → Option Value} {base : Heap} {CT CD CC : Addr}
abbrev nLongest : List Str := ["task", "levels", "most", "longest", "first", "many", "done", "holds", "tool"]
abbrev pLongest : List Str := ["task", "levels", "most"]
theorem scLongest : FnScope nLongest pLongest (defScope sLongest) := ⟨rfl, rfl, rfl, by decide +kernel, rfl, by decide +kernel, by decide +kernel⟩
def spLongest (K : PySem.W.Frag) (CT : Addr) : Sp := fun vs H Q _ => ∃ (x h D : Addr) (v : TaskV) (n : Int) (ms : List Mem) (kvs : List (Key × V)), vs = [.ref x, .ref D, .int n] ∧ TaskAt K CT H x v h ∧ H D = some (.dK kvs) ∧ LevOk ms kvs (tasksOf ms) ∧ v ∈ tasksOf ms ∧ CrewOk ms ∧
  ∀ t H', Same H H' → H t = none → H' t = some (.tup [.int (lh (holdsAt ms n v) v.cost.toNat).best, optV (lh (holdsAt ms n v) v.cost.toNat).first]) → Q (.ref t) H'
set_option maxHeartbeats 1000000 in
theorem ok_longest {f fh : Addr} {fd fdh : FuncData} (F : Fun K "longest_hold" "longest_hold" sLongest f fd) (T : TaskC K mg CT) (mr : mg "range" = none) (ma : mg "any" = none) (mh : Meth K CT "held" fh) (GH : FnOk P w K mg base CX0 4 fh fdh ["self", "done"] (spHeld K CT)) (bh : Binds K fdh ["self", "done"] []) : FnOk P w K mg base CX0 5 f fd pLongest (spLongest K CT) := by
  refine F.ok scLongest (fun vs H Q E h => ?_) (fun cdv A outer s H vs Q E hr h => ?_)
  · obtain ⟨x, h, D, v, n, ms, kvs, rfl, _⟩ := h
    rfl
  · obtain ⟨x, h, D, v, n, ms, kvs, rfl, hT, eD, hk, hv, hok, q⟩ := h
    have hr4 : Room 4 _ := hr.mono (by decide)
    have hu := hr.units
    have hu1 : (A.deeper (PyProof.Rows.envOfC "longest_hold" (defScope sLongest) s.heap.objs.size f cdv)).units + 1 < cLine := by omega
    obtain ⟨hn, hc, hg, hd, hh, _⟩ := hok.all _ (tasksOf_mem hv)
    have h4 := holds4 hok hv
    obtain ⟨⟨dx, ex⟩, hholds⟩ := id hT
    refine ⟨_, (pss_cons (ps_set (i := 3) scLongest.nd rfl (.inl rfl) pe_int) (pss_cons (ps_set (i := 4) scLongest.nd rfl (.inl rfl) pe_non) (pss_cons (ps_set (i := 5) scLongest.nd rfl (.inl rfl) pe_int) (pss_cons (ps_for PassesOwn.never rfl (pi_range1 (by rfl) mr (pa_cons (pe_fld (pv 0) rfl) pa_nil)) (pg_name (i := 6) scLongest.nd rfl (.inl rfl))
        (pss_cons (ps_set (i := 7) scLongest.nd rfl (.inl rfl) (pe_callB (cr_any rfl) (by rfl) ma (by decide +kernel) (pa_cons (pe_lc (own := [("tool", 8)]) (g := gName 8) (tt := tYes) (te := tOp (rI0 fun i j => .bl (decide (i ≤ j))) (tDGet (tVar 1) (tVar 8)) (tVar 2)) rfl scLongest.nd (pi_tup (pe_meth (pv 0) T.cl mh GH hr4 bh .nil pass0 (pa_cons (pv 6) pa_nil))) (blkOk_by (N := nLongest) (sc := defScope sLongest) (by decide +kernel))
            (fun _ _ _ _ _ => pg_name (i := 8) scLongest.nd rfl (Or.inl rfl)) (fun _ _ _ _ _ => pts_nil) (fun _ _ _ _ _ => pe_cmpR op_le (pe_dget hu1 (pv 1) (pv 8) (fun _ _ => rfl)) (pv 2) (nomark _))) pa_nil))) (pss_cons (ps_set (i := 5) scLongest.nd rfl (.inl rfl) (pe_j (pe_ifExp (pt_val (pv 7)) (pe_op op_add (pv 5) pe_int) pe_int))) (pss_one (ps_if (pt_cmpR op_gt (pv 5) (pv 3) (nomark _)) (pss_cons (ps_set (i := 3) scLongest.nd rfl (.inl rfl) (pv 5)) (pss_one (ps_set (i := 4) scLongest.nd rfl (.inl rfl) (pe_op op_add (pe_op op_sub (pv 6) (pv 5)) pe_int)))) pss_nil))))) (pss_one (ps_ret (pe_tup (pa_cons (pv 3) (pa_cons (pv 4) pa_nil))))))))), ?_⟩
    refine ⟨_, rfl, x, CT, dx, _, _, rfl, ex, T.cl, T.nC, tf_cost _ _ _ _ _, v.cost, rfl, by omega, by omega, for_range (lo := 0) (n := v.cost.toNat) (fun i σ H' => ∃ v6 v7 : Option V, σ = [some (.ref x), some (.ref D), some (.int n), some (.int (lh (holdsAt ms n v) i).best), some (optV (lh (holdsAt ms n v) i).first), some (.int (lh (holdsAt ms n v) i).run), v6, v7, none] ∧ Same H H') ⟨none, none, rfl, Same.refl _⟩ ?_ ?_⟩
    · rintro i σ H1 hi ⟨v6, v7, rfl, s1⟩
      have sx := s1 _ _ ex
      refine ⟨_, rfl, x, dx, _, rfl, sx, rfl, _, rfl, x, h, v, (i : Int), by rw [Int.zero_add]; rfl, hT.same s1, h4, by omega, by omega, fun t H2 s2 nt et => ?_⟩
      have s12 := s1.trans s2
      have hz4 := Nat.le_trans (heldL_len v.holds i) h4
      have htl : ∀ z ∈ heldL v.holds i, valV kvs (.inr z) = some (.int (lev ms z)) := fun z hz => hk z (heldL_tool hv hz)
      have hany : ((heldL v.holds i).map fun z => decide (lev ms z ≤ n)).any id = holdsAt ms n v i := by
        unfold holdsAt
        rw [List.any_map]
        rfl
      generalize heldL v.holds i = zs at et hz4 htl hany
      refine ⟨t, rfl, ⟨_, SqT.of et⟩, fun D2 nD2 => lc_tup (K := K) (a := t) (xs := zs.map V.str) (fun j H' => Same H2 H' ∧ H' D2 = some (.lst (((zs.take j).map fun z => decide (lev ms z ≤ n)).map V.bl))) ⟨same_upd nD2, upd_same⟩ (fun j H' _ z => SqT.of (z.1 _ _ et)) ?_ ?_⟩
      · rintro j y H3 hy ⟨s3, e3⟩
        rw [List.getElem?_map] at hy
        obtain ⟨z, hz, rfl⟩ := Option.map_eq_some_iff.mp hy
        have hzm := List.mem_of_getElem? hz
        have hj := (List.getElem?_eq_some_iff.mp hz).1
        refine ⟨rfl, _, rfl, _, rfl, D, _, rfl, by rw [← htl z hzm]; exact DGet.k (k := .inr z) (s3 _ _ (s12 _ _ eD)), _, rfl, _, _, rfl, rfl, _, e3, ?_, same_upd2 s3 nD2, ?_⟩
        · rw [List.length_map, List.length_map]
          exact Nat.lt_of_le_of_lt (List.length_take_le _ _) (Nat.lt_of_lt_of_le (show j < 4 by omega) (by decide))
        · rw [upd_same, List.take_add_one, hz, List.map_append, List.map_append]
          rfl
      · rintro H3 ⟨s3, e3⟩
        rw [List.length_map, List.take_length] at e3
        refine ⟨D2, _, rfl, SqL.of e3, ?_⟩
        rw [hany]
        have s13 := s12.trans s3
        have el : lh (holdsAt ms n v) (i + 1) = lhS (lh (holdsAt ms n v) i) (holdsAt ms n v i) i := rfl
        rw [el]
        generalize lh (holdsAt ms n v) i = S
        generalize holdsAt ms n v i = b
        refine ⟨fun u H' => u = .int (if b = true then S.run + 1 else 0) ∧ H' = H3, ?_, ?_⟩
        · refine ⟨_, rfl, b, rfl, ?_⟩
          cases b with
          | true => exact iteT ⟨_, rfl, _, _, rfl, rfl, rfl, rfl⟩
          | false => exact iteF ⟨rfl, rfl⟩
        rintro u H' ⟨rfl, rfl⟩
        refine ⟨_, rfl, _, rfl, _, _, rfl, rfl, _, rfl, ?_⟩
        unfold lhS
        dsimp only
        generalize (if b = true then S.run + 1 else 0) = r
        by_cases hlt : S.best < r
        · rw [if_pos hlt]
          refine iteY (decide_eq_true hlt) ?_
          refine ⟨_, rfl, _, rfl, _, rfl, _, _, rfl, rfl, _, _, rfl, rfl, some (.int (0 + (i : Int))), some (.bl b), ?_, s13⟩
          show [some (V.ref x), some (V.ref D), some (V.int n), some (V.int r), some (V.int (0 + (i : Int) - r + 1)), some (V.int r), _, _, none] = _
          rw [Int.zero_add]
          rfl
        · rw [if_neg hlt]
          refine iteN (decide_eq_false hlt) ?_
          exact ⟨_, _, rfl, s13⟩
    · rintro σ H1 ⟨v6, v7, rfl, s1⟩
      refine ⟨_, rfl, _, rfl, (by show 2 ≤ sizeLine; decide), fun t nt => ?_⟩
      exact q t _ (s1.trans (same_upd nt)) (s1.free nt) upd_same
end
end Du

set_option Elab.async false
set_option linter.all false
set_option maxRecDepth 100000
namespace Du
open PySem L2
theorem mem_tasks {ms : List Mem} {v : TaskV} (h : Mem.task v ∈ ms) : v ∈ tasksOf ms := by
  induction ms with
  | nil => cases h
  | cons k l ih =>
    cases k with
    | task u =>
      rcases List.mem_cons.mp h with h | h
      · cases h
        exact List.mem_cons_self
      · exact List.mem_cons_of_mem _ (ih h)
    | door n r g =>
      rcases List.mem_cons.mp h with h | h
      · cases h
      · exact ih h
/-! blocking -/
abbrev BS := Int × Option (Str × Int)
def blV (s : BS) : List V := [.int s.1, (match s.2 with | none => .non | some p => .str p.1), (match s.2 with | none => .non | some p => .int p.2)]
def blS (ms : List Mem) (n : Int) (s : BS) : Mem → BS
  | .door _ _ _ => s
  | .task v => if n < v.due then (if s.1 < (lh (holdsAt ms n v) v.cost.toNat).best then ((lh (holdsAt ms n v) v.cost.toNat).best, (lh (holdsAt ms n v) v.cost.toNat).first.map fun i => (v.name, i)) else s) else s
theorem blS_task {ms : List Mem} {n : Int} {s : BS} {v : TaskV} : blS ms n s (.task v) = if n < v.due then (if s.1 < (lh (holdsAt ms n v) v.cost.toNat).best then ((lh (holdsAt ms n v) v.cost.toNat).best, (lh (holdsAt ms n v) v.cost.toNat).first.map fun i => (v.name, i)) else s) else s := rfl
def blF (ms : List Mem) (n : Int) (l : List Mem) : BS := l.foldl (blS ms n) (0, none)
def bl (ms : List Mem) (n : Int) : BS := blF ms n ms
theorem blF_snoc (ms : List Mem) (n : Int) (l : List Mem) (m : Mem) : blF ms n (l ++ [m]) = blS ms n (blF ms n l) m := by
  unfold blF
  rw [List.foldl_append]
  rfl
theorem lh_first (f : Nat → Bool) : ∀ n, 0 ≤ (lh f n).best ∧ (0 < (lh f n).best → ∃ i, (lh f n).first = some i)
  | 0 => ⟨Int.le_refl _, fun h => by simp [lh] at h⟩
  | n + 1 => by
    obtain ⟨h1, h2⟩ := lh_first f n
    show 0 ≤ (lhS (lh f n) (f n) n).best ∧ (0 < (lhS (lh f n) (f n) n).best → ∃ i, (lhS (lh f n) (f n) n).first = some i)
    unfold lhS
    dsimp only
    generalize (if f n = true then (lh f n).run + 1 else 0) = r
    by_cases h : (lh f n).best < r
    · rw [if_pos h]
      exact ⟨by show 0 ≤ r; omega, fun _ => ⟨_, rfl⟩⟩
    · rw [if_neg h]
      exact ⟨h1, h2⟩
theorem blF_nn (ms : List Mem) (n : Int) (l : List Mem) : 0 ≤ (blF ms n l).1 := by
  have : ∀ (l : List Mem) (s : BS), 0 ≤ s.1 → 0 ≤ (l.foldl (blS ms n) s).1 := by
    intro l
    induction l with
    | nil => exact fun s h => h
    | cons m l ih =>
      intro s h
      refine ih _ ?_
      cases m with
      | door => exact h
      | task v =>
        rw [blS_task]
        split
        · split
          · exact (lh_first _ _).1
          · exact h
        · exact h
  exact this l _ (Int.le_refl _)
section
variable {P : Program} {w : World} {K : PySem.W.Frag} {mg : Str → Option Value} {base : Heap} {CT CD CC : Addr}
abbrev nBlocking : List Str := ["crew", "long", "levels", "most", "member", "moments", "done"]
theorem scBlocking : FnScope nBlocking ["crew", "long"] (defScope sBlocking) := ⟨rfl, rfl, rfl, by decide +kernel, rfl, by decide +kernel, by decide +kernel⟩
def spBlocking (K : PySem.W.Frag) (CT CD CC : Addr) : Sp := fun vs H Q _ => ∃ (c : Addr) (ms : List Mem) (n : Int), vs = [.ref c, .int n] ∧ CrewAt K CT CD CC H c ms ∧ CrewOk ms ∧ 1 ≤ n ∧ n ≤ 1000000 ∧ ∀ t H', Same H H' → H t = none → H' t = some (.tup (blV (bl ms n))) → Q (.ref t) H'
set_option maxHeartbeats 1000000 in
theorem ok_blocking {f : Addr} {fd : FuncData} (F : Fun K "blocking" "blocking" sBlocking f fd) (M : MemC K mg CT CD) (T : CrewC K mg CC) (mI : mg "isinstance" = none) (mL : ∃ t, mg "MOST_LONG" = some (.int 1000000 t)) (DMW : Dn P w K mg base 3 "must_be_whole" ["thing", "least", "most"] spMustW) (DMC : Dn P w K mg base 3 "must_be_crew" ["thing"] (spMustC K CT CD CC))
    (DLv : Dn P w K mg base 4 "levels_of" ["crew"] (spLevels K CT CD CC)) (DLg : Dn P w K mg base 5 "longest_hold" pLongest (spLongest K CT)) : FnOk P w K mg base CX0 6 f fd ["crew", "long"] (spBlocking K CT CD CC) := by
  obtain ⟨tL, mL⟩ := mL
  refine F.ok scBlocking (fun vs H Q E h => ?_) (fun cdv A outer s H vs Q E hr h => ?_)
  · obtain ⟨c, ms, n, rfl, _⟩ := h
    rfl
  · obtain ⟨c, ms, n, rfl, hc, hok, hn1, hn2, q⟩ := h
    obtain ⟨dx, t, ec, vs, hS, hms⟩ := id hc
    have hr3 : Room 3 _ := hr.mono (by decide)
    have hr4 : Room 4 _ := hr.mono (by decide)
    have hr5 : Room 5 _ := hr.mono (by decide)
    refine ⟨_, (pss_cons (ps_expr (pcall DMC hr3 (by rfl) (pa_cons (pv 0) pa_nil))) (pss_cons (ps_expr (pcall DMW hr3 (by rfl) (pa_cons (pv 1) (pa_cons pe_int (pa_cons (pe_glob (v := .int 1000000) rfl mL ⟨_, rfl⟩) pa_nil))))) (pss_cons (ps_set (i := 2) scBlocking.nd rfl (.inl rfl) (pcall DLv hr4 (by rfl) (pa_cons (pv 0) pa_nil))) (pss_cons (ps_set (i := 3) scBlocking.nd rfl (.inl rfl) (pe_tup (pa_cons pe_int (pa_cons pe_non (pa_cons pe_non pa_nil))))) (pss_cons (ps_for PassesOwn.never rfl (pi_tup (pe_fld (pv 0) rfl)) (pg_name (i := 4) scBlocking.nd rfl (.inl rfl))
        (pss_one (ps_if (PW.pt (pw_and (pt_val (pe_callB call_isi (by rfl) mI (by decide +kernel) (pa_cons (pv 4) (pa_cons (pe_glob (v := .ref CT) rfl M.T.mg rfl) pa_nil)))) (pw_and1 (pt_cmpR op_gt (pe_fld (pv 4) rfl) (pv 1) (nomark _)))))
          (pss_cons (ps_asg (pcall DLg hr5 (by rfl) (pa_cons (pv 4) (pa_cons (pv 2) (pa_cons (pv 1) pa_nil)))) (pg_tup rfl (pgs_cons (pg_name (i := 5) scBlocking.nd rfl (.inl rfl)) (pgs_cons (pg_name (i := 6) scBlocking.nd rfl (.inl rfl)) pgs_nil)))) (pss_one (ps_if (pt_cmpR op_gt (pv 5) (pe_ix ix_tup (pv 3) pe_int (fun _ _ => rfl)) (nomark _)) (pss_one (ps_set (i := 3) scBlocking.nd rfl (.inl rfl) (pe_tup (pa_cons (pv 5) (pa_cons (pe_fld (pv 4) rfl) (pa_cons (pv 6) pa_nil)))))) pss_nil))) pss_nil))) (pss_one (ps_ret (pv 3)))))))), ?_⟩
    refine ⟨_, rfl, c, ms, rfl, hc, ?_⟩
    refine ⟨_, rfl, n, 1, 1000000, rfl, hn1, hn2, ?_⟩
    refine ⟨_, rfl, c, ms, rfl, hc, hok, fun D kvs H1 s1 nD eD hk => ?_⟩
    refine ⟨(by show 3 ≤ sizeLine; decide), fun B nB => ?_⟩
    have s2 := s1.trans (same_upd (o := .tup [.int 0, .non, .non]) nB)
    have eB : (upd H1 B (.tup [.int 0, .non, .non])) B = some (.tup (blV (0, none))) := upd_same
    have eD2 : (upd H1 B (.tup [.int 0, .non, .non])) D = some (.dK kvs) := same_upd nB _ _ eD
    generalize upd H1 B (.tup [.int 0, .non, .non]) = H2 at s2 eB eD2
    refine ⟨_, rfl, c, CC, dx, _, _, rfl, s2 _ _ ec, T.cl, T.nM, rfl, t, rfl, ⟨vs, hS.ext s2⟩, for_tup (K := K) (a := t) (xs := vs) (fun j σ H' => ∃ (B : Addr) (v4 v5 v6 : Option V), σ = [some (.ref c), some (.int n), some (.ref D), some (.ref B), v4, v5, v6] ∧ Same H2 H' ∧ H B = none ∧ H' B = some (.tup (blV (blF ms n (ms.take j))))) ⟨B, _, _, _, rfl, .refl _, s1.free nB, eB⟩ ?_ ?_ ?_⟩
    · rintro j σ H3 _ ⟨_, _, _, _, _, s3, _⟩
      exact hS.ext (s2.trans s3)
    · rintro j y σ H3 hy ⟨B, v4, v5, v6, rfl, s3, nB, eB⟩
      obtain ⟨x, m, rfl, em, hx⟩ := hms.at hy
      have s03 := s2.trans s3
      have hx3 := hx.kt (.of_same s03)
      obtain ⟨ty, h1, _, h3⟩ := mem_ty M hx3
      have et : blF ms n (ms.take (j + 1)) = blS ms n (blF ms n (ms.take j)) m := by
        rw [List.take_add_one, em]
        exact blF_snoc _ _ _ _
      have hnn := blF_nn ms n (ms.take j)
      rw [et]
      refine ⟨_, rfl, _, _, ty, _, _, rfl, .own _, h1, h3, _, rfl, ?_⟩
      generalize blF ms n (ms.take j) = S at eB hnn
      cases m with
      | door nm r g => exact iteF (iteF ⟨B, _, _, _, rfl, s3, nB, eB⟩)
      | task v =>
        obtain ⟨a, hT⟩ := hx3
        obtain ⟨⟨dx', ex⟩, hh⟩ := id hT
        have hvm : v ∈ tasksOf ms := mem_tasks (List.mem_of_getElem? em)
        refine iteT ⟨_, rfl, x, CT, dx', _, _, rfl, ex, M.T.cl, M.T.nD, tf_due' _ _ _ _ _, _, rfl, _, _, rfl, rfl, _, rfl, ?_⟩
        by_cases hdue : n < v.due
        · refine iteY (decide_eq_true hdue) ?_
          refine ⟨_, rfl, _, rfl, _, rfl, x, a, D, v, n, ms, kvs, rfl, hT, s3 _ _ eD2, hk, hvm, hok, fun t2 H4 s4 nt2 et2 => ?_⟩
          obtain ⟨l1, l2⟩ := lh_first (holdsAt ms n v) v.cost.toNat
          obtain ⟨L, hL⟩ : ∃ L, L = lh (holdsAt ms n v) v.cost.toNat := ⟨_, rfl⟩
          rw [← hL] at et2 l1 l2
          refine ⟨t2, _, rfl, SqT.of et2, rfl, _, _, rfl, _, _, rfl, rfl, ?_⟩
          have eB4 := s4 _ _ eB
          refine ⟨_, rfl, _, rfl, B, _, _, _, rfl, rfl, SqT.of eB4, at_of (j := 0) rfl rfl, _, _, rfl, rfl, _, rfl, ?_⟩
          by_cases hlt : S.1 < L.best
          · refine iteY (decide_eq_true hlt) ?_
            refine ⟨_, rfl, _, rfl, x, CT, dx', _, _, rfl, s4 _ _ ex, M.T.cl, M.T.nN, tf_name _ _ _ _ _, _, rfl, (by show 3 ≤ sizeLine; decide), fun B2 nB2 => ?_⟩
            obtain ⟨i, hi⟩ := l2 (by omega)
            refine ⟨B2, _, _, _, rfl, (s3.trans s4).trans (same_upd nB2), (s03.trans s4).free nB2, ?_⟩
            have eS : blS ms n S (.task v) = (L.best, some (v.name, i)) := by
              rw [blS_task, if_pos hdue, ← hL, if_pos hlt, hi]
              rfl
            rw [upd_same, hi, eS]
            rfl
          · refine iteN (decide_eq_false hlt) ?_
            have eS : blS ms n S (.task v) = S := by
              rw [blS_task, if_pos hdue, ← hL, if_neg hlt]
            exact ⟨B, _, _, _, rfl, s3.trans s4, nB, by rw [eS]; exact eB4⟩
        · refine iteN (decide_eq_false hdue) ?_
          have eS : blS ms n S (.task v) = S := if_neg hdue
          exact ⟨B, _, _, _, rfl, s3, nB, by rw [eS]; exact eB⟩
    · rintro σ H3 ⟨B, v4, v5, v6, rfl, s3, nB, eB⟩
      rw [hms.1, List.take_length] at eB
      exact ⟨_, rfl, q B H3 (s2.trans s3) nB eB⟩
end
end Du

set_option Elab.async false
set_option linter.all false
set_option maxRecDepth 100000
namespace Du
open PySem L2
abbrev sDueL : Stmt := topS 52
abbrev sLevelL : Stmt := topS 53
abbrev sHeldL : Stmt := topS 54
def scLvL : Scope := { kind := .function, names := [(".0", .local), ("_law_row", .local), ("_law_tool", .cell)], isGenerator := false, isCoroutine := false }
theorem dues_append (a b : List Mem) (z : Str) : duesOf (a ++ b) z = duesOf a z ++ duesOf b z := by
  unfold duesOf
  rw [tasksOf_append, List.filter_append, List.map_append]
theorem dues_len (ms : List Mem) (z : Str) : (duesOf ms z).length ≤ ms.length := by
  unfold duesOf
  rw [List.length_map]
  exact Nat.le_trans (List.length_filter_le _ _) (tasksOf_len ms)
def heldM (m : Mem) (i : Int) : List Str := match m with
  | .task v => heldL v.holds i
  | .door _ _ _ => []
section
variable {P : Program} {w : World} {K : PySem.W.Frag} {mg : Str → Option Value} {base : Heap} {CT CD CC : Addr}
/-! _law_level -/
abbrev nLevelL : List Str := ["_law_rows_here", "_law_tool", "_law_row", "_law_hold"]
theorem scLevelL : FnScope nLevelL ["_law_rows_here", "_law_tool"] (defScope sLevelL) := ⟨rfl, rfl, rfl, by decide +kernel, rfl, by decide +kernel, by decide +kernel⟩
def spLevelL (K : PySem.W.Frag) : Sp := fun vs H Q _ => ∃ (L : Addr) (rs : List V) (ms : List Mem) (z : Str), vs = [.ref L, .str z] ∧ SqL K H L rs ∧ Rows K H rs ms ∧ CrewOk ms ∧ duesOf ms z ≠ [] ∧ ∀ H', Same H H' → Q (.int (lev ms z)) H'
set_option maxHeartbeats 1000000 in
theorem ok_levelL {f : Addr} {fd : FuncData} (F : Fun K "_law_level" "_law_level" sLevelL f fd) (mm : mg "min" = none) : FnOk P w K mg base CX0 3 f fd ["_law_rows_here", "_law_tool"] (spLevelL K) := by
  refine F.ok scLevelL (fun vs H Q E h => ?_) (fun cdv A outer s H vs Q E hr h => ?_)
  · obtain ⟨L, rs, ms, z, rfl, _⟩ := h
    rfl
  · obtain ⟨L, rs, ms, z, rfl, hS, hrs, hok, hne, q⟩ := h
    refine ⟨_, (pss_one (ps_ret (pe_callB (cr_min rfl) (by rfl) mm (by decide +kernel) (pa_cons (pe_lc (own := [("_law_row", 2)]) (g := gName 2) (tt := tAnd (tTest (tOp rEq (tOp (rIxT K) (tVar 2) (tC (.int 0))) (tC (.str "task")))) (tTest (tOp (rIn K false) (tVar 1) (tLc (iTup K (tOp (rIxT K) (tVar 2) (tC (.int 5)))) (gName 3) tYes (tOp (rIxT K) (tVar 3) (tC (.int 0))) [3])))) (te := tOp (rIxT K) (tVar 2) (tC (.int 4))) rfl scLevelL.nd (pi_list (pv 0)) (blkOk_by (N := nLevelL) (sc := defScope sLevelL) (by decide +kernel))
        (fun _ _ _ _ _ => pg_name (i := 2) scLevelL.nd rfl (Or.inl rfl)) (fun _ _ _ _ _ => pts_one (PW.pt (pw_and (pt_cmpR op_eq (pe_ix ix_tup (pv 2) pe_int (fun _ _ => rfl)) pe_str (nomark _)) (pw_and1 (pt_cmpR op_in_seq (pv 1) (pe_lc (own := [("_law_hold", 3)]) rfl scLevelL.nd (pi_tup (pe_ix ix_tup (pv 2) pe_int (fun _ _ => rfl))) (blkOk_by (N := nLevelL) (sc := scLvL) (by decide +kernel)) (fun _ _ _ _ _ => pg_name (i := 3) scLevelL.nd rfl (Or.inl rfl)) (fun _ _ _ _ _ => pts_nil) (fun _ _ _ _ _ => pe_ix ix_tup (pv 3) pe_int (fun _ _ => rfl))) (by rfl))))))
        (fun _ _ _ _ _ => pe_ix ix_tup (pv 2) pe_int (fun _ _ => rfl))) pa_nil)))), ?_⟩
    refine ⟨_, rfl, L, rfl, ⟨_, hS⟩, fun D nD => lc_list (K := K) (a := L) (xs := rs) (fun j H' => Same H H' ∧ H' D = some (.lst ((duesOf (ms.take j) z).map V.int))) ⟨same_upd nD, upd_same⟩ (fun j H' _ q => hS.ext q.1) ?_ ?_⟩
    · rintro j y H1 hy ⟨s1, e⟩
      obtain ⟨r, m, rfl, em, hrow⟩ := hrs.at hy
      have hrow1 := hrow.kt (.of_same s1)
      have hmo := hok.all m (List.mem_of_getElem? em)
      have hj := (List.getElem?_eq_some_iff.mp em).1
      have et : duesOf (ms.take (j + 1)) z = duesOf (ms.take j) z ++ duesOf [m] z := by
        rw [List.take_add_one, em, dues_append]
        rfl
      have hl : ((duesOf (ms.take j) z).map V.int).length < sizeLine := by
        rw [List.length_map]
        have a1 := dues_len (ms.take j) z
        have a2 := hok.len
        rw [List.length_take] at a1
        exact Nat.lt_of_le_of_lt a1 (Nat.lt_of_le_of_lt (Nat.min_le_left _ _) (Nat.lt_of_lt_of_le (show j < 8 by omega) (by decide)))
      cases m with
      | door nm rm g =>
        have e0 : SqT K H1 r _ := SqT.of hrow1
        refine ⟨rfl, _, rfl, r, _, _, _, rfl, rfl, e0, at_of (j := 0) rfl rfl, rfl, _, rfl, ?_⟩
        refine iteN (by decide +kernel : decide (V.str "door" = V.str "task") = false) ?_
        refine iteF ⟨s1, ?_⟩
        rw [e, et]
        simp [duesOf, tasksOf]
      | task v =>
        obtain ⟨th, er, hh⟩ := hrow1
        obtain ⟨hvs, hSh, hlh, hel⟩ := id hh
        have e0 : SqT K H1 r _ := SqT.of er
        have h4 : v.holds.length ≤ 4 := holds4 (ms := ms) hok (mem_tasks (List.mem_of_getElem? em))
        refine ⟨rfl, _, rfl, r, _, _, _, rfl, rfl, e0, at_of (j := 0) rfl rfl, rfl, _, rfl, ?_⟩
        refine iteY (decide_eq_true rfl) ?_
        refine ⟨_, rfl, _, rfl, r, _, _, _, rfl, rfl, e0, at_of (j := 5) rfl rfl, th, rfl, ⟨_, hSh⟩, fun D3 nD3 => lc_tup (K := K) (a := th) (xs := hvs) (fun i H' => Same H1 H' ∧ H' D3 = some (.lst ((v.holds.take i).map fun h => V.str h.1))) ⟨same_upd nD3, upd_same⟩ (fun i H' _ q => hSh.ext q.1) ?_ ?_⟩
        · rintro i u H4 hu ⟨s4, e4⟩
          have hi : i < v.holds.length := by
            rw [← hlh]
            exact (List.getElem?_eq_some_iff.mp hu).1
          have eg : v.holds[i]? = some v.holds[i] := List.getElem?_eq_getElem hi
          generalize v.holds[i] = g at eg
          obtain ⟨b, rfl, hA⟩ := (hel i u g hu eg).same s4
          refine ⟨rfl, _, rfl, b, _, _, _, rfl, rfl, hA, at_of (j := 0) rfl rfl, _, e4, ?_, same_upd2 s4 nD3, ?_⟩
          · rw [List.length_map]
            exact Nat.lt_of_le_of_lt (List.length_take_le _ _) (Nat.lt_of_lt_of_le (Nat.lt_of_lt_of_le hi h4) (by decide))
          · rw [upd_same, List.take_add_one, eg, List.map_append]
            rfl
        · rintro H4 ⟨s4, e4⟩
          rw [hlh, List.take_length] at e4
          have e4' : H4 D3 = some (.lst ((v.holds.map (·.1)).map V.str)) := by
            rw [e4, List.map_map]
            rfl
          have s14 := s1.trans s4
          refine ⟨D3, _, rfl, .inl (SqL.of e4'), rfl, flat_strs, _, rfl, ?_⟩
          have eU : (if false = true then !inV (.str z) ((v.holds.map (·.1)).map V.str) else inV (.str z) ((v.holds.map (·.1)).map V.str)) = uses z v := by
            show inV (.str z) ((v.holds.map (·.1)).map V.str) = uses z v
            rw [in_strs]
            rfl
          rw [eU]
          have eD := s4 _ _ e
          cases hU : uses z v with
          | true =>
            refine iteT ⟨_, rfl, r, _, _, _, rfl, rfl, e0.ext s4, at_of (j := 4) rfl rfl, _, eD, hl, same_upd2 s14 nD, ?_⟩
            rw [upd_same, et, List.map_append]
            simp [duesOf, tasksOf, hU]
          | false =>
            refine iteF ⟨s14, ?_⟩
            rw [eD, et]
            simp [duesOf, tasksOf, hU]
    · rintro H1 ⟨s1, e⟩
      rw [hrs.1, List.take_length] at e
      refine ⟨D, duesOf ms z, rfl, SqL.of e, List.length_pos_iff.mpr hne, fun m hm hmin => ?_⟩
      rw [minI_eq hm hmin]
      exact q H1 s1
/-! _law_held -/
abbrev nHeldL : List Str := ["_law_row", "_law_done", "_law_hold"]
theorem scHeldL : FnScope nHeldL ["_law_row", "_law_done"] (defScope sHeldL) := ⟨rfl, rfl, rfl, by decide +kernel, rfl, by decide +kernel, by decide +kernel⟩
def spHeldL (K : PySem.W.Frag) : Sp := fun vs H Q _ => ∃ (r : Addr) (m : Mem) (i : Int), vs = [.ref r, .int i] ∧ RowAt K H r m ∧ m.ok ∧ ∀ L zs H', Same H H' → H L = none → H' L = some (.lst (zs.map V.str)) → zs.length ≤ 4 → (∀ z, z ∈ zs ↔ z ∈ heldM m i) → PyProof.Rows.sortedS zs = true → Q (.ref L) H'
set_option maxHeartbeats 1000000 in
theorem ok_heldL {f : Addr} {fd : FuncData} (F : Fun K "_law_held" "_law_held" sHeldL f fd) (ms : mg "sorted" = none) (mt : mg "set" = none) : FnOk P w K mg base CX0 3 f fd ["_law_row", "_law_done"] (spHeldL K) := by
  refine F.ok scHeldL (fun vs H Q E h => ?_) (fun cdv A outer s H vs Q E hr h => ?_)
  · obtain ⟨r, m, i, rfl, _⟩ := h
    rfl
  · obtain ⟨r, m, i, rfl, hrow, hmo, q⟩ := h
    refine ⟨_, (pss_cons (ps_if (pt_cmpR op_eq (pe_ix ix_tup (pv 0) pe_int (fun _ _ => rfl)) pe_str (nomark _)) (pss_one (ps_ret (pe_lst pa_nil))) pss_nil) (pss_one (ps_ret (pe_callB (cr_sortedSS rfl) (by rfl) ms (by decide +kernel) (pa_cons (pe_callTy (cr_setS rfl) (by rfl) mt (by decide +kernel) (pa_cons (pe_lc (own := [("_law_hold", 2)]) (g := gName 2) (tt := tAnd (tTest (tOp (rI0 fun i j => .bl (decide (i < j))) (tOp (rIxT K) (tVar 2) (tC (.int 1))) (tVar 1))) (tTest (tOp (rI0 fun i j => .bl (decide (i < j))) (tVar 1) (tOp oAdd (tOp (rIxT K) (tVar 2) (tC (.int 1))) (tOp (rIxT K) (tVar 2) (tC (.int 2))))))) (te := tOp (rIxT K) (tVar 2) (tC (.int 0))) rfl scHeldL.nd (pi_tup (pe_ix ix_tup (pv 0) pe_int (fun _ _ => rfl))) (blkOk_by (N := nHeldL) (sc := defScope sHeldL) (by decide +kernel))
        (fun _ _ _ _ _ => pg_name (i := 2) scHeldL.nd rfl (Or.inl rfl)) (fun _ _ _ _ _ => pts_one (PW.pt (pw_and (pt_cmpR op_lt (pe_ix ix_tup (pv 2) pe_int (fun _ _ => rfl)) (pv 1) (nomark _)) (pw_and1 (pt_cmpR op_lt (pv 1) (pe_op op_add (pe_ix ix_tup (pv 2) pe_int (fun _ _ => rfl)) (pe_ix ix_tup (pv 2) pe_int (fun _ _ => rfl))) (nomark _))))))
        (fun _ _ _ _ _ => pe_ix ix_tup (pv 2) pe_int (fun _ _ => rfl))) pa_nil)) pa_nil))))), ?_⟩
    cases m with
    | door nm rm g =>
      have e0 : SqT K H r _ := SqT.of hrow
      refine ⟨_, rfl, r, _, _, _, rfl, rfl, e0, at_of (j := 0) rfl rfl, rfl, _, rfl, ?_⟩
      refine iteY (decide_eq_true rfl) ?_
      exact ⟨Nat.zero_le _, fun L nL => q L [] _ (same_upd nL) nL upd_same (by decide) (fun z => Iff.rfl) rfl⟩
    | task v =>
      obtain ⟨th, er, hh⟩ := hrow
      obtain ⟨hvs, hSh, hlh, hel⟩ := id hh
      have e0 : SqT K H r _ := SqT.of er
      have h4 : v.holds.length ≤ 4 := by
        have z := hmo.2.2.2.2.1
        unfold areHds at z
        rw [Bool.and_eq_true] at z
        exact of_decide_eq_true z.1
      refine ⟨_, rfl, r, _, _, _, rfl, rfl, e0, at_of (j := 0) rfl rfl, rfl, _, rfl, ?_⟩
      refine iteN (by decide +kernel : decide (V.str "task" = V.str "door") = false) ?_
      refine ⟨_, rfl, r, _, _, _, rfl, rfl, e0, at_of (j := 5) rfl rfl, th, rfl, ⟨_, hSh⟩, fun D nD => lc_tup (K := K) (a := th) (xs := hvs) (fun j H' => Same H H' ∧ H' D = some (.lst ((heldL (v.holds.take j) i).map V.str))) ⟨same_upd nD, upd_same⟩ (fun j H' _ q => hSh.ext q.1) ?_ ?_⟩
      · rintro j u H1 hu ⟨s1, e1⟩
        have hj : j < v.holds.length := by
          rw [← hlh]
          exact (List.getElem?_eq_some_iff.mp hu).1
        have eg : v.holds[j]? = some v.holds[j] := List.getElem?_eq_getElem hj
        generalize v.holds[j] = g at eg
        obtain ⟨b, rfl, hA⟩ := (hel j u g hu eg).same s1
        have et : heldL (v.holds.take (j + 1)) i = heldL (v.holds.take j) i ++ heldL [g] i := by
          unfold heldL
          rw [List.take_add_one, eg, List.filter_append, List.map_append]
          rfl
        have hl : ((heldL (v.holds.take j) i).map V.str).length < sizeLine := by
          rw [List.length_map]
          have a1 := heldL_len (v.holds.take j) i
          rw [List.length_take] at a1
          exact Nat.lt_of_le_of_lt a1 (Nat.lt_of_le_of_lt (Nat.min_le_left _ _) (Nat.lt_of_lt_of_le (show j < 4 by omega) (by decide)))
        refine ⟨rfl, _, rfl, b, _, _, _, rfl, rfl, hA, at_of (j := 1) rfl rfl, _, rfl, _, _, rfl, rfl, _, rfl, ?_⟩
        by_cases c1 : g.2.1 < i
        · refine iteY (decide_eq_true c1) ?_
          refine ⟨_, rfl, _, rfl, b, _, _, _, rfl, rfl, hA, at_of (j := 1) rfl rfl, _, rfl, b, _, _, _, rfl, rfl, hA, at_of (j := 2) rfl rfl, _, _, rfl, rfl, _, _, rfl, rfl, _, rfl, ?_⟩
          by_cases c2 : i < g.2.1 + g.2.2
          · refine iteY (decide_eq_true c2) ?_
            refine ⟨_, rfl, b, _, _, _, rfl, rfl, hA, at_of (j := 0) rfl rfl, _, e1, hl, same_upd2 s1 nD, ?_⟩
            rw [upd_same, et, List.map_append]
            have z : held i g = true := by unfold held; rw [decide_eq_true c1, decide_eq_true c2]; rfl
            simp [heldL, z]
          · refine iteN (decide_eq_false c2) ⟨s1, ?_⟩
            rw [e1, et]
            have z : held i g = false := by unfold held; rw [decide_eq_false c2]; simp
            simp [heldL, z]
        · refine iteN (decide_eq_false c1) ?_
          refine iteF ⟨s1, ?_⟩
          rw [e1, et]
          have z : held i g = false := by unfold held; rw [decide_eq_false c1]; rfl
          simp [heldL, z]
      · rintro H1 ⟨s1, e1⟩
        rw [hlh, List.take_length] at e1
        have hl4 := Nat.le_trans (heldL_len v.holds i) h4
        refine ⟨D, heldL v.holds i, rfl, SqL.of e1, by omega, fun S nS => ?_⟩
        have hu := uq_len (heldL v.holds i)
        refine ⟨S, uq (heldL v.holds i), rfl, upd_same, by omega, fun ys L pm sd nL => ?_⟩
        refine q L ys _ ((s1.trans (same_upd nS)).trans (same_upd nL)) ((s1.trans (same_upd nS)).free nL) upd_same (by rw [pm.length_eq]; omega) (fun z => ?_) sd
        rw [pm.mem_iff, uq_mem]
        exact Iff.rfl
end
end Du

set_option Elab.async false
set_option linter.all false
set_option maxRecDepth 100000
namespace Du
open PySem L2
abbrev sBlocked : Stmt := topS 55
/-- what was found, and a task's longest run -/
def comb (s : BS) (v : TaskV) (L : LH) : BS := if s.1 < L.best then (L.best, L.first.map fun i => (v.name, i)) else s
theorem lhS_run {L : LH} {b : Bool} {d : Nat} : (lhS L b d).run = if b = true then L.run + 1 else 0 := by
  unfold lhS
  dsimp only
  generalize (if b = true then L.run + 1 else 0) = r
  split <;> rfl
theorem comb_step {s : BS} {v : TaskV} {L : LH} {b : Bool} {d : Nat} : comb s v (lhS L b d) = if (comb s v L).1 < (lhS L b d).run then ((lhS L b d).run, some (v.name, (d : Int) - (lhS L b d).run + 1)) else comb s v L := by
  have er : (lhS L b d).run = if b = true then L.run + 1 else 0 := by
    unfold lhS
    dsimp only
    generalize (if b = true then L.run + 1 else 0) = r
    split <;> rfl
  rw [er]
  unfold lhS
  dsimp only
  generalize (if b = true then L.run + 1 else 0) = r
  unfold comb
  by_cases h1 : L.best < r
  · rw [if_pos h1]
    dsimp only
    by_cases h2 : s.1 < L.best
    · rw [if_pos h2, if_pos (show s.1 < r by omega), if_pos (show (L.best, L.first.map fun i => (v.name, i)).1 < r from h1)]
      rfl
    · rw [if_neg h2]
      by_cases h3 : s.1 < r
      · rw [if_pos h3, if_pos h3]
        rfl
      · rw [if_neg h3, if_neg h3]
  · rw [if_neg h1]
    dsimp only
    by_cases h2 : s.1 < L.best
    · rw [if_pos h2, if_neg (show ¬ (L.best, L.first.map fun i => (v.name, i)).1 < r from h1)]
    · rw [if_neg h2, if_neg (show ¬ s.1 < r by omega)]
theorem lh_one {f : Nat → Bool} (h : f 0 = false) : lh f 1 = ⟨0, 0, none⟩ := by
  show lhS ⟨0, 0, none⟩ (f 0) 0 = _
  rw [h]
  rfl
theorem held_zero {hs : List Hold} {c : Int} (h : areHds hs c = true) : heldL hs 0 = [] := by
  unfold heldL
  rw [List.filter_eq_nil_iff.mpr]
  · rfl
  intro g hg
  unfold areHds at h
  simp only [Bool.and_eq_true, List.all_eq_true] at h
  have := h.2.1 g hg
  unfold isHd at this
  simp only [Bool.and_eq_true, decide_eq_true_eq] at this
  unfold held
  rw [decide_eq_false (show ¬ g.2.1 < 0 by omega)]
  simp
section
variable {P : Program} {w : World} {K : PySem.W.Frag} {mg : Str → Option Value} {base : Heap} {CT CD CC : Addr}
abbrev nBlocked : List Str := ["_law_rows_here", "_law_size", "_law_found", "_law_row", "_law_run", "_law_done", "_law_levels", "_law_tool"]
theorem scBlocked : FnScope nBlocked ["_law_rows_here", "_law_size"] (defScope sBlocked) := ⟨rfl, rfl, rfl, by decide +kernel, rfl, by decide +kernel, by decide +kernel⟩
def spBlocked (K : PySem.W.Frag) : Sp := fun vs H Q _ => ∃ (L : Addr) (rs : List V) (ms : List Mem) (n : Int), vs = [.ref L, .int n] ∧ SqL K H L rs ∧ Rows K H rs ms ∧ CrewOk ms ∧ ∀ t H', Same H H' → H t = none → H' t = some (.tup (blV (bl ms n))) → Q (.ref t) H'
set_option maxHeartbeats 2000000 in
theorem ok_blocked {f : Addr} {fd : FuncData} (F : Fun K "_law_blocked" "_law_blocked" sBlocked f fd) (mr : mg "range" = none) (mi : mg "int" = none) (mm : mg "min" = none) (DL : Dn P w K mg base 3 "_law_level" ["_law_rows_here", "_law_tool"] (spLevelL K)) (DH : Dn P w K mg base 3 "_law_held" ["_law_row", "_law_done"] (spHeldL K)) : FnOk P w K mg base CX0 4 f fd ["_law_rows_here", "_law_size"] (spBlocked K) := by
  refine F.ok scBlocked (fun vs H Q E h => ?_) (fun cdv A outer s H vs Q E hr h => ?_)
  · obtain ⟨L, rs, ms, n, rfl, _⟩ := h
    rfl
  · obtain ⟨L, rs, ms, n, rfl, hS, hrs, hok, q⟩ := h
    have hr3 : Room 3 _ := hr.mono (by decide)
    refine ⟨_, (pss_cons (ps_set (i := 2) scBlocked.nd rfl (.inl rfl) (pe_tup (pa_cons pe_int (pa_cons pe_non (pa_cons pe_non pa_nil))))) (pss_cons (ps_for PassesOwn.never rfl (pi_list (pv 0)) (pg_name (i := 3) scBlocked.nd rfl (.inl rfl))
        (pss_cons (ps_set (i := 4) scBlocked.nd rfl (.inl rfl) pe_int) (pss_one (ps_for PassesOwn.never rfl (pi_range2 (by rfl) mr (pa_cons pe_int (pa_cons (pe_op op_mul (pe_ix ix_tup (pv 3) pe_int (fun _ _ => rfl)) (pe_callTy call_int1 (by rfl) mi (by decide +kernel) (pa_cons (pe_and (pe_cmpR op_eq (pe_ix ix_tup (pv 3) pe_int (fun _ _ => rfl)) pe_str (nomark _)) (pe_one (pe_cmpR op_gt (pe_ix ix_tup (pv 3) pe_int (fun _ _ => rfl)) (pv 1) (nomark _)))) pa_nil))) pa_nil))) (pg_name (i := 5) scBlocked.nd rfl (.inl rfl))
            (pss_cons (ps_setLc (i := 6) (own := [("_law_tool", 7)]) (g := gName 7) (tt := tYes) (te := tCall (spLevelL K) [] E0 (tCons (tVar 0) (tCons (tVar 7) tNil))) rfl scBlocked.nd rfl rfl (sw_true rfl rfl rfl (by decide +kernel)) (pi_list (pcall DH hr3 (by rfl) (pa_cons (pv 3) (pa_cons (pv 5) pa_nil)))) (blkOk_by (N := nBlocked) (sc := defScope sBlocked) (by decide +kernel))
                (fun _ _ _ _ _ => pg_name (i := 7) scBlocked.nd rfl (Or.inl rfl)) (fun _ _ _ _ _ => pts_nil) (fun _ _ _ _ _ => pcall DL hr3 (by rfl) (pa_cons (pv 0) (pa_cons (pv 7) pa_nil)))) (pss_cons (ps_set (i := 4) scBlocked.nd rfl (.inl rfl) (pe_ix ix_list (pe_lst (pa_cons pe_int (pa_cons (pe_op op_add (pv 4) pe_int) pa_nil))) (pe_callTy call_int1 (by rfl) mi (by decide +kernel) (pa_cons (pe_cmpR op_le (pe_callB (cr_min rfl) (by rfl) mm (by decide +kernel) (pa_cons (pe_op op_cat (pv 6) (pe_lst (pa_cons (pe_op op_add (pv 1) pe_int) pa_nil))) pa_nil)) (pv 1) (nomark _)) pa_nil)) (fun _ _ => rfl))) (pss_one (ps_if (pt_cmpR op_gt (pv 4) (pe_ix ix_tup (pv 2) pe_int (fun _ _ => rfl)) (nomark _)) (pss_one (ps_set (i := 2) scBlocked.nd rfl (.inl rfl) (pe_tup (pa_cons (pv 4) (pa_cons (pe_ix ix_tup (pv 3) pe_int (fun _ _ => rfl)) (pa_cons (pe_op op_add (pe_op op_sub (pv 5) (pv 4)) pe_int) pa_nil)))))) pss_nil)))))))) (pss_one (ps_ret (pv 2))))), ?_⟩
    refine ⟨(by show 3 ≤ sizeLine; decide), fun B nB => ?_⟩
    have s0 := same_upd (o := .tup [.int 0, .non, .non]) nB
    have eB : (upd H B (.tup [.int 0, .non, .non])) B = some (.tup (blV (0, none))) := upd_same
    generalize upd H B (.tup [.int 0, .non, .non]) = H0 at s0 eB
    refine ⟨_, rfl, L, rfl, ⟨_, hS.ext s0⟩, for_list (K := K) (a := L) (xs := rs) (fun j σ H' => ∃ (B : Addr) (v3 v4 v5 v6 : Option V), σ = [some (.ref L), some (.int n), some (.ref B), v3, v4, v5, v6, none] ∧ Same H H' ∧ H B = none ∧ H' B = some (.tup (blV (blF ms n (ms.take j))))) ⟨B, _, _, _, _, rfl, s0, nB, eB⟩ ?_ ?_ ?_⟩
    · rintro j σ H1 _ ⟨_, _, _, _, _, _, s1, _⟩
      exact hS.ext s1
    · rintro j y σ H1 hy ⟨B, v3, v4, v5, v6, rfl, s1, nB, eB⟩
      obtain ⟨r, m, rfl, em, hrow⟩ := hrs.at hy
      have hrow1 := hrow.kt (.of_same s1)
      have hmo := hok.all m (List.mem_of_getElem? em)
      have et : blF ms n (ms.take (j + 1)) = blS ms n (blF ms n (ms.take j)) m := by
        rw [List.take_add_one, em]
        exact blF_snoc _ _ _ _
      rw [et]
      have hnn := blF_nn ms n (ms.take j)
      generalize blF ms n (ms.take j) = S at eB hnn
      cases m with
      | door nm rm g =>
        have e0 : SqT K H1 r _ := SqT.of hrow1
        refine ⟨_, rfl, r, _, _, _, rfl, rfl, e0, at_of (j := 2) rfl rfl, ?_⟩
        refine ⟨_, rfl, r, _, _, _, rfl, rfl, e0, at_of (j := 0) rfl rfl, rfl, _, rfl, ?_⟩
        refine iteN (by decide +kernel : decide (V.str "door" = V.str "task") = false) ?_
        refine .inr ⟨_, rfl, _, _, rfl, rfl, .inr ⟨by decide, by decide⟩, 1, 0, (by show [V.int 1, V.int (rm * (if false = true then 1 else 0))] = _; simp), by decide, ?_⟩
        exact for_range (lo := 1) (n := 0) (fun i σ H' => σ = [some (.ref L), some (.int n), some (.ref B), some (.ref r), some (.int 0), v5, v6, none] ∧ H' = H1) ⟨rfl, rfl⟩ (fun i σ H' hi _ => absurd hi (Nat.not_lt_zero _)) fun σ H' ⟨e1, e2⟩ => by
          subst e1 e2
          exact ⟨B, _, _, _, _, rfl, s1, nB, eB⟩
      | task v =>
        obtain ⟨th, er, hh⟩ := hrow1
        have e0 : SqT K H1 r _ := SqT.of er
        refine ⟨_, rfl, r, _, _, _, rfl, rfl, e0, at_of (j := 2) rfl rfl, ?_⟩
        refine ⟨_, rfl, r, _, _, _, rfl, rfl, e0, at_of (j := 0) rfl rfl, rfl, _, rfl, ?_⟩
        refine iteY (decide_eq_true rfl) ?_
        refine ⟨_, rfl, r, _, _, _, rfl, rfl, e0, at_of (j := 4) rfl rfl, _, rfl, _, _, rfl, rfl, .inr ⟨_, rfl, ?_⟩⟩
        have hvm : v ∈ tasksOf ms := mem_tasks (List.mem_of_getElem? em)
        obtain ⟨hnm, hc, hg, hd, ha, hl⟩ := id hmo
        by_cases hdue : n < v.due
        · refine ⟨_, _, rfl, rfl, .inr ⟨by rw [decide_eq_true hdue]; decide, by rw [decide_eq_true hdue]; decide⟩, 1, v.cost, (by rw [decide_eq_true hdue]; show [V.int 1, V.int (v.cost * (if true = true then 1 else 0))] = _; simp), by omega, ?_⟩
          have f0 : holdsAt ms n v 0 = false := by
            unfold holdsAt
            rw [show ((0 : Nat) : Int) = 0 from rfl, held_zero ha]
            rfl
          refine for_range (lo := 1) (n := (v.cost - 1).toNat) (fun i σ H' => ∃ (B : Addr) (v5 v6 : Option V), σ = [some (.ref L), some (.int n), some (.ref B), some (.ref r), some (.int (lh (holdsAt ms n v) (i + 1)).run), v5, v6, none] ∧ Same H1 H' ∧ H B = none ∧ H' B = some (.tup (blV (comb S v (lh (holdsAt ms n v) (i + 1)))))) ⟨B, v5, v6, ?_, .refl _, nB, ?_⟩ ?_ ?_
          · rw [lh_one f0]
            rfl
          · rw [lh_one f0]
            have : comb S v ⟨0, 0, none⟩ = S := if_neg (show ¬ S.1 < 0 by omega)
            rw [this]
            exact eB
          · rintro i σ H2 hi ⟨B, v5, v6, rfl, s2, nB, eB⟩
            have s02 := s1.trans s2
            have hrow2 : RowAt K H2 r (.task v) := hrow.kt (.of_same s02)
            have ecast : (1 + (i : Int)) = ((i + 1 : Nat) : Int) := by omega
            refine ⟨_, rfl, _, rfl, r, .task v, ((i + 1 : Nat) : Int), congrArg (fun z => [V.ref r, V.int z]) ecast, hrow2, hmo, fun L2 zs H3 s3 nL2 eL2 hz4 hzm _ => ?_⟩
            have s03 := s02.trans s3
            refine ⟨L2, rfl, ⟨_, SqL.of eL2⟩, fun D nD => lc_list (K := K) (a := L2) (xs := zs.map V.str) (fun k H' => Same H3 H' ∧ H' D = some (.lst (((zs.take k).map (lev ms)).map V.int))) ⟨same_upd nD, upd_same⟩ (fun k H' _ q => SqL.of (q.1 _ _ eL2)) ?_ ?_⟩
            · rintro k y H4 hy ⟨s4, e4⟩
              rw [List.getElem?_map] at hy
              obtain ⟨z, hz, rfl⟩ := Option.map_eq_some_iff.mp hy
              have hk := (List.getElem?_eq_some_iff.mp hz).1
              have s04 := s03.trans s4
              refine ⟨rfl, _, rfl, _, rfl, L, rs, ms, z, rfl, hS.ext s04, hrs.kt (.of_same s04), hok, dues_ne (heldL_tool hvm ((hzm z).mp (List.mem_of_getElem? hz))), fun H5 s5 => ⟨_, s5 _ _ e4, ?_, same_upd2 (s4.trans s5) nD, ?_⟩⟩
              · rw [List.length_map, List.length_map]
                exact Nat.lt_of_le_of_lt (List.length_take_le _ _) (Nat.lt_of_lt_of_le (show k < 4 by omega) (by decide))
              · rw [upd_same, List.take_add_one, hz, List.map_append, List.map_append]
                rfl
            rintro H4 ⟨s4, e4⟩
            rw [List.length_map, List.take_length] at e4
            -- the minimum
            refine ⟨_, rfl, _, _, rfl, rfl, (by show 2 ≤ sizeLine; decide), fun L3 nL3 => ?_⟩
            have s5 := same_upd (o := .lst [.int 0, .int ((lh (holdsAt ms n v) (i + 1)).run + 1)]) nL3
            refine ⟨_, rfl, _, rfl, _, _, rfl, rfl, (by show 1 ≤ sizeLine; decide), fun L4 nL4 => ?_⟩
            have s6 := s5.trans (same_upd (o := .lst [.int (n + 1)]) nL4)
            refine ⟨D, L4, _, _, rfl, rfl, s6 _ _ e4, upd_same, ?_, fun L5 nL5 => ?_⟩
            · rw [List.length_map, List.length_map]
              exact Nat.le_trans (show zs.length + 1 ≤ 5 by omega) (by decide)
            have s7 := s6.trans (same_upd (o := .lst ((zs.map (lev ms)).map V.int ++ [.int (n + 1)])) nL5)
            have eL3 : (upd (upd (upd H4 L3 (.lst [.int 0, .int ((lh (holdsAt ms n v) (i + 1)).run + 1)])) L4 (.lst [.int (n + 1)])) L5 (.lst ((zs.map (lev ms)).map V.int ++ [.int (n + 1)]))) L3 = some (.lst [.int 0, .int ((lh (holdsAt ms n v) (i + 1)).run + 1)]) := same_upd nL5 _ _ (same_upd nL4 _ _ upd_same)
            have eL5 : (upd (upd (upd H4 L3 (.lst [.int 0, .int ((lh (holdsAt ms n v) (i + 1)).run + 1)])) L4 (.lst [.int (n + 1)])) L5 (.lst ((zs.map (lev ms)).map V.int ++ [.int (n + 1)]))) L5 = some (.lst ((zs.map (lev ms) ++ [n + 1]).map V.int)) := by
              rw [upd_same, List.map_append]
              rfl
            generalize upd (upd (upd H4 L3 (.lst [.int 0, .int ((lh (holdsAt ms n v) (i + 1)).run + 1)])) L4 (.lst [.int (n + 1)])) L5 (.lst ((zs.map (lev ms)).map V.int ++ [.int (n + 1)])) = H7 at s7 eL3 eL5
            refine ⟨L5, zs.map (lev ms) ++ [n + 1], rfl, SqL.of eL5, by simp, fun mn hmn hmin => ?_⟩
            have hb : decide (mn ≤ n) = holdsAt ms n v (i + 1) := by
              unfold holdsAt
              by_cases h : ∃ z ∈ zs, lev ms z ≤ n
              · obtain ⟨z, hz, hle⟩ := h
                have h1 := hmin (lev ms z) (List.mem_append_left _ (List.mem_map_of_mem hz))
                rw [decide_eq_true (show mn ≤ n by omega)]
                exact (List.any_eq_true.mpr ⟨z, (hzm z).mp hz, decide_eq_true hle⟩).symm
              · have h1 : ¬ mn ≤ n := fun hle => by
                  rcases List.mem_append.mp hmn with hm | hm
                  · obtain ⟨z, hz, rfl⟩ := List.mem_map.mp hm
                    exact h ⟨z, hz, hle⟩
                  · have := List.mem_singleton.mp hm
                    omega
                rw [decide_eq_false h1]
                exact (List.any_eq_false.mpr fun z hz => by
                  rw [decide_eq_true_eq]
                  exact fun hle => h ⟨z, (hzm z).mpr hz, hle⟩).symm
            have ef : lh (holdsAt ms n v) (i + 1 + 1) = lhS (lh (holdsAt ms n v) (i + 1)) (holdsAt ms n v (i + 1)) (i + 1) := rfl
            rw [ef]
            rw [← hb]
            generalize lh (holdsAt ms n v) (i + 1) = Lh at eL3 eB
            refine ⟨_, rfl, _, _, rfl, rfl, .inr ⟨_, rfl, ?_⟩⟩
            generalize decide (mn ≤ n) = b
            refine ⟨L3, _, _, V.int (lhS Lh b (i + 1)).run, rfl, rfl, SqL.of eL3, ?_, ?_⟩
            · rw [lhS_run]
              cases b
              · exact at_of (j := 0) rfl rfl
              · exact at_of (j := 1) rfl rfl
            have s17 := (s3.trans s4).trans s7
            have e07 : SqT K H7 r _ := e0.ext (s2.trans s17)
            refine ⟨_, rfl, _, rfl, B, _, _, _, rfl, rfl, SqT.of (s17 _ _ eB), at_of (j := 0) rfl rfl, _, _, rfl, rfl, _, rfl, ?_⟩
            have cs := comb_step (s := S) (v := v) (L := Lh) (b := b) (d := i + 1)
            by_cases hlt : (comb S v Lh).1 < (lhS Lh b (i + 1)).run
            · rw [if_pos hlt] at cs
              refine iteY (decide_eq_true hlt) ?_
              refine ⟨_, rfl, _, rfl, r, _, _, _, rfl, rfl, e07, at_of (j := 1) rfl rfl, _, rfl, _, rfl, _, _, rfl, rfl, _, _, rfl, rfl, (by show 3 ≤ sizeLine; decide), fun B2 nB2 => ?_⟩
              refine ⟨B2, some (.int (1 + (i : Int))), some (.ref D), rfl, (s2.trans s17).trans (same_upd nB2), (s02.trans s17).free nB2, ?_⟩
              rw [upd_same, cs, ecast]
              rfl
            · rw [if_neg hlt] at cs
              refine iteN (decide_eq_false hlt) ?_
              exact ⟨B, some (.int (1 + (i : Int))), some (.ref D), rfl, s2.trans s17, nB, by rw [cs]; exact s17 _ _ eB⟩
          · rintro σ H2 ⟨B, v5, v6, rfl, s2, nB, eB⟩
            have en : (v.cost - 1).toNat + 1 = v.cost.toNat := by omega
            rw [en] at eB
            have eS : blS ms n S (.task v) = comb S v (lh (holdsAt ms n v) v.cost.toNat) := if_pos hdue
            exact ⟨B, _, _, _, _, rfl, s1.trans s2, nB, by rw [eS]; exact eB⟩
        · refine ⟨_, _, rfl, rfl, .inr ⟨by rw [decide_eq_false hdue]; decide, by rw [decide_eq_false hdue]; decide⟩, 1, 0, (by rw [decide_eq_false hdue]; show [V.int 1, V.int (v.cost * (if false = true then 1 else 0))] = _; simp), by decide, ?_⟩
          refine for_range (lo := 1) (n := 0) (fun i σ H' => σ = [some (.ref L), some (.int n), some (.ref B), some (.ref r), some (.int 0), v5, v6, none] ∧ H' = H1) ⟨rfl, rfl⟩ (fun i σ H' hi _ => absurd hi (Nat.not_lt_zero _)) fun σ H' ⟨e1, e2⟩ => ?_
          subst e1 e2
          have eS : blS ms n S (.task v) = S := if_neg hdue
          exact ⟨B, _, _, _, _, rfl, s1, nB, by rw [eS]; exact eB⟩
    · rintro σ H1 ⟨B, v3, v4, v5, v6, rfl, s1, nB, eB⟩
      rw [hrs.1, List.take_length] at eB
      exact ⟨_, rfl, q B H1 s1 nB eB⟩
end
end Du

set_option Elab.async false
set_option linter.all false
set_option maxRecDepth 100000
namespace Du
open PySem PySem.Spec PyProof.Rows L2
/-! xs[::k] -/
theorem vals_pick {xs : List V} {us : List Value} (r : Vals xs us) : ∀ js : List Nat, Vals (js.filterMap fun i => xs[i]?) (js.filterMap fun i => us[i]?)
  | [] => .nil
  | j :: js => by
    rw [List.filterMap_cons, List.filterMap_cons]
    cases h : xs[j]? with
    | none =>
      rw [r.none_of h]
      exact vals_pick r js
    | some x =>
      obtain ⟨u, h2, h3⟩ := r.get h
      rw [h2]
      exact .cons h3 (vals_pick r js)
def tStepL (K : PySem.W.Frag) (te ts : TE) : TE := fun σ H Q => te σ H fun x H1 => tPart ts σ H1 fun o H2 => ∃ k a xs, o = some k ∧ x = .ref a ∧ SqL K H2 a xs ∧ k ≠ 0 ∧ ∀ p ys, H2 p = none → (∀ y ∈ ys, y ∈ xs) → ys.length ≤ xs.length → Q (.ref p) (upd H2 p (.lst ys))
theorem pe_stepL {X : Cx} {e f : Expr} {te ts : TE} {p3 pos : Pos} (he : PE X e te) (hf : PE X f ts) : PE X (.Subscript e (.Slice none none (some f) p3) pos) (tStepL X.K te ts) := by
  refine ⟨fun pins s σ H Q I h => ?_⟩
  refine Subscript_ (thn (he.run pins s σ H _ I h) fun v s1 ⟨x, H1, I1, r1, q1⟩ => ?_)
  refine wpAny_Slice (thn (po_none.run pins s1 σ H1 (fun o H2 => o = none ∧ H2 = H1) I1 ⟨rfl, rfl⟩) fun vl s2 ⟨l, H2, I2, pl, el, e2⟩ => ?_)
  subst el e2
  refine thn (po_none.run pins s2 σ H2 (fun o H3 => o = none ∧ H3 = H2) I2 ⟨rfl, rfl⟩) fun vu s3 ⟨u, H3, I3, pu, eu, e3⟩ => ?_
  subst eu e3
  have hst : PO X (some f) (tPart ts) := po_some hf
  refine thn (hst.run pins s3 σ H3 _ I3 q1) fun vs s4 ⟨o, H4, I4, ps, k, a, xs, eo, ex, hx, hk, q⟩ => ?_
  subst eo ex
  cases r1
  have I5 : Inv X pins σ H4 { s4 with heap := s4.heap.push { cls := .type "slice", data := .fields #[vl, vu, vs] } } := I4.kept (t' := s4.toks) fun b ob q => Heap.get?_push_of_some _ q
  obtain ⟨its, r, ht, hz⟩ := I5.list hx
  have hlen := r.length
  change wpAny (model X.prog X.w) X.A (subscriptTail e (.Slice none none (some f) p3) (.ref a) (.ref s4.heap.objs.size)) (EP X pins σ Q) X.xe { s4 with heap := s4.heap.push { cls := .type "slice", data := .fields #[vl, vu, vs] } }
  refine tail_any (ops := [.ref a, .ref s4.heap.objs.size]) ht.isList.typeIs (PySem.slot_list_getitem.lookup) ?_ (by with_unfolding_all rfl)
  refine wpAny_getItem_list_slice ht.isList (Heap.IsSliceOf.new _ vl vu vs) pl pu ps (by simpa using hk) ?_ (by rw [List.size_toArray]; omega)
  have hsz := slicePick_size_le its.toArray none none (some k)
  unfold slicePick at hsz ⊢
  generalize sliceRange (sliceBounds none none (some k) its.toArray.size).1 (sliceBounds none none (some k) its.toArray.size).2.1 (sliceBounds none none (some k) its.toArray.size).2.2 = js at hsz ⊢
  have e0 : (fun i : Nat => its.toArray[i]?) = fun i : Nat => its[i]? := by funext i; simp
  rw [e0] at hsz ⊢
  rw [List.size_toArray, List.size_toArray] at hsz
  have hv := vals_pick r js
  have hl := hv.length
  refine ⟨.ref _, _, I5.laid (t' := s4.toks) (o := .lst (js.filterMap fun i => xs[i]?)) (fun b ob q => Heap.get?_push_of_some _ q) (Nat.le_refl _) ?_, rfl, q _ _ (I5.hok.fresh (Nat.le_refl _)) (fun y hy => ?_) (by omega)⟩
  · exact ⟨by omega, _, 0, hv, Heap.get?_push_size _ rfl⟩
  · obtain ⟨i, _, hi⟩ := List.mem_filterMap.1 hy
    exact List.mem_of_getElem? hi
end Du

set_option Elab.async false
set_option linter.all false
set_option maxRecDepth 100000
namespace Du
open PySem L2
section
variable {P : Program} {w : World} {K : PySem.W.Frag} {mg : Str → Option Value} {base : Heap} {CT CD CC : Addr}
/-- the gap by its place in the row -/
theorem row_gap {H : Hp} {r : Addr} {m : Mem} (h : RowAt K H r m) : ∃ xs, SqT K H r xs ∧ xs[3]? = some (.int m.gap) ∧ xs[2]? = some (.int m.cost) ∧ xs[1]? = some (.str m.name) := by
  cases m with
  | task v =>
    obtain ⟨t, e, _⟩ := h
    exact ⟨_, SqT.of e, rfl, rfl, rfl⟩
  | door n rm g => exact ⟨_, SqT.of h, rfl, rfl, rfl⟩
/-! _law_due -/
theorem scDueL : FnScope ["_law_row"] ["_law_row"] (defScope sDueL) := ⟨rfl, rfl, rfl, by decide +kernel, rfl, by decide +kernel, by decide +kernel⟩
def spDueL (K : PySem.W.Frag) : Sp := fun vs H Q _ => ∃ (r : Addr) (m : Mem), vs = [.ref r] ∧ RowAt K H r m ∧ ∀ H', Same H H' → Q (.int m.due) H'
theorem ok_dueL {f : Addr} {fd : FuncData} (F : Fun K "_law_due" "_law_due" sDueL f fd) : FnOk P w K mg base CX0 3 f fd ["_law_row"] (spDueL K) := by
  refine F.ok scDueL (fun vs H Q E h => ?_) (fun cdv A outer s H vs Q E hr h => ?_)
  · obtain ⟨r, m, rfl, _⟩ := h
    rfl
  · obtain ⟨r, m, rfl, hrow, q⟩ := h
    refine ⟨_, (pss_one (ps_ret (pe_ifExp (pt_cmpR op_eq (pe_ix ix_tup (pv 0) pe_int (fun _ _ => rfl)) pe_str (nomark _)) (pe_ix ix_tup (pv 0) pe_int (fun _ _ => rfl)) (pe_ix ix_tup (pv 0) pe_int (fun _ _ => rfl))))), ?_⟩
    cases m with
    | task v =>
      obtain ⟨t, e, hh⟩ := hrow
      refine ⟨_, rfl, r, _, _, _, rfl, rfl, SqT.of e, at_of (j := 0) rfl rfl, rfl, _, rfl, ?_⟩
      rw [show decide (V.str "task" = V.str "door") = false by decide +kernel]
      exact iteF ⟨_, rfl, r, _, _, _, rfl, rfl, SqT.of e, at_of (j := 4) rfl rfl, q H (Same.refl _)⟩
    | door n rm g =>
      have e : SqT K H r _ := SqT.of hrow
      refine ⟨_, rfl, r, _, _, _, rfl, rfl, e, at_of (j := 0) rfl rfl, rfl, _, rfl, ?_⟩
      rw [decide_eq_true rfl]
      exact iteT ⟨_, rfl, r, _, _, _, rfl, rfl, e, at_of (j := 3) rfl rfl, q H (Same.refl _)⟩
end
end Du

set_option Elab.async false
set_option linter.all false
set_option maxRecDepth 100000
namespace Du
open PySem PySem.Spec PySem.W PySem.SeqAt PyProof.Rows L2
/-! max(xs, default=d), a list of whole numbers -/
theorem ints_reads {h : Heap} {vs : List Value} {ns : List Int} (r : IntsAre vs ns) : ReadsAll h vs (ns.map PyData.int) [] := by
  induction r with
  | nil => exact .nil
  | cons n t _ ih => exact .cons (as := []) (bs := []) (.int n t) ih
theorem ints_depth : ∀ ns : List Int, PyData.depthAll (ns.map PyData.int) = PyData.depthAll []
  | [] => rfl
  | n :: ns => by
    have ih := ints_depth ns
    simp only [List.map_cons, PyData.depthAll, PyData.depth] at ih ⊢
    rw [ih]
    rfl
theorem ints_alike (ns : List Int) : AlikeAll (ns.map PyData.int) := by
  refine ⟨fun x hx y hy => ?_, fun x hx => ?_⟩
  · obtain ⟨a, _, rfl⟩ := List.mem_map.1 hx
    obtain ⟨b, _, rfl⟩ := List.mem_map.1 hy
    simp [alike]
  · obtain ⟨a, _, rfl⟩ := List.mem_map.1 hx
    exact fun h => nomatch h
theorem foldMax : ∀ (r : List Int) (a : Int), (r.foldl max a = a ∨ r.foldl max a ∈ r) ∧ a ≤ r.foldl max a ∧ ∀ x ∈ r, x ≤ r.foldl max a
  | [], a => ⟨.inl rfl, Int.le_refl _, fun x hx => nomatch hx⟩
  | b :: r, a => by
    obtain ⟨h1, h2, h3⟩ := foldMax r (max a b)
    rw [List.foldl_cons]
    refine ⟨?_, by omega, fun x hx => ?_⟩
    · rcases h1 with h1 | h1
      · rcases Int.le_total a b with h | h
        · right; rw [h1]; simp [Int.max_eq_right h]
        · left; rw [h1]; exact Int.max_eq_left h
      · exact .inr (List.mem_cons_of_mem _ h1)
    · rcases List.mem_cons.1 hx with rfl | hx
      · omega
      · exact h3 x hx
def rMaxDf (K : PySem.W.Frag) : List V → List V → Hp → VK → Prop := fun vs zs H Q => ∃ (a : Addr) (ns : List Int) (d : V), vs = [V.ref a] ∧ zs = [d] ∧ SqL K H a (ns.map V.int) ∧ (ns = [] → Q d H) ∧ ∀ m, m ∈ ns → (∀ y, y ∈ ns → y ≤ m) → Q (.int m) H
theorem cr_maxDf {X : Cx} (hc : X.calm = true) (hu : X.A.units + 64 < cLine) : CallRK X (.builtin "max") ["default"] (rMaxDf X.K) := by
  intro pins s σ H xs zs us ws Q I rx rz h
  obtain ⟨a, ns, d, rfl, rfl, hs, q0, q⟩ := h
  obtain ⟨its, rv, hl, _⟩ := I.list hs
  rw [Vals.ref1 rx]
  obtain ⟨u, rfl, ru⟩ := vals1 rz
  have hi := rv.ints
  have hd := ints_depth ns
  refine max_list_default (s := s) (I.ok.hd hc) hl.isList (ints_reads hi) (ints_alike ns) ?_ (fun e h' tk hk => ?_) fun y ys i v h' tk bs e hv r hk => ?_
  · rw [hd]
    simp only [PyData.depthAll]
    omega
  · exact ⟨d, H, I.kept hk, ru, q0 (List.map_eq_nil_iff.1 e)⟩
  · cases ns with
    | nil => cases e
    | cons n ns =>
      cases e
      rw [maxD_ints] at r
      cases r
      obtain ⟨h1, h2, h3⟩ := foldMax ns n
      refine ⟨.int _, H, I.kept hk, ⟨_, rfl⟩, q _ ?_ ?_⟩
      · rcases h1 with h1 | h1
        · rw [h1]; exact List.mem_cons_self
        · exact List.mem_cons_of_mem _ h1
      · intro y hy
        rcases List.mem_cons.1 hy with rfl | hy
        · exact h2
        · exact h3 y hy
end Du

set_option Elab.async false
set_option linter.all false
set_option maxRecDepth 100000
namespace Du
open PySem L2
abbrev sDoubled : Stmt := topS 56
def scDbL : Scope := { kind := .function, names := [(".0", .local), ("_law_name", .local), ("_law_rows_here", .cell)], isGenerator := false, isCoroutine := false }
theorem eqv_nilS (l : List Str) : PyData.eqv (.list (l.map .str)) (.list []) = l.isEmpty := by
  cases l with
  | nil => decide +kernel
  | cons a r => simp [PyData.eqv, PyData.eqvAll]
/-- one put in between -/
def insL {α : Type} (xs : List α) (i : Nat) (y : α) : List α := xs.take i ++ [y] ++ xs.drop i
theorem insL_perm {α : Type} (xs : List α) (i : Nat) (y : α) : (insL xs i y).Perm (y :: xs) := by
  unfold insL
  rw [List.append_assoc]
  refine List.perm_middle.trans ?_
  rw [show ([] : List α).append (xs.drop i) = xs.drop i from rfl, List.take_append_drop]
theorem insL_map {α β : Type} (f : α → β) (xs : List α) (i : Nat) (y : α) : (insL xs i y).map f = insL (xs.map f) i (f y) := by
  unfold insL
  rw [List.map_append, List.map_append, List.map_take, List.map_drop]
  rfl
section
variable {P : Program} {w : World} {K : PySem.W.Frag} {mg : Str → Option Value} {base : Heap} {CT CD CC : Addr}
theorem Rows.ins {H : Hp} {vs : List V} {ms : List Mem} {r : Addr} {m : Mem} (h : Rows K H vs ms) (i : Nat) (q : RowAt K H r m) : Rows K H (insL vs i (.ref r)) (insL ms i m) := by
  have h1 := h.sub (a := 0) (b := i)
  have h2 := h.sub (a := i) (b := vs.length)
  rw [List.drop_zero, List.drop_zero] at h1
  rw [List.take_of_length_le (by rw [List.length_drop]; omega), List.take_of_length_le (by rw [List.length_drop, h.1]; omega)] at h2
  exact (h1.append (.one q)).append h2
theorem CrewOk.ins {ms : List Mem} (h : CrewOk ms) {i : Nat} {m : Mem} (h8 : ms.length < 8) (hm : m.ok) (hn : m.name ∉ ms.map Mem.name) : CrewOk (insL ms i m) := by
  have p := insL_perm ms i m
  refine ⟨by rw [p.length_eq]; exact h8, ?_, fun k hk => ?_⟩
  · refine (p.map Mem.name).nodup_iff.mpr ?_
    rw [List.map_cons]
    exact List.nodup_cons.mpr ⟨hn, h.nd⟩
  · rcases List.mem_cons.mp (p.mem_iff.mp hk) with rfl | hk
    · exact hm
    · exact h.all k hk
abbrev nDoubled : List Str := ["_law_purse_here", "_law_rows_here", "_law_called", "_law_found", "_law_row", "_law_name"]
theorem scDoubled : FnScope nDoubled ["_law_purse_here", "_law_rows_here"] (defScope sDoubled) := ⟨rfl, rfl, rfl, by decide +kernel, rfl, by decide +kernel, by decide +kernel⟩
def spDoubled (K : PySem.W.Frag) : Sp := fun vs H Q _ => ∃ (p L : Addr) (rs : List V) (ms : List Mem), vs = [.ref p, .ref L] ∧ Purse H p ∧ L ≠ p ∧ H L = some (.lst rs) ∧ Rows K H rs ms ∧ CrewOk ms ∧
  ∀ (F : Addr) (rs' : List V) (ms' : List Mem) H', Step p H H' → H F = none → H' F = some (.lst rs') → Rows K H' rs' ms' → CrewOk ms' → Q (.ref F) H'
set_option maxHeartbeats 1000000 in
theorem ok_doubled {f : Addr} {fd : FuncData} (F : Fun K "_law_doubled" "_law_doubled" sDoubled f fd) (ml : mg "len" = none) (mt : mg "list" = none) (DT : Dn P w K mg base 3 "_law_take" ["_law_purse_here", "_law_many"] spTake) (DWd : Dn P w K mg base 4 "_law_words" ["_law_purse_here", "_law_many"] spWords) : FnOk P w K mg base CX0 5 f fd ["_law_purse_here", "_law_rows_here"] (spDoubled K) := by
  refine F.ok scDoubled (fun vs H Q E h => ?_) (fun cdv A outer s H vs Q E hr h => ?_)
  · obtain ⟨p, L, rs, ms, rfl, _⟩ := h
    rfl
  · obtain ⟨p, L, rs, ms, rfl, hp, hL, eL, hrs, hok, q⟩ := h
    have hr3 : Room 3 _ := hr.mono (by decide)
    have hr4 : Room 4 _ := hr.mono (by decide)
    have h8 := hok.len
    refine ⟨_, (pss_cons (ps_setLc (i := 2) (own := [("_law_name", 5)]) (g := gName 5) (tt := tTest (tOp (rIn K true) (tVar 5) (tLc (iList K (tVar 1)) (gName 4) tYes (tOp (rIxT K) (tVar 4) (tC (.int 1))) [4]))) (te := tVar 5) rfl scDoubled.nd rfl rfl (sw_true rfl rfl rfl (by decide +kernel)) (pi_list (pcall DWd hr4 (by rfl) (pa_cons (pv 0) (pa_cons pe_int pa_nil)))) (blkOk_by (N := nDoubled) (sc := defScope sDoubled) (by decide +kernel))
        (fun _ _ _ _ _ => pg_name (i := 5) scDoubled.nd rfl (Or.inl rfl)) (fun _ _ _ _ _ => pts_one (pt_cmpR op_notIn_seq (pv 5) (pe_lc (own := [("_law_row", 4)]) rfl scDoubled.nd (pi_list (pv 1)) (blkOk_by (N := nDoubled) (sc := scDbL) (by decide +kernel)) (fun _ _ _ _ _ => pg_name (i := 4) scDoubled.nd rfl (Or.inl rfl)) (fun _ _ _ _ _ => pts_nil) (fun _ _ _ _ _ => pe_ix ix_tup (pv 4) pe_int (fun _ _ => rfl))) (by rfl)))
        (fun _ _ _ _ _ => pv 5)) (pss_cons (ps_set (i := 3) scDoubled.nd rfl (.inl rfl) (pe_callTy call_list_of (by rfl) mt (by decide +kernel) (pa_cons (pv 1) pa_nil))) (pss_cons (ps_for PassesOwn.never rfl (pi_list (pv 1)) (pg_name (i := 4) scDoubled.nd rfl (.inl rfl))
        (pss_one (ps_if (PW.pt (pw_and (pt_cmpR (op_neD hr.units) (pv 2) (pe_lst pa_nil) (nomark _)) (pw_and (pt_cmpR op_lt (pe_callB call_len_seq (by rfl) ml (by decide +kernel) (pa_cons (pv 3) pa_nil)) pe_int (nomark _)) (pw_and1 (pt_cmpR op_eq (pcall DT hr3 (by rfl) (pa_cons (pv 0) (pa_cons pe_int pa_nil))) pe_int (nomark _))))))
          (pss_one (ps_expr (pe_bm PySem.F.plainAttrs_list PySem.F.slot_list_insert PySem.F.type_list_insert mt_insert (pv 3) (pa_cons (pcall DT hr3 (by rfl) (pa_cons (pv 0) (pa_cons (pe_op op_add (pe_callB call_len_seq (by rfl) ml (by decide +kernel) (pa_cons (pv 3) pa_nil)) pe_int) pa_nil))) (pa_cons (pe_op op_catT (pe_tup (pa_cons (pe_ix ix_tup (pv 4) pe_int (fun _ _ => rfl)) (pa_cons (pe_bm0 PySem.F.plainAttrs_list PySem.F.slot_list_pop PySem.F.type_list_pop mt_pop (pv 2)) pa_nil))) (pe_slice sl_tup (pv 4) (po_some pe_int) po_none)) pa_nil))))) pss_nil))) (pss_one (ps_ret (pv 3)))))), ?_⟩
    refine ⟨_, rfl, p, 8, rfl, by decide, hp, fun Ln wn H1 s1 nLn eLn hn1 hn2 hn3 => ?_⟩
    have eL1 := s1.keep _ _ hL eL
    have hrs1 := hrs.kt (.of_step hp s1)
    refine ⟨Ln, rfl, ⟨_, SqL.of eLn⟩, fun C nC => lc_list (K := K) (a := Ln) (xs := wn.map V.str) (fun j H' => Same H1 H' ∧ H' C = some (.lst (((wn.take j).filter (fun z => !decide (z ∈ ms.map Mem.name))).map V.str))) ⟨same_upd nC, upd_same⟩ (fun j H' _ z => SqL.of (z.1 _ _ eLn)) ?_ ?_⟩
    · rintro j y H2 hy ⟨s2, e2⟩
      rw [List.getElem?_map] at hy
      obtain ⟨z, hz, rfl⟩ := Option.map_eq_some_iff.mp hy
      have hj := (List.getElem?_eq_some_iff.mp hz).1
      refine ⟨rfl, _, rfl, _, rfl, L, rfl, ⟨_, SqL.of (s2 _ _ eL1)⟩, fun D nD => lc_list (K := K) (a := L) (xs := rs) (fun i H' => Same H2 H' ∧ H' D = some (.lst (((ms.take i).map Mem.name).map V.str))) ⟨same_upd nD, upd_same⟩ (fun i H' _ z => SqL.of (z.1 _ _ (s2 _ _ eL1))) ?_ ?_⟩
      · rintro i u H3 hu ⟨s3, e3⟩
        obtain ⟨r, m, rfl, em, hrow⟩ := hrs1.at hu
        have hi := (List.getElem?_eq_some_iff.mp em).1
        obtain ⟨xs, hxs, _, _, x1⟩ := row_gap (hrow.kt (.of_same (s2.trans s3)))
        refine ⟨rfl, _, rfl, r, _, _, _, rfl, rfl, hxs, at_of (j := 1) rfl x1, _, e3, ?_, same_upd2 s3 nD, ?_⟩
        · rw [List.length_map, List.length_map]
          exact Nat.lt_of_le_of_lt (List.length_take_le _ _) (Nat.lt_of_lt_of_le (show i < 8 by omega) (by decide))
        · rw [upd_same, List.take_add_one, em, List.map_append, List.map_append]
          rfl
      · rintro H3 ⟨s3, e3⟩
        rw [hrs.1, List.take_length] at e3
        refine ⟨D, _, rfl, .inl (SqL.of e3), rfl, flat_strs, _, rfl, ?_⟩
        rw [in_strs, if_pos rfl]
        have et : (wn.take (j + 1)).filter (fun z => !decide (z ∈ ms.map Mem.name)) = (wn.take j).filter (fun z => !decide (z ∈ ms.map Mem.name)) ++ [z].filter (fun z => !decide (z ∈ ms.map Mem.name)) := by
          rw [List.take_add_one, hz, List.filter_append]
          rfl
        rw [et]
        cases hb : decide (z ∈ ms.map Mem.name) with
        | true =>
          refine iteF ⟨s2.trans s3, ?_⟩
          rw [s3 _ _ e2]
          simp only [List.filter_cons, hb, List.filter_nil]
          simp
        | false =>
          refine iteT ⟨_, rfl, _, s3 _ _ e2, ?_, same_upd2 (s2.trans s3) nC, ?_⟩
          · rw [List.length_map]
            exact Nat.lt_of_le_of_lt (List.length_filter_le _ _) (Nat.lt_of_le_of_lt (List.length_take_le _ _) (Nat.lt_of_lt_of_le (show j < 8 by omega) (by decide)))
          · rw [upd_same]
            simp only [List.filter_cons, hb, List.filter_nil]
            simp
    rintro H2 ⟨s2, e2⟩
    rw [List.length_map, List.take_length] at e2
    have u2 := s1.trans (Step.of_same s1.purse s2)
    have eL2 := s2 _ _ eL1
    have nC0 : H C = none := s1.free nC
    obtain ⟨cs, hcs⟩ : ∃ cs, cs = wn.filter (fun z => !decide (z ∈ ms.map Mem.name)) := ⟨_, rfl⟩
    rw [← hcs] at e2
    have c1 : cs.Nodup := by rw [hcs]; exact hn2.filter _
    have c2 : ∀ z ∈ cs, isNm z = true ∧ z ∉ ms.map Mem.name := by
      intro z hz
      rw [hcs, List.mem_filter] at hz
      exact ⟨hn3 z hz.1, by simpa using hz.2⟩
    have c3 : cs.length ≤ 8 := by
      rw [hcs, ← hn1]
      exact List.length_filter_le _ _
    refine ⟨_, rfl, L, rs, rfl, .inl (SqL.of eL2), fun G nG => ?_⟩
    have hGp : G ≠ p := u2.purse.ne nG
    have hCp : C ≠ p := hp.ne nC0
    have hCG : C ≠ G := ne_of_none e2 nG
    have u3 := u2.trans (Step.new (o := .lst rs) u2.purse nG)
    have nG0 : H G = none := u2.free nG
    have e3 : (upd H2 G (.lst rs)) C = some (.lst (cs.map V.str)) := same_upd nG _ _ e2
    have hrs3 := hrs.kt (.of_step hp u3)
    have eL3 : (upd H2 G (.lst rs)) L = some (.lst rs) := same_upd nG _ _ eL2
    have eG3 : (upd H2 G (.lst rs)) G = some (.lst rs) := upd_same
    generalize upd H2 G (.lst rs) = H3 at u3 e3 hrs3 eL3 eG3
    refine ⟨_, rfl, L, rfl, ⟨_, SqL.of eL3⟩, for_list (K := K) (a := L) (xs := rs) (fun j σ H' => ∃ v4 : Option V, σ = [some (.ref p), some (.ref L), some (.ref C), some (.ref G), v4, none] ∧ Step p H H' ∧ ∃ (cs : List Str) (rs' : List V) (ms' : List Mem), H' C = some (.lst (cs.map V.str)) ∧ H' G = some (.lst rs') ∧ Rows K H' rs' ms' ∧ CrewOk ms' ∧ cs.Nodup ∧ (∀ z ∈ cs, isNm z = true ∧ z ∉ ms'.map Mem.name)) ⟨_, rfl, u3, cs, rs, ms, e3, eG3, hrs3, hok, c1, c2⟩ ?_ ?_ ?_⟩
    · rintro j σ H4 _ ⟨_, _, s4, _⟩
      exact SqL.of (s4.keep _ _ hL eL)
    · rintro j y σ H4 hy ⟨v4, rfl, s4, cs, rs', ms', eC, eG, hrs', hok', d1, d2⟩
      obtain ⟨r, m, rfl, em, hrow⟩ := hrs.at hy
      have hrow4 := hrow.kt (.of_step hp s4)
      have hmo := hok.all m (List.mem_of_getElem? em)
      have stay : ∀ H7, Step p H4 H7 → ∃ v4 : Option V, ([some (.ref p), some (.ref L), some (.ref C), some (.ref G), some (.ref r), none] : L2.St) = [some (.ref p), some (.ref L), some (.ref C), some (.ref G), v4, none] ∧ Step p H H7 ∧ ∃ (cs : List Str) (rs' : List V) (ms' : List Mem), H7 C = some (.lst (cs.map V.str)) ∧ H7 G = some (.lst rs') ∧ Rows K H7 rs' ms' ∧ CrewOk ms' ∧ cs.Nodup ∧ (∀ z ∈ cs, isNm z = true ∧ z ∉ ms'.map Mem.name) :=
        fun H7 s7 => ⟨_, rfl, s4.trans s7, cs, rs', ms', s7.keep _ _ hCp eC, s7.keep _ _ hGp eG, hrs'.kt (.of_step s4.purse s7), hok', d1, d2⟩
      refine ⟨_, rfl, Nat.zero_le _, fun L5 n5 => ?_⟩
      have s5 := Step.new (o := .lst []) s4.purse n5
      refine ⟨.list (cs.map .str), .list [], .lst (SqL.of (s5.keep _ _ hCp eC)) (dp_strs cs), .lst (SqL.of upd_same) .nil, lnames_shaped (fun z hz => (d2 z hz).1), by decide +kernel, _, rfl, ?_⟩
      rw [eqv_nilS]
      rcases List.eq_nil_or_concat cs with rfl | ⟨cs0, z, hc⟩
      · exact iteF (iteF (stay _ s5))
      rw [List.concat_eq_append] at hc
      subst hc
      rw [show (!(cs0 ++ [z]).isEmpty) = true by simp]
      refine iteT ⟨_, rfl, G, rs', rfl, .inl (SqL.of (s5.keep _ _ hGp eG)), _, _, rfl, rfl, _, rfl, ?_⟩
      rcases Classical.em ((rs'.length : Int) < 8) with hlt | hlt
      rotate_left
      · exact iteN (decide_eq_false hlt) (iteF (stay _ s5))
      refine iteY (decide_eq_true hlt) ?_
      refine ⟨_, rfl, p, 2, rfl, by decide, by decide, s5.purse, fun r7 H7 a7 b7 s7 => ⟨rfl, _, rfl, ite2 (fun _ => ?_) (fun _ => stay _ (s5.trans s7))⟩⟩
      have s57 := s5.trans s7
      have eG7 := s57.keep _ _ hGp eG
      have eC7 := s57.keep _ _ hCp eC
      refine ⟨_, rfl, .inl ⟨rfl, _, SqL.of eG7⟩, _, rfl, _, rfl, G, rs', rfl, .inl (SqL.of eG7), _, _, rfl, rfl, p, (rs'.length : Int) + 1, rfl, by omega, by omega, s57.purse, fun iz H8 i0 i1 s8 => ?_⟩
      have s58 := s57.trans s8
      have eG8 := s8.keep _ _ hGp eG7
      have eC8 := s8.keep _ _ hCp eC7
      have hz := d2 z (by simp)
      have hl8 : rs'.length < 8 := by omega
      have hl8' : ms'.length < 8 := by rw [← hrs'.1]; exact hl8
      have hz := d2 z (by simp)
      have d1' : cs0.Nodup ∧ z ∉ cs0 := by
        have := List.nodup_append.mp d1
        exact ⟨this.1, fun h => this.2.2 z h z (by simp) rfl⟩
      have elast : ((cs0 ++ [z]).map V.str)[((cs0 ++ [z]).map V.str).length - 1]? = some (.str z) := by simp
      have edrop : ((cs0 ++ [z]).map V.str).dropLast = cs0.map V.str := by simp
      obtain ⟨xs, k0, m2, hx, x0, x9, xc, xe, mk, hm2, hm2n⟩ : ∃ (xs : List V) (k0 : V) (m2 : Mem), SqT K H r xs ∧ xs[0]? = some k0 ∧ xs.length < 9 ∧ ¬(HT.sIx xs.length 0 (some 2) = 0 ∧ HT.sIx xs.length xs.length none = xs.length) ∧ cutV xs (some 2) none ≠ [] ∧ (∀ H' R, Kt H H' → H' R = some (.tup ([k0, .str z] ++ cutV xs (some 2) none)) → RowAt K H' R m2) ∧ m2.ok ∧ m2.name = z := by
        cases m with
        | door n rm g => exact ⟨_, _, .door z rm g, SqT.of hrow, rfl, by show 4 < 9; decide, by show ¬(HT.sIx 4 0 (some 2) = 0 ∧ HT.sIx 4 4 none = 4); decide +kernel, fun h => (nomatch (show [V.int rm, V.int g] = [] from h)), fun H' R _ e => e, ⟨hz.1, hmo.2⟩, rfl⟩
        | task v =>
          obtain ⟨th, er, hh⟩ := hrow
          exact ⟨_, _, .task { v with name := z }, SqT.of er, rfl, by show 6 < 9; decide, by show ¬(HT.sIx 6 0 (some 2) = 0 ∧ HT.sIx 6 6 none = 6); decide +kernel, fun h => (nomatch (show [V.int v.cost, V.int v.gap, V.int v.due, V.ref th] = [] from h)), fun H' R k e => ⟨th, e, hh.kt k⟩, ⟨hz.1, hmo.2⟩, rfl⟩
      have hcut : (cutV xs (some 2) none).length ≤ xs.length := cutV_length _ _ _
      have w8 := s4.trans s58
      refine ⟨_, rfl, r, _, _, _, rfl, rfl, sqT_kt hx (.of_step hp w8), at_of (j := 0) rfl x0, _, rfl, .inl ⟨rfl, _, SqL.of eC8⟩, C, _, _, rfl, rfl, eC8, elast, ?_⟩
      rw [edrop]
      have w9 := w8.put (o := .lst (cs0.map V.str)) nC0 hCp
      have eC9 : (upd H8 C (.lst (cs0.map V.str))) C = some (.lst (cs0.map V.str)) := upd_same
      have eG9 : (upd H8 C (.lst (cs0.map V.str))) G = some (.lst rs') := by rw [upd_ne hCG.symm]; exact eG8
      have k9 : Kt H4 (upd H8 C (.lst (cs0.map V.str))) := (Kt.of_step s4.purse s58).trans (Kt.put eC8)
      generalize upd H8 C (.lst (cs0.map V.str)) = H9 at w9 eC9 eG9 k9
      refine ⟨(by show 2 ≤ sizeLine; decide), fun T nT => ?_⟩
      have t1 := Step.new (o := .tup [k0, .str z]) w9.purse nT
      refine ⟨_, rfl, _, rfl, r, _, rfl, sqT_kt hx (.of_step hp (w9.trans t1)), xc, fun S nS => ?_⟩
      have t2 := t1.trans (Step.new (o := .tup (cutV xs (some 2) none)) t1.purse nS)
      refine ⟨T, S, [k0, .str z], cutV xs (some 2) none, rfl, rfl, SqT.of (same_upd nS _ _ upd_same), SqT.of upd_same, by simp, Nat.le_trans (show 2 + (cutV xs (some 2) none).length ≤ 12 by omega) (by decide), fun h => absurd h xe, fun _ R nR => ?_⟩
      have t3 := t2.trans (Step.new (o := .tup ([k0, .str z] ++ cutV xs (some 2) none)) t2.purse nR)
      have hR := mk _ R (.of_step hp (w9.trans t3)) upd_same
      have eG12 := t3.keep _ _ hGp eG9
      have eC12 := t3.keep _ _ hCp eC9
      generalize upd (upd (upd H9 T (.tup [k0, .str z])) S (.tup (cutV xs (some 2) none))) R (.tup ([k0, .str z] ++ cutV xs (some 2) none)) = H12 at t3 hR eG12 eC12
      have k12 := k9.trans (.of_step w9.purse t3)
      refine ⟨G, rs', iz, .ref R, rfl, rfl, eG12, Nat.lt_of_lt_of_le hl8 (by decide), i0, by omega, ?_⟩
      have kp : Kt H12 (upd H12 G (.lst (insL rs' iz.toNat (.ref R)))) := Kt.put eG12
      refine ⟨_, rfl, (w9.trans t3).put nG0 hGp, cs0, _, _, by rw [upd_ne hCG]; exact eC12, upd_same, ((hrs'.kt k12).ins iz.toNat hR).kt kp, hok'.ins hl8' hm2 (by rw [hm2n]; exact hz.2), d1'.1, fun z' hz' => ?_⟩
      have hz2 := d2 z' (by simp [hz'])
      refine ⟨hz2.1, fun hm => ?_⟩
      rw [insL_map] at hm
      rcases List.mem_cons.mp ((insL_perm _ _ _).mem_iff.mp hm) with h | h
      · rw [hm2n] at h
        exact d1'.2 (h ▸ hz')
      · exact hz2.2 h
    · rintro σ H4 ⟨v4, rfl, s4, cs, rs', ms', eC, eG, hrs', hok', d1, d2⟩
      exact ⟨_, rfl, q G rs' ms' H4 s4 nG0 eG hrs' hok'⟩
end
end Du

set_option Elab.async false
set_option linter.all false
set_option maxRecDepth 100000
namespace Du
open PySem L2
abbrev sLongL : Stmt := topS 57
theorem eqv_nilH (l : List Hold) : PyData.eqv (.tuple (l.map hdD)) (.tuple []) = l.isEmpty := by
  cases l with
  | nil => decide +kernel
  | cons a r => simp [PyData.eqv, PyData.eqvAll]
theorem holds_nm {hs : List Hold} {c : Int} (h : areHds hs c = true) : ∀ g ∈ hs, isNm g.1 = true := by
  intro g hg
  unfold areHds at h
  simp only [Bool.and_eq_true, List.all_eq_true] at h
  have := h.2.1 g hg
  unfold isHd at this
  simp only [Bool.and_eq_true] at this
  exact this.1
section
variable {P : Program} {w : World} {K : PySem.W.Frag} {mg : Str → Option Value} {base : Heap} {CT CD CC : Addr}
abbrev nLongL : List Str := ["_law_purse_here", "_law_rows_here", "_law_found", "_law_row", "_law_cost", "_law_grips", "_law_hold"]
theorem scLongL : FnScope nLongL ["_law_purse_here", "_law_rows_here"] (defScope sLongL) := ⟨rfl, rfl, rfl, by decide +kernel, rfl, by decide +kernel, by decide +kernel⟩
set_option maxHeartbeats 1000000 in
theorem ok_longL {f : Addr} {fd : FuncData} (F : Fun K "_law_long" "_law_long" sLongL f fd) (ms : mg "sorted" = none) (mt : mg "set" = none) (mi : mg "int" = none) (DT : Dn P w K mg base 3 "_law_take" ["_law_purse_here", "_law_many"] spTake) (DH : Dn P w K mg base 4 "_law_holds" ["_law_purse_here", "_law_cost", "_law_tools"] (spHoldsL K)) : FnOk P w K mg base CX0 5 f fd ["_law_purse_here", "_law_rows_here"] (spDoubled K) := by
  refine F.ok scLongL (fun vs H Q E h => ?_) (fun cdv A outer s H vs Q E hr h => ?_)
  · obtain ⟨p, L, rs, ms, rfl, _⟩ := h
    rfl
  · obtain ⟨p, L, rs, ks, rfl, hp, hL, eL, hrs, hok, q⟩ := h
    have hr3 : Room 3 _ := hr.mono (by decide)
    have hr4 : Room 4 _ := hr.mono (by decide)
    have h8 := hok.len
    refine ⟨_, (pss_cons (ps_set (i := 2) scLongL.nd rfl (.inl rfl) (pe_lst pa_nil)) (pss_cons (ps_for PassesOwn.never rfl (pi_list (pv 1)) (pg_name (i := 3) scLongL.nd rfl (.inl rfl))
        (pss_cons (ps_set (i := 4) scLongL.nd rfl (.inl rfl) (pe_op op_add (pe_ix ix_tup (pv 3) pe_int (fun _ _ => rfl)) (pcall DT hr3 (by rfl) (pa_cons (pv 0) (pa_cons (pe_op op_sub pe_int (pe_ix ix_tup (pv 3) pe_int (fun _ _ => rfl))) pa_nil))))) (pss_cons (ps_set (i := 5) scLongL.nd rfl (.inl rfl) (pe_tup pa_nil)) (pss_cons (ps_j (ps_if (PW.pt (pw_and (pt_cmpR op_eq (pe_ix ix_tup (pv 3) pe_int (fun _ _ => rfl)) pe_str (nomark _)) (pw_and1 (pt_cmpR (op_neD hr.units) (pe_ix ix_tup (pv 3) pe_int (fun _ _ => rfl)) (pe_tup pa_nil) (nomark _)))))
            (pss_one (ps_set (i := 5) scLongL.nd rfl (.inl rfl) (pcall DH hr4 (by rfl) (pa_cons (pv 0) (pa_cons (pv 4) (pa_cons (pe_callB (cr_sortedSS rfl) (by rfl) ms (by decide +kernel) (pa_cons (pe_callTy (cr_setS rfl) (by rfl) mt (by decide +kernel) (pa_cons (pe_lc (own := [("_law_hold", 6)]) (g := gName 6) (tt := tYes) (te := tOp (rIxT K) (tVar 6) (tC (.int 0))) rfl scLongL.nd (pi_tup (pe_ix ix_tup (pv 3) pe_int (fun _ _ => rfl))) (blkOk_by (N := nLongL) (sc := defScope sLongL) (by decide +kernel))
              (fun _ _ _ _ _ => pg_name (i := 6) scLongL.nd rfl (Or.inl rfl)) (fun _ _ _ _ _ => pts_nil) (fun _ _ _ _ _ => pe_ix ix_tup (pv 6) pe_int (fun _ _ => rfl))) pa_nil)) pa_nil)) pa_nil)))))) pss_nil)) (pss_one (ps_expr (pe_bm PySem.F.plainAttrs_list PySem.F.slot_list_append PySem.F.type_list_append mt_append (pv 2) (pa_cons (pe_ix ix_list (pe_lst (pa_cons (pe_op op_catT (pe_op op_catT (pe_op op_catT (pe_slice sl_tup (pv 3) po_none (po_some pe_int)) (pe_tup (pa_cons (pv 4) pa_nil))) (pe_slice sl_tup (pv 3) (po_some pe_int) (po_some pe_int))) (pe_tup (pa_cons (pv 5) pa_nil))) (pa_cons (pv 3) pa_nil))) (pe_callTy call_int1 (by rfl) mi (by decide +kernel) (pa_cons (pe_cmpR op_eq (pe_ix ix_tup (pv 3) pe_int (fun _ _ => rfl)) pe_str (nomark _)) pa_nil)) (fun _ _ => rfl)) pa_nil)))))))) (pss_one (ps_ret (pv 2))))), ?_⟩
    refine ⟨Nat.zero_le _, fun G nG => ?_⟩
    have hGp : G ≠ p := hp.ne nG
    have t0 := Step.new (o := .lst []) hp nG
    refine ⟨_, rfl, L, rfl, ⟨_, SqL.of (t0.keep _ _ hL eL)⟩, for_list (K := K) (a := L) (xs := rs) (fun j σ H' => ∃ v3 v4 v5 : Option V, σ = [some (.ref p), some (.ref L), some (.ref G), v3, v4, v5, none] ∧ Step p H H' ∧ ∃ (rs' : List V) (ms' : List Mem), H' G = some (.lst rs') ∧ Rows K H' rs' ms' ∧ ms'.map Mem.name = (ks.take j).map Mem.name ∧ (∀ m ∈ ms', m.ok)) ⟨_, _, _, rfl, t0, [], [], upd_same, .nil, rfl, (fun m hm => nomatch hm)⟩ ?_ ?_ ?_⟩
    · rintro j σ H1 _ ⟨_, _, _, _, s1, _⟩
      exact SqL.of (s1.keep _ _ hL eL)
    · rintro j y σ H1 hy ⟨v3, v4, v5, rfl, s1, rs', ms', eG, hrs', hnm, hok'⟩
      obtain ⟨r, m, rfl, em, hrow⟩ := hrs.at hy
      have hmo := hok.all m (List.mem_of_getElem? em)
      have hj := (List.getElem?_eq_some_iff.mp em).1
      have fin : ∀ (H7 : Hp) (r2 : Addr) (m2 : Mem) (v4 v5 : V), Step p H1 H7 → RowAt K H7 r2 m2 → m2.ok → m2.name = m.name → ∃ xs, H7 G = some (.lst xs) ∧ xs.length < sizeLine ∧ (∃ v3' v4' v5' : Option V, ([some (.ref p), some (.ref L), some (.ref G), some (.ref r), some v4, some v5, none] : L2.St) = [some (.ref p), some (.ref L), some (.ref G), v3', v4', v5', none] ∧ Step p H (upd H7 G (.lst (xs ++ [.ref r2]))) ∧ ∃ (rs' : List V) (ms' : List Mem), (upd H7 G (.lst (xs ++ [.ref r2]))) G = some (.lst rs') ∧ Rows K (upd H7 G (.lst (xs ++ [.ref r2]))) rs' ms' ∧ ms'.map Mem.name = (ks.take (j + 1)).map Mem.name ∧ (∀ m ∈ ms', m.ok)) := by
        intro H7 r2 m2 v4 v5 s7 hrow2 hmo2 hmn
        have eG7 := s7.keep _ _ hGp eG
        have k7 := Kt.of_step s1.purse s7
        have kp : Kt H7 (upd H7 G (.lst (rs' ++ [.ref r2]))) := Kt.put eG7
        have hl : rs'.length = j := by
          rw [hrs'.1, ← List.length_map (f := Mem.name), hnm, List.length_map, List.length_take]
          omega
        refine ⟨rs', eG7, Nat.lt_of_le_of_lt (Nat.le_of_eq hl) (Nat.lt_of_lt_of_le (show j < 8 by omega) (by decide)), _, _, _, rfl, (s1.trans s7).put nG hGp, rs' ++ [.ref r2], ms' ++ [m2], upd_same, ((hrs'.kt k7).append (.one hrow2)).kt kp, ?_, fun n hn => ?_⟩
        · rw [List.map_append, hnm, List.take_add_one, em, List.map_append]
          show _ ++ [m2.name] = _ ++ [m.name]
          rw [hmn]
        · rcases List.mem_append.mp hn with h | h
          · exact hok' n h
          · rw [List.mem_singleton.mp h]
            exact hmo2
      have rowk : ∀ H', Step p H1 H' → RowAt K H' r m := fun H' s' => hrow.kt (.of_step hp (s1.trans s'))
      obtain ⟨⟨b1, b2⟩, _⟩ := Mem.b hmo
      obtain ⟨xs, hx, x0, x2, w1, w2, n1, n2, l1, l2, hxv⟩ : ∃ (xs : List V), (∀ H', Step p H1 H' → SqT K H' r xs) ∧ xs[0]? = some (.str (match m with | .task _ => "task" | .door _ _ _ => "door")) ∧ xs[2]? = some (.int m.cost) ∧ ¬(HT.sIx xs.length 0 none = 0 ∧ HT.sIx xs.length xs.length (some 2) = xs.length) ∧ ¬(HT.sIx xs.length 0 (some 3) = 0 ∧ HT.sIx xs.length xs.length (some 5) = xs.length) ∧ cutV xs none (some 2) ≠ [] ∧ cutV xs (some 3) (some 5) ≠ [] ∧ (cutV xs none (some 2)).length ≤ 8 ∧ (cutV xs (some 3) (some 5)).length ≤ 8 ∧ (∀ v, m = .task v → cutV xs none (some 2) = [.str "task", .str v.name] ∧ cutV xs (some 3) (some 5) = [.int v.gap, .int v.due]) := by
        cases m with
        | door n rm g => exact ⟨_, fun H' s' => SqT.of (rowk H' s'), rfl, rfl, by show ¬(HT.sIx 4 0 none = 0 ∧ HT.sIx 4 4 (some 2) = 4); decide +kernel, by show ¬(HT.sIx 4 0 (some 3) = 0 ∧ HT.sIx 4 4 (some 5) = 4); decide +kernel, fun h => (nomatch (show [V.str "door", V.str n] = [] from h)), fun h => (nomatch (show [V.int g] = [] from h)), Nat.le_trans (cutV_length _ _ _) (by show 4 ≤ 8; decide), Nat.le_trans (cutV_length _ _ _) (by show 4 ≤ 8; decide), fun _ h => (nomatch h)⟩
        | task v =>
          obtain ⟨th, er, hh⟩ := rowk _ (.refl s1.purse)
          exact ⟨_, fun H' s' => SqT.of ((Kt.of_step s1.purse s') _ _ er (fun _ q => nomatch q)), rfl, rfl, by show ¬(HT.sIx 6 0 none = 0 ∧ HT.sIx 6 6 (some 2) = 6); decide +kernel, by show ¬(HT.sIx 6 0 (some 3) = 0 ∧ HT.sIx 6 6 (some 5) = 6); decide +kernel, fun h => (nomatch (show [V.str "task", V.str v.name] = [] from h)), fun h => (nomatch (show [V.int v.gap, V.int v.due] = [] from h)), Nat.le_trans (cutV_length _ _ _) (by show 6 ≤ 8; decide), Nat.le_trans (cutV_length _ _ _) (by show 6 ≤ 8; decide), fun u h => by cases h; exact ⟨rfl, rfl⟩⟩
      refine ⟨_, rfl, r, _, _, _, rfl, rfl, hx _ (.refl s1.purse), at_of (j := 2) rfl x2, _, rfl, _, rfl, r, _, _, _, rfl, rfl, hx _ (.refl s1.purse), at_of (j := 2) rfl x2, _, _, rfl, rfl, p, 100 - m.cost, rfl, by omega, by omega, s1.purse, fun cz H2 c0 c1 s2 => ⟨_, _, rfl, rfl, ?_⟩⟩
      refine ⟨Nat.zero_le _, fun N nN => ?_⟩
      have s3 := s2.trans (Step.new (o := .tup []) s2.purse nN)
      have eN : (upd H2 N (.tup [])) N = some (.tup []) := upd_same
      generalize upd H2 N (.tup []) = H3 at s3 eN
      have hN : ∀ H', Step p H3 H' → HdsAt K H' N [] := fun H' s' => ⟨[], SqT.of (s'.keep _ _ (s2.purse.ne nN) eN), rfl, fun i u g e1 _ => by simp at e1⟩
      have z0 : ∀ c : Int, areHds [] c = true := fun c => by simp [areHds]
      refine ⟨fun σ' H' => ∃ (t : Addr) (hs : List Hold), σ' = [some (.ref p), some (.ref L), some (.ref G), some (.ref r), some (.int (m.cost + cz)), some (.ref t), none] ∧ Step p H1 H' ∧ HdsAt K H' t hs ∧ areHds hs (m.cost + cz) = true, ?_, ?_⟩
      · refine ⟨_, rfl, r, _, _, _, rfl, rfl, hx _ s3, at_of (j := 0) rfl x0, rfl, _, rfl, ?_⟩
        cases m with
        | door n rm g => exact iteN (by decide +kernel : decide (V.str "door" = V.str "task") = false) (iteF ⟨N, [], rfl, s3, hN _ (.refl s3.purse), z0 _⟩)
        | task v =>
          refine iteY (decide_eq_true rfl) ?_
          obtain ⟨th, er, hh⟩ := rowk _ s3
          have hlen4 : v.holds.length ≤ 4 := by
            have z := hmo.2.2.2.2.1
            unfold areHds at z
            rw [Bool.and_eq_true] at z
            exact of_decide_eq_true z.1
          have hnms := holds_nm hmo.2.2.2.2.1
          refine ⟨_, rfl, r, _, _, _, rfl, rfl, SqT.of er, at_of (j := 5) rfl rfl, Nat.zero_le _, fun N2 n2 => ?_⟩
          have s4 := Step.new (o := .tup []) s3.purse n2
          have eN2 : (upd H3 N2 (.tup [])) N2 = some (.tup []) := upd_same
          generalize upd H3 N2 (.tup []) = H4 at s4 eN2
          have hh4 := hh.kt (.of_step s3.purse s4)
          refine ⟨_, .tuple [], hds_dp hh4, .tup (SqT.of eN2) .nil, hds_shaped hnms, by decide +kernel, _, rfl, ?_⟩
          rw [eqv_nilH]
          cases hb : v.holds.isEmpty with
          | true => exact iteF ⟨N, [], rfl, s3.trans s4, hN _ s4, z0 _⟩
          | false =>
            refine iteT ?_
            have er4 := (Kt.of_step s3.purse s4) _ _ er (fun _ q => nomatch q)
            obtain ⟨hvs, hSh, hlh, hel⟩ := id hh4
            refine ⟨_, rfl, _, rfl, _, rfl, r, _, _, _, rfl, rfl, SqT.of er4, at_of (j := 5) rfl rfl, th, rfl, ⟨_, hSh⟩, fun D nD => lc_tup (K := K) (a := th) (xs := hvs) (fun i H' => Same H4 H' ∧ H' D = some (.lst ((v.holds.take i).map fun h => V.str h.1))) ⟨same_upd nD, upd_same⟩ (fun i H' _ q => hSh.ext q.1) ?_ ?_⟩
            · rintro i u H5 hu ⟨s5, e5⟩
              have hi : i < v.holds.length := by
                rw [← hlh]
                exact (List.getElem?_eq_some_iff.mp hu).1
              have eg : v.holds[i]? = some v.holds[i] := List.getElem?_eq_getElem hi
              generalize v.holds[i] = g at eg
              obtain ⟨b, rfl, hA⟩ := (hel i u g hu eg).same s5
              refine ⟨rfl, _, rfl, b, _, _, _, rfl, rfl, hA, at_of (j := 0) rfl rfl, _, e5, ?_, same_upd2 s5 nD, ?_⟩
              · rw [List.length_map]
                exact Nat.lt_of_le_of_lt (List.length_take_le _ _) (Nat.lt_of_lt_of_le (Nat.lt_of_lt_of_le hi hlen4) (by decide))
              · rw [upd_same, List.take_add_one, eg, List.map_append]
                rfl
            · rintro H5 ⟨s5, e5⟩
              rw [hlh, List.take_length] at e5
              have e5' : H5 D = some (.lst ((v.holds.map (·.1)).map V.str)) := by
                rw [e5, List.map_map]
                rfl
              have hl5 : (v.holds.map (·.1)).length ≤ 4 := by rw [List.length_map]; exact hlen4
              have hz5 : ∀ z ∈ v.holds.map (·.1), isNm z = true := fun z hz => by
                obtain ⟨g, hg, rfl⟩ := List.mem_map.mp hz
                exact hnms g hg
              generalize v.holds.map (·.1) = zs at e5' hl5 hz5
              refine ⟨D, zs, rfl, SqL.of e5', by omega, fun S nS => ?_⟩
              have hu := uq_len zs
              refine ⟨S, uq zs, rfl, upd_same, by omega, fun ys L2 pm sd nL => ?_⟩
              have s6 := (s4.trans (.of_same s4.purse s5)).trans (Step.new (o := SetSO P w S (uq zs)) (s4.trans (.of_same s4.purse s5)).purse nS)
              have s7 := s6.trans (Step.new (o := .lst (ys.map V.str)) s6.purse nL)
              refine ⟨p, L2, _, ys, rfl, by omega, by omega, s7.purse, SqL.of upd_same, by rw [pm.length_eq]; omega, pm.nodup_iff.mpr (uq_nd zs), fun z hz => hz5 z (uq_mem.mp (pm.mem_iff.mp hz)), fun t hs H' s' hh gd _ => ⟨t, hs, rfl, (s3.trans s7).trans s', hh, gd.ok⟩⟩
      · rintro _ H4 ⟨t, hs, rfl, s4, hh, ha⟩
        refine ⟨_, rfl, .inl ⟨rfl, _, SqL.of (s4.keep _ _ hGp eG)⟩, ?_⟩
        refine ⟨_, rfl, _, rfl, r, _, rfl, hx _ s4, w1, fun A1 a1 => ?_⟩
        have s5 := Step.new (o := .tup (cutV xs none (some 2))) s4.purse a1
        refine ⟨_, rfl, (by show 1 ≤ sizeLine; decide), fun B1 b1 => ?_⟩
        have eA1 := same_upd (o := .tup [.int (m.cost + cz)]) b1 _ _ (show (upd H4 A1 (.tup (cutV xs none (some 2)))) A1 = _ from upd_same)
        have s6 := s5.trans (Step.new (o := .tup [.int (m.cost + cz)]) s5.purse b1)
        refine ⟨A1, B1, _, _, rfl, rfl, SqT.of eA1, SqT.of upd_same, n1, Nat.le_trans (show (cutV xs none (some 2)).length + 1 ≤ 12 by omega) (by decide), fun h => (nomatch h), fun _ C1 c1' => ?_⟩
        have s7 := s6.trans (Step.new (o := .tup (cutV xs none (some 2) ++ [.int (m.cost + cz)])) s6.purse c1')
        have eC1 : (upd (upd (upd H4 A1 (.tup (cutV xs none (some 2)))) B1 (.tup [.int (m.cost + cz)])) C1 (.tup (cutV xs none (some 2) ++ [.int (m.cost + cz)]))) C1 = some (.tup (cutV xs none (some 2) ++ [.int (m.cost + cz)])) := upd_same
        generalize upd (upd (upd H4 A1 (.tup (cutV xs none (some 2)))) B1 (.tup [.int (m.cost + cz)])) C1 (.tup (cutV xs none (some 2) ++ [.int (m.cost + cz)])) = H7 at s7 eC1
        refine ⟨_, rfl, _, rfl, _, rfl, r, _, rfl, hx _ (s4.trans s7), w2, fun A2 a2 => ?_⟩
        have s8 := s7.trans (Step.new (o := .tup (cutV xs (some 3) (some 5))) s7.purse a2)
        refine ⟨C1, A2, _, _, rfl, rfl, SqT.of (same_upd a2 _ _ eC1), SqT.of upd_same, (fun h => n1 (List.append_eq_nil_iff.mp h).1), Nat.le_trans (show (cutV xs none (some 2) ++ [V.int (m.cost + cz)]).length + (cutV xs (some 3) (some 5)).length ≤ 20 by rw [List.length_append, List.length_singleton]; omega) (by decide), fun h => absurd h n2, fun _ C2 c2 => ?_⟩
        have s9 := s8.trans (Step.new (o := .tup (cutV xs none (some 2) ++ [.int (m.cost + cz)] ++ cutV xs (some 3) (some 5))) s8.purse c2)
        have eC2 : (upd (upd H7 A2 (.tup (cutV xs (some 3) (some 5)))) C2 (.tup (cutV xs none (some 2) ++ [.int (m.cost + cz)] ++ cutV xs (some 3) (some 5)))) C2 = some (.tup (cutV xs none (some 2) ++ [.int (m.cost + cz)] ++ cutV xs (some 3) (some 5))) := upd_same
        generalize upd (upd H7 A2 (.tup (cutV xs (some 3) (some 5)))) C2 (.tup (cutV xs none (some 2) ++ [.int (m.cost + cz)] ++ cutV xs (some 3) (some 5))) = H9 at s9 eC2
        generalize hP : cutV xs none (some 2) ++ [V.int (m.cost + cz)] ++ cutV xs (some 3) (some 5) = ps at eC2
        have hps : ps ≠ [] := by
          rw [← hP]
          exact fun h => n2 (List.append_eq_nil_iff.mp h).2
        have hpl : ps.length ≤ 20 := by
          rw [← hP, List.length_append, List.length_append, List.length_singleton]
          omega
        refine ⟨_, rfl, (by show 1 ≤ sizeLine; decide), fun B2 b2 => ?_⟩
        have s10 := s9.trans (Step.new (o := .tup [.ref t]) s9.purse b2)
        refine ⟨C2, B2, ps, _, rfl, rfl, SqT.of (same_upd b2 _ _ eC2), SqT.of upd_same, hps, Nat.le_trans (show ps.length + 1 ≤ 21 by omega) (by decide), fun h => (nomatch h), fun _ R nR => ?_⟩
        have s11 := s10.trans (Step.new (o := .tup (ps ++ [.ref t])) s10.purse nR)
        have eR : (upd (upd H9 B2 (.tup [.ref t])) R (.tup (ps ++ [.ref t]))) R = some (.tup (ps ++ [.ref t])) := upd_same
        generalize upd (upd H9 B2 (.tup [.ref t])) R (.tup (ps ++ [.ref t])) = H11 at s11 eR
        refine ⟨_, rfl, (by show 2 ≤ sizeLine; decide), fun X nX => ?_⟩
        have s12 := s11.trans (Step.new (o := .lst [.ref R, .ref r]) s11.purse nX)
        have eX : (upd H11 X (.lst [.ref R, .ref r])) X = some (.lst [.ref R, .ref r]) := upd_same
        have eR' : (upd H11 X (.lst [.ref R, .ref r])) R = some (.tup (ps ++ [.ref t])) := same_upd nX _ _ eR
        generalize upd H11 X (.lst [.ref R, .ref r]) = H12 at s12 eX eR'
        have s412 := s4.trans s12
        refine ⟨_, rfl, r, _, _, _, rfl, rfl, hx _ s412, at_of (j := 0) rfl x0, rfl, .inr ⟨_, rfl, ?_⟩⟩
        cases m with
        | door n rm g =>
          rw [decide_eq_true rfl]
          obtain ⟨xs', e1, e2, e3⟩ := fin H12 r (.door n rm g) (.int (rm + cz)) (.ref t) s412 (rowk _ s412) hmo rfl
          exact ⟨X, _, _, V.ref r, rfl, rfl, SqL.of eX, at_of (j := 1) rfl rfl, G, xs', _, rfl, rfl, e1, e2, e3⟩
        | task v =>
          rw [show decide (V.str "task" = V.str "door") = false by decide +kernel]
          obtain ⟨c1, c2⟩ := hxv v rfl
          have hrow2 : RowAt K H12 R (.task { v with cost := v.cost + cz, holds := hs }) := by
            refine ⟨t, ?_, hh.kt (.of_step s4.purse s12)⟩
            rw [eR', ← hP, c1, c2]
            rfl
          obtain ⟨xs', e1, e2, e3⟩ := fin H12 R (.task { v with cost := v.cost + cz, holds := hs }) (.int (v.cost + cz)) (.ref t) s412 hrow2 ⟨hmo.1, ⟨by show 1 ≤ (Mem.task v).cost + cz; omega, by show (Mem.task v).cost + cz ≤ 99; omega⟩, hmo.2.2.1, hmo.2.2.2.1, ha, fun h hh => Nat.le_trans (nm_len (holds_nm ha h hh)).2 (by decide)⟩ rfl
          exact ⟨X, _, _, V.ref R, rfl, rfl, SqL.of eX, at_of (j := 0) rfl rfl, G, xs', _, rfl, rfl, e1, e2, e3⟩
    · rintro σ H1 ⟨v3, v4, v5, rfl, s1, rs', ms', eG, hrs', hnm, hok'⟩
      rw [hrs.1, List.take_length] at hnm
      refine ⟨_, rfl, q G rs' ms' H1 s1 nG eG hrs' ⟨?_, hnm ▸ hok.nd, hok'⟩⟩
      rw [← List.length_map (f := Mem.name), hnm, List.length_map]
      exact h8
end
end Du

set_option Elab.async false
set_option linter.all false
set_option maxRecDepth 100000
namespace Du
open PySem L2
abbrev sRightL : Stmt := topS 58
def blD (s : BS) : PyData := .tuple [.int s.1, (match s.2 with | none => .none | some p => .str p.1), (match s.2 with | none => .none | some p => .int p.2)]
theorem blF_name (ms : List Mem) (n : Int) (l : List Mem) : ∀ p, (blF ms n l).2 = some p → ∃ m ∈ l, m.name = p.1 := by
  have : ∀ (l : List Mem) (L : List Mem) (s : BS), (∀ p, s.2 = some p → ∃ m ∈ L, m.name = p.1) → (∀ m ∈ l, m ∈ L) → ∀ p, (l.foldl (blS ms n) s).2 = some p → ∃ m ∈ L, m.name = p.1 := by
    intro l L
    induction l with
    | nil => exact fun s h _ => h
    | cons m l ih =>
      intro s h hl
      refine ih _ ?_ (fun k hk => hl k (List.mem_cons_of_mem _ hk))
      cases m with
      | door => exact h
      | task v =>
        rw [blS_task]
        split
        · split
          · intro p hp
            obtain ⟨i, _, rfl⟩ := Option.map_eq_some_iff.mp hp
            exact ⟨.task v, hl _ List.mem_cons_self, rfl⟩
          · exact h
        · exact h
  exact this l l _ (fun p h => nomatch h) (fun m h => h)
theorem blD_shaped {s : BS} (h : ∀ p, s.2 = some p → isNm p.1 = true) : SeqAt.shaped (blD s) = true := by
  obtain ⟨i, o⟩ := s
  cases o with
  | none =>
    unfold SeqAt.shaped blD
    simp [PyData.canLay0, PyData.canLayAll0, PyData.depth, PyData.depthAll]
  | some p =>
    have z := nm_strOk (h p rfl)
    unfold SeqAt.shaped blD
    simp [PyData.canLay0, PyData.canLayAll0, PyData.depth, PyData.depthAll, z]
theorem bl_shaped {ms : List Mem} (hok : ∀ m ∈ ms, m.ok) (n : Int) : SeqAt.shaped (blD (bl ms n)) = true := blD_shaped fun p hp => by
  obtain ⟨m, hm, e⟩ := blF_name ms n ms p hp
  exact e ▸ Mem.nm (hok m hm)
theorem bl_eqv {ms : List Mem} (hok : ∀ m ∈ ms, m.ok) (n : Int) : PyData.eqv (blD (bl ms n)) (blD (bl ms n)) = true := SeqAt.eqv_refl _ (SeqAt.canLay_of_shaped (bl_shaped hok n))
section
variable {P : Program} {w : World} {K : PySem.W.Frag} {mg : Str → Option Value} {base : Heap} {CT CD CC : Addr}
theorem blV_dp {H : Hp} (s : BS) : DpAll K H (blV s) [.int s.1, (match s.2 with | none => .none | some p => .str p.1), (match s.2 with | none => .none | some p => .int p.2)] := by
  obtain ⟨i, o⟩ := s
  cases o with
  | none => exact .cons (.int _) (.cons .non (.cons .non .nil))
  | some p => exact .cons (.int _) (.cons (.str _) (.cons (.int _) .nil))
theorem bl_dp {H : Hp} {t : Addr} {s : BS} (e : H t = some (.tup (blV s))) : Dp K H (.ref t) (blD s) := .tup (SqT.of e) (blV_dp s)
theorem scRightL : FnScope ["_law_rows_here", "_law_size", "_law_found"] ["_law_rows_here", "_law_size"] (defScope sRightL) := ⟨rfl, rfl, rfl, by decide +kernel, rfl, by decide +kernel, by decide +kernel⟩
def spRightL (K : PySem.W.Frag) : Sp := fun vs H Q _ => ∃ (L : Addr) (rs : List V) (ms : List Mem) (n : Int), vs = [.ref L, .int n] ∧ SqL K H L rs ∧ Rows K H rs ms ∧ CrewOk ms ∧ 1 ≤ n ∧ n ≤ 1000000 ∧ ∀ H', Same H H' → Q (.bl true) H'
theorem ok_rightL {f : Addr} {fd : FuncData} (F : Fun K "_law_right" "_law_right" sRightL f fd) (mI : mg "isinstance" = none) (mt : mg "tuple" = none) (mb : mg "bool" = none) (ml : mg "len" = none)
    (DB : Dn P w K mg base 6 "blocking" ["crew", "long"] (spBlocking K CT CD CC)) (DC : Dn P w K mg base 9 "_law_crew" ["_law_rows_here"] (spCrewL K CT CD CC)) (DBl : Dn P w K mg base 4 "_law_blocked" ["_law_rows_here", "_law_size"] (spBlocked K)) :
    FnOk P w K mg base CX0 10 f fd ["_law_rows_here", "_law_size"] (spRightL K) := by
  refine F.ok scRightL (fun vs H Q E h => ?_) (fun cdv A outer s H vs Q E hr h => ?_)
  · obtain ⟨L, rs, ms, n, rfl, _⟩ := h
    rfl
  · obtain ⟨L, rs, ms, n, rfl, hS, hrs, hok, hn1, hn2, q⟩ := h
    have hr4 : Room 4 _ := hr.mono (by decide)
    have hr6 : Room 6 _ := hr.mono (by decide)
    have hr9 : Room 9 _ := hr.mono (by decide)
    refine ⟨_, (pss_cons (ps_set (i := 2) scRightL.nd rfl (.inl rfl) (pcall DB hr6 (by rfl) (pa_cons (pcall DC hr9 (by rfl) (pa_cons (pv 0) pa_nil)) (pa_cons (pv 1) pa_nil)))) (pss_cons (ps_if (PW.pt (pw_or (pt_not (pt_val (pe_callB call_isi (by rfl) mI (by decide +kernel) (pa_cons (pv 2) (pa_cons (pe_bltn (v := .ty "tuple") (by rfl) mt (by decide +kernel) rfl) pa_nil))))) (pw_or (pt_cmpR op_ne (pe_callB call_len_seq (by rfl) ml (by decide +kernel) (pa_cons (pv 2) pa_nil)) pe_int (nomark _)) (pw_or (pt_val (pe_callB call_isi (by rfl) mI (by decide +kernel) (pa_cons (pe_ix ix_tup (pv 2) pe_int (fun _ _ => rfl)) (pa_cons (pe_bltn (v := .ty "bool") (by rfl) mb (by decide +kernel) rfl) pa_nil)))) (pw_or1 (pt_val (pe_callB call_isi (by rfl) mI (by decide +kernel) (pa_cons (pe_ix ix_tup (pv 2) pe_int (fun _ _ => rfl)) (pa_cons (pe_bltn (v := .ty "bool") (by rfl) mb (by decide +kernel) rfl) pa_nil))))))))) pss_never pss_nil) (pss_one (ps_ret (pe_cmpR (op_eqD hr.units) (pv 2) (pcall DBl hr4 (by rfl) (pa_cons (pv 0) (pa_cons (pv 1) pa_nil))) (nomark _)))))), ?_⟩
    refine ⟨_, rfl, L, rs, ms, rfl, hS, hrs, hok, fun c H1 s1 nc hc => ?_⟩
    refine ⟨_, rfl, c, ms, n, rfl, hc, hok, hn1, hn2, fun t H2 s2 nt et => ?_⟩
    have eT : SqT K H2 t _ := SqT.of et
    refine ⟨_, rfl, _, _, _, _, true, rfl, .ty "tuple", .base (.tup et), kit_ty (by decide +kernel), true, rfl, ?_⟩
    refine iteF ⟨_, rfl, t, _, rfl, .inr eT, rfl, _, rfl, ?_⟩
    rw [show decide (V.int ((blV (bl ms n)).length : Nat) = V.int 3) = true from decide_eq_true rfl]
    refine iteF ⟨_, rfl, t, _, _, _, rfl, rfl, eT, at_of (j := 0) rfl rfl, _, _, _, _, false, rfl, .ty "bool", .base (.int _), kit_ty (by decide +kernel), false, rfl, ?_⟩
    have tail : ∀ (x : V), (blV (bl ms n))[2]? = some x → x = .non ∨ ∃ i, x = .int i := fun x hx => by
      unfold blV at hx
      cases h : (bl ms n).2 with
      | none => rw [h] at hx; cases hx; exact .inl rfl
      | some p => rw [h] at hx; cases hx; exact .inr ⟨_, rfl⟩
    obtain ⟨x, hx⟩ : ∃ x, (blV (bl ms n))[2]? = some x := ⟨_, rfl⟩
    refine iteF ⟨_, rfl, t, _, _, _, rfl, rfl, eT, at_of (j := 2) rfl hx, ?_⟩
    rcases tail x hx with rfl | ⟨i, rfl⟩
    · refine ⟨_, _, _, _, false, rfl, .ty "bool", .base .non, kit_ty (by decide +kernel), false, rfl, iteF ?_⟩
      refine ⟨_, rfl, _, rfl, _, rfl, L, rs, ms, n, rfl, hS.ext (s1.trans s2), hrs.kt (.of_same (s1.trans s2)), hok, fun t2 H3 s3 nt2 et2 => ⟨_, _, bl_dp (s3 _ _ et), bl_dp et2, bl_shaped hok.all n, bl_shaped hok.all n, ?_⟩⟩
      rw [bl_eqv hok.all n]
      exact q _ ((s1.trans s2).trans s3)
    · refine ⟨_, _, _, _, false, rfl, .ty "bool", .base (.int _), kit_ty (by decide +kernel), false, rfl, iteF ?_⟩
      refine ⟨_, rfl, _, rfl, _, rfl, L, rs, ms, n, rfl, hS.ext (s1.trans s2), hrs.kt (.of_same (s1.trans s2)), hok, fun t2 H3 s3 nt2 et2 => ⟨_, _, bl_dp (s3 _ _ et), bl_dp et2, bl_shaped hok.all n, bl_shaped hok.all n, ?_⟩⟩
      rw [bl_eqv hok.all n]
      exact q _ ((s1.trans s2).trans s3)
end
end Du

set_option Elab.async false
set_option linter.all false
set_option maxRecDepth 100000
set_option maxHeartbeats 4000000
namespace Du
open PySem L2
abbrev sLaw : Stmt := topS 59
theorem CrewOk.sub {ms : List Mem} (h : CrewOk ms) (a b : Nat) : CrewOk ((ms.drop a).take b) := by
  have hs : ((ms.drop a).take b).Sublist ms := (List.take_sublist _ _).trans (List.drop_sublist _ _)
  exact ⟨Nat.le_trans hs.length_le h.len, (hs.map Mem.name).nodup h.nd, fun m hm => h.all m (hs.mem hm)⟩
section
variable {P : Program} {w : World} {K : PySem.W.Frag} {mg : Str → Option Value} {base : Heap} {CT CD CC : Addr}
/-- blocking, by its names -/
theorem kBlo {f : Addr} {fd : FuncData} (F : Fun K "blocking" "blocking" sBlocking f fd) : KBn K fd ["crew", "long"] 0 ["long", "crew"] (fun us ws => us ++ (one ws 1 ++ one ws 0)) (fun us ws => us ++ (one ws 1 ++ one ws 0)) := by
  obtain ⟨oc, od, kV, doc, pm, an, cdv, ct, osl, rfl, lk, hcd⟩ := F.ex
  exact ⟨fun s us ws X h1 h2 => .of_eq (match us, ws, h1, h2 with | [], [_, _], _, _ => rfl), fun r1 r2 => r1.append ((one_rel r2 1).append (one_rel r2 0))⟩
theorem stepSame {p : Addr} {H H1 H2 : Hp} (s0 : Same H H1) (s : Step p H1 H2) (np : H p = none) : Same H H2 := fun b o e => s.keep b o (ne_of_none e np) (s0 b o e)
abbrev nLaw : List Str := ["_law_script", "_law_k", "_law_purse_here", "_law_rows_here", "_law_step", "_law_last", "_law_sizes", "_law_team", "_law_size", "_law_row"]
theorem scLaw : FnScope nLaw ["_law_script"] (defScope sLaw) := ⟨rfl, rfl, rfl, by decide +kernel, rfl, by decide +kernel, by decide +kernel⟩
def spLaw (K : PySem.W.Frag) : Sp := fun vs H Q _ => ∃ (a : Addr) (ns : List Int), vs = [.ref a] ∧ SqL K H a (ns.map V.int) ∧ ∀ H', Q (.bl true) H'
theorem ok_law {f : Addr} {fd : FuncData} (F : Fun K "law" "law" sLaw f fd)
    (mr : mg "range" = none) (mx : mg "max" = none) (mn : mg "min" = none) (ml : mg "len" = none) (mli : mg "list" = none) (mall : mg "all" = none)
    (DC : Dn P w K mg base 3 "_law_cell" ["_law_script", "_law_k"] (spCellL K)) (DP : Dn P w K mg base 3 "_law_purse" ["_law_cell_here"] spPurse) (DT : Dn P w K mg base 3 "_law_take" ["_law_purse_here", "_law_many"] spTake)
    (DR : Dn P w K mg base 6 "_law_rows" pRowsL (spRowsL K)) (DLo : Dn P w K mg base 5 "_law_long" ["_law_purse_here", "_law_rows_here"] (spDoubled K)) (DDb : Dn P w K mg base 5 "_law_doubled" ["_law_purse_here", "_law_rows_here"] (spDoubled K)) (DCr : Dn P w K mg base 9 "_law_crew" ["_law_rows_here"] (spCrewL K CT CD CC))
    (DDu : Dn P w K mg base 3 "_law_due" ["_law_row"] (spDueL K)) (DRi : Dn P w K mg base 10 "_law_right" ["_law_rows_here", "_law_size"] (spRightL K)) (DB : Dn P w K mg base 6 "blocking" ["crew", "long"] (spBlocking K CT CD CC)) (DBl : Dn P w K mg base 4 "_law_blocked" ["_law_rows_here", "_law_size"] (spBlocked K))
    (DK : DnK P w K mg base 6 "blocking" ["crew", "long"] (spBlocking K CT CD CC) 0 ["long", "crew"] (fun us ws => us ++ (one ws 1 ++ one ws 0))) :
    LawOk P w K mg base f fd "_law_script" (spLaw K) := by
  obtain ⟨oc, od, kV, doc, pm, an, cdv, ct, osl, rfl, lk, hcd⟩ := F.ex
  intro s H u v Q env0 hb rv hsp
  obtain ⟨a, ns, hv, hS, q⟩ := hsp
  have hr11 : Room 12 callerA := ⟨rfl, by decide, by decide⟩
  refine fn_at (k := 11) (ps := ["_law_script"]) (us := [u]) (vs := [v]) lk hcd scLaw hr11 env0 hb (.cons rv .nil) rfl ?_
  cases hv
  have hr : Room 11 (callerA.deeper (PyProof.Rows.envOfC "law" (defScope sLaw) s.heap.objs.size f cdv)) := hr11.deeper _
  have hr3 : Room 3 _ := hr.mono (by decide)
  have hr4 : Room 4 _ := hr.mono (by decide)
  have hr5 : Room 5 _ := hr.mono (by decide)
  have hr6 : Room 6 _ := hr.mono (by decide)
  have hr9 : Room 9 _ := hr.mono (by decide)
  have hr10 : Room 10 _ := hr.mono (by decide)
  refine ⟨_, (pss_cons (ps_for PassesOwn.never rfl (pi_range1 (by rfl) mr (pa_cons (pe_callB (call_max2 rfl) (by rfl) mx (by decide +kernel) (pa_cons pe_int (pa_cons (pe_callB (call_min2 rfl) (by rfl) mn (by decide +kernel) (pa_cons pe_int (pa_cons (pe_callB call_len_seq (by rfl) ml (by decide +kernel) (pa_cons (pv 0) pa_nil)) pa_nil))) pa_nil))) pa_nil)) (pg_name (i := 1) scLaw.nd rfl (.inl rfl))
        (pss_cons (ps_set (i := 2) scLaw.nd rfl (.inl rfl) (pcall DP hr3 (by rfl) (pa_cons (pcall DC hr3 (by rfl) (pa_cons (pv 0) (pa_cons (pv 1) pa_nil))) pa_nil))) (pss_cons (ps_set (i := 3) scLaw.nd rfl (.inr rfl) (pcall DR hr6 (by rfl) (pa_cons (pv 2) (pa_cons pe_int (pa_cons pe_int (pa_cons (pe_op op_add pe_int (pcall DT hr3 (by rfl) (pa_cons (pv 2) (pa_cons pe_int pa_nil)))) (pa_cons pe_bl pa_nil))))))) (pss_cons (ps_set (i := 4) scLaw.nd rfl (.inl rfl) pe_int) (pss_cons (ps_j (ps_if (pt_cmpR op_eq (pcall DT hr3 (by rfl) (pa_cons (pv 2) (pa_cons pe_int pa_nil))) pe_int (nomark _)) (pss_one (ps_asg (pe_tup (pa_cons (pcall DLo hr5 (by rfl) (pa_cons (pv 2) (pa_cons (pe_slice sl_list (pv 3) po_none (po_some pe_int)) pa_nil))) (pa_cons pe_int pa_nil))) (pg_tup rfl (pgs_cons (pg_name (i := 3) scLaw.nd rfl (.inr rfl)) (pgs_cons (pg_name (i := 4) scLaw.nd rfl (.inl rfl)) pgs_nil))))) pss_nil)) (pss_cons (ps_j (ps_if (pt_cmpR op_eq (pcall DT hr3 (by rfl) (pa_cons (pv 2) (pa_cons pe_int pa_nil))) pe_int (nomark _)) (pss_one (ps_set (i := 3) scLaw.nd rfl (.inr rfl) (pcall DDb hr5 (by rfl) (pa_cons (pv 2) (pa_cons (pv 3) pa_nil))))) pss_nil)) (pss_cons (ps_set (i := 5) scLaw.nd rfl (.inl rfl) (pe_op op_add (pe_j (pe_callBK (cr_maxDf rfl hr.units) (by rfl) mx (by decide +kernel) (pa_cons (pe_lc (own := [("_law_row", 9)]) (g := gName 9) (tt := tYes) (te := tCall (spDueL K) [] E0 (tCons (tVar 9) tNil)) rfl scLaw.nd (pi_list (pv 3)) (blkOk_by (N := nLaw) (sc := defScope sLaw) (by decide +kernel))
            (fun _ _ _ _ _ => pg_name (i := 9) scLaw.nd rfl (Or.inl rfl)) (fun _ _ _ _ _ => pts_nil) (fun _ _ _ _ _ => pcall DDu hr3 (by rfl) (pa_cons (pv 9) pa_nil))) pa_nil) (pk_cons pe_int pk_nil))) pe_int)) (pss_cons (ps_set (i := 6) scLaw.nd rfl (.inl rfl) (pe_op op_cat (pe_stepL (pe_listRg rfl (by rfl) mli (prg_2 (by rfl) mr pe_int (pe_op op_add (pv 5) pe_int))) (pv 4)) (pe_lst (pa_cons (pe_op op_add (pe_op op_add (pv 5) pe_int) (pcall DT hr3 (by rfl) (pa_cons (pv 2) (pa_cons (pe_op op_sub (pe_op op_pow pe_int pe_int) pe_int) pa_nil)))) pa_nil)))) (pss_cons (ps_if (pt_not (pt_val (pe_callB (cr_all rfl) (by rfl) mall (by decide +kernel) (pa_cons (pe_lc (own := [("_law_size", 8)]) (g := gName 8) (tt := tYes) (te := tCall (spRightL K) [] E0 (tCons (tVar 3) (tCons (tVar 8) tNil))) rfl scLaw.nd (pi_list (pv 6)) (blkOk_by (N := nLaw) (sc := defScope sLaw) (by decide +kernel))
            (fun _ _ _ _ _ => pg_name (i := 8) scLaw.nd rfl (Or.inl rfl)) (fun _ _ _ _ _ => pts_nil) (fun _ _ _ _ _ => pcall DRi hr10 (by rfl) (pa_cons (pv 3) (pa_cons (pv 8) pa_nil)))) pa_nil)))) pss_never pss_nil) (pss_cons (ps_par (i := 7) (j := 8) rfl scLaw.nd rfl rfl (by decide) rfl rfl (pa_cons (pcall DCr hr9 (by rfl) (pa_cons (pv 3) pa_nil)) (pa_cons (pe_ix ix_list (pv 6) (pcall DT hr3 (by rfl) (pa_cons (pv 2) (pa_cons (pe_callB call_len_seq (by rfl) ml (by decide +kernel) (pa_cons (pv 6) pa_nil)) pa_nil))) (fun _ _ => rfl)) pa_nil)) (by rfl)) (pss_one (ps_if (PW.pt (pw_or (pt_cmpR (op_neD hr.units) (pcallK0 DK hr6 (by rfl) (pk_cons (pv 8) (pk_cons (pv 7) pk_nil))) (pcall DB hr6 (by rfl) (pa_cons (pv 7) (pa_cons (pv 8) pa_nil))) (nomark _)) (pw_or1 (pt_cmpR (op_neD hr.units) (pcall DB hr6 (by rfl) (pa_cons (pv 7) (pa_cons (pv 8) pa_nil))) (pcall DBl hr4 (by rfl) (pa_cons (pv 3) (pa_cons (pv 8) pa_nil))) (nomark _))))) pss_never pss_nil)))))))))))) (pss_one (ps_ret pe_bl))), ?_⟩
  obtain ⟨MX, hM, h3, h12⟩ : ∃ M : Int, (if (if (((ns.map V.int).length : Nat) : Int) < 8 then (((ns.map V.int).length : Nat) : Int) else 8) > 2 then (if (((ns.map V.int).length : Nat) : Int) < 8 then (((ns.map V.int).length : Nat) : Int) else 8) else 2) = M ∧ 2 ≤ M ∧ M ≤ 8 :=
    ⟨_, rfl, by repeat (first | omega | split), by repeat (first | omega | split)⟩
  refine ⟨_, rfl, a, _, rfl, .inl hS, 8, _, rfl, 2, _, rfl, ?_⟩
  rw [hM]
  refine ⟨MX, rfl, by omega, by omega, for_range (lo := 0) (n := MX.toNat) (fun i σ H' => ∃ v1 v2 v3 v4 v5 v6 v7 v8 : Option V, σ = [some (.ref a), v1, v2, v3, v4, v5, v6, v7, v8, none] ∧ Same H H') ⟨none, none, none, none, none, none, none, none, rfl, Same.refl _⟩ ?_ ?_⟩
  · rintro i σ H2 hi ⟨v1, v2, v3, v4, v5, v6, v7, v8, rfl, s2⟩
    have hi64 : i < 64 := by omega
    refine ⟨_, rfl, _, rfl, a, ns, i, by rw [Int.zero_add]; rfl, hS.ext s2, hi64, fun n H3 s3 => ⟨n, rfl, fun p H4 s4 np hp => ?_⟩⟩
    have s24 : Same H H4 := (s2.trans s3).trans s4
    have npH : H p = none := (s2.trans s3).free np
    refine ⟨_, rfl, _, rfl, p, 4, rfl, by decide, by decide, hp, fun tz H4' t0 t1 s4' => ⟨_, _, rfl, rfl, ?_⟩⟩
    refine ⟨p, 0, 8, 1 + tz, true, rfl, s4'.purse, by decide, by decide, by decide, by omega, by omega, fun L rs ms ts H5 s5 nL eL hrs hok _ _ _ _ _ _ _ => ?_⟩
    have s5 := s4'.trans s5
    have hLp : L ≠ p := s4'.purse.ne nL
    refine ⟨fun σ' H' => ∃ (L : Addr) (rs : List V) (ms : List Mem) (st : Int), σ' = [some (.ref a), some (.int (0 + (i : Int))), some (.ref p), some (.ref L), some (.int st), v5, v6, v7, v8, none] ∧ st ≠ 0 ∧ Step p H4 H' ∧ L ≠ p ∧ H' L = some (.lst rs) ∧ Rows K H' rs ms ∧ CrewOk ms, ?_, ?_⟩
    · refine ⟨_, rfl, p, 4, rfl, by decide, by decide, s5.purse, fun r H6 r0 r1 s6 => ⟨rfl, _, rfl, ite2 (fun _ => ?_) (fun _ => ?_)⟩⟩
      · refine ⟨_, rfl, _, rfl, _, rfl, L, rs, rfl, SqL.of (s6.keep _ _ hLp eL), fun C1 nC1 => ?_⟩
        have s7 := s6.trans (Step.new (o := .lst (cutV rs none (some 4))) s6.purse nC1)
        have hC1 : C1 ≠ p := s6.purse.ne nC1
        refine ⟨p, C1, _, _, rfl, s7.purse, hC1, upd_same, (hrs.kt (.of_step s5.purse s7)).sub, hok.sub _ _, fun L2 rs2 ms2 H7 s8 nL2 eL2 hrs2 hok2 => ?_⟩
        refine ⟨(by show 2 ≤ sizeLine; decide), fun T nT => ?_⟩
        have s9 := (s7.trans s8).trans (Step.new (o := .tup [.ref L2, .int 7]) s8.purse nT)
        have hL2 : L2 ≠ p := s7.purse.ne nL2
        refine ⟨T, _, rfl, SqT.of upd_same, rfl, _, _, rfl, _, _, rfl, rfl, ?_⟩
        exact ⟨L2, rs2, ms2, 7, rfl, by decide, s5.trans s9, hL2, same_upd nT _ _ eL2, hrs2.kt (.of_same (same_upd nT)), hok2⟩
      · exact ⟨L, rs, ms, 1, rfl, by decide, s5.trans s6, hLp, s6.keep _ _ hLp eL, hrs.kt (.of_step s5.purse s6), hok⟩
    rintro σ' H6 ⟨L, rs, ms, st, rfl, hst, s6, hLp, eL, hrs, hok⟩
    refine ⟨fun σ' H' => ∃ (L : Addr) (rs : List V) (ms : List Mem), σ' = [some (.ref a), some (.int (0 + (i : Int))), some (.ref p), some (.ref L), some (.int st), v5, v6, v7, v8, none] ∧ Step p H4 H' ∧ L ≠ p ∧ H' L = some (.lst rs) ∧ Rows K H' rs ms ∧ CrewOk ms, ?_, ?_⟩
    · refine ⟨_, rfl, p, 3, rfl, by decide, by decide, s6.purse, fun r H7 r0 r1 s7 => ⟨rfl, _, rfl, ite2 (fun _ => ?_) (fun _ => ?_)⟩⟩
      · refine ⟨_, rfl, _, rfl, p, L, rs, ms, rfl, s7.purse, hLp, s7.keep _ _ hLp eL, hrs.kt (.of_step s6.purse s7), hok, fun L2 rs2 ms2 H8 s8 nL2 eL2 hrs2 hok2 => ?_⟩
        exact ⟨L2, rs2, ms2, rfl, (s6.trans s7).trans s8, s7.purse.ne nL2, eL2, hrs2, hok2⟩
      · exact ⟨L, rs, ms, rfl, s6.trans s7, hLp, s7.keep _ _ hLp eL, hrs.kt (.of_step s6.purse s7), hok⟩
    rintro σ' H7 ⟨L, rs, ms, rfl, s7, hLp, eL, hrs, hok⟩
    -- the last size
    refine ⟨fun v H' => ∃ d : Int, v = .int d ∧ 0 ≤ d ∧ d ≤ 600 ∧ Same H7 H', ?_, ?_⟩
    · refine ⟨_, rfl, L, rfl, ⟨_, SqL.of eL⟩, fun D nD => lc_list (K := K) (a := L) (xs := rs) (fun j H' => Same H7 H' ∧ H' D = some (.lst (((ms.take j).map Mem.due).map V.int))) ⟨same_upd nD, upd_same⟩ (fun j H' _ z => SqL.of (z.1 _ _ eL)) ?_ ?_⟩
      · rintro j y H8 hy ⟨s8, e8⟩
        obtain ⟨r, m, rfl, em, hrow⟩ := hrs.at hy
        have hj := (List.getElem?_eq_some_iff.mp em).1
        have h8 := hok.len
        refine ⟨rfl, _, rfl, r, m, rfl, hrow.kt (.of_same s8), fun H9 s9 => ⟨_, s9 _ _ e8, ?_, same_upd2 (s8.trans s9) nD, ?_⟩⟩
        · rw [List.length_map, List.length_map]
          exact Nat.lt_of_le_of_lt (List.length_take_le _ _) (Nat.lt_of_lt_of_le (show j < 8 by omega) (by decide))
        · rw [upd_same, List.take_add_one, em, List.map_append, List.map_append]
          rfl
      · rintro H8 ⟨s8, e8⟩
        rw [hrs.1, List.take_length] at e8
        refine ⟨D, _, .int 0, rfl, rfl, SqL.of e8, fun _ => ⟨0, rfl, by decide, by decide, s8⟩, fun m hm _ => ?_⟩
        obtain ⟨k, hk, rfl⟩ := List.mem_map.mp hm
        have h1 := Mem.dueb (hok.all k hk)
        have h2 := Mem.b (hok.all k hk)
        exact ⟨_, rfl, by omega, by omega, s8⟩
    rintro _ H8 ⟨d, rfl, d0, d6, s8⟩
    refine ⟨_, _, rfl, rfl, ?_⟩
    have u8 := s7.trans (Step.of_same s7.purse s8)
    -- the sizes
    refine ⟨_, rfl, _, _, rfl, rfl, _, _, rfl, rfl, RgOk.of_le (by decide) (by omega) (by decide) (by omega), fun G nG => ?_⟩
    have s9 := Step.new (o := .lst (rgV 1 (d + 1 + 1))) u8.purse nG
    have hG : G ≠ p := u8.purse.ne nG
    have eG : (upd H8 G (.lst (rgV 1 (d + 1 + 1)))) G = some (.lst (rgV 1 (d + 1 + 1))) := upd_same
    generalize upd H8 G (.lst (rgV 1 (d + 1 + 1))) = H9 at s9 eG
    refine ⟨_, rfl, st, rfl, st, G, _, rfl, rfl, SqL.of eG, hst, fun M ys nM hys hyl => ?_⟩
    have hys2 : ∀ y ∈ ys, ∃ z : Int, y = .int z ∧ 1 ≤ z ∧ z ≤ 1000000 := fun y hy => by
      have h := hys y hy
      unfold rgV at h
      obtain ⟨z, hz, rfl⟩ := List.mem_map.mp h
      have := List.mem_range.mp hz
      exact ⟨_, rfl, by omega, by omega⟩
    rw [rgV_length] at hyl
    have s10 := s9.trans (Step.new (o := .lst ys) s9.purse nM)
    have hM2 : M ≠ p := s9.purse.ne nM
    have eM : (upd H9 M (.lst ys)) M = some (.lst ys) := upd_same
    generalize upd H9 M (.lst ys) = H10 at s10 eM
    refine ⟨_, rfl, _, _, rfl, rfl, _, rfl, _, _, rfl, rfl, ⟨by decide, by decide, by decide⟩, _, _, rfl, rfl, p, 999300, rfl, by decide, by decide, s10.purse, fun xz H11 x0 x1 s11 => ⟨_, _, rfl, rfl, ?_⟩⟩
    have s11' := s10.trans s11
    refine ⟨(by show 1 ≤ sizeLine; decide), fun B nB => ?_⟩
    have s12 := s11'.trans (Step.new (o := .lst [.int (d + 1 + 1 + xz)]) s11'.purse nB)
    have eB : (upd H11 B (.lst [.int (d + 1 + 1 + xz)])) B = some (.lst [.int (d + 1 + 1 + xz)]) := upd_same
    have eM12 : (upd H11 B (.lst [.int (d + 1 + 1 + xz)])) M = some (.lst ys) := same_upd nB _ _ (s11.keep _ _ hM2 eM)
    generalize upd H11 B (.lst [.int (d + 1 + 1 + xz)]) = H12 at s12 eB eM12
    have hl : ys.length + 1 ≤ 603 := by omega
    refine ⟨M, B, _, _, rfl, rfl, eM12, eB, Nat.le_trans (show ys.length + 1 ≤ 603 from hl) (by decide), fun Z nZ => ?_⟩
    have s13 := s12.trans (Step.new (o := .lst (ys ++ [.int (d + 1 + 1 + xz)])) s12.purse nZ)
    have hZ : Z ≠ p := s12.purse.ne nZ
    have hall : ∀ y ∈ ys ++ [V.int (d + 1 + 1 + xz)], ∃ z : Int, y = .int z ∧ 1 ≤ z ∧ z ≤ 1000000 := fun y hy => by
      rcases List.mem_append.mp hy with h | h
      · exact hys2 y h
      · exact ⟨_, List.mem_singleton.mp h, by omega, by omega⟩
    have hlz : (ys ++ [V.int (d + 1 + 1 + xz)]).length ≤ 603 ∧ 1 ≤ (ys ++ [V.int (d + 1 + 1 + xz)]).length := by
      rw [List.length_append, List.length_singleton]
      omega
    have eZ : (upd H12 Z (.lst (ys ++ [.int (d + 1 + 1 + xz)]))) Z = some (.lst (ys ++ [.int (d + 1 + 1 + xz)])) := upd_same
    generalize ys ++ [V.int (d + 1 + 1 + xz)] = zs at s13 hall hlz eZ
    generalize upd H12 Z (.lst zs) = H13 at s13 eZ
    have u13 := u8.trans s13
    have kL : ∀ H', Step p H13 H' → H' L = some (.lst rs) ∧ Rows K H' rs ms := fun H' s' => ⟨((Step.of_same s7.purse s8).trans (s13.trans s')).keep _ _ hLp eL, hrs.kt (.of_step s7.purse ((Step.of_same s7.purse s8).trans (s13.trans s')))⟩
    -- all of them
    refine ⟨_, rfl, Z, rfl, ⟨_, SqL.of eZ⟩, fun D nD => lc_list (K := K) (a := Z) (xs := zs) (fun j H' => Same H13 H' ∧ H' D = some (.lst ((List.replicate j true).map V.bl))) ⟨same_upd nD, upd_same⟩ (fun j H' _ z => SqL.of (z.1 _ _ eZ)) ?_ ?_⟩
    · rintro j y H14 hy ⟨s14, e14⟩
      obtain ⟨z, rfl, z1, z2⟩ := hall y (List.mem_of_getElem? hy)
      have hj := (List.getElem?_eq_some_iff.mp hy).1
      obtain ⟨a1, a2⟩ := kL _ (Step.of_same u13.purse s14)
      refine ⟨rfl, _, rfl, _, rfl, L, rs, ms, z, rfl, SqL.of a1, a2, hok, z1, z2, fun H15 s15 => ⟨_, s15 _ _ e14, ?_, same_upd2 (s14.trans s15) nD, ?_⟩⟩
      · rw [List.length_map, List.length_replicate]
        exact Nat.lt_of_lt_of_le (show j < 603 by omega) (by decide)
      · rw [upd_same, List.replicate_succ', List.map_append]
        rfl
    rintro H14 ⟨s14, e14⟩
    refine ⟨D, _, rfl, SqL.of e14, _, rfl, ?_⟩
    rw [show (List.replicate zs.length true).all id = true by simp]
    refine iteF ?_
    have u14 := Step.of_same u13.purse s14
    obtain ⟨a1, a2⟩ := kL _ u14
    -- the crew and one size
    refine ⟨_, rfl, L, rs, ms, rfl, SqL.of a1, a2, hok, fun c H15 s15 nc hc => ?_⟩
    have u15 := u14.trans (Step.of_same u14.purse s15)
    have eZ15 := u15.keep _ _ hZ eZ
    refine ⟨_, rfl, _, rfl, _, rfl, Z, zs, rfl, .inl (SqL.of eZ15), p, zs.length, rfl, by omega, by omega, u15.purse, fun kz H16 k0 k1 s16 => ?_⟩
    have u16 := u15.trans s16
    obtain ⟨y, hy, hym⟩ := at_some (xs := zs) k0 k1
    obtain ⟨z, rfl, z1, z2⟩ := hall y hym
    refine ⟨Z, zs, kz, _, rfl, rfl, SqL.of (s16.keep _ _ hZ eZ15), hy, _, _, rfl, ?_⟩
    have hc16 := hc.kt (.of_step u15.purse s16)
    refine ⟨_, rfl, _, rfl, rfl, c, ms, z, rfl, hc16, hok, z1, z2, fun t1 H17 s17 nt1 et1 => ?_⟩
    refine ⟨_, rfl, _, rfl, c, ms, z, rfl, hc16.kt (.of_same s17), hok, z1, z2, fun t2 H18 s18 nt2 et2 => ⟨_, _, bl_dp (s18 _ _ et1), bl_dp et2, bl_shaped hok.all z, bl_shaped hok.all z, _, rfl, ?_⟩⟩
    rw [bl_eqv hok.all z]
    refine iteF ?_
    have s1618 := s17.trans s18
    refine ⟨_, rfl, _, rfl, c, ms, z, rfl, hc16.kt (.of_same s1618), hok, z1, z2, fun t3 H19 s19 nt3 et3 => ?_⟩
    have s1619 := s1618.trans s19
    have u19 := u16.trans (Step.of_same u16.purse s1619)
    obtain ⟨a1, a2⟩ := kL _ u19
    refine ⟨_, rfl, _, rfl, L, rs, ms, z, rfl, SqL.of a1, a2, hok, fun t4 H20 s20 nt4 et4 => ⟨_, _, bl_dp (s20 _ _ et3), bl_dp et4, bl_shaped hok.all z, bl_shaped hok.all z, _, rfl, ?_⟩⟩
    rw [bl_eqv hok.all z]
    exact iteF ⟨_, _, _, _, _, _, _, _, rfl, stepSame s24 ((u13.trans u19).trans (Step.of_same u19.purse s20)) npH⟩
  · rintro σ H2 ⟨v1, v2, v3, v4, v5, v6, v7, v8, rfl, s2⟩
    exact q H2
end
end Du

set_option Elab.async false
set_option linter.all false
set_option maxRecDepth 100000
namespace Du
open PySem L2
theorem kit_self {K : PySem.W.Frag} {C : Addr} : PySem.W.kitOne K (.ref C) (.ref C) = some true := by
  unfold PySem.W.kitOne
  simp
theorem exm_of {K : PySem.W.Frag} {C c : Addr} {b : Bool} (h1 : PySem.W.subIn K (.ref c) (.type "BaseException") = some true) (h2 : PySem.W.hasDictIn K c = true) (h3 : PySem.W.typeIn K (.ref c) = some (.type "type")) (h4 : PySem.W.subIn K (.ref C) (.ref c) = some b) : PySem.W.exmOne K (.ref C) (.ref c) = some b := by
  obtain ⟨cd, hc, _⟩ := PySem.W.any_some h2
  unfold PySem.W.exmOne PySem.W.kitCls
  rw [h1]
  show (if ((PySem.W.clsIn K c).isSome && PySem.W.typeIn K (.ref c) == some (.type "type")) = true then PySem.W.subIn K (.ref C) (.ref c) else none) = some b
  rw [hc, h3, h4]
  rfl
theorem exm2 {K : PySem.W.Frag} {t c1 c2 : Value} {b1 b2 : Bool} (h1 : PySem.W.exmOne K t c1 = some b1) (h2 : PySem.W.exmOne K t c2 = some b2) : PySem.W.exmAny K t [c1, c2] = some (b1 || b2) := by
  unfold PySem.W.exmAny PySem.W.exmAny PySem.W.exmAny
  rw [h1, h2]
  cases b1 <;> cases b2 <;> rfl
theorem exm3 {K : PySem.W.Frag} {t c1 c2 c3 : Value} {b1 b2 b3 : Bool} (h1 : PySem.W.exmOne K t c1 = some b1) (h2 : PySem.W.exmOne K t c2 = some b2) (h3 : PySem.W.exmOne K t c3 = some b3) : PySem.W.exmAny K t [c1, c2, c3] = some (b1 || b2 || b3) := by
  unfold PySem.W.exmAny PySem.W.exmAny PySem.W.exmAny PySem.W.exmAny
  rw [h1, h2, h3]
  cases b1 <;> cases b2 <;> cases b3 <;> rfl
set_option maxHeartbeats 4000000 in
theorem all_mk {l : PySem.W.OpenLaw} {w : World} {K : PySem.W.Frag} {h : Heap} {mg : Str → Option Value} {fa : Addr} (X : K.In h) (G : h.Ns mainGlobals mg) (hfa : mg "law" = some (.ref fa))
    {fNu fWh fNm fHd fAh fHs fWT fWD fMu fIm fAm fTw fMC fLo fLg fBl fCe fPu fTa fWo fHo fTk fDo fRw fMe fCw fDl fLl fHl fBk fDb fLn fRi fLa CT fIn DI e0 CD fId fHe CC fIc DT0 e1 fLv : Addr}
    {odNu anNu odWh anWh odNm anNm odHd anHd odAh anAh odHs anHs odWT anWT odWD anWD odMu anMu odIm anIm odAm anAm odTw anTw odMC anMC odLo anLo odLg anLg odBl anBl odCe anCe odPu anPu odTa anTa odWo anWo odHo anHo odTk anTk odDo anDo odRw anRw odMe anMe odCw anCw odDl anDl odLl anLl odHl anHl odBk anBk odDb anDb odLn anLn odRi anRi odLa anLa odIn anIn od0 odId anId odHe anHe odIc anIc od1 odLv anLv : Option Addr}
    {slNu slWh slNm slHd slAh slHs slWT slWD slMu slIm slAm slTw slMC slLo slLg slBl slCe slPu slTa slWo slHo slTk slDo slRw slMe slCw slDl slLl slHl slBk slDb slLn slRi slLa slIn sl0 slId slHe slIc sl1 slLv : Array (Option Value)}
    {ocNu dcNu pmNu cdNu ctNu kVNu ocWh dcWh pmWh cdWh ctWh kVWh ocNm dcNm pmNm cdNm ctNm kVNm ocHd dcHd pmHd cdHd ctHd kVHd ocAh dcAh pmAh cdAh ctAh kVAh ocHs dcHs pmHs cdHs ctHs kVHs ocWT dcWT pmWT cdWT ctWT kVWT ocWD dcWD pmWD cdWD ctWD kVWD ocMu dcMu pmMu cdMu ctMu kVMu ocIm dcIm pmIm cdIm ctIm kVIm ocAm dcAm pmAm cdAm ctAm kVAm ocTw dcTw pmTw cdTw ctTw kVTw ocMC dcMC pmMC cdMC ctMC kVMC ocLo dcLo pmLo cdLo ctLo kVLo ocLg dcLg pmLg cdLg ctLg kVLg ocBl dcBl pmBl cdBl ctBl kVBl ocCe dcCe pmCe cdCe ctCe kVCe ocPu dcPu pmPu cdPu ctPu kVPu ocTa dcTa pmTa cdTa ctTa kVTa ocWo dcWo pmWo cdWo ctWo kVWo ocHo dcHo pmHo cdHo ctHo kVHo ocTk dcTk pmTk cdTk ctTk kVTk ocDo dcDo pmDo cdDo ctDo kVDo ocRw dcRw pmRw cdRw ctRw kVRw ocMe dcMe pmMe cdMe ctMe kVMe ocCw dcCw pmCw cdCw ctCw kVCw ocDl dcDl pmDl cdDl ctDl kVDl ocLl dcLl pmLl cdLl ctLl kVLl ocHl dcHl pmHl cdHl ctHl kVHl ocBk dcBk pmBk cdBk ctBk kVBk ocDb dcDb pmDb cdDb ctDb kVDb ocLn dcLn pmLn cdLn ctLn kVLn ocRi dcRi pmRi cdRi ctRi kVRi ocLa dcLa pmLa cdLa ctLa kVLa ocIn dcIn pmIn cdIn ctIn ocId dcId pmId cdId ctId kVId ocHe dcHe pmHe cdHe ctHe kVHe ocIc dcIc pmIc cdIc ctIc kVIc tcl1 ocLv dcLv pmLv cdLv ctLv kVLv : Value}
    {n0 n1 : Nat}
    {w1 w2 w3 w4 w5 w6 w7 : Tok}
    (aNu : PySem.W.nsIn K mainGlobals "is_number" = some (some (.ref fNu)))
    (lNu : K.lookup fNu = some ⟨ocNu, odNu, .func (PySem.W.fnOf "is_number" "is_number" (defArgs sNumber) (defBody sNumber) (defScope sNumber) .none kVNu dcNu pmNu anNu cdNu ctNu), slNu⟩)
    (cNu : PySem.W.codeIn K cdNu "is_number" = true)
    (kNu : PySem.W.keepIn K (.ref fNu) = true)
    (aWh : PySem.W.nsIn K mainGlobals "is_whole" = some (some (.ref fWh)))
    (lWh : K.lookup fWh = some ⟨ocWh, odWh, .func (PySem.W.fnOf "is_whole" "is_whole" (defArgs sWhole) (defBody sWhole) (defScope sWhole) .none kVWh dcWh pmWh anWh cdWh ctWh), slWh⟩)
    (cWh : PySem.W.codeIn K cdWh "is_whole" = true)
    (kWh : PySem.W.keepIn K (.ref fWh) = true)
    (aNm : PySem.W.nsIn K mainGlobals "is_name" = some (some (.ref fNm)))
    (lNm : K.lookup fNm = some ⟨ocNm, odNm, .func (PySem.W.fnOf "is_name" "is_name" (defArgs sName) (defBody sName) (defScope sName) .none kVNm dcNm pmNm anNm cdNm ctNm), slNm⟩)
    (cNm : PySem.W.codeIn K cdNm "is_name" = true)
    (kNm : PySem.W.keepIn K (.ref fNm) = true)
    (aHd : PySem.W.nsIn K mainGlobals "is_hold" = some (some (.ref fHd)))
    (lHd : K.lookup fHd = some ⟨ocHd, odHd, .func (PySem.W.fnOf "is_hold" "is_hold" (defArgs sHold) (defBody sHold) (defScope sHold) .none kVHd dcHd pmHd anHd cdHd ctHd), slHd⟩)
    (cHd : PySem.W.codeIn K cdHd "is_hold" = true)
    (kHd : PySem.W.keepIn K (.ref fHd) = true)
    (aAh : PySem.W.nsIn K mainGlobals "goes_ahead" = some (some (.ref fAh)))
    (lAh : K.lookup fAh = some ⟨ocAh, odAh, .func (PySem.W.fnOf "goes_ahead" "goes_ahead" (defArgs sAhead) (defBody sAhead) (defScope sAhead) .none kVAh dcAh pmAh anAh cdAh ctAh), slAh⟩)
    (cAh : PySem.W.codeIn K cdAh "goes_ahead" = true)
    (kAh : PySem.W.keepIn K (.ref fAh) = true)
    (aHs : PySem.W.nsIn K mainGlobals "are_holds" = some (some (.ref fHs)))
    (lHs : K.lookup fHs = some ⟨ocHs, odHs, .func (PySem.W.fnOf "are_holds" "are_holds" (defArgs sHolds) (defBody sHolds) (defScope sHolds) .none kVHs dcHs pmHs anHs cdHs ctHs), slHs⟩)
    (cHs : PySem.W.codeIn K cdHs "are_holds" = true)
    (kHs : PySem.W.keepIn K (.ref fHs) = true)
    (aWT : PySem.W.nsIn K mainGlobals "wrong_in_task" = some (some (.ref fWT)))
    (lWT : K.lookup fWT = some ⟨ocWT, odWT, .func (PySem.W.fnOf "wrong_in_task" "wrong_in_task" (defArgs sWrongT) (defBody sWrongT) (defScope sWrongT) .none kVWT dcWT pmWT anWT cdWT ctWT), slWT⟩)
    (cWT : PySem.W.codeIn K cdWT "wrong_in_task" = true)
    (kWT : PySem.W.keepIn K (.ref fWT) = true)
    (aWD : PySem.W.nsIn K mainGlobals "wrong_in_door" = some (some (.ref fWD)))
    (lWD : K.lookup fWD = some ⟨ocWD, odWD, .func (PySem.W.fnOf "wrong_in_door" "wrong_in_door" (defArgs sWrongD) (defBody sWrongD) (defScope sWrongD) .none kVWD dcWD pmWD anWD cdWD ctWD), slWD⟩)
    (cWD : PySem.W.codeIn K cdWD "wrong_in_door" = true)
    (kWD : PySem.W.keepIn K (.ref fWD) = true)
    (aMu : PySem.W.nsIn K mainGlobals "must_be_whole" = some (some (.ref fMu)))
    (lMu : K.lookup fMu = some ⟨ocMu, odMu, .func (PySem.W.fnOf "must_be_whole" "must_be_whole" (defArgs sMust) (defBody sMust) (defScope sMust) .none kVMu dcMu pmMu anMu cdMu ctMu), slMu⟩)
    (cMu : PySem.W.codeIn K cdMu "must_be_whole" = true)
    (kMu : PySem.W.keepIn K (.ref fMu) = true)
    (aIm : PySem.W.nsIn K mainGlobals "is_member" = some (some (.ref fIm)))
    (lIm : K.lookup fIm = some ⟨ocIm, odIm, .func (PySem.W.fnOf "is_member" "is_member" (defArgs sIsMem) (defBody sIsMem) (defScope sIsMem) .none kVIm dcIm pmIm anIm cdIm ctIm), slIm⟩)
    (cIm : PySem.W.codeIn K cdIm "is_member" = true)
    (kIm : PySem.W.keepIn K (.ref fIm) = true)
    (aAm : PySem.W.nsIn K mainGlobals "are_members" = some (some (.ref fAm)))
    (lAm : K.lookup fAm = some ⟨ocAm, odAm, .func (PySem.W.fnOf "are_members" "are_members" (defArgs sAreMem) (defBody sAreMem) (defScope sAreMem) .none kVAm dcAm pmAm anAm cdAm ctAm), slAm⟩)
    (cAm : PySem.W.codeIn K cdAm "are_members" = true)
    (kAm : PySem.W.keepIn K (.ref fAm) = true)
    (aTw : PySem.W.nsIn K mainGlobals "name_twice" = some (some (.ref fTw)))
    (lTw : K.lookup fTw = some ⟨ocTw, odTw, .func (PySem.W.fnOf "name_twice" "name_twice" (defArgs sTwice) (defBody sTwice) (defScope sTwice) .none kVTw dcTw pmTw anTw cdTw ctTw), slTw⟩)
    (cTw : PySem.W.codeIn K cdTw "name_twice" = true)
    (kTw : PySem.W.keepIn K (.ref fTw) = true)
    (aMC : PySem.W.nsIn K mainGlobals "must_be_crew" = some (some (.ref fMC)))
    (lMC : K.lookup fMC = some ⟨ocMC, odMC, .func (PySem.W.fnOf "must_be_crew" "must_be_crew" (defArgs sMustCrew) (defBody sMustCrew) (defScope sMustCrew) .none kVMC dcMC pmMC anMC cdMC ctMC), slMC⟩)
    (cMC : PySem.W.codeIn K cdMC "must_be_crew" = true)
    (kMC : PySem.W.keepIn K (.ref fMC) = true)
    (aLo : PySem.W.nsIn K mainGlobals "levels_of" = some (some (.ref fLo)))
    (lLo : K.lookup fLo = some ⟨ocLo, odLo, .func (PySem.W.fnOf "levels_of" "levels_of" (defArgs sLevels) (defBody sLevels) (defScope sLevels) .none kVLo dcLo pmLo anLo cdLo ctLo), slLo⟩)
    (cLo : PySem.W.codeIn K cdLo "levels_of" = true)
    (kLo : PySem.W.keepIn K (.ref fLo) = true)
    (aLg : PySem.W.nsIn K mainGlobals "longest_hold" = some (some (.ref fLg)))
    (lLg : K.lookup fLg = some ⟨ocLg, odLg, .func (PySem.W.fnOf "longest_hold" "longest_hold" (defArgs sLongest) (defBody sLongest) (defScope sLongest) .none kVLg dcLg pmLg anLg cdLg ctLg), slLg⟩)
    (cLg : PySem.W.codeIn K cdLg "longest_hold" = true)
    (kLg : PySem.W.keepIn K (.ref fLg) = true)
    (aBl : PySem.W.nsIn K mainGlobals "blocking" = some (some (.ref fBl)))
    (lBl : K.lookup fBl = some ⟨ocBl, odBl, .func (PySem.W.fnOf "blocking" "blocking" (defArgs sBlocking) (defBody sBlocking) (defScope sBlocking) .none kVBl dcBl pmBl anBl cdBl ctBl), slBl⟩)
    (cBl : PySem.W.codeIn K cdBl "blocking" = true)
    (kBl : PySem.W.keepIn K (.ref fBl) = true)
    (aCe : PySem.W.nsIn K mainGlobals "_law_cell" = some (some (.ref fCe)))
    (lCe : K.lookup fCe = some ⟨ocCe, odCe, .func (PySem.W.fnOf "_law_cell" "_law_cell" (defArgs sCell) (defBody sCell) (defScope sCell) .none kVCe dcCe pmCe anCe cdCe ctCe), slCe⟩)
    (cCe : PySem.W.codeIn K cdCe "_law_cell" = true)
    (kCe : PySem.W.keepIn K (.ref fCe) = true)
    (aPu : PySem.W.nsIn K mainGlobals "_law_purse" = some (some (.ref fPu)))
    (lPu : K.lookup fPu = some ⟨ocPu, odPu, .func (PySem.W.fnOf "_law_purse" "_law_purse" (defArgs sPurse) (defBody sPurse) (defScope sPurse) .none kVPu dcPu pmPu anPu cdPu ctPu), slPu⟩)
    (cPu : PySem.W.codeIn K cdPu "_law_purse" = true)
    (kPu : PySem.W.keepIn K (.ref fPu) = true)
    (aTa : PySem.W.nsIn K mainGlobals "_law_take" = some (some (.ref fTa)))
    (lTa : K.lookup fTa = some ⟨ocTa, odTa, .func (PySem.W.fnOf "_law_take" "_law_take" (defArgs sTake) (defBody sTake) (defScope sTake) .none kVTa dcTa pmTa anTa cdTa ctTa), slTa⟩)
    (cTa : PySem.W.codeIn K cdTa "_law_take" = true)
    (kTa : PySem.W.keepIn K (.ref fTa) = true)
    (aWo : PySem.W.nsIn K mainGlobals "_law_words" = some (some (.ref fWo)))
    (lWo : K.lookup fWo = some ⟨ocWo, odWo, .func (PySem.W.fnOf "_law_words" "_law_words" (defArgs sWords) (defBody sWords) (defScope sWords) .none kVWo dcWo pmWo anWo cdWo ctWo), slWo⟩)
    (cWo : PySem.W.codeIn K cdWo "_law_words" = true)
    (kWo : PySem.W.keepIn K (.ref fWo) = true)
    (aHo : PySem.W.nsIn K mainGlobals "_law_holds" = some (some (.ref fHo)))
    (lHo : K.lookup fHo = some ⟨ocHo, odHo, .func (PySem.W.fnOf "_law_holds" "_law_holds" (defArgs sHoldsL) (defBody sHoldsL) (defScope sHoldsL) .none kVHo dcHo pmHo anHo cdHo ctHo), slHo⟩)
    (cHo : PySem.W.codeIn K cdHo "_law_holds" = true)
    (kHo : PySem.W.keepIn K (.ref fHo) = true)
    (aTk : PySem.W.nsIn K mainGlobals "_law_task" = some (some (.ref fTk)))
    (lTk : K.lookup fTk = some ⟨ocTk, odTk, .func (PySem.W.fnOf "_law_task" "_law_task" (defArgs sTaskL) (defBody sTaskL) (defScope sTaskL) .none kVTk dcTk pmTk anTk cdTk ctTk), slTk⟩)
    (cTk : PySem.W.codeIn K cdTk "_law_task" = true)
    (kTk : PySem.W.keepIn K (.ref fTk) = true)
    (aDo : PySem.W.nsIn K mainGlobals "_law_door" = some (some (.ref fDo)))
    (lDo : K.lookup fDo = some ⟨ocDo, odDo, .func (PySem.W.fnOf "_law_door" "_law_door" (defArgs sDoorL) (defBody sDoorL) (defScope sDoorL) .none kVDo dcDo pmDo anDo cdDo ctDo), slDo⟩)
    (cDo : PySem.W.codeIn K cdDo "_law_door" = true)
    (kDo : PySem.W.keepIn K (.ref fDo) = true)
    (aRw : PySem.W.nsIn K mainGlobals "_law_rows" = some (some (.ref fRw)))
    (lRw : K.lookup fRw = some ⟨ocRw, odRw, .func (PySem.W.fnOf "_law_rows" "_law_rows" (defArgs sRowsL) (defBody sRowsL) (defScope sRowsL) .none kVRw dcRw pmRw anRw cdRw ctRw), slRw⟩)
    (cRw : PySem.W.codeIn K cdRw "_law_rows" = true)
    (kRw : PySem.W.keepIn K (.ref fRw) = true)
    (aMe : PySem.W.nsIn K mainGlobals "_law_member" = some (some (.ref fMe)))
    (lMe : K.lookup fMe = some ⟨ocMe, odMe, .func (PySem.W.fnOf "_law_member" "_law_member" (defArgs sMember) (defBody sMember) (defScope sMember) .none kVMe dcMe pmMe anMe cdMe ctMe), slMe⟩)
    (cMe : PySem.W.codeIn K cdMe "_law_member" = true)
    (kMe : PySem.W.keepIn K (.ref fMe) = true)
    (aCw : PySem.W.nsIn K mainGlobals "_law_crew" = some (some (.ref fCw)))
    (lCw : K.lookup fCw = some ⟨ocCw, odCw, .func (PySem.W.fnOf "_law_crew" "_law_crew" (defArgs sCrewL) (defBody sCrewL) (defScope sCrewL) .none kVCw dcCw pmCw anCw cdCw ctCw), slCw⟩)
    (cCw : PySem.W.codeIn K cdCw "_law_crew" = true)
    (kCw : PySem.W.keepIn K (.ref fCw) = true)
    (aDl : PySem.W.nsIn K mainGlobals "_law_due" = some (some (.ref fDl)))
    (lDl : K.lookup fDl = some ⟨ocDl, odDl, .func (PySem.W.fnOf "_law_due" "_law_due" (defArgs sDueL) (defBody sDueL) (defScope sDueL) .none kVDl dcDl pmDl anDl cdDl ctDl), slDl⟩)
    (cDl : PySem.W.codeIn K cdDl "_law_due" = true)
    (kDl : PySem.W.keepIn K (.ref fDl) = true)
    (aLl : PySem.W.nsIn K mainGlobals "_law_level" = some (some (.ref fLl)))
    (lLl : K.lookup fLl = some ⟨ocLl, odLl, .func (PySem.W.fnOf "_law_level" "_law_level" (defArgs sLevelL) (defBody sLevelL) (defScope sLevelL) .none kVLl dcLl pmLl anLl cdLl ctLl), slLl⟩)
    (cLl : PySem.W.codeIn K cdLl "_law_level" = true)
    (kLl : PySem.W.keepIn K (.ref fLl) = true)
    (aHl : PySem.W.nsIn K mainGlobals "_law_held" = some (some (.ref fHl)))
    (lHl : K.lookup fHl = some ⟨ocHl, odHl, .func (PySem.W.fnOf "_law_held" "_law_held" (defArgs sHeldL) (defBody sHeldL) (defScope sHeldL) .none kVHl dcHl pmHl anHl cdHl ctHl), slHl⟩)
    (cHl : PySem.W.codeIn K cdHl "_law_held" = true)
    (kHl : PySem.W.keepIn K (.ref fHl) = true)
    (aBk : PySem.W.nsIn K mainGlobals "_law_blocked" = some (some (.ref fBk)))
    (lBk : K.lookup fBk = some ⟨ocBk, odBk, .func (PySem.W.fnOf "_law_blocked" "_law_blocked" (defArgs sBlocked) (defBody sBlocked) (defScope sBlocked) .none kVBk dcBk pmBk anBk cdBk ctBk), slBk⟩)
    (cBk : PySem.W.codeIn K cdBk "_law_blocked" = true)
    (kBk : PySem.W.keepIn K (.ref fBk) = true)
    (aDb : PySem.W.nsIn K mainGlobals "_law_doubled" = some (some (.ref fDb)))
    (lDb : K.lookup fDb = some ⟨ocDb, odDb, .func (PySem.W.fnOf "_law_doubled" "_law_doubled" (defArgs sDoubled) (defBody sDoubled) (defScope sDoubled) .none kVDb dcDb pmDb anDb cdDb ctDb), slDb⟩)
    (cDb : PySem.W.codeIn K cdDb "_law_doubled" = true)
    (kDb : PySem.W.keepIn K (.ref fDb) = true)
    (aLn : PySem.W.nsIn K mainGlobals "_law_long" = some (some (.ref fLn)))
    (lLn : K.lookup fLn = some ⟨ocLn, odLn, .func (PySem.W.fnOf "_law_long" "_law_long" (defArgs sLongL) (defBody sLongL) (defScope sLongL) .none kVLn dcLn pmLn anLn cdLn ctLn), slLn⟩)
    (cLn : PySem.W.codeIn K cdLn "_law_long" = true)
    (kLn : PySem.W.keepIn K (.ref fLn) = true)
    (aRi : PySem.W.nsIn K mainGlobals "_law_right" = some (some (.ref fRi)))
    (lRi : K.lookup fRi = some ⟨ocRi, odRi, .func (PySem.W.fnOf "_law_right" "_law_right" (defArgs sRightL) (defBody sRightL) (defScope sRightL) .none kVRi dcRi pmRi anRi cdRi ctRi), slRi⟩)
    (cRi : PySem.W.codeIn K cdRi "_law_right" = true)
    (kRi : PySem.W.keepIn K (.ref fRi) = true)
    (aLa : PySem.W.nsIn K mainGlobals "law" = some (some (.ref fLa)))
    (lLa : K.lookup fLa = some ⟨ocLa, odLa, .func (PySem.W.fnOf "law" "law" (defArgs sLaw) (defBody sLaw) (defScope sLaw) .none kVLa dcLa pmLa anLa cdLa ctLa), slLa⟩)
    (cLa : PySem.W.codeIn K cdLa "law" = true)
    (kLa : PySem.W.keepIn K (.ref fLa) = true)
    (tg : PySem.W.specialIn K (.builtin "object.__class__") "__get__" = some (some (.builtin "getset_descriptor.__get__")))
    (tt : PySem.W.takesIn K (.builtin "object.__class__") = some true)
    (at_ : PySem.W.nsIn K mainGlobals "Task" = some (some (.ref CT)))
    (t_pg : PySem.W.plainGet K CT Str.empty = true)
    (t_hd : PySem.W.hasDictIn K CT = true)
    (t_po : PySem.W.plainOver K CT = true)
    (t_sa : PySem.W.findIn K (.ref CT) "__setattr__" = some (some (.builtin "object.__setattr__")))
    (t_mk : PySem.W.makesIn K CT = true)
    (t_kc : PySem.W.keepIn K (.ref CT) = true)
    (t_nN : PySem.W.findIn K (.ref CT) "name" = some none)
    (t_nC : PySem.W.findIn K (.ref CT) "cost" = some none)
    (t_nG : PySem.W.findIn K (.ref CT) "gap" = some none)
    (t_nD : PySem.W.findIn K (.ref CT) "due" = some none)
    (t_nH : PySem.W.findIn K (.ref CT) "holds" = some none)
    (t_tc : PySem.W.findIn K (.ref CT) "__class__" = some (some (.builtin "object.__class__")))
    (t_tm : PySem.W.mroIn K CT (.type "object") = some true)
    (aIn : PySem.W.findIn K (.ref CT) "__init__" = some (some (.ref fIn)))
    (lIn : K.lookup fIn = some ⟨ocIn, odIn, .func (PySem.W.fnOf "__init__" "Task.__init__" (defArgs sInit) (defBody sInit) (defScope sInit) .none (.ref DI) dcIn pmIn anIn cdIn ctIn), slIn⟩)
    (cIn : PySem.W.codeIn K cdIn "Task.__init__" = true)
    (kIn : PySem.W.keepIn K (.ref fIn) = true)
    (iIn : PySem.W.isFn K (.ref fIn) = true)
    (q1 : PySem.W.nsIn K DI "due" = some (some .none))
    (q2 : PySem.W.nsIn K DI "holds" = some (some (.ref e0)))
    (q3 : K.lookup e0 = some ⟨.type "tuple", od0, .seq #[] n0, sl0⟩)
    (ad_ : PySem.W.nsIn K mainGlobals "Door" = some (some (.ref CD)))
    (d_pg : PySem.W.plainGet K CD Str.empty = true)
    (d_hd : PySem.W.hasDictIn K CD = true)
    (d_po : PySem.W.plainOver K CD = true)
    (d_sa : PySem.W.findIn K (.ref CD) "__setattr__" = some (some (.builtin "object.__setattr__")))
    (d_mk : PySem.W.makesIn K CD = true)
    (d_kc : PySem.W.keepIn K (.ref CD) = true)
    (d_nN : PySem.W.findIn K (.ref CD) "name" = some none)
    (d_nR : PySem.W.findIn K (.ref CD) "room" = some none)
    (d_nG : PySem.W.findIn K (.ref CD) "gap" = some none)
    (d_tc : PySem.W.findIn K (.ref CD) "__class__" = some (some (.builtin "object.__class__")))
    (d_tm : PySem.W.mroIn K CD (.type "object") = some true)
    (aId : PySem.W.findIn K (.ref CD) "__init__" = some (some (.ref fId)))
    (lId : K.lookup fId = some ⟨ocId, odId, .func (PySem.W.fnOf "__init__" "Door.__init__" (defArgs sDInit) (defBody sDInit) (defScope sDInit) .none kVId dcId pmId anId cdId ctId), slId⟩)
    (cId : PySem.W.codeIn K cdId "Door.__init__" = true)
    (kId : PySem.W.keepIn K (.ref fId) = true)
    (iId : PySem.W.isFn K (.ref fId) = true)
    (aHe : PySem.W.findIn K (.ref CT) "held" = some (some (.ref fHe)))
    (lHe : K.lookup fHe = some ⟨ocHe, odHe, .func (PySem.W.fnOf "held" "Task.held" (defArgs sHeld) (defBody sHeld) (defScope sHeld) .none kVHe dcHe pmHe anHe cdHe ctHe), slHe⟩)
    (cHe : PySem.W.codeIn K cdHe "Task.held" = true)
    (kHe : PySem.W.keepIn K (.ref fHe) = true)
    (iHe : PySem.W.isFn K (.ref fHe) = true)
    (ac_ : PySem.W.nsIn K mainGlobals "Crew" = some (some (.ref CC)))
    (c_pg : PySem.W.plainGet K CC Str.empty = true)
    (c_hd : PySem.W.hasDictIn K CC = true)
    (c_po : PySem.W.plainOver K CC = true)
    (c_sa : PySem.W.findIn K (.ref CC) "__setattr__" = some (some (.builtin "object.__setattr__")))
    (c_mk : PySem.W.makesIn K CC = true)
    (c_kc : PySem.W.keepIn K (.ref CC) = true)
    (c_nM : PySem.W.findIn K (.ref CC) "members" = some none)
    (c_tc : PySem.W.findIn K (.ref CC) "__class__" = some (some (.builtin "object.__class__")))
    (c_tm : PySem.W.mroIn K CC (.type "object") = some true)
    (aIc : PySem.W.findIn K (.ref CC) "__init__" = some (some (.ref fIc)))
    (lIc : K.lookup fIc = some ⟨ocIc, odIc, .func (PySem.W.fnOf "__init__" "Crew.__init__" (defArgs sCInit) (defBody sCInit) (defScope sCInit) (.ref DT0) kVIc dcIc pmIc anIc cdIc ctIc), slIc⟩)
    (cIc : PySem.W.codeIn K cdIc "Crew.__init__" = true)
    (kIc : PySem.W.keepIn K (.ref fIc) = true)
    (iIc : PySem.W.isFn K (.ref fIc) = true)
    (q4 : K.lookup DT0 = some ⟨tcl1, od1, .seq #[.ref e1] n1, sl1⟩)
    (aLv : PySem.W.findIn K (.ref CC) "level" = some (some (.ref fLv)))
    (lLv : K.lookup fLv = some ⟨ocLv, odLv, .func (PySem.W.fnOf "level" "Crew.level" (defArgs sLevel) (defBody sLevel) (defScope sLevel) .none kVLv dcLv pmLv anLv cdLv ctLv), slLv⟩)
    (cLv : PySem.W.codeIn K cdLv "Crew.level" = true)
    (kLv : PySem.W.keepIn K (.ref fLv) = true)
    (iLv : PySem.W.isFn K (.ref fLv) = true)
    (v1 : PySem.W.nsIn K mainGlobals "LETTERS" = some (some (.str "abcdefghijklmnopqrstuvwxyz" w1)))
    (v2 : PySem.W.nsIn K mainGlobals "MOST_LETTERS" = some (some (.int 8 w2)))
    (v3 : PySem.W.nsIn K mainGlobals "MOST_COST" = some (some (.int 99 w3)))
    (v4 : PySem.W.nsIn K mainGlobals "MOST_GAP" = some (some (.int 600 w4)))
    (v5 : PySem.W.nsIn K mainGlobals "MOST_HOLDS" = some (some (.int 4 w5)))
    (v6 : PySem.W.nsIn K mainGlobals "MOST_MEMBERS" = some (some (.int 8 w6)))
    (v7 : PySem.W.nsIn K mainGlobals "MOST_LONG" = some (some (.int 1000000 w7)))
    (kaT : PySem.W.kitAny K (.ref CT) [.ref CT, .ref CD] = some true)
    (kaD : PySem.W.kitAny K (.ref CD) [.ref CT, .ref CD] = some true)
    (koD : PySem.W.kitOne K (.ref CD) (.ref CT) = some false)
    (koT : PySem.W.kitOne K (.ref CT) (.ref CD) = some false)
    (z_isinstance : PySem.W.nsIn K mainGlobals "isinstance" = some none)
    (z_int : PySem.W.nsIn K mainGlobals "int" = some none)
    (z_bool : PySem.W.nsIn K mainGlobals "bool" = some none)
    (z_str : PySem.W.nsIn K mainGlobals "str" = some none)
    (z_tuple : PySem.W.nsIn K mainGlobals "tuple" = some none)
    (z_len : PySem.W.nsIn K mainGlobals "len" = some none)
    (z_all : PySem.W.nsIn K mainGlobals "all" = some none)
    (z_zip : PySem.W.nsIn K mainGlobals "zip" = some none)
    (z_range : PySem.W.nsIn K mainGlobals "range" = some none)
    (z_abs : PySem.W.nsIn K mainGlobals "abs" = some none)
    (z_max : PySem.W.nsIn K mainGlobals "max" = some none)
    (z_min : PySem.W.nsIn K mainGlobals "min" = some none)
    (z_sorted : PySem.W.nsIn K mainGlobals "sorted" = some none)
    (z_list : PySem.W.nsIn K mainGlobals "list" = some none)
    (z_set : PySem.W.nsIn K mainGlobals "set" = some none)
    (z_any : PySem.W.nsIn K mainGlobals "any" = some none)
    : ∃ fd : FuncData, (∀ (s : Shared) (v : Value), BindsTo s fd ⟨[v], []⟩ [("_law_script", v)]) ∧ ∀ base : Heap, K.In base → base.Ns mainGlobals mg → LawOk l.prog w K mg base fa fd "_law_script" (spLaw K) := by
  have e := hfa.symm.trans (PySem.W.mg_of X G aLa)
  cases e
  have m_isinstance := PySem.W.mg_none_of X G z_isinstance
  have m_int := PySem.W.mg_none_of X G z_int
  have m_bool := PySem.W.mg_none_of X G z_bool
  have m_str := PySem.W.mg_none_of X G z_str
  have m_tuple := PySem.W.mg_none_of X G z_tuple
  have m_len := PySem.W.mg_none_of X G z_len
  have m_all := PySem.W.mg_none_of X G z_all
  have m_zip := PySem.W.mg_none_of X G z_zip
  have m_range := PySem.W.mg_none_of X G z_range
  have m_abs := PySem.W.mg_none_of X G z_abs
  have m_max := PySem.W.mg_none_of X G z_max
  have m_min := PySem.W.mg_none_of X G z_min
  have m_sorted := PySem.W.mg_none_of X G z_sorted
  have m_list := PySem.W.mg_none_of X G z_list
  have m_set := PySem.W.mg_none_of X G z_set
  have m_any := PySem.W.mg_none_of X G z_any
  have FNu := fun_mk (st := sNumber) lNu cNu kNu
  have bNu := FNu.binds (ps := ["thing"]) fun _ _ _ _ _ _ us hl => match us, hl with | [_], _ => rfl
  have FWh := fun_mk (st := sWhole) lWh cWh kWh
  have bWh := FWh.binds (ps := ["thing", "least", "most"]) fun _ _ _ _ _ _ us hl => match us, hl with | [_, _, _], _ => rfl
  have FNm := fun_mk (st := sName) lNm cNm kNm
  have bNm := FNm.binds (ps := ["thing"]) fun _ _ _ _ _ _ us hl => match us, hl with | [_], _ => rfl
  have FHd := fun_mk (st := sHold) lHd cHd kHd
  have bHd := FHd.binds (ps := ["thing", "cost"]) fun _ _ _ _ _ _ us hl => match us, hl with | [_, _], _ => rfl
  have FAh := fun_mk (st := sAhead) lAh cAh kAh
  have bAh := FAh.binds (ps := ["hold", "other"]) fun _ _ _ _ _ _ us hl => match us, hl with | [_, _], _ => rfl
  have FHs := fun_mk (st := sHolds) lHs cHs kHs
  have bHs := FHs.binds (ps := ["thing", "cost"]) fun _ _ _ _ _ _ us hl => match us, hl with | [_, _], _ => rfl
  have FWT := fun_mk (st := sWrongT) lWT cWT kWT
  have bWT := FWT.binds (ps := ["name", "cost", "gap", "due", "holds"]) fun _ _ _ _ _ _ us hl => match us, hl with | [_, _, _, _, _], _ => rfl
  have FWD := fun_mk (st := sWrongD) lWD cWD kWD
  have bWD := FWD.binds (ps := ["name", "room", "gap"]) fun _ _ _ _ _ _ us hl => match us, hl with | [_, _, _], _ => rfl
  have FMu := fun_mk (st := sMust) lMu cMu kMu
  have bMu := FMu.binds (ps := ["thing", "least", "most"]) fun _ _ _ _ _ _ us hl => match us, hl with | [_, _, _], _ => rfl
  have FIm := fun_mk (st := sIsMem) lIm cIm kIm
  have bIm := FIm.binds (ps := ["thing"]) fun _ _ _ _ _ _ us hl => match us, hl with | [_], _ => rfl
  have FAm := fun_mk (st := sAreMem) lAm cAm kAm
  have bAm := FAm.binds (ps := ["thing"]) fun _ _ _ _ _ _ us hl => match us, hl with | [_], _ => rfl
  have FTw := fun_mk (st := sTwice) lTw cTw kTw
  have bTw := FTw.binds (ps := ["members"]) fun _ _ _ _ _ _ us hl => match us, hl with | [_], _ => rfl
  have FMC := fun_mk (st := sMustCrew) lMC cMC kMC
  have bMC := FMC.binds (ps := ["thing"]) fun _ _ _ _ _ _ us hl => match us, hl with | [_], _ => rfl
  have FLo := fun_mk (st := sLevels) lLo cLo kLo
  have bLo := FLo.binds (ps := ["crew"]) fun _ _ _ _ _ _ us hl => match us, hl with | [_], _ => rfl
  have FLg := fun_mk (st := sLongest) lLg cLg kLg
  have bLg := FLg.binds (ps := ["task", "levels", "most"]) fun _ _ _ _ _ _ us hl => match us, hl with | [_, _, _], _ => rfl
  have FBl := fun_mk (st := sBlocking) lBl cBl kBl
  have bBl := FBl.binds (ps := ["crew", "long"]) fun _ _ _ _ _ _ us hl => match us, hl with | [_, _], _ => rfl
  have FCe := fun_mk (st := sCell) lCe cCe kCe
  have bCe := FCe.binds (ps := ["_law_script", "_law_k"]) fun _ _ _ _ _ _ us hl => match us, hl with | [_, _], _ => rfl
  have FPu := fun_mk (st := sPurse) lPu cPu kPu
  have bPu := FPu.binds (ps := ["_law_cell_here"]) fun _ _ _ _ _ _ us hl => match us, hl with | [_], _ => rfl
  have FTa := fun_mk (st := sTake) lTa cTa kTa
  have bTa := FTa.binds (ps := ["_law_purse_here", "_law_many"]) fun _ _ _ _ _ _ us hl => match us, hl with | [_, _], _ => rfl
  have FWo := fun_mk (st := sWords) lWo cWo kWo
  have bWo := FWo.binds (ps := ["_law_purse_here", "_law_many"]) fun _ _ _ _ _ _ us hl => match us, hl with | [_, _], _ => rfl
  have FHo := fun_mk (st := sHoldsL) lHo cHo kHo
  have bHo := FHo.binds (ps := ["_law_purse_here", "_law_cost", "_law_tools"]) fun _ _ _ _ _ _ us hl => match us, hl with | [_, _, _], _ => rfl
  have FTk := fun_mk (st := sTaskL) lTk cTk kTk
  have bTk := FTk.binds (ps := ["_law_purse_here", "_law_name", "_law_many", "_law_tools"]) fun _ _ _ _ _ _ us hl => match us, hl with | [_, _, _, _], _ => rfl
  have FDo := fun_mk (st := sDoorL) lDo cDo kDo
  have bDo := FDo.binds (ps := ["_law_purse_here", "_law_name", "_law_many"]) fun _ _ _ _ _ _ us hl => match us, hl with | [_, _, _], _ => rfl
  have FRw := fun_mk (st := sRowsL) lRw cRw kRw
  have bRw := FRw.binds (ps := ["_law_purse_here", "_law_least", "_law_top", "_law_tools", "_law_doors"]) fun _ _ _ _ _ _ us hl => match us, hl with | [_, _, _, _, _], _ => rfl
  have FMe := fun_mk (st := sMember) lMe cMe kMe
  have bMe := FMe.binds (ps := ["_law_row"]) fun _ _ _ _ _ _ us hl => match us, hl with | [_], _ => rfl
  have FCw := fun_mk (st := sCrewL) lCw cCw kCw
  have bCw := FCw.binds (ps := ["_law_rows_here"]) fun _ _ _ _ _ _ us hl => match us, hl with | [_], _ => rfl
  have FDl := fun_mk (st := sDueL) lDl cDl kDl
  have bDl := FDl.binds (ps := ["_law_row"]) fun _ _ _ _ _ _ us hl => match us, hl with | [_], _ => rfl
  have FLl := fun_mk (st := sLevelL) lLl cLl kLl
  have bLl := FLl.binds (ps := ["_law_rows_here", "_law_tool"]) fun _ _ _ _ _ _ us hl => match us, hl with | [_, _], _ => rfl
  have FHl := fun_mk (st := sHeldL) lHl cHl kHl
  have bHl := FHl.binds (ps := ["_law_row", "_law_done"]) fun _ _ _ _ _ _ us hl => match us, hl with | [_, _], _ => rfl
  have FBk := fun_mk (st := sBlocked) lBk cBk kBk
  have bBk := FBk.binds (ps := ["_law_rows_here", "_law_size"]) fun _ _ _ _ _ _ us hl => match us, hl with | [_, _], _ => rfl
  have FDb := fun_mk (st := sDoubled) lDb cDb kDb
  have bDb := FDb.binds (ps := ["_law_purse_here", "_law_rows_here"]) fun _ _ _ _ _ _ us hl => match us, hl with | [_, _], _ => rfl
  have FLn := fun_mk (st := sLongL) lLn cLn kLn
  have bLn := FLn.binds (ps := ["_law_purse_here", "_law_rows_here"]) fun _ _ _ _ _ _ us hl => match us, hl with | [_, _], _ => rfl
  have FRi := fun_mk (st := sRightL) lRi cRi kRi
  have bRi := FRi.binds (ps := ["_law_rows_here", "_law_size"]) fun _ _ _ _ _ _ us hl => match us, hl with | [_, _], _ => rfl
  have FLa := fun_mk (st := sLaw) lLa cLa kLa
  have FId := fun_mk (st := sDInit) lId cId kId
  have bId := FId.binds (ps := ["self", "name", "room", "gap"]) fun _ _ _ _ _ _ us hl => match us, hl with | [_, _, _, _], _ => rfl
  have FHe := fun_mk (st := sHeld) lHe cHe kHe
  have bHe := FHe.binds (ps := ["self", "done"]) fun _ _ _ _ _ _ us hl => match us, hl with | [_, _], _ => rfl
  have FLv := fun_mk (st := sLevel) lLv cLv kLv
  have bLv := FLv.binds (ps := ["self", "tool"]) fun _ _ _ _ _ _ us hl => match us, hl with | [_, _], _ => rfl
  have FI : FunI K e0 fIn _ := ⟨⟨_, _, _, _, _, _, _, _, _, _, rfl, lIn, cIn, .inl ⟨rfl, rfl⟩, .inr ⟨DI, rfl, fun q hq => by
    rcases List.mem_cons.mp hq with rfl | hq
    · exact ⟨_, q1, rfl⟩
    · rw [List.mem_singleton.mp hq]
      exact ⟨_, q2, rfl⟩⟩⟩, kIn⟩
  have hE : ∀ H : Hp, SqT K H e0 [] := fun H => .inr ⟨_, #[], _, q3, rfl, rfl, Nat.zero_le _, .nil⟩
  have FC : FunCI K e1 fIc _ := ⟨⟨_, _, _, _, _, _, _, _, _, _, rfl, lIc, cIc, .inr ⟨by simp, DT0, _, [.ref e1], _, rfl, q4, rfl, .cons rfl .nil⟩, .inl rfl⟩, kIc⟩
  have T : TaskC K mg CT := ⟨⟨t_pg, t_hd, t_po, t_sa⟩, t_nN, t_nC, t_nG, t_nD, t_nH, PySem.W.mg_of X G at_, t_tc, tg, tt, t_tm, kit_self⟩
  have TD : DoorC K mg CD := ⟨⟨d_pg, d_hd, d_po, d_sa⟩, d_nN, d_nR, d_nG, PySem.W.mg_of X G ad_, d_tc, tg, tt, d_tm⟩
  have TC : CrewC K mg CC := ⟨⟨c_pg, c_hd, c_po, c_sa⟩, c_nM, PySem.W.mg_of X G ac_, c_tc, tg, tt, c_tm⟩
  have M : MemC K mg CT CD := ⟨T, TD, kaT, kaD, kit_self, koD⟩
  have MT : Mk K CT fIn := ⟨t_mk, aIn, iIn, t_kc⟩
  have MD : Mk K CD fId := ⟨d_mk, aId, iId, d_kc⟩
  have MC : Mk K CC fIc := ⟨c_mk, aIc, iIc, c_kc⟩
  refine ⟨PySem.W.fnOf "law" "law" (defArgs sLaw) (defBody sLaw) (defScope sLaw) .none kVLa dcLa pmLa anLa cdLa ctLa, fun s v => .of_eq rfl, fun base _ _ => ?_⟩
  have DU : Dn l.prog w K mg base 1 "is_number" ["thing"] (spNumber K) := ⟨_, _, ok_number FNu m_isinstance m_int m_bool, PySem.W.mg_of X G aNu, kNu, bNu⟩
  have DW : Dn l.prog w K mg base 2 "is_whole" ["thing", "least", "most"] (spWhole K) := ⟨_, _, ok_whole FWh DU, PySem.W.mg_of X G aWh, kWh, bWh⟩
  have DN : Dn l.prog w K mg base 2 "is_name" ["thing"] (spName K) := ⟨_, _, ok_name FNm m_isinstance m_str m_len m_all ⟨_, PySem.W.mg_of X G v2⟩ ⟨_, PySem.W.mg_of X G v1⟩, PySem.W.mg_of X G aNm, kNm, bNm⟩
  have DHd : Dn l.prog w K mg base 3 "is_hold" ["thing", "cost"] (spHold K) := ⟨_, _, ok_hold FHd m_isinstance m_tuple m_len DN DW, PySem.W.mg_of X G aHd, kHd, bHd⟩
  have DA : Dn l.prog w K mg base 2 "goes_ahead" ["hold", "other"] (spAhead K) := ⟨_, _, ok_ahead FAh, PySem.W.mg_of X G aAh, kAh, bAh⟩
  have DHs : Dn l.prog w K mg base 4 "are_holds" ["thing", "cost"] (spHolds K) := ⟨_, _, ok_holds FHs m_isinstance m_tuple m_len m_all m_zip ⟨_, PySem.W.mg_of X G v5⟩ DHd DA, PySem.W.mg_of X G aHs, kHs, bHs⟩
  have DWT : Dn l.prog w K mg base 5 "wrong_in_task" ["name", "cost", "gap", "due", "holds"] (spWrongT K) := ⟨_, _, ok_wrongT FWT ⟨_, PySem.W.mg_of X G v3⟩ ⟨_, PySem.W.mg_of X G v4⟩ DN DW DHs, PySem.W.mg_of X G aWT, kWT, bWT⟩
  have DWD : Dn l.prog w K mg base 3 "wrong_in_door" ["name", "room", "gap"] spWrongD := ⟨_, _, ok_wrongD FWD ⟨_, PySem.W.mg_of X G v3⟩ ⟨_, PySem.W.mg_of X G v4⟩ DN DW, PySem.W.mg_of X G aWD, kWD, bWD⟩
  have DIm : Dn l.prog w K mg base 3 "is_member" ["thing"] (spIsMem K CT CD) := ⟨_, _, ok_isMem FIm M m_isinstance, PySem.W.mg_of X G aIm, kIm, bIm⟩
  have DAm : Dn l.prog w K mg base 4 "are_members" ["thing"] (spAreMem K CT CD) := ⟨_, _, ok_areMem FAm m_isinstance m_tuple m_len m_all ⟨_, PySem.W.mg_of X G v6⟩ DIm, PySem.W.mg_of X G aAm, kAm, bAm⟩
  have DTw : Dn l.prog w K mg base 3 "name_twice" ["members"] (spTwice K CT CD) := ⟨_, _, ok_twice FTw M, PySem.W.mg_of X G aTw, kTw, bTw⟩
  have DCe : Dn l.prog w K mg base 3 "_law_cell" ["_law_script", "_law_k"] (spCellL K) := ⟨_, _, ok_cell FCe m_len, PySem.W.mg_of X G aCe, kCe, bCe⟩
  have DPu : Dn l.prog w K mg base 3 "_law_purse" ["_law_cell_here"] spPurse := ⟨_, _, ok_purse FPu m_abs, PySem.W.mg_of X G aPu, kPu, bPu⟩
  have DTa : Dn l.prog w K mg base 3 "_law_take" ["_law_purse_here", "_law_many"] spTake := ⟨_, _, ok_take FTa, PySem.W.mg_of X G aTa, kTa, bTa⟩
  have MM : MemM l.prog w K mg base CT CD := ⟨M, ⟨e0, fIn, _, FI, MT, ok_init FI T DWT, hE⟩, ⟨fId, _, bId, MD, ok_dinit FId TD DWD⟩⟩
  have CM' : CrewM l.prog w K mg base CT CD CC := ⟨M, TC, fIc, _, MC, ok_cinit FC TC DAm DTw, kc1 FC⟩
  have DWo : Dn l.prog w K mg base 4 "_law_words" ["_law_purse_here", "_law_many"] spWords := ⟨_, _, ok_words FWo m_len m_range DTa, PySem.W.mg_of X G aWo, kWo, bWo⟩
  have DHo : Dn l.prog w K mg base 4 "_law_holds" ["_law_purse_here", "_law_cost", "_law_tools"] (spHoldsL K) := ⟨_, _, ok_holdsL FHo m_len m_sorted m_tuple DTa, PySem.W.mg_of X G aHo, kHo, bHo⟩
  have DTk : Dn l.prog w K mg base 5 "_law_task" ["_law_purse_here", "_law_name", "_law_many", "_law_tools"] (spTaskL K) := ⟨_, _, ok_taskL FTk m_max m_min DTa DHo, PySem.W.mg_of X G aTk, kTk, bTk⟩
  have DDo : Dn l.prog w K mg base 4 "_law_door" ["_law_purse_here", "_law_name", "_law_many"] (spDoorL K) := ⟨_, _, ok_doorL FDo m_max m_min m_int DTa, PySem.W.mg_of X G aDo, kDo, bDo⟩
  have DRw : Dn l.prog w K mg base 6 "_law_rows" ["_law_purse_here", "_law_least", "_law_top", "_law_tools", "_law_doors"] (spRowsL K) := ⟨_, _, ok_rowsL FRw m_range DTa DWo DDo DTk, PySem.W.mg_of X G aRw, kRw, bRw⟩
  have DMe : Dn l.prog w K mg base 8 "_law_member" ["_law_row"] (spMember K CT CD) := ⟨_, _, ok_member FMe MM, PySem.W.mg_of X G aMe, kMe, bMe⟩
  have DCw : Dn l.prog w K mg base 9 "_law_crew" ["_law_rows_here"] (spCrewL K CT CD CC) := ⟨_, _, ok_crewL FCw CM' m_tuple DMe, PySem.W.mg_of X G aCw, kCw, bCw⟩
  have DMu : Dn l.prog w K mg base 3 "must_be_whole" ["thing", "least", "most"] spMustW := ⟨_, _, ok_mustW FMu DW, PySem.W.mg_of X G aMu, kMu, bMu⟩
  have DMC : Dn l.prog w K mg base 3 "must_be_crew" ["thing"] (spMustC K CT CD CC) := ⟨_, _, ok_mustC FMC TC m_isinstance kit_self, PySem.W.mg_of X G aMC, kMC, bMC⟩
  have mHe : Meth K CT "held" fHe := ⟨aHe, iHe, kHe⟩
  have mLv : Meth K CC "level" fLv := ⟨aLv, iLv, kLv⟩
  have DLo : Dn l.prog w K mg base 4 "levels_of" ["crew"] (spLevels K CT CD CC) := ⟨_, _, ok_levels FLo M TC m_isinstance mLv (ok_level FLv M TC m_isinstance m_min DN) bLv, PySem.W.mg_of X G aLo, kLo, bLo⟩
  have DLg : Dn l.prog w K mg base 5 "longest_hold" ["task", "levels", "most"] (spLongest K CT) := ⟨_, _, ok_longest FLg T m_range m_any mHe (ok_held FHe T m_tuple DMu) bHe, PySem.W.mg_of X G aLg, kLg, bLg⟩
  have OBl := ok_blocking (P := l.prog) (w := w) (base := base) FBl M TC m_isinstance ⟨_, PySem.W.mg_of X G v7⟩ DMu DMC DLo DLg
  have DBl : Dn l.prog w K mg base 6 "blocking" ["crew", "long"] (spBlocking K CT CD CC) := ⟨_, _, OBl, PySem.W.mg_of X G aBl, kBl, bBl⟩
  have DKb : DnK l.prog w K mg base 6 "blocking" ["crew", "long"] (spBlocking K CT CD CC) 0 ["long", "crew"] (fun us ws => us ++ (one ws 1 ++ one ws 0)) := ⟨_, _, _, OBl, PySem.W.mg_of X G aBl, kBl, kBlo FBl⟩
  have DDl : Dn l.prog w K mg base 3 "_law_due" ["_law_row"] (spDueL K) := ⟨_, _, ok_dueL FDl, PySem.W.mg_of X G aDl, kDl, bDl⟩
  have DLl : Dn l.prog w K mg base 3 "_law_level" ["_law_rows_here", "_law_tool"] (spLevelL K) := ⟨_, _, ok_levelL FLl m_min, PySem.W.mg_of X G aLl, kLl, bLl⟩
  have DHl : Dn l.prog w K mg base 3 "_law_held" ["_law_row", "_law_done"] (spHeldL K) := ⟨_, _, ok_heldL FHl m_sorted m_set, PySem.W.mg_of X G aHl, kHl, bHl⟩
  have DBk : Dn l.prog w K mg base 4 "_law_blocked" ["_law_rows_here", "_law_size"] (spBlocked K) := ⟨_, _, ok_blocked FBk m_range m_int m_min DLl DHl, PySem.W.mg_of X G aBk, kBk, bBk⟩
  have DDb : Dn l.prog w K mg base 5 "_law_doubled" ["_law_purse_here", "_law_rows_here"] (spDoubled K) := ⟨_, _, ok_doubled FDb m_len m_list DTa DWo, PySem.W.mg_of X G aDb, kDb, bDb⟩
  have DLn : Dn l.prog w K mg base 5 "_law_long" ["_law_purse_here", "_law_rows_here"] (spDoubled K) := ⟨_, _, ok_longL FLn m_sorted m_set m_int DTa DHo, PySem.W.mg_of X G aLn, kLn, bLn⟩
  have DRi : Dn l.prog w K mg base 10 "_law_right" ["_law_rows_here", "_law_size"] (spRightL K) := ⟨_, _, ok_rightL FRi m_isinstance m_tuple m_bool m_len DBl DCw DBk, PySem.W.mg_of X G aRi, kRi, bRi⟩
  exact ok_law FLa m_range m_max m_min m_len m_list m_all DCe DPu DTa DRw DLn DDb DCw DDl DRi DBl DBk DKb
end Du

set_option Elab.async false
set_option linter.all false
open PySem PySem.W PyProof.Rows
set_option maxRecDepth 100000 in
set_option maxHeartbeats 0 in
theorem PySem.Challenge.cw_duetimes_k33_blocking_by_walking_holds : PySem.Challenge.rw_duetimes_k33_blocking_by_walking.Holds := by
  w_on; o_law; k_head; (case hw => w_witness2)
  k_fill
  refine Du.walk_at (l := PySem.Challenge.rw_duetimes_k33_blocking_by_walking) (n := 63) (x := "_law_script") (sp := fun w => Du.spLaw _) rfl (by decide) rfl (fun w h Y => PySem.W.kIn_of Y) ?F (fun _ _ a ns hl hS => ⟨a, ns, rfl, hS, fun _ => rfl⟩)
  case F =>
    intro w mg fa h KX G hmg
    refine' Du.all_mk KX G hmg ?aNu ?lNu ?cNu ?kNu ?aWh ?lWh ?cWh ?kWh ?aNm ?lNm ?cNm ?kNm ?aHd ?lHd ?cHd ?kHd ?aAh ?lAh ?cAh ?kAh ?aHs ?lHs ?cHs ?kHs ?aWT ?lWT ?cWT ?kWT ?aWD ?lWD ?cWD ?kWD ?aMu ?lMu ?cMu ?kMu ?aIm ?lIm ?cIm ?kIm ?aAm ?lAm ?cAm ?kAm ?aTw ?lTw ?cTw ?kTw ?aMC ?lMC ?cMC ?kMC ?aLo ?lLo ?cLo ?kLo ?aLg ?lLg ?cLg ?kLg ?aBl ?lBl ?cBl ?kBl ?aCe ?lCe ?cCe ?kCe ?aPu ?lPu ?cPu ?kPu ?aTa ?lTa ?cTa ?kTa ?aWo ?lWo ?cWo ?kWo ?aHo ?lHo ?cHo ?kHo ?aTk ?lTk ?cTk ?kTk ?aDo ?lDo ?cDo ?kDo ?aRw ?lRw ?cRw ?kRw ?aMe ?lMe ?cMe ?kMe ?aCw ?lCw ?cCw ?kCw ?aDl ?lDl ?cDl ?kDl ?aLl ?lLl ?cLl ?kLl ?aHl ?lHl ?cHl ?kHl ?aBk ?lBk ?cBk ?kBk ?aDb ?lDb ?cDb ?kDb ?aLn ?lLn ?cLn ?kLn ?aRi ?lRi ?cRi ?kRi ?aLa ?lLa ?cLa ?kLa ?tg ?tt ?at_ ?t_pg ?t_hd ?t_po ?t_sa ?t_mk ?t_kc ?t_nN ?t_nC ?t_nG ?t_nD ?t_nH ?t_tc ?t_tm ?aIn ?lIn ?cIn ?kIn ?iIn ?q1 ?q2 ?q3 ?ad_ ?d_pg ?d_hd ?d_po ?d_sa ?d_mk ?d_kc ?d_nN ?d_nR ?d_nG ?d_tc ?d_tm ?aId ?lId ?cId ?kId ?iId ?aHe ?lHe ?cHe ?kHe ?iHe ?ac_ ?c_pg ?c_hd ?c_po ?c_sa ?c_mk ?c_kc ?c_nM ?c_tc ?c_tm ?aIc ?lIc ?cIc ?kIc ?iIc ?q4 ?aLv ?lLv ?cLv ?kLv ?iLv ?v1 ?v2 ?v3 ?v4 ?v5 ?v6 ?v7 ?kaT ?kaD ?koD ?koT ?z_isinstance ?z_int ?z_bool ?z_str ?z_tuple ?z_len ?z_all ?z_zip ?z_range ?z_abs ?z_max ?z_min ?z_sorted ?z_list ?z_set ?z_any
    (case aNu => k_is)
    (case lNu => k_is)
    (case cNu => k_is)
    (case kNu => k_is)
    (case aWh => k_is)
    (case lWh => k_is)
    (case cWh => k_is)
    (case kWh => k_is)
    (case aNm => k_is)
    (case lNm => k_is)
    (case cNm => k_is)
    (case kNm => k_is)
    (case aHd => k_is)
    (case lHd => k_is)
    (case cHd => k_is)
    (case kHd => k_is)
    (case aAh => k_is)
    (case lAh => k_is)
    (case cAh => k_is)
    (case kAh => k_is)
    (case aHs => k_is)
    (case lHs => k_is)
    (case cHs => k_is)
    (case kHs => k_is)
    (case aWT => k_is)
    (case lWT => k_is)
    (case cWT => k_is)
    (case kWT => k_is)
    (case aWD => k_is)
    (case lWD => k_is)
    (case cWD => k_is)
    (case kWD => k_is)
    (case aMu => k_is)
    (case lMu => k_is)
    (case cMu => k_is)
    (case kMu => k_is)
    (case aIm => k_is)
    (case lIm => k_is)
    (case cIm => k_is)
    (case kIm => k_is)
    (case aAm => k_is)
    (case lAm => k_is)
    (case cAm => k_is)
    (case kAm => k_is)
    (case aTw => k_is)
    (case lTw => k_is)
    (case cTw => k_is)
    (case kTw => k_is)
    (case aMC => k_is)
    (case lMC => k_is)
    (case cMC => k_is)
    (case kMC => k_is)
    (case aLo => k_is)
    (case lLo => k_is)
    (case cLo => k_is)
    (case kLo => k_is)
    (case aLg => k_is)
    (case lLg => k_is)
    (case cLg => k_is)
    (case kLg => k_is)
    (case aBl => k_is)
    (case lBl => k_is)
    (case cBl => k_is)
    (case kBl => k_is)
    (case aCe => k_is)
    (case lCe => k_is)
    (case cCe => k_is)
    (case kCe => k_is)
    (case aPu => k_is)
    (case lPu => k_is)
    (case cPu => k_is)
    (case kPu => k_is)
    (case aTa => k_is)
    (case lTa => k_is)
    (case cTa => k_is)
    (case kTa => k_is)
    (case aWo => k_is)
    (case lWo => k_is)
    (case cWo => k_is)
    (case kWo => k_is)
    (case aHo => k_is)
    (case lHo => k_is)
    (case cHo => k_is)
    (case kHo => k_is)
    (case aTk => k_is)
    (case lTk => k_is)
    (case cTk => k_is)
    (case kTk => k_is)
    (case aDo => k_is)
    (case lDo => k_is)
    (case cDo => k_is)
    (case kDo => k_is)
    (case aRw => k_is)
    (case lRw => k_is)
    (case cRw => k_is)
    (case kRw => k_is)
    (case aMe => k_is)
    (case lMe => k_is)
    (case cMe => k_is)
    (case kMe => k_is)
    (case aCw => k_is)
    (case lCw => k_is)
    (case cCw => k_is)
    (case kCw => k_is)
    (case aDl => k_is)
    (case lDl => k_is)
    (case cDl => k_is)
    (case kDl => k_is)
    (case aLl => k_is)
    (case lLl => k_is)
    (case cLl => k_is)
    (case kLl => k_is)
    (case aHl => k_is)
    (case lHl => k_is)
    (case cHl => k_is)
    (case kHl => k_is)
    (case aBk => k_is)
    (case lBk => k_is)
    (case cBk => k_is)
    (case kBk => k_is)
    (case aDb => k_is)
    (case lDb => k_is)
    (case cDb => k_is)
    (case kDb => k_is)
    (case aLn => k_is)
    (case lLn => k_is)
    (case cLn => k_is)
    (case kLn => k_is)
    (case aRi => k_is)
    (case lRi => k_is)
    (case cRi => k_is)
    (case kRi => k_is)
    (case aLa => k_is)
    (case lLa => k_is)
    (case cLa => k_is)
    (case kLa => k_is)
    (case tg => k_is)
    (case tt => k_is)
    (case at_ => k_is)
    (case t_pg => k_is)
    (case t_hd => k_is)
    (case t_po => k_is)
    (case t_sa => k_is)
    (case t_mk => k_is)
    (case t_kc => k_is)
    (case t_nN => k_is)
    (case t_nC => k_is)
    (case t_nG => k_is)
    (case t_nD => k_is)
    (case t_nH => k_is)
    (case t_tc => k_is)
    (case t_tm => k_is)
    (case aIn => k_is)
    (case lIn => k_is)
    (case cIn => k_is)
    (case kIn => k_is)
    (case iIn => k_is)
    (case q1 => k_is)
    (case q2 => k_is)
    (case q3 => k_is)
    (case ad_ => k_is)
    (case d_pg => k_is)
    (case d_hd => k_is)
    (case d_po => k_is)
    (case d_sa => k_is)
    (case d_mk => k_is)
    (case d_kc => k_is)
    (case d_nN => k_is)
    (case d_nR => k_is)
    (case d_nG => k_is)
    (case d_tc => k_is)
    (case d_tm => k_is)
    (case aId => k_is)
    (case lId => k_is)
    (case cId => k_is)
    (case kId => k_is)
    (case iId => k_is)
    (case aHe => k_is)
    (case lHe => k_is)
    (case cHe => k_is)
    (case kHe => k_is)
    (case iHe => k_is)
    (case ac_ => k_is)
    (case c_pg => k_is)
    (case c_hd => k_is)
    (case c_po => k_is)
    (case c_sa => k_is)
    (case c_mk => k_is)
    (case c_kc => k_is)
    (case c_nM => k_is)
    (case c_tc => k_is)
    (case c_tm => k_is)
    (case aIc => k_is)
    (case lIc => k_is)
    (case cIc => k_is)
    (case kIc => k_is)
    (case iIc => k_is)
    (case q4 => k_is)
    (case aLv => k_is)
    (case lLv => k_is)
    (case cLv => k_is)
    (case kLv => k_is)
    (case iLv => k_is)
    (case v1 => k_is)
    (case v2 => k_is)
    (case v3 => k_is)
    (case v4 => k_is)
    (case v5 => k_is)
    (case v6 => k_is)
    (case v7 => k_is)
    (case kaT => kit_is)
    (case kaD => kit_is)
    (case koD => kit_is)
    (case koT => kit_is)
    (case z_isinstance => k_is)
    (case z_int => k_is)
    (case z_bool => k_is)
    (case z_str => k_is)
    (case z_tuple => k_is)
    (case z_len => k_is)
    (case z_all => k_is)
    (case z_zip => k_is)
    (case z_range => k_is)
    (case z_abs => k_is)
    (case z_max => k_is)
    (case z_min => k_is)
    (case z_sorted => k_is)
    (case z_list => k_is)
    (case z_set => k_is)
    (case z_any => k_is)

