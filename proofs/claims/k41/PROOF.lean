import PyProof.Rows.All
import Wide.All
import OpenK.AllK
import Wide.FinOn
import HandS.ForMost
import HandS.ForExc
import HandS.IsInst
import HandS.OwnEq
import HandS.Style
import HandS.Flow
import HandS.Walk
import HandS.Zip
import HandS.TupAny
import HandS.Conv
import HandS.MakeKwOnly
import HandS.ExcInit
import HandS.ExcSuper
import KE.KExcSuper
import HandS.ExcCtx
import KE.KTryMore
import HandS.HotCalls
import KE.KExcIs
import OpenK.KOps
import PyProof.ReprReads
import HandS.FStr
import HandS.Iter
import HandS.TryOnly
import PyProof.ReprLen
import KE.RegKIsAll
import KE.RegKSuper
import PySem.Challenge.RW_duetimes_k41_rooms_by_their_rule
set_option Elab.async false
set_option linter.all false
set_option maxRecDepth 100000
namespace Du
open PySem L2
def topS (i : Nat) : Stmt := PySem.Challenge.pw_duetimes_k41_rooms_by_their_rule.main.body.getD i (.Pass ⟨0, 0, 0, 0⟩)
abbrev sNumber : Stmt := topS 15
abbrev sWhole : Stmt := topS 16
abbrev sName : Stmt := topS 18
/-- a def by its name -/
structure Dn (P : Program) (w : World) (K : PySem.W.Frag) (mg : Str → Option Value) (base : Heap) (k : Nat) (x : Str) (ps : List Str) (sp : Sp) : Prop where
  ex : ∃ (f : Addr) (fd : FuncData), FnOk P w K mg base CX0 k f fd ps sp ∧ mg x = some (.ref f) ∧ PySem.W.keepIn K (.ref f) = true ∧ Binds K fd ps []
theorem pcall {X : Cx} {k : Nat} {x : Str} {ps : List Str} {sp : Sp} {p pos : Pos} {e : Expr} {es : List Expr} {t : TA} (D : Dn X.prog X.w X.K X.mg X.base k x ps sp) (hr : Room k X.A) (hg : Gl X x) (ha : PA X (e :: es) t)
    (hdb : (x == ("__debug__" : Str)) = false := by decide) (he : starEach (e :: es) X.env = (false, eval e X.env) :: starEach es X.env := by rfl) (hpl : (backTo pos (starEach es X.env)).any (·.1) = false := by rfl) :
    PE X (.Call (.Name x p) (e :: es) [] pos) (tCall sp [] E0 t) := by
  obtain ⟨f, fd, F, hm, hk, hb⟩ := D.ex
  exact pe_call F hr hg hm hk hb .nil pass0 ha hdb he hpl
theorem Dn.mono {P : Program} {w : World} {K : PySem.W.Frag} {mg : Str → Option Value} {base : Heap} {j k : Nat} {x : Str} {ps : List Str} {sp : Sp} (D : Dn P w K mg base j x ps sp) (h : j ≤ k) : Dn P w K mg base k x ps sp := by
  obtain ⟨f, fd, F, hm, hk, hb⟩ := D.ex
  exact ⟨f, fd, F.mono h, hm, hk, hb⟩
section
variable {P : Program} {w : World} {K : PySem.W.Frag} {mg : Str → Option Value} {base : Heap}
/-! is_number -/
theorem scNumber : FnScope ["thing"] ["thing"] (defScope sNumber) := ⟨rfl, rfl, rfl, by decide +kernel, rfl, by decide +kernel, by decide +kernel⟩
def spNumber (K : PySem.W.Frag) : Sp := fun vs H Q _ => ∃ x : V, vs = [x] ∧
  ((∃ i : Int, x = .int i ∧ Q (.bl true) H) ∨ (∃ b : Bool, x = .bl b ∧ Q (.bl false) H) ∨ (∃ t, TyX K H x t ∧ PySem.W.kitOne K t (.type "int") = some false ∧ Q (.bl false) H))
theorem ok_number {f : Addr} {fd : FuncData} (F : Fun K "is_number" "is_number" sNumber f fd) (mI : mg "isinstance" = none) (mi : mg "int" = none) (mb : mg "bool" = none) :
    FnOk P w K mg base CX0 1 f fd ["thing"] (spNumber K) := by
  refine F.ok scNumber (fun vs H Q E h => ?_) (fun cdv A outer s H vs Q E hr h => ?_)
  · obtain ⟨x, rfl, _⟩ := h
    rfl
  · obtain ⟨x, rfl, h⟩ := h
    refine ⟨_, pss_one (ps_ret (pe_and (pe_callB call_isi (by rfl) mI (by decide +kernel) (pa_cons (pv 0) (pa_cons (pe_bltn (v := .ty "int") (by rfl) mi (by decide +kernel) rfl) pa_nil)))
      (pe_one (pe_not (pe_callB call_isi (by rfl) mI (by decide +kernel) (pa_cons (pv 0) (pa_cons (pe_bltn (v := .ty "bool") (by rfl) mb (by decide +kernel) rfl) pa_nil))))))), ?_⟩
    rcases h with ⟨i, rfl, q⟩ | ⟨b, rfl, q⟩ | ⟨t, ht, ht2, q⟩
    · refine ⟨_, rfl, _, _, _, _, true, rfl, .ty "int", .base (.int _), kit_ty (by decide +kernel), true, rfl, ?_⟩
      exact iteT ⟨_, rfl, _, _, _, _, false, rfl, .ty "bool", .base (.int _), kit_ty (by decide +kernel), false, rfl, q⟩
    · refine ⟨_, rfl, _, _, _, _, true, rfl, .ty "int", .base (.bl _), kit_ty (by decide +kernel), true, rfl, ?_⟩
      exact iteT ⟨_, rfl, _, _, _, _, true, rfl, .ty "bool", .base (.bl _), kit_ty (by decide +kernel), true, rfl, q⟩
    · refine ⟨_, rfl, _, _, _, _, false, rfl, .ty "int", ht, ht2, false, rfl, ?_⟩
      exact iteF q
/-! is_whole -/
theorem scWhole : FnScope ["thing", "least", "most"] ["thing", "least", "most"] (defScope sWhole) := ⟨rfl, rfl, rfl, by decide +kernel, rfl, by decide +kernel, by decide +kernel⟩
def spWhole (K : PySem.W.Frag) : Sp := fun vs H Q _ => ∃ (x : V) (lo hi : Int), vs = [x, .int lo, .int hi] ∧
  ((∃ i : Int, x = .int i ∧ Q (.bl (decide (lo ≤ i) && decide (i ≤ hi))) H) ∨ (∃ b : Bool, x = .bl b ∧ Q (.bl false) H) ∨ (∃ t, TyX K H x t ∧ PySem.W.kitOne K t (.type "int") = some false ∧ Q (.bl false) H))
theorem ok_whole {f : Addr} {fd : FuncData} (F : Fun K "is_whole" "is_whole" sWhole f fd) (DU : Dn P w K mg base 1 "is_number" ["thing"] (spNumber K)) :
    FnOk P w K mg base CX0 2 f fd ["thing", "least", "most"] (spWhole K) := by
  refine F.ok scWhole (fun vs H Q E h => ?_) (fun cdv A outer s H vs Q E hr h => ?_)
  · obtain ⟨x, lo, hi, rfl, _⟩ := h
    rfl
  · obtain ⟨x, lo, hi, rfl, h⟩ := h
    refine ⟨_, pss_one (ps_ret (pe_and (pcall DU hr (by rfl) (pa_cons (pv 0) pa_nil)) (pe_one (pe_chain op_le op_le (pv 1) (pv 0) (pv 2))))), ?_⟩
    rcases h with ⟨i, rfl, q⟩ | ⟨b, rfl, q⟩ | ⟨t, ht, ht2, q⟩
    · refine ⟨_, rfl, _, rfl, .inl ⟨i, rfl, true, rfl, ?_⟩⟩
      refine iteT ⟨_, rfl, _, rfl, _, _, rfl, rfl, _, rfl, ?_⟩
      by_cases h1 : lo ≤ i
      · rw [decide_eq_true h1] at q ⊢
        refine iteT ⟨_, rfl, _, _, rfl, rfl, ?_⟩
        simpa using q
      · rw [decide_eq_false h1] at q ⊢
        exact iteF (by simpa using q)
    · refine ⟨_, rfl, _, rfl, .inr (.inl ⟨b, rfl, false, rfl, ?_⟩)⟩
      exact iteF q
    · refine ⟨_, rfl, _, rfl, .inr (.inr ⟨t, ht, ht2, false, rfl, ?_⟩)⟩
      exact iteF q
end
end Du

set_option Elab.async false
set_option linter.all false
set_option maxRecDepth 100000
namespace Du
open PySem L2
section
variable {P : Program} {w : World} {K : PySem.W.Frag} {mg : Str → Option Value} {base : Heap}
theorem same_upd {H : Hp} {p : Addr} {o : HO} (h : H p = none) : Same H (upd H p o) := fun b x e => by
  rw [upd_ne (ne_of_none e h)]
  exact e
/-- all but one new address stays -/
theorem same_upd2 {H H1 : Hp} {p : Addr} {o : HO} (s : Same H H1) (h : H p = none) : Same H (upd H1 p o) := fun b x e => by
  rw [upd_ne (ne_of_none e h)]
  exact s _ _ e
theorem take_map1 {α β : Type} {l : List α} {i : Nat} {x : α} (f : α → β) (h : l[i]? = some x) : (l.take (i + 1)).map f = (l.take i).map f ++ [f x] := by
  rw [List.take_add_one, h, List.map_append]
  rfl
/-! is_name -/
def letters : Str := "abcdefghijklmnopqrstuvwxyz"
def isLetter (c : Nat) : Bool := decide (c ∈ letters.cps.toList)
def isNm (z : Str) : Bool := decide (1 ≤ z.length) && (decide (z.length ≤ 8) && z.cps.toList.all isLetter)
theorem scName : FnScope ["thing", "sign"] ["thing"] (defScope sName) := ⟨rfl, rfl, rfl, by decide +kernel, rfl, by decide +kernel, by decide +kernel⟩
def spName (K : PySem.W.Frag) : Sp := fun vs H Q _ => ∃ x : V, vs = [x] ∧
  ((∃ z : Str, x = .str z ∧ z.length ≤ sizeLine ∧ ∀ H', Same H H' → Q (.bl (isNm z)) H') ∨ (∃ t, TyX K H x t ∧ PySem.W.kitOne K t (.type "str") = some false ∧ Q (.bl false) H))
theorem ok_name {f : Addr} {fd : FuncData} (F : Fun K "is_name" "is_name" sName f fd) (mI : mg "isinstance" = none) (ms : mg "str" = none) (ml : mg "len" = none) (ma : mg "all" = none)
    (mM : ∃ t, mg "MOST_LETTERS" = some (.int 8 t)) (mL : ∃ t, mg "LETTERS" = some (.str letters t)) :
    FnOk P w K mg base CX0 2 f fd ["thing"] (spName K) := by
  obtain ⟨tM, mM⟩ := mM
  obtain ⟨tL, mL⟩ := mL
  refine F.ok scName (fun vs H Q E h => ?_) (fun cdv A outer s H vs Q E hr h => ?_)
  · obtain ⟨x, rfl, _⟩ := h
    rfl
  · obtain ⟨x, rfl, h⟩ := h
    refine ⟨_, pss_cons (ps_if (PW.pt (pw_or (pt_not (pt_val (pe_callB call_isi (by rfl) mI (by decide +kernel) (pa_cons (pv 0) (pa_cons (pe_bltn (v := .ty "str") (by rfl) ms (by decide +kernel) rfl) pa_nil)))))
        (pw_or1 (pt_not (pt_chain op_le op_le pe_int (pe_callB call_len_str (by rfl) ml (by decide +kernel) (pa_cons (pv 0) pa_nil)) (pe_glob (v := .int 8) rfl mM ⟨_, rfl⟩))))))
        (pss_one (ps_ret pe_bl)) pss_nil)
      (pss_one (ps_ret (pe_callB (cr_all rfl) (by rfl) ma (by decide +kernel) (pa_cons (pe_lc (own := [("sign", 1)]) (g := gName 1) (tt := tYes) rfl scName.nd (pi_str (pv 0))
        (blkOk_by (N := ["thing", "sign"]) (sc := defScope sName) (by decide +kernel)) (fun _ _ _ _ _ => pg_name (i := 1) scName.nd rfl (Or.inl rfl)) (fun _ _ _ _ _ => pts_nil)
        (fun _ _ _ _ _ => pe_cmpR op_in_sign (pv 1) (pe_glob (v := .str letters) rfl mL ⟨_, rfl⟩) (by rfl))) pa_nil)))), ?_⟩
    rcases h with ⟨z, rfl, hz, q⟩ | ⟨t, ht, ht2, q⟩
    · refine ⟨_, rfl, _, _, _, _, true, rfl, .ty "str", .base (.str _), kit_ty (by decide +kernel), true, rfl, ?_⟩
      refine iteF ⟨_, rfl, z, rfl, hz, _, _, rfl, rfl, _, rfl, ?_⟩
      by_cases h1 : 1 ≤ z.length
      · have e1 : decide ((1 : Int) ≤ ((z.length : Nat) : Int)) = true := decide_eq_true (by omega)
        rw [e1]
        refine iteT ⟨_, _, rfl, rfl, _, rfl, ?_⟩
        by_cases h2 : z.length ≤ 8
        · have e2 : decide (((z.length : Nat) : Int) ≤ 8) = true := decide_eq_true (by omega)
          rw [e2]
          refine iteF ?_
          -- the comprehension
          refine ⟨_, rfl, z, rfl, fun D nD => lc_it walk_str (fun i H' => Same H H' ∧ H' D = some (.lst ((z.cps.toList.take i).map fun c => V.bl (isLetter c)))) ⟨same_upd nD, upd_same⟩ (fun _ _ _ _ => trivial) ?_ ?_⟩
          · rintro i x H1 H2 hi ⟨s1, e⟩ ⟨rfl, c, hc, rfl⟩
            have hc' : z.cps.toList[i]? = some c := by simpa using hc
            refine ⟨rfl, _, rfl, c, letters, rfl, rfl, _, e, ?_, same_upd2 s1 nD, ?_⟩
            · rw [List.length_map, List.length_take]
              have : z.cps.toList.length = z.length := by simp [Str.length]
              have h9 : z.length < sizeLine := Nat.lt_of_le_of_lt h2 (by decide)
              omega
            · rw [upd_same, take_map1 _ hc']
              rfl
          · rintro H1 ⟨s1, e⟩
            have el : z.cps.toList.take z.cps.size = z.cps.toList := by
              rw [List.take_of_length_le]
              simp
            rw [el] at e
            refine ⟨D, z.cps.toList.map isLetter, rfl, SqL.of (by rw [e, List.map_map]; rfl), ?_⟩
            have q' := q H1 s1
            have eb : isNm z = (z.cps.toList.map isLetter).all id := by
              unfold isNm
              rw [decide_eq_true h1, decide_eq_true h2, List.all_map]
              rfl
            rw [eb] at q'
            exact q'
        · have e2 : decide (((z.length : Nat) : Int) ≤ 8) = false := decide_eq_false (by omega)
          rw [e2]
          refine iteT ?_
          have q' := q H (Same.refl _)
          unfold isNm at q'
          rw [decide_eq_false h2] at q'
          have q2 : Q (V.bl false) H := by simpa using q'
          exact q2
      · have e1 : decide ((1 : Int) ≤ ((z.length : Nat) : Int)) = false := decide_eq_false (by omega)
        rw [e1]
        refine iteF ⟨_, rfl, ?_⟩
        have q' := q H (Same.refl _)
        unfold isNm at q'
        rw [decide_eq_false h1] at q'
        have q2 : Q (V.bl false) H := by simpa using q'
        exact q2
    · refine ⟨_, rfl, _, _, _, _, false, rfl, .ty "str", ht, ht2, false, rfl, ?_⟩
      exact iteT (iteT q)
end
end Du

set_option Elab.async false
set_option linter.all false
set_option maxRecDepth 100000
namespace Du
open PySem L2
abbrev sHold : Stmt := topS 19
abbrev sAhead : Stmt := topS 20
abbrev sHolds : Stmt := topS 21
section
variable {P : Program} {w : World} {K : PySem.W.Frag} {mg : Str → Option Value} {base : Heap}
theorem tyx_tup {H : Hp} {a : Addr} {xs : List V} (h : SqT K H a xs) : TyX K H (.ref a) (.type "tuple") := by
  rcases h with (h | ⟨o, h⟩) | ⟨o, its, n, hk, hc, _⟩
  · exact .base (.tup h)
  · exact .fTuple h
  · exact .kTuple hk hc
theorem kit_tt : PySem.W.kitOne K (.type "tuple") (.type "tuple") = some true := kit_ty (by decide +kernel)
theorem walk_zipT {a b : Addr} {xs ys : List V} {n : Nat} (hn : n = min xs.length ys.length) : Walk (RZ.ItzT K a b) n (fun H => SqT K H a xs ∧ SqT K H b ys) (YPair (fun i => xs[i]?) (fun i => ys[i]?)) := by
  refine ⟨fun i H hi q => ?_, fun H q => ⟨xs, ys, q.1, q.2, by omega⟩, fun i H v H' hi q y => ?_⟩
  · exact ⟨xs, ys, xs[i]'(by omega), ys[i]'(by omega), q.1, q.2, List.getElem?_eq_getElem (by omega), List.getElem?_eq_getElem (by omega)⟩
  · obtain ⟨T, x, z, h1, h2, h3, h4, h5⟩ := y
    exact ⟨T, x, z, h1, h2, h3, h4 xs q.1, h5 ys q.2⟩
/-! is_hold -/
abbrev Hold := Str × Int × Int
def isHd (h : Hold) (cost : Int) : Bool := isNm h.1 && ((decide (0 ≤ h.2.1) && decide (h.2.1 ≤ cost)) && (decide (1 ≤ h.2.2) && decide (h.2.2 ≤ cost - h.2.1)))
def HdAt (K : PySem.W.Frag) (H : Hp) (v : V) (h : Hold) : Prop := ∃ a, v = .ref a ∧ SqT K H a [.str h.1, .int h.2.1, .int h.2.2]
theorem HdAt.same {H H' : Hp} {v : V} {h : Hold} (d : HdAt K H v h) (s : Same H H') : HdAt K H' v h := by
  obtain ⟨a, e, q⟩ := d
  exact ⟨a, e, q.ext s⟩
theorem scHold : FnScope ["thing", "cost", "tool", "start", "long"] ["thing", "cost"] (defScope sHold) := ⟨rfl, rfl, rfl, by decide +kernel, rfl, by decide +kernel, by decide +kernel⟩
def spHold (K : PySem.W.Frag) : Sp := fun vs H Q _ => ∃ (v : V) (h : Hold) (cost : Int), vs = [v, .int cost] ∧ HdAt K H v h ∧ h.1.length ≤ sizeLine ∧ ∀ H', Same H H' → Q (.bl (isHd h cost)) H'
theorem ok_hold {f : Addr} {fd : FuncData} (F : Fun K "is_hold" "is_hold" sHold f fd) (mI : mg "isinstance" = none) (mt : mg "tuple" = none) (ml : mg "len" = none)
    (DN : Dn P w K mg base 2 "is_name" ["thing"] (spName K)) (DW : Dn P w K mg base 2 "is_whole" ["thing", "least", "most"] (spWhole K)) :
    FnOk P w K mg base CX0 3 f fd ["thing", "cost"] (spHold K) := by
  refine F.ok scHold (fun vs H Q E h => ?_) (fun cdv A outer s H vs Q E hr h => ?_)
  · obtain ⟨v, h, cost, rfl, _⟩ := h
    rfl
  · obtain ⟨v, h, cost, rfl, ⟨a, rfl, hS⟩, hl, q⟩ := h
    refine ⟨_, pss_cons (ps_if (PW.pt (pw_or (pt_not (pt_val (pe_callB call_isi (by rfl) mI (by decide +kernel) (pa_cons (pv 0) (pa_cons (pe_bltn (v := .ty "tuple") (by rfl) mt (by decide +kernel) rfl) pa_nil)))))
        (pw_or1 (pt_cmpR op_ne (pe_callB call_len_seq (by rfl) ml (by decide +kernel) (pa_cons (pv 0) pa_nil)) pe_int (nomark _)))))
        (pss_one (ps_ret pe_bl)) pss_nil)
      (pss_cons (ps_asg (pv 0) (pg_tup rfl (pgs_cons (pg_name (i := 2) scHold.nd rfl (.inl rfl)) (pgs_cons (pg_name (i := 3) scHold.nd rfl (.inl rfl)) (pgs_cons (pg_name (i := 4) scHold.nd rfl (.inl rfl)) pgs_nil)))))
      (pss_one (ps_ret (pe_and (pcall DN hr (by rfl) (pa_cons (pv 2) pa_nil)) (pe_and (pcall DW hr (by rfl) (pa_cons (pv 3) (pa_cons pe_int (pa_cons (pv 1) pa_nil))))
        (pe_one (pcall DW hr (by rfl) (pa_cons (pv 4) (pa_cons pe_int (pa_cons (pe_op op_sub (pv 1) (pv 3)) pa_nil)))))))))), ?_⟩
    refine ⟨_, rfl, _, _, _, _, true, rfl, .ty "tuple", tyx_tup hS, kit_tt, true, rfl, ?_⟩
    refine ⟨_, rfl, a, _, rfl, .inr hS, rfl, _, rfl, ?_⟩
    show if (!decide ((V.int (3 : Nat)) = V.int 3)) = true then _ else _
    refine iteNS rfl ?_
    refine ⟨_, rfl, a, _, rfl, hS, rfl, _, _, rfl, _, _, rfl, _, _, rfl, rfl, ?_⟩
    -- the three questions
    refine ⟨_, rfl, _, rfl, .inl ⟨h.1, rfl, hl, fun H1 s1 => ⟨_, rfl, ?_⟩⟩⟩
    cases e1 : isNm h.1 with
    | false =>
      have q1 := q H1 s1
      unfold isHd at q1
      rw [e1] at q1
      exact q1
    | true =>
      refine ⟨_, rfl, _, rfl, _, _, _, rfl, .inl ⟨_, rfl, _, rfl, ?_⟩⟩
      cases e2 : (decide (0 ≤ h.2.1) && decide (h.2.1 ≤ cost)) with
      | false =>
        have q1 := q H1 s1
        unfold isHd at q1
        rw [e1, e2] at q1
        exact q1
      | true =>
        refine ⟨_, rfl, _, rfl, _, rfl, _, _, rfl, rfl, _, _, _, rfl, .inl ⟨_, rfl, ?_⟩⟩
        have q1 := q H1 s1
        unfold isHd at q1
        rw [e1, e2] at q1
        exact q1
/-! goes_ahead -/
def ahead (h g : Hold) : Bool := if h.1 = g.1 then decide (h.2.1 + h.2.2 ≤ g.2.1) else decide (h.1.cps.toList < g.1.cps.toList)
theorem scAhead : FnScope ["hold", "other", "tool", "start", "long"] ["hold", "other"] (defScope sAhead) := ⟨rfl, rfl, rfl, by decide +kernel, rfl, by decide +kernel, by decide +kernel⟩
def spAhead (K : PySem.W.Frag) : Sp := fun vs H Q _ => ∃ (v u : V) (h g : Hold), vs = [v, u] ∧ HdAt K H v h ∧ HdAt K H u g ∧ Q (.bl (ahead h g)) H
theorem ok_ahead {f : Addr} {fd : FuncData} (F : Fun K "goes_ahead" "goes_ahead" sAhead f fd) : FnOk P w K mg base CX0 2 f fd ["hold", "other"] (spAhead K) := by
  refine F.ok scAhead (fun vs H Q E h => ?_) (fun cdv A outer s H vs Q E hr h => ?_)
  · obtain ⟨v, u, h, g, rfl, _⟩ := h
    rfl
  · obtain ⟨v, u, h, g, rfl, ⟨a, rfl, hS⟩, ⟨b, rfl, hT⟩, q⟩ := h
    refine ⟨_, pss_cons (ps_asg (pv 0) (pg_tup rfl (pgs_cons (pg_name (i := 2) scAhead.nd rfl (.inl rfl)) (pgs_cons (pg_name (i := 3) scAhead.nd rfl (.inl rfl)) (pgs_cons (pg_name (i := 4) scAhead.nd rfl (.inl rfl)) pgs_nil)))))
      (pss_cons (ps_if (pt_cmpR op_eq (pv 2) (pe_ix ix_tup (pv 1) pe_int (fun _ _ => rfl)) (nomark _))
        (pss_one (ps_ret (pe_cmpR op_le (pe_op op_add (pv 3) (pv 4)) (pe_ix ix_tup (pv 1) pe_int (fun _ _ => rfl)) (nomark _)))) pss_nil)
      (pss_one (ps_ret (pe_cmpR op_lt_str (pv 2) (pe_ix ix_tup (pv 1) pe_int (fun _ _ => rfl)) (nomark _))))), ?_⟩
    refine ⟨_, rfl, a, _, rfl, hS, rfl, _, _, rfl, _, _, rfl, _, _, rfl, rfl, ?_⟩
    refine ⟨_, rfl, _, rfl, b, _, _, _, rfl, rfl, hT, at_of (j := 0) rfl rfl, rfl, _, rfl, ?_⟩
    by_cases hz : h.1 = g.1
    · have e1 : decide (V.str h.1 = V.str g.1) = true := decide_eq_true (by rw [hz])
      rw [e1]
      refine iteT ⟨_, rfl, _, rfl, _, _, rfl, rfl, _, rfl, b, _, _, _, rfl, rfl, hT, at_of (j := 1) rfl rfl, _, _, rfl, rfl, ?_⟩
      unfold ahead at q
      rw [if_pos hz] at q
      exact q
    · have e1 : decide (V.str h.1 = V.str g.1) = false := decide_eq_false (fun e => hz (V.str.inj e))
      rw [e1]
      refine iteF ⟨_, rfl, _, rfl, b, _, _, _, rfl, rfl, hT, at_of (j := 0) rfl rfl, _, _, rfl, rfl, ?_⟩
      unfold ahead at q
      rw [if_neg hz] at q
      exact q
end
end Du

set_option Elab.async false
set_option linter.all false
set_option maxRecDepth 100000
namespace Du
open PySem L2
section
variable {P : Program} {w : World} {K : PySem.W.Frag} {mg : Str → Option Value} {base : Heap}
/-! are_holds -/
def HdsAt (K : PySem.W.Frag) (H : Hp) (t : Addr) (hs : List Hold) : Prop := ∃ vs : List V, SqT K H t vs ∧ vs.length = hs.length ∧ ∀ (i : Nat) v h, vs[i]? = some v → hs[i]? = some h → HdAt K H v h
theorem HdsAt.same {H H' : Hp} {t : Addr} {hs : List Hold} (d : HdsAt K H t hs) (s : Same H H') : HdsAt K H' t hs := by
  obtain ⟨vs, h1, h2, h3⟩ := d
  exact ⟨vs, h1.ext s, h2, fun i v h e1 e2 => (h3 i v h e1 e2).same s⟩
def areHds (hs : List Hold) (cost : Int) : Bool := decide (hs.length ≤ 4) && (hs.all (fun h => isHd h cost) && (hs.zip (hs.drop 1)).all fun p => ahead p.1 p.2)
theorem scHolds : FnScope ["thing", "cost", "hold", "other"] ["thing", "cost"] (defScope sHolds) := ⟨rfl, rfl, rfl, by decide +kernel, rfl, by decide +kernel, by decide +kernel⟩
def spHolds (K : PySem.W.Frag) : Sp := fun vs H Q _ => ∃ (t : Addr) (hs : List Hold) (cost : Int), vs = [.ref t, .int cost] ∧ HdsAt K H t hs ∧ (∀ h ∈ hs, h.1.length ≤ sizeLine) ∧ ∀ H', Same H H' → Q (.bl (areHds hs cost)) H'
theorem cut1 (xs : List V) : cutV xs (some 1) none = xs.drop 1 := by
  unfold cutV
  rw [show HT.sIx xs.length 0 (some 1) = min 1 xs.length from HT.sIx_nat xs.length 0 1, HT.sIx_none]
  cases xs with
  | nil => rfl
  | cons x r =>
    rw [show min 1 (x :: r).length = 1 by rw [List.length_cons]; omega]
    show (List.take ((x :: r).length - 1) r) = r
    rw [List.length_cons, Nat.add_sub_cancel, List.take_length]
theorem getmem {α : Type} {l : List α} {i : Nat} {x : α} (h : l[i]? = some x) : x ∈ l := List.mem_of_getElem? h
theorem ok_holds {f : Addr} {fd : FuncData} (F : Fun K "are_holds" "are_holds" sHolds f fd) (mI : mg "isinstance" = none) (mt : mg "tuple" = none) (ml : mg "len" = none) (ma : mg "all" = none) (mz : mg "zip" = none)
    (mM : ∃ t, mg "MOST_HOLDS" = some (.int 4 t)) (DH : Dn P w K mg base 3 "is_hold" ["thing", "cost"] (spHold K)) (DA : Dn P w K mg base 2 "goes_ahead" ["hold", "other"] (spAhead K)) :
    FnOk P w K mg base CX0 4 f fd ["thing", "cost"] (spHolds K) := by
  obtain ⟨tM, mM⟩ := mM
  refine F.ok scHolds (fun vs H Q E h => ?_) (fun cdv A outer s H vs Q E hr h => ?_)
  · obtain ⟨t, hs, cost, rfl, _⟩ := h
    rfl
  · obtain ⟨t, hs, cost, rfl, ⟨vs, hS, hvl, hat⟩, hl, q⟩ := h
    have hr1 : Room 2 _ := hr.mono (by decide)
    refine ⟨_, pss_cons (ps_if (PW.pt (pw_or (pt_not (pt_val (pe_callB call_isi (by rfl) mI (by decide +kernel) (pa_cons (pv 0) (pa_cons (pe_bltn (v := .ty "tuple") (by rfl) mt (by decide +kernel) rfl) pa_nil)))))
        (pw_or1 (pt_cmpR op_gt (pe_callB call_len_seq (by rfl) ml (by decide +kernel) (pa_cons (pv 0) pa_nil)) (pe_glob (v := .int 4) rfl mM ⟨_, rfl⟩) (nomark _)))))
        (pss_one (ps_ret pe_bl)) pss_nil)
      (pss_cons (ps_if (pt_not (pt_val (pe_callB (cr_all rfl) (by rfl) ma (by decide +kernel) (pa_cons (pe_lc (own := [("hold", 2)]) (g := gName 2) (tt := tYes) rfl scHolds.nd (pi_tup (pv 0))
        (blkOk_by (N := ["thing", "cost", "hold", "other"]) (sc := defScope sHolds) (by decide +kernel)) (fun _ _ _ _ _ => pg_name (i := 2) scHolds.nd rfl (Or.inl rfl)) (fun _ _ _ _ _ => pts_nil)
        (fun _ _ _ _ _ => pcall DH hr (by rfl) (pa_cons (pv 2) (pa_cons (pv 1) pa_nil)))) pa_nil)))) (pss_one (ps_ret pe_bl)) pss_nil)
      (pss_one (ps_ret (pe_callB (cr_all rfl) (by rfl) ma (by decide +kernel) (pa_cons (pe_lc (own := [("hold", 2), ("other", 3)]) (g := gTup K 2 (gCons (gName 2) (gCons (gName 3) gNil))) (tt := tYes) rfl scHolds.nd
        (RZ.pi_zipA (by rfl) mz (pa_cons (pv 0) (pa_cons (pe_slice sl_tupA (pv 0) (po_some pe_int) po_none) pa_nil)))
        (blkOk_by (N := ["thing", "cost", "hold", "other"]) (sc := defScope sHolds) (by decide +kernel))
        (fun _ _ _ _ _ => pg_tup rfl (pgs_cons (pg_name (i := 2) scHolds.nd rfl (Or.inl rfl)) (pgs_cons (pg_name (i := 3) scHolds.nd rfl (Or.inl rfl)) pgs_nil))) (fun _ _ _ _ _ => pts_nil)
        (fun _ _ _ _ _ => pcall DA hr1 (by rfl) (pa_cons (pv 2) (pa_cons (pv 3) pa_nil)))) pa_nil))))), ?_⟩
    refine ⟨_, rfl, _, _, _, _, true, rfl, .ty "tuple", tyx_tup hS, kit_tt, true, rfl, ?_⟩
    refine ⟨_, rfl, t, _, rfl, .inr hS, _, _, rfl, rfl, _, rfl, ?_⟩
    rw [hvl]
    by_cases h4 : hs.length ≤ 4
    · have e1 : decide ((4 : Int) < ((hs.length : Nat) : Int)) = false := decide_eq_false (by omega)
      rw [e1]
      refine iteF ?_
      -- [is_hold(hold, cost) for hold in thing]
      refine ⟨_, rfl, t, rfl, ⟨vs, hS⟩, fun D nD => lc_tup (K := K) (a := t) (xs := vs) (fun i H' => Same H H' ∧ H' D = some (.lst ((hs.take i).map fun h => V.bl (isHd h cost)))) ⟨same_upd nD, upd_same⟩ (fun i H' _ z => hS.ext z.1) ?_ ?_⟩
      · rintro i x H1 hx ⟨s1, e⟩
        have hi : i < hs.length := by
          rw [← hvl]
          exact (List.getElem?_eq_some_iff.mp hx).1
        have hh : hs[i]? = some hs[i] := List.getElem?_eq_getElem hi
        refine ⟨rfl, _, rfl, _, rfl, x, hs[i], cost, rfl, (hat i x _ hx hh).same s1, hl _ (getmem hh), fun H2 s2 => ⟨_, s2 _ _ e, ?_, same_upd2 (s1.trans s2) nD, ?_⟩⟩
        · rw [List.length_map, List.length_take]
          exact Nat.lt_of_le_of_lt (Nat.min_le_right _ _) (Nat.lt_of_le_of_lt h4 (by decide))
        · rw [upd_same, take_map1 _ hh]
      · rintro H1 ⟨s1, e⟩
        rw [hvl, List.take_of_length_le (Nat.le_refl _)] at e
        refine ⟨D, hs.map (fun h => isHd h cost), rfl, SqL.of (by rw [e, List.map_map]; rfl), _, rfl, ?_⟩
        have ea : (hs.map fun h => isHd h cost).all id = hs.all fun h => isHd h cost := by
          rw [List.all_map]
          rfl
        rw [ea]
        cases eb : hs.all fun h => isHd h cost with
        | false =>
          have q1 := q H1 s1
          unfold areHds at q1
          rw [eb, decide_eq_true h4] at q1
          exact q1
        | true =>
          refine iteF ?_
          -- [goes_ahead(hold, other) for hold, other in zip(thing, thing[1:])]
          have fin : ∀ (b : Addr) (H2 : Hp), Same H H2 → SqT K H2 b (vs.drop 1) → ∀ (D : Addr), H2 D = none → ∃ W : Nat → Nat → Hp → Prop, (∃ m, W 0 m (upd H2 D (.lst []))) ∧ ∀ i m H, W i m H →
              ((RZ.ItzT K t b).stop i H ∧ rAll K [.ref D] H Q) ∨ ((RZ.ItzT K t b).go i H ∧ ∃ Nx : Hp → Prop, (∀ H', Nx H' → ∃ m', m' < m ∧ W (i + 1) m' H') ∧ ∀ x H', (RZ.ItzT K t b).yld i H x H' →
                gTup K 2 (gCons (gName 2) (gCons (gName 3) gNil)) x (wipe (L2.start ["thing", "cost", "hold", "other"] [V.ref t, V.int cost]) [2, 3]) H' fun σ2 H2 => wipe σ2 [2, 3] = wipe (L2.start ["thing", "cost", "hold", "other"] [V.ref t, V.int cost]) [2, 3] ∧ tYes σ2 H2 fun b H3 =>
                if b = true then tCall (spAhead K) [] E0 (tCons (tVar 2) (tCons (tVar 3) tNil)) σ2 H3 fun y H4 => ∃ acc, H4 D = some (.lst acc) ∧ acc.length < sizeLine ∧ Nx (upd H4 D (.lst (acc ++ [y]))) else Nx H3) := by
            intro b H2 s2 hb D2 nD2
            have hz : (hs.zip (hs.drop 1)).length = hs.length - 1 := by
              rw [List.length_zip, List.length_drop]
              omega
            refine lc_it (walk_zipT (xs := vs) (ys := vs.drop 1) (n := hs.length - 1) (by rw [List.length_drop, hvl]; omega)) (fun i H' => Same H2 H' ∧ H' D2 = some (.lst (((hs.zip (hs.drop 1)).take i).map fun p => V.bl (ahead p.1 p.2)))) ⟨same_upd nD2, upd_same⟩
              (fun i H' _ z => ⟨hS.ext (s2.trans z.1), hb.ext z.1⟩) ?_ ?_
            · rintro i x H3 H4 hi ⟨s3, e3⟩ ⟨T, x1, x2, rfl, nT, rfl, hx1, hx2⟩
              have hi1 : i < hs.length := by omega
              have hi2 : i + 1 < hs.length := by omega
              have g1 : hs[i]? = some hs[i] := List.getElem?_eq_getElem hi1
              have g2 : hs[i + 1]? = some hs[i + 1] := List.getElem?_eq_getElem hi2
              have hx2' : vs[i + 1]? = some x2 := by
                have z : (vs.drop 1)[i]? = some x2 := hx2
                rw [List.getElem?_drop, Nat.add_comm] at z
                exact z
              have sT : Same H3 (upd H3 T (.tup [x1, x2])) := same_upd nT
              have gz : (hs.zip (hs.drop 1))[i]? = some (hs[i], hs[i + 1]) := by
                rw [List.getElem?_zip_eq_some]
                refine ⟨g1, ?_⟩
                rw [List.getElem?_drop, Nat.add_comm]
                exact g2
              have s5 := (s2.trans s3).trans sT
              refine ⟨T, [x1, x2], rfl, SqT.of upd_same, rfl, x1, [x2], rfl, x2, [], rfl, rfl, rfl, _, rfl, _, rfl, x1, x2, hs[i], hs[i + 1], rfl, (hat _ _ _ hx1 g1).same s5, (hat _ _ _ hx2' g2).same s5, _, sT _ _ e3, ?_, same_upd2 (s3.trans sT) nD2, ?_⟩
              · rw [List.length_map, List.length_take]
                exact Nat.lt_of_le_of_lt (Nat.min_le_right _ _) (Nat.lt_of_le_of_lt (show _ ≤ 4 by omega) (by decide))
              · rw [upd_same, take_map1 _ gz]
            · rintro H3 ⟨s3, e3⟩
              rw [List.take_of_length_le (by omega)] at e3
              refine ⟨D2, (hs.zip (hs.drop 1)).map (fun p => ahead p.1 p.2), rfl, SqL.of (by rw [e3, List.map_map]; rfl), ?_⟩
              have q1 := q H3 (s2.trans s3)
              unfold areHds at q1
              rw [eb, decide_eq_true h4] at q1
              rw [List.all_map]
              exact q1
          refine ⟨_, rfl, _, rfl, 1, rfl, t, vs, rfl, hS.ext s1, fun hc => ?_, fun hc p np => ?_⟩
          · have e0 : vs = [] := by
              have h0 := hc.1
              rw [show HT.sIx vs.length 0 (some 1) = min 1 vs.length from HT.sIx_nat vs.length 0 1] at h0
              cases vs with
              | nil => rfl
              | cons x r =>
                rw [List.length_cons] at h0
                omega
            refine ⟨t, t, vs, vs.drop 1, rfl, .inr ⟨hS.ext s1, ?_, fin t H1 s1 ?_⟩⟩
            · rw [e0] at hS ⊢
              exact hS.ext s1
            · rw [e0] at hS ⊢
              exact hS.ext s1
          · have sp := same_upd (o := .tup (cutV vs (some 1) none)) np
            have hb : SqT K (upd H1 p (.tup (cutV vs (some 1) none))) p (vs.drop 1) := by
              rw [← cut1]
              exact SqT.of upd_same
            exact ⟨t, p, vs, vs.drop 1, rfl, .inr ⟨hS.ext (s1.trans sp), hb, fin p _ (s1.trans sp) hb⟩⟩
    · have e1 : decide ((4 : Int) < ((hs.length : Nat) : Int)) = true := decide_eq_true (by omega)
      rw [e1]
      refine iteT ?_
      have q1 := q H (Same.refl _)
      unfold areHds at q1
      rw [decide_eq_false h4] at q1
      exact q1
end
end Du

set_option Elab.async false
set_option linter.all false
set_option maxRecDepth 100000
namespace Du
open PySem L2 PyProof.Rows
section
variable {X : Cx} {CX : CXT} {k : Nat} {f C : Addr} {fd : FuncData} {ps : List Str} {sp : Sp} {pins : List (Addr × Obj)} {σ : L2.St} {H : Hp} {s : Shared}
/-- a call of an own def from somewhere below the body -/
theorem own_call {A : Around} {vs : List V} {us : List Value} {Q : VK} (F : FnOk X.prog X.w X.K X.mg X.base CX0 k f fd ps sp) (hb : Binds X.K fd ps []) (sb : Sub X k A) (I : Inv X pins σ H s) (r : Vals vs us) (h : sp vs H Q E0) :
    wpAny (model X.prog X.w) A (call (.ref f) us) (EP X pins σ Q) X.xe s := by
  have e := I.env0
  have e0 : Env0 X.prog X.w X.K X.mg X.base A X.stack s H := ⟨sb.fr.trans e.frames, e.mod, e.bs, e.bsz, e.funs, e.frf, e.hok, e.bare⟩
  have hl := F.len _ _ _ _ h
  have hu := hb s us I.kIn (by rw [List.append_nil, ← r.length, hl])
  rw [List.append_nil] at hu
  refine wpAny_call (codeAny_mono (F.run A X.stack s H ⟨us, []⟩ us vs Q E0 sb.room e0 hu r h) fun z s' hq => ?_)
  match z, hq with
  | .error _, hq => exact hq.elim
  | .ok (.ret u), hq => exact I.after hq
  | .ok .next, hq => exact hq.elim
  | .ok .brk, hq => exact hq.elim
  | .ok .cont, hq => exact hq.elim
/-- what len wants of an own __len__ -/
def rLenO (C : Addr) (sp : Sp) : List V → Hp → VK → Prop := fun xs H Q => ∃ (a dx : Addr) (fs : List (Str × V)), xs = [.ref a] ∧ H a = some (.ins C dx fs) ∧ sp [.ref a] H (fun v H' => ∃ n : Int, v = .int n ∧ 0 ≤ n ∧ n < 2 ^ 63 ∧ Q (.int n) H') E0
theorem call_lenO (F : FnOk X.prog X.w X.K X.mg X.base CX0 k f fd ps sp) (hb : Binds X.K fd ps []) (hr : Room (k + 1) X.A) (hs : PySem.W.findIn X.K (.ref C) "__len__" = some (some (.ref f))) (hf : PySem.W.isFn X.K (.ref f) = true) :
    CallR X (.builtin "len") (rLenO C sp) := by
  intro pins s σ H xs us Q I r h
  obtain ⟨a, dx, fs, rfl, ha, hsp⟩ := h
  obtain ⟨u, rfl, ru⟩ := vals1 r
  cases ru
  obtain ⟨mA, J, _⟩ := ins_get I.hok ha
  obtain ⟨od, J, _⟩ := J.look
  obtain ⟨m, hF⟩ := I.fr
  refine PySem.W.len_K hF I.ok.mod.kin J hs hf (wpAny_mono (own_call F hb ⟨hr.in1, rfl⟩ I (vs := [.ref a]) (.cons rfl .nil) hsp) (fun v s' q => ?_) fun _ _ z => z)
  obtain ⟨z, H', I', rz, n, rfl, h0, h1, q⟩ := q
  obtain ⟨t, rfl⟩ := rz
  exact ⟨⟨h0, h1⟩, .int n, H', I'.tok _, ⟨_, rfl⟩, q⟩
/-- the body of len over an own __len__ -/
theorem lenO_body {prog : Program} {w : World} {A : Around} {E : Value → Shared → Prop} {K : PySem.W.Frag} {x : Addr} {ox : Obj} {od : Option Obj} {Q : Value → Shared → Prop} (X : K.In s.heap) (I : PySem.W.InstAt s.heap x ox C od)
    (hs : PySem.W.findIn K (.ref C) "__len__" = some (some (.ref f))) (hf : PySem.W.isFn K (.ref f) = true) (h : wpAny (model prog w) A (call (.ref f) [.ref x]) (PySem.W.LenBack Q) E s) :
    wpAny (model prog w) A (Builtin.«len» ⟨[.ref x], []⟩) (fun fin s' => ∃ r, fin = .done (.ret r) ∧ Q r s') E s := by
  unfold Builtin.«len»
  refine wpAny_bind (m := oneArg "len" _) (wpAny_pure (wpAny_bind (m := callSpecial? (.ref x) (Str.ofString "__len__")) (PySem.W.special_fn X I hs (beq_iff_eq.mp hf) (wpAny_mono h (fun r s' hr => ?_) fun _ _ y => y))))
  match r, hr with
  | .int n u, ⟨⟨h0, h1⟩, hq⟩ =>
    refine wpAny_bind (wpAny_holding (wpAny_pure (wpAny_bind (wpAny_letGo ?_))))
    show wpAny _ _ (if n < 0 then _ else if n ≥ 2 ^ 63 then _ else _) _ _ _
    rw [if_neg (Int.not_lt.mpr h0), if_neg (Int.not_le.mpr h1)]; exact wpAny_bind (wpAny_mkInt (wpAny_pure ⟨_, rfl, hq⟩))
theorem truthyO {prog : Program} {w : World} {A : Around} {E : Value → Shared → Prop} {K : PySem.W.Frag} {x : Addr} {ox : Obj} {od : Option Obj} {Q : Bool → Shared → Prop} (X : K.In s.heap) (I : PySem.W.InstAt s.heap x ox C od)
    (hnb : PySem.W.findIn K (.ref C) "__bool__" = some none) (hs : PySem.W.findIn K (.ref C) "__len__" = some (some (.ref f))) (hf : PySem.W.isFn K (.ref f) = true)
    (h : wpAny (model prog w) A.in1 (call (.ref f) [.ref x]) (PySem.W.LenBack fun v s' => ∃ n t, v = .int n t ∧ Q (n != 0) s') E s) : wpAny (model prog w) A (truthy (.ref x)) Q E s := by
  have key : wpAny (model prog w) A (runValue (.builtin "len" ⟨[.ref x], []⟩)) (fun v s' => ∃ n t, v = .int n t ∧ Q (n != 0) s') E s := by
    refine wpAny_runValue (codeAny_builtin entry_len ?_)
    rw [Around.under_plainId plain_len _]
    exact wpAny_mono (lenO_body X I hs hf h) (fun fin s' h' => by obtain ⟨r, rfl, hq⟩ := h'; exact hq) fun _ _ e => e
  unfold truthy
  refine wpAny_bind (m := callSpecial? (.ref x) (Str.ofString "__bool__")) (wpAny_bind (wpAny_bind (I.type.here ((PySem.W.looks_findIn X hnb).here (wpAny_pure ?_)))))
  refine wpAny_bind (wpAny_bind (I.type.here ((PySem.W.looks_findIn X hs).here ?_)))
  refine wpAny_bind (wpAny_mono key (fun v s' q => ?_) fun _ _ e => e)
  obtain ⟨n, t, rfl, q⟩ := q
  exact wpAny_pure q
/-- the truth of an object with an own __len__, as a test -/
theorem pt_lenO {e : Expr} {te : TE} (F : FnOk X.prog X.w X.K X.mg X.base CX0 k f fd ps sp) (hb : Binds X.K fd ps []) (hr : Room (k + 1) X.A) (hnb : PySem.W.findIn X.K (.ref C) "__bool__" = some none)
    (hs : PySem.W.findIn X.K (.ref C) "__len__" = some (some (.ref f))) (hf : PySem.W.isFn X.K (.ref f) = true) (ha : PE X e te)
    (he : ∀ whole, isTrue e X.env whole = (do let v ← whole; standAt e.pos; holding [v] (truthy v)) := by intro _; rfl) :
    PT X e (fun σ H Q => te σ H fun x H' => ∃ (a dx : Addr) (fs : List (Str × V)), x = .ref a ∧ H' a = some (.ins C dx fs) ∧ sp [.ref a] H' (fun v H2 => ∃ n : Int, v = .int n ∧ 0 ≤ n ∧ n < 2 ^ 63 ∧ Q (n != 0) H2) E0) := by
  refine ⟨fun pins s σ H Q I h => isTrue_plain (thn (ha.run pins s σ H _ I h) fun v s1 ⟨x, H1, I1, r1, a, dx, fs, e1, h1, q1⟩ => ?_) (he _)⟩
  subst e1
  cases r1
  obtain ⟨mA, J, _⟩ := ins_get I1.hok h1
  obtain ⟨od, J, _⟩ := J.look
  refine truthyO I1.kIn J hnb hs hf (wpAny_mono (own_call F hb ⟨hr.in1, rfl⟩ I1 (vs := [.ref a]) (.cons rfl .nil) q1) (fun v s' q => ?_) fun _ _ z => z)
  obtain ⟨z, H', I', rz, n, rfl, h0, h2, q⟩ := q
  obtain ⟨t, rfl⟩ := rz
  exact ⟨⟨h0, h2⟩, n, _, rfl, H', I'.tok _, q⟩
/-- len(range(e)) -/
theorem pe_lenRg {e : Expr} {te : L2.St → Hp → (Int → Int → Hp → Prop) → Prop} {p pos : Pos} (hg : Gl X "len") (hm : X.mg "len" = none) (he : PRg X e te) (na : starEach [e] X.env = (false, eval e X.env) :: starEach [] X.env := by rfl) :
    PE X (.Call (.Name "len" p) [e] [] pos) (fun σ H Q => te σ H fun a b H1 => (((b - a).toNat : Nat) : Int) < 2 ^ 63 ∧ Q (.int ((b - a).toNat : Nat)) H1) := by
  refine ⟨fun pins s σ H Q I h => wpAny_Call_Name_kw (ld_blt I hg hm boot_len (callWith_builtin1 (args_cons (thn (he pins s σ H _ I h) fun x s1 ⟨r, a, b, t, u, v, H1, ex, hr, I1, ok, q⟩ => args_nil ?_) na) na))⟩
  subst ex
  exact call_len_range hr (rangeSize_nat a b) ok ⟨.int _, H1, I1.tok _, ⟨_, rfl⟩, q⟩
end
end Du

set_option Elab.async false
set_option linter.all false
set_option maxRecDepth 100000
namespace Du
open PySem L2 PyProof.Rows
section
variable {prog : Program} {w : World} {A : Around} {E : Value → Shared → Prop} {s : Shared} {K : PySem.W.Frag} {x y C f : Addr} {ox : Obj} {od : Option Obj}
/-- object's __ne__ over an own __eq__ -/
theorem neO_body {Q : Fin → Shared → Prop} (hu : A.units < cLine) (X : K.In s.heap) (I : PySem.W.InstAt s.heap x ox C od) (hs : PySem.W.findIn K (.ref C) "__eq__" = some (some (.ref f))) (hf : PySem.W.isFn K (.ref f) = true)
    (h : wpAny (model prog w) A (call (.ref f) [.ref x, .ref y]) (fun v s' => ∃ b, v = .bool b ∧ Q (.done (.ret (.bool (!b)))) s') E s) : wpAny (model prog w) A (Builtin.«object.__ne__» ⟨[.ref x, .ref y], []⟩) Q E s := by
  unfold Builtin.«object.__ne__»
  refine wpAny_bind (m := slotArgs "__ne__" 1 _) (wpAny_pure (wpAny_bind (wpAny_cRoomFor hu ?_)))
  refine wpAny_bind (m := callSpecialIfBound? (.ref x) (Str.ofString "__eq__") [.ref y]) (PySem.W.ifBound_K X I hs hf (wpAny_mono h (fun r s' hr => ?_) fun _ _ e => e))
  obtain ⟨b, rfl, hq⟩ := hr
  exact wpAny_bind (wpAny_truthy_bool (wpAny_pure hq))
theorem neO_try {Q : Option Value → Shared → Prop} (hu : A.units + 1 < cLine) (X : K.In s.heap) (I : PySem.W.InstAt s.heap x ox C od) (hn : PySem.W.findIn K (.ref C) "__ne__" = some (some (.builtin "object.__ne__")))
    (ho : PySem.W.subIn K (.ref C) (.type "object") = some true) (hs : PySem.W.findIn K (.ref C) "__eq__" = some (some (.ref f))) (hf : PySem.W.isFn K (.ref f) = true)
    (h : wpAny (model prog w) A.in1 (call (.ref f) [.ref x, .ref y]) (fun v s' => ∃ b, v = .bool b ∧ Q (some (.bool (!b))) s') E s) : wpAny (model prog w) A (tryCompare (.ref x) (Str.ofString "__ne__") (.ref y)) Q E s := by
  have S := F.cmp_object.ne
  have go : wpAny (model prog w) A (call (.builtin "object.__ne__") [.ref x, .ref y]) (fun v s' => ∃ b, v = .bool b ∧ Q (some (.bool b)) s') E s := by
    refine wpAny_call (codeAny_call_builtin S.plain F.cmpEntry_ne (PySem.W.check_slot F.cmpKind_ne F.cmpSplit_ne (I.type.andThen (PySem.W.looks_subIn X ho)) (F.cmpArgs_ne _ _) ?_))
    exact neO_body hu X I hs hf (wpAny_mono h (fun v s' z => by obtain ⟨b, rfl, q⟩ := z; exact ⟨b, rfl, !b, rfl, q⟩) fun _ _ e => e)
  have fin : wpAny (model prog w) A (call (.builtin "object.__ne__") ([.ref x] ++ [.ref y]) >>= fun v => pure (some v)) (fun r s' => ∃ b, r = some (Value.bool b) ∧ Q (some (.bool b)) s') E s :=
    wpAny_bind (wpAny_mono go (fun v s' z => by obtain ⟨b, rfl, q⟩ := z; exact wpAny_pure ⟨b, rfl, q⟩) fun _ _ e => e)
  unfold tryCompare
  refine wpAny_bind (m := callSpecialIfBound? (.ref x) (Str.ofString "__ne__") [.ref y]) ?_
  have step : wpAny (model prog w) A (callSpecialIfBound? (.ref x) (Str.ofString "__ne__") [.ref y]) (fun r s' => ∃ b, r = some (Value.bool b) ∧ Q (some (.bool b)) s') E s := by
    simp only [callSpecialIfBound?, bindSpecialIfBound?]
    refine wpAny_holding (wpAny_bind (wpAny_bind (wpAny_bind (I.type.here ((PySem.W.looks_findIn X hn).here (wpAny_bind (wpAny_askSetting (wpAny_ite ?_))))))))
    split
    · rw [S.bind]; exact wpAny_bind (wpAny_pure (wpAny_pure (by exact fin)))
    · rw [S.bind]; exact wpAny_tryCatch (wpAny_bind (wpAny_pure (wpAny_pure (by exact fin))))
  refine wpAny_mono step (fun r s' z => ?_) fun _ _ e => e
  obtain ⟨b, rfl, q⟩ := z
  exact wpAny_pure q
theorem neO_rich {Q : Value → Shared → Prop} (hu : A.units + 1 < cLine) (X : K.In s.heap) (I : PySem.W.InstAt s.heap x ox C od) (hy : PySem.W.Looks (model prog w) s.heap (typeOf (.ref y)) (.ref C)) (hn : PySem.W.findIn K (.ref C) "__ne__" = some (some (.builtin "object.__ne__")))
    (ho : PySem.W.subIn K (.ref C) (.type "object") = some true) (hs : PySem.W.findIn K (.ref C) "__eq__" = some (some (.ref f))) (hf : PySem.W.isFn K (.ref f) = true)
    (h : wpAny (model prog w) A.in1 (call (.ref f) [.ref x, .ref y]) (fun v s' => ∃ b, v = .bool b ∧ Q (.bool (!b)) s') E s) : wpAny (model prog w) A (richCompare .NotEq (.ref x) (.ref y)) Q E s := by
  have one : wpAny (model prog w) A (tryCompare (.ref x) (Str.ofString "__ne__") (.ref y)) (fun r s' => ∃ v, r = some v ∧ Q v s') E s :=
    neO_try hu X I hn ho hs hf (wpAny_mono h (fun v s' z => by obtain ⟨b, rfl, q⟩ := z; exact ⟨b, rfl, _, rfl, q⟩) fun _ _ e => e)
  unfold richCompare
  simp only [oneThing_ref, cmpInfo_NotEq]
  refine wpAny_holding (wpAny_bind (wpAny_cRoomFor (Nat.lt_of_succ_lt hu) (wpAny_bind (I.type.here (wpAny_bind (hy.here ?_))))))
  have e : (Value.ref C != Value.ref C) = false := by simp
  simp only [e, Bool.false_eq_true, if_false]
  refine wpAny_bind (wpAny_pure ?_)
  simp only [Bool.false_eq_true, if_false]
  refine wpAny_bind (wpAny_mono one (fun r s' z => ?_) fun _ _ e => e)
  obtain ⟨v, rfl, q⟩ := z
  exact wpAny_pure q
end
/-- x != y of two objects of one class with an own ==, that are equal -/
theorem op_neG {X : Cx} {n : Nat} {C f : Addr} {fd : FuncData} {ps : List Str} {R : Addr → Addr → Hp → Prop} (F : FnOk X.prog X.w X.K X.mg X.base CX0 n f fd ps (spEq R)) (hb : Binds X.K fd ps []) (hr : Room (n + 1) X.A)
    (hn : PySem.W.findIn X.K (.ref C) "__ne__" = some (some (.builtin "object.__ne__"))) (ho : PySem.W.subIn X.K (.ref C) (.type "object") = some true) (hs : PySem.W.findIn X.K (.ref C) "__eq__" = some (some (.ref f))) (hf : PySem.W.isFn X.K (.ref f) = true) :
    OpR X (compareOp .NotEq) (fun x y H Q => DIns C R x y H ∧ ∀ H', Ext H H' → Q (.bl false) H') := by
  intro pins s σ H x y v u Q I rx ry hq
  obtain ⟨⟨a, b, dx, dy, fs, gs, rfl, rfl, ha, hb', hR⟩, q⟩ := hq
  cases rx
  cases ry
  obtain ⟨mA, J, _⟩ := ins_get I.hok ha
  obtain ⟨mB, J', _⟩ := ins_get I.hok hb'
  obtain ⟨od, J, _⟩ := J.look
  obtain ⟨od', J', _⟩ := J'.look
  show wpAny _ _ (richCompare .NotEq (.ref a) (.ref b)) _ _ _
  refine neO_rich (hu_of hr) I.kIn J J'.type hn ho hs hf (wpAny_mono (own_call F hb ⟨hr.in1, rfl⟩ I (vs := [.ref a, .ref b]) (Q := fun v H' => v = .bl true ∧ Q (.bl false) H') (.cons rfl (.cons rfl .nil)) ⟨a, b, rfl, hR, fun H' e => ⟨rfl, q H' e⟩⟩) (fun r s' z => ?_) fun _ _ e => e)
  obtain ⟨v, H', I', rv, rfl, q'⟩ := z
  cases rv
  exact ⟨true, rfl, .bl false, H', I', rfl, q'⟩
/-- repr of data, where nothing is being shown -/
theorem call_reprD {X : Cx} (hg : X.A.guards = some []) (hu : X.A.units + 66 < cLine) : CallR X (.builtin "repr") (fun xs H Q => ∃ (a : Addr) (d : PyData), xs = [.ref a] ∧ Dp X.K H (.ref a) d ∧ d.showable = true ∧ d.hasDict = false ∧ d.depth ≤ 64 ∧ d.shown.length ≤ sizeLine ∧ Q (.str d.shown) H) := by
  intro pins s σ H xs us Q I r h
  obtain ⟨a, d, rfl, hd, h1, h2, h3, h4, q⟩ := h
  obtain ⟨u, rfl, ru⟩ := vals1 r
  cases ru
  obtain ⟨as, hr⟩ := Dp.reads I d _ _ hd rfl
  exact repr_of_reads' hr h1 (PyData.noDict_hsm h2) hg (by omega) (fun _ _ e => e) (fun h' u tk hk => ⟨.str d.shown, H, I.kept hk, ⟨_, rfl⟩, q⟩) h4
end Du

set_option Elab.async false
set_option linter.all false
set_option maxRecDepth 100000
namespace Du
open PySem L2
abbrev sWrongT : Stmt := topS 22
abbrev sInit : Stmt := inClass (topS 24) 0
abbrev sEq : Stmt := inClass (topS 24) 2
abbrev sLen : Stmt := inClass (topS 24) 3
def tf (n : Str) (c g d : Int) (t : Addr) : List (Str × V) := [("name", .str n), ("cost", .int c), ("gap", .int g), ("due", .int d), ("holds", .ref t)]
theorem tf_name (n : Str) (c g d : Int) (t : Addr) : (tf n c g d t).lookup ("name" : Str) = some (.str n) := rfl
theorem tf_cost (n : Str) (c g d : Int) (t : Addr) : (tf n c g d t).lookup ("cost" : Str) = some (.int c) := rfl
theorem tf_gap (n : Str) (c g d : Int) (t : Addr) : (tf n c g d t).lookup ("gap" : Str) = some (.int g) := rfl
theorem tf_due (n : Str) (c g d : Int) (t : Addr) : (tf n c g d t).lookup ("due" : Str) = some (.int d) := rfl
theorem tf_holds (n : Str) (c g d : Int) (t : Addr) : (tf n c g d t).lookup ("holds" : Str) = some (.ref t) := rfl
theorem tf_put (n : Str) (c g d : Int) (t : Addr) : putF "holds" (.ref t) (putF "due" (.int d) (putF "gap" (.int g) (putF "cost" (.int c) (putF "name" (.str n) [])))) = tf n c g d t := rfl
/-- what is asked of the class Task as the top has made it -/
structure TaskC (K : PySem.W.Frag) (mg : Str → Option Value) (C : Addr) : Prop where
  cl : Cls K C
  nN : NoAttr K C "name"
  nC : NoAttr K C "cost"
  nG : NoAttr K C "gap"
  nD : NoAttr K C "due"
  nH : NoAttr K C "holds"
  mg : mg "Task" = some (.ref C)
  kc : PySem.W.findIn K (.ref C) "__class__" = some (some (.builtin "object.__class__"))
  kg : PySem.W.specialIn K (.builtin "object.__class__") "__get__" = some (some (.builtin "getset_descriptor.__get__"))
  kt : PySem.W.takesIn K (.builtin "object.__class__") = some true
  km : PySem.W.mroIn K C (.type "object") = some true
  kk : PySem.W.kitOne K (.ref C) (.ref C) = some true
structure TaskV where
  name : Str
  cost : Int
  gap : Int
  due : Int
  holds : List Hold
/-- a good task -/
def TaskV.ok (t : TaskV) : Prop := isNm t.name = true ∧ (1 ≤ t.cost ∧ t.cost ≤ 99) ∧ (1 ≤ t.gap ∧ t.gap ≤ 600) ∧ (1 ≤ t.due ∧ t.due ≤ t.gap) ∧ areHds t.holds t.cost = true ∧ ∀ h ∈ t.holds, h.1.length ≤ sizeLine
/-- a task stands at x, its holds at h -/
def TaskAt (K : PySem.W.Frag) (C : Addr) (H : Hp) (x : Addr) (v : TaskV) (h : Addr) : Prop := (∃ dx, H x = some (.ins C dx (tf v.name v.cost v.gap v.due h))) ∧ HdsAt K H h v.holds
theorem TaskAt.same {K : PySem.W.Frag} {C : Addr} {H H' : Hp} {x h : Addr} {v : TaskV} (d : TaskAt K C H x v h) (s : Same H H') : TaskAt K C H' x v h := by
  obtain ⟨⟨dx, e⟩, q⟩ := d
  exact ⟨⟨dx, s _ _ e⟩, q.same s⟩
def dueV : Option Int → V
  | none => .non
  | some d => .int d
/-- the heap behind the five fields -/
def initH (H : Hp) (C x dx : Addr) (n : Str) (c g d : Int) (t : Addr) : Hp :=
  upd (upd (upd (upd (upd H x (.ins C dx (putF "name" (.str n) []))) x (.ins C dx (putF "cost" (.int c) (putF "name" (.str n) [])))) x (.ins C dx (putF "gap" (.int g) (putF "cost" (.int c) (putF "name" (.str n) []))))) x
    (.ins C dx (putF "due" (.int d) (putF "gap" (.int g) (putF "cost" (.int c) (putF "name" (.str n) [])))))) x (.ins C dx (putF "holds" (.ref t) (putF "due" (.int d) (putF "gap" (.int g) (putF "cost" (.int c) (putF "name" (.str n) []))))))
theorem initH_keep {H : Hp} {C x dx t b : Addr} {n : Str} {c g d : Int} (hb : b ≠ x) : initH H C x dx n c g d t b = H b := by
  unfold initH
  rw [upd_ne hb, upd_ne hb, upd_ne hb, upd_ne hb, upd_ne hb]
theorem initH_at {K : PySem.W.Frag} {H H2 : Hp} {C x dx h : Addr} {v : TaskV} (hx : H x = some (.ins C dx [])) (s : Same H H2) (hh : HdsAt K H h v.holds) :
    TaskAt K C (initH H2 C x dx v.name v.cost v.gap v.due h) x v h ∧ ∀ b o, H b = some o → b ≠ x → initH H2 C x dx v.name v.cost v.gap v.due h b = some o := by
  have keep : ∀ b o, H b = some o → b ≠ x → initH H2 C x dx v.name v.cost v.gap v.due h b = some o := fun b o e hb => by
    rw [initH_keep hb]
    exact s _ _ e
  refine ⟨⟨⟨dx, by unfold initH; rw [upd_same, tf_put]⟩, ?_⟩, keep⟩
  obtain ⟨vs, q1, q2, q3⟩ := hh
  have kT : ∀ a xs, SqT K H a xs → SqT K (initH H2 C x dx v.name v.cost v.gap v.due h) a xs := fun a xs z => by
    rcases z with (z | ⟨o, z⟩) | z
    · exact .inl (.inl (keep a _ z (ne_of z hx (by intro y; cases y))))
    · exact .inl (.inr ⟨o, keep a _ z (ne_of z hx (by intro y; cases y))⟩)
    · exact .inr z
  exact ⟨vs, kT _ _ q1, q2, fun i v h e1 e2 => by obtain ⟨a, ea, z⟩ := q3 i v h e1 e2; exact ⟨a, ea, kT _ _ z⟩⟩
section
variable {P : Program} {w : World} {K : PySem.W.Frag} {mg : Str → Option Value} {base : Heap}
/-! wrong_in_task of a good one -/
abbrev nWrongT : List Str := ["name", "cost", "gap", "due", "holds"]
theorem scWrongT : FnScope nWrongT nWrongT (defScope sWrongT) := ⟨rfl, rfl, rfl, by decide +kernel, rfl, by decide +kernel, by decide +kernel⟩
def spWrongT (K : PySem.W.Frag) : Sp := fun vs H Q _ => ∃ (h : Addr) (v : TaskV) (od : Option Int), vs = [.str v.name, .int v.cost, .int v.gap, dueV od, .ref h] ∧ v.due = od.getD v.gap ∧ v.ok ∧ HdsAt K H h v.holds ∧ ∀ H', Same H H' → Q .non H'
theorem ok_wrongT {f : Addr} {fd : FuncData} (F : Fun K "wrong_in_task" "wrong_in_task" sWrongT f fd) (mC : ∃ t, mg "MOST_COST" = some (.int 99 t)) (mG : ∃ t, mg "MOST_GAP" = some (.int 600 t))
    (DN : Dn P w K mg base 2 "is_name" ["thing"] (spName K)) (DW : Dn P w K mg base 2 "is_whole" ["thing", "least", "most"] (spWhole K)) (DH : Dn P w K mg base 4 "are_holds" ["thing", "cost"] (spHolds K)) :
    FnOk P w K mg base CX0 5 f fd nWrongT (spWrongT K) := by
  obtain ⟨uC, mC⟩ := mC
  obtain ⟨uG, mG⟩ := mG
  refine F.ok scWrongT (fun vs H Q E h => ?_) (fun cdv A outer s H vs Q E hr h => ?_)
  · obtain ⟨h, v, od, rfl, _⟩ := h
    rfl
  · obtain ⟨h, v, od, rfl, hdue, ⟨o1, o2, o3, o4, o5, o6⟩, hh, k⟩ := h
    have hr1 : Room 2 _ := hr.mono (by decide)
    refine ⟨_, (pss_cons (ps_if (pt_not (pt_val (pcall DN hr1 (by rfl) (pa_cons (pv 0) pa_nil)))) pss_never pss_nil) (pss_cons (ps_if (pt_not (pt_val (pcall DW hr1 (by rfl) (pa_cons (pv 1) (pa_cons pe_int (pa_cons (pe_glob (v := .int 99) rfl mC ⟨_, rfl⟩) pa_nil)))))) pss_never pss_nil) (pss_cons (ps_if (pt_not (pt_val (pcall DW hr1 (by rfl) (pa_cons (pv 2) (pa_cons pe_int (pa_cons (pe_glob (v := .int 600) rfl mG ⟨_, rfl⟩) pa_nil)))))) pss_never pss_nil) (pss_cons (ps_if (PW.pt (pw_and (pt_cmpR op_notN (pv 3) pe_non (nomark _)) (pw_and1 (pt_not (pt_val (pcall DW hr1 (by rfl) (pa_cons (pv 3) (pa_cons pe_int (pa_cons (pv 2) pa_nil))))))))) pss_never pss_nil) (pss_cons (ps_if (pt_not (pt_val (pcall DH hr (by rfl) (pa_cons (pv 4) (pa_cons (pv 1) pa_nil))))) pss_never pss_nil) (pss_one (ps_ret pe_non))))))), ?_⟩
    have hn8 : v.name.length ≤ sizeLine := by
      unfold isNm at o1
      simp only [Bool.and_eq_true, decide_eq_true_eq] at o1
      exact Nat.le_trans o1.2.1 (by decide)
    refine ⟨_, rfl, _, rfl, .inl ⟨_, rfl, hn8, fun H1 s1 => ⟨_, rfl, ?_⟩⟩⟩
    rw [o1]
    refine iteF ⟨_, rfl, _, _, _, rfl, .inl ⟨_, rfl, _, rfl, ?_⟩⟩
    rw [decide_eq_true o2.1, decide_eq_true o2.2]
    refine iteF ⟨_, rfl, _, _, _, rfl, .inl ⟨_, rfl, _, rfl, ?_⟩⟩
    rw [decide_eq_true o3.1, decide_eq_true o3.2]
    refine iteF ⟨_, rfl, rfl, _, rfl, ?_⟩
    cases od with
    | none =>
      refine ⟨_, rfl, _, rfl, h, v.holds, v.cost, rfl, hh.same s1, o6, fun H2 s2 => ⟨_, rfl, ?_⟩⟩
      rw [o5]
      exact iteF (k H2 (s1.trans s2))
    | some d =>
      have ed : v.due = d := hdue
      refine ⟨_, rfl, _, rfl, _, _, _, rfl, .inl ⟨_, rfl, _, rfl, ?_⟩⟩
      rw [ed] at o4
      rw [decide_eq_true o4.1, decide_eq_true o4.2]
      refine ⟨_, rfl, _, rfl, h, v.holds, v.cost, rfl, hh.same s1, o6, fun H2 s2 => ⟨_, rfl, ?_⟩⟩
      rw [o5]
      exact iteF (k H2 (s1.trans s2))
abbrev nInit : List Str := ["self", "name", "cost", "gap", "due", "holds", "part"]
theorem scInit : FnScope nInit ["self", "name", "cost", "gap", "due", "holds"] (defScope sInit) := ⟨rfl, rfl, rfl, by decide +kernel, rfl, by decide +kernel, by decide +kernel⟩
def spInit (K : PySem.W.Frag) (C : Addr) : Sp := fun vs H Q _ => ∃ (x dx h : Addr) (v : TaskV) (od : Option Int), vs = [.ref x, .str v.name, .int v.cost, .int v.gap, dueV od, .ref h] ∧ v.due = od.getD v.gap ∧ v.ok ∧ HdsAt K H h v.holds ∧ H x = some (.ins C dx []) ∧
  ∀ H', TaskAt K C H' x v h → (∀ b o, H b = some o → b ≠ x → H' b = some o) → Q .non H'
theorem ok_init {C f : Addr} {fd : FuncData} {kws : List (Str × V)} (F : FunD K "__init__" "Task.__init__" (defArgs sInit) (defBody sInit) (defScope sInit) [] kws f fd) (T : TaskC K mg C)
    (DT : Dn P w K mg base 5 "wrong_in_task" nWrongT (spWrongT K)) :
    FnOk P w K mg base CX0 6 f fd ["self", "name", "cost", "gap", "due", "holds"] (spInit K C) := by
  refine F.ok (CX := CX0) scInit (fun vs H Q E h => ?_) (fun cdv A outer s H vs Q E hr h => ?_)
  · obtain ⟨x, dx, h, v, od, rfl, _⟩ := h
    rfl
  · obtain ⟨x, dx, h, v, od, rfl, hdue, hok, hh, hx, k⟩ := h
    refine ⟨_, (pss_cons (ps_set (i := 6) scInit.nd rfl (.inl rfl) (pcall DT hr (by rfl) (pa_cons (pv 1) (pa_cons (pv 2) (pa_cons (pv 3) (pa_cons (pv 4) (pa_cons (pv 5) pa_nil))))))) (pss_cons (ps_if (pt_cmpR op_notN (pv 6) pe_non (nomark _)) pss_never pss_nil) (pss_cons (ps_fld (pv 0) (pv 1) rfl) (pss_cons (ps_fld (pv 0) (pv 2) rfl) (pss_cons (ps_fld (pv 0) (pv 3) rfl) (pss_cons (ps_fld (pv 0) (pe_ifExp (pt_cmpR op_isN (pv 4) pe_non (nomark _)) (pv 3) (pv 4)) rfl) (pss_one (ps_fld (pv 0) (pv 5) rfl)))))))), ?_⟩
    refine ⟨_, rfl, _, rfl, _, rfl, _, rfl, _, rfl, h, v, od, rfl, hdue, hok, hh, fun H2 s2 => ?_⟩
    refine ⟨_, rfl, rfl, _, rfl, ?_⟩
    refine iteF ?_
    refine ⟨_, rfl, _, rfl, x, C, dx, [], rfl, s2 _ _ hx, T.cl, T.nN, (by show 0 < 1000; decide), ?_⟩
    refine ⟨_, rfl, _, rfl, x, C, dx, _, rfl, upd_same, T.cl, T.nC, (by show 1 < 1000; decide), ?_⟩
    refine ⟨_, rfl, _, rfl, x, C, dx, _, rfl, upd_same, T.cl, T.nG, (by show 2 < 1000; decide), ?_⟩
    refine ⟨_, rfl, rfl, _, rfl, ?_⟩
    obtain ⟨z1, z2⟩ := initH_at hx s2 hh
    cases od with
    | none =>
      have ed : v.due = v.gap := hdue
      rw [ed] at z1 z2
      exact ⟨_, rfl, _, rfl, x, C, dx, _, rfl, upd_same, T.cl, T.nD, (by show 3 < 1000; decide), _, rfl, _, rfl, x, C, dx, _, rfl, upd_same, T.cl, T.nH, (by show 4 < 1000; decide), k _ z1 z2⟩
    | some d =>
      have ed : v.due = d := hdue
      rw [ed] at z1 z2
      exact ⟨_, rfl, _, rfl, x, C, dx, _, rfl, upd_same, T.cl, T.nD, (by show 3 < 1000; decide), _, rfl, _, rfl, x, C, dx, _, rfl, upd_same, T.cl, T.nH, (by show 4 < 1000; decide), k _ z1 z2⟩
end
end Du

set_option Elab.async false
set_option linter.all false
set_option maxRecDepth 100000
namespace Du
open PySem L2
section
variable {P : Program} {w : World} {K : PySem.W.Frag} {mg : Str → Option Value} {base : Heap}
def hdD (h : Hold) : PyData := .tuple [.str h.1, .int h.2.1, .int h.2.2]
theorem hd_dp {H : Hp} {v : V} {h : Hold} (d : HdAt K H v h) : Dp K H v (hdD h) := by
  obtain ⟨a, rfl, q⟩ := d
  exact .tup q (.cons (.str _) (.cons (.int _) (.cons (.int _) .nil)))
theorem hds_all {H : Hp} : ∀ {vs : List V} {hs : List Hold}, vs.length = hs.length → (∀ (i : Nat) v h, vs[i]? = some v → hs[i]? = some h → HdAt K H v h) → DpAll K H vs (hs.map hdD)
  | [], [], _, _ => .nil
  | v :: vs, h :: hs, hl, q => .cons (hd_dp (q 0 v h rfl rfl)) (hds_all (Nat.succ.inj hl) fun i a b e1 e2 => q (i + 1) a b e1 e2)
theorem hds_dp {H : Hp} {t : Addr} {hs : List Hold} (d : HdsAt K H t hs) : Dp K H (.ref t) (.tuple (hs.map hdD)) := by
  obtain ⟨vs, q1, q2, q3⟩ := d
  exact .tup q1 (hds_all q2 q3)
theorem letter_small {c : Nat} (h : isLetter c = true) : 97 ≤ c ∧ c ≤ 122 := by
  have z : ∀ c ∈ letters.cps.toList, 97 ≤ c ∧ c ≤ 122 := by decide +kernel
  exact z c (of_decide_eq_true h)
theorem nm_len {z : Str} (h : isNm z = true) : 1 ≤ z.length ∧ z.length ≤ 8 := by
  unfold isNm at h
  simp only [Bool.and_eq_true, decide_eq_true_eq] at h
  exact ⟨h.1, h.2.1⟩
theorem nm_codes {z : Str} (h : isNm z = true) : ∀ c ∈ z.cps.toList, 97 ≤ c ∧ c ≤ 122 := by
  unfold isNm at h
  simp only [Bool.and_eq_true, List.all_eq_true] at h
  exact fun c hc => letter_small (h.2.2 c hc)
theorem nm_strOk {z : Str} (h : isNm z = true) : PyData.strOk z = true := by
  unfold PyData.strOk
  rw [← Array.all_toList, List.all_eq_true]
  intro c hc
  have := nm_codes h c hc
  exact decide_eq_true (by omega)
theorem hds_lay : ∀ hs : List Hold, (∀ h ∈ hs, isNm h.1 = true) → PyData.canLayAll0 (hs.map hdD) = true
  | [], _ => rfl
  | h :: hs, q => by
    show (PyData.canLay0 (hdD h) && PyData.canLayAll0 (hs.map hdD)) = true
    rw [hds_lay hs fun g hg => q g (List.mem_cons_of_mem _ hg)]
    have e : PyData.canLay0 (hdD h) = PyData.strOk h.1 := by
      show (PyData.strOk h.1 && (true && (true && true))) = PyData.strOk h.1
      simp
    rw [e, nm_strOk (q h List.mem_cons_self)]
    rfl
theorem hds_depth : ∀ hs : List Hold, PyData.depthAll (hs.map hdD) ≤ 1
  | [] => Nat.zero_le _
  | h :: hs => by
    show max (PyData.depth (hdD h)) (PyData.depthAll (hs.map hdD)) ≤ 1
    have := hds_depth hs
    have e : PyData.depth (hdD h) = 1 := rfl
    omega
theorem hds_shaped {hs : List Hold} (q : ∀ h ∈ hs, isNm h.1 = true) : SeqAt.shaped (.tuple (hs.map hdD)) = true := by
  unfold SeqAt.shaped
  have h1 : PyData.canLay0 (.tuple (hs.map hdD)) = true := by
    simp only [PyData.canLay0]
    exact hds_lay hs q
  have h2 : PyData.depth (.tuple (hs.map hdD)) ≤ 64 := by
    have := hds_depth hs
    simp only [PyData.depth]
    omega
  rw [h1, decide_eq_true h2]
  rfl
theorem hds_eqv {hs : List Hold} (q : ∀ h ∈ hs, isNm h.1 = true) : PyData.eqv (.tuple (hs.map hdD)) (.tuple (hs.map hdD)) = true := SeqAt.eqv_refl _ (SeqAt.canLay_of_shaped (hds_shaped q))
/-! Task.__eq__ -/
theorem scEq : FnScope ["self", "other"] ["self", "other"] (defScope sEq) := ⟨rfl, rfl, rfl, by decide +kernel, rfl, by decide +kernel, by decide +kernel⟩
def TwoTasks (K : PySem.W.Frag) (C : Addr) (a b : Addr) (H : Hp) : Prop := ∃ (v : TaskV) (ha hb : Addr), TaskAt K C H a v ha ∧ TaskAt K C H b v hb ∧ ∀ h ∈ v.holds, isNm h.1 = true
theorem decV (x : V) : decide (x = x) = true := decide_eq_true rfl
theorem ok_eq {C f : Addr} {fd : FuncData} (F : Fun K "__eq__" "Task.__eq__" sEq f fd) (T : TaskC K mg C) (mI : mg "isinstance" = none) :
    FnOk P w K mg base CX0 3 f fd ["self", "other"] (spEq (TwoTasks K C)) := by
  refine F.ok scEq (fun vs H Q E h => ?_) (fun cdv A outer s H vs Q E hr h => ?_)
  · obtain ⟨a, b, rfl, _⟩ := h
    rfl
  · obtain ⟨a, b, rfl, ⟨v, ha, hb, ⟨⟨da, e1⟩, q1⟩, ⟨⟨db, e2⟩, q2⟩, hnm⟩, k⟩ := h
    refine ⟨_, pss_one (ps_ret (pe_and (pe_callB call_isi (by rfl) mI (by decide +kernel) (pa_cons (pv 1) (pa_cons (pe_glob (v := .ref C) rfl T.mg rfl) pa_nil)))
      (pe_and (pe_cmpR op_eq (pe_fld (pv 0) rfl) (pe_fld (pv 1) rfl) (nomark _)) (pe_and (pe_cmpR op_eq (pe_fld (pv 0) rfl) (pe_fld (pv 1) rfl) (nomark _)) (pe_and (pe_cmpR op_eq (pe_fld (pv 0) rfl) (pe_fld (pv 1) rfl) (nomark _))
      (pe_and (pe_cmpR op_eq (pe_fld (pv 0) rfl) (pe_fld (pv 1) rfl) (nomark _)) (pe_one (pe_cmpR (op_eqD hr.units) (pe_fld (pv 0) rfl) (pe_fld (pv 1) rfl) (nomark _))))))))), ?_⟩
    refine ⟨_, rfl, _, _, _, _, true, rfl, .own C, .base (.ins e2 T.cl T.kc T.kg T.kt T.km), T.kk, true, rfl, ?_⟩
    refine iteT ⟨_, rfl, a, C, da, _, _, rfl, e1, T.cl, T.nN, tf_name _ _ _ _ _, _, rfl, b, C, db, _, _, rfl, e2, T.cl, T.nN, tf_name _ _ _ _ _, rfl, _, rfl, ?_⟩
    rw [decV]
    refine iteT ⟨_, rfl, a, C, da, _, _, rfl, e1, T.cl, T.nC, tf_cost _ _ _ _ _, _, rfl, b, C, db, _, _, rfl, e2, T.cl, T.nC, tf_cost _ _ _ _ _, rfl, _, rfl, ?_⟩
    rw [decV]
    refine iteT ⟨_, rfl, a, C, da, _, _, rfl, e1, T.cl, T.nG, tf_gap _ _ _ _ _, _, rfl, b, C, db, _, _, rfl, e2, T.cl, T.nG, tf_gap _ _ _ _ _, rfl, _, rfl, ?_⟩
    rw [decV]
    refine iteT ⟨_, rfl, a, C, da, _, _, rfl, e1, T.cl, T.nD, tf_due _ _ _ _ _, _, rfl, b, C, db, _, _, rfl, e2, T.cl, T.nD, tf_due _ _ _ _ _, rfl, _, rfl, ?_⟩
    rw [decV]
    refine iteT ⟨_, rfl, a, C, da, _, _, rfl, e1, T.cl, T.nH, tf_holds _ _ _ _ _, _, rfl, b, C, db, _, _, rfl, e2, T.cl, T.nH, tf_holds _ _ _ _ _, _, _, hds_dp q1, hds_dp q2, hds_shaped hnm, hds_shaped hnm, ?_⟩
    rw [hds_eqv hnm]
    exact k H (Same.refl _)
/-! Task.__len__ -/
theorem scLen : FnScope ["self"] ["self"] (defScope sLen) := ⟨rfl, rfl, rfl, by decide +kernel, rfl, by decide +kernel, by decide +kernel⟩
def spLenT (K : PySem.W.Frag) (C : Addr) : Sp := fun vs H Q _ => ∃ (a h : Addr) (v : TaskV), vs = [.ref a] ∧ TaskAt K C H a v h ∧ 0 ≤ v.cost ∧ v.cost < 1000 ∧ Q (.int v.cost) H
theorem ok_len {C f : Addr} {fd : FuncData} (F : Fun K "__len__" "Task.__len__" sLen f fd) (T : TaskC K mg C) (ml : mg "len" = none) (mr : mg "range" = none) :
    FnOk P w K mg base CX0 3 f fd ["self"] (spLenT K C) := by
  refine F.ok scLen (fun vs H Q E h => ?_) (fun cdv A outer s H vs Q E hr h => ?_)
  · obtain ⟨a, h, v, rfl, _⟩ := h
    rfl
  · obtain ⟨a, h, v, rfl, ⟨⟨dx, e1⟩, _⟩, h0, h1, q⟩ := h
    refine ⟨_, pss_one (ps_ret (pe_lenRg (by rfl) ml (prg_1 (by rfl) mr (pe_fld (pv 0) rfl)))), ?_⟩
    have en : (((v.cost - 0).toNat : Nat) : Int) = v.cost := by omega
    refine ⟨_, rfl, a, C, dx, _, _, rfl, e1, T.cl, T.nC, tf_cost _ _ _ _ _, _, rfl, by omega, ?_⟩
    rw [en]
    exact q
end
end Du

set_option Elab.async false
set_option linter.all false
set_option maxRecDepth 100000
namespace Du
open PySem L2
abbrev sCell : Stmt := topS 30
abbrev sPurse : Stmt := topS 31
abbrev sTake : Stmt := topS 32
section
variable {P : Program} {w : World} {K : PySem.W.Frag} {mg : Str → Option Value} {base : Heap}
theorem cutV_mem {xs : List V} {lo hi : Option Int} {x : V} (h : x ∈ cutV xs lo hi) : x ∈ xs := List.mem_of_mem_drop (List.mem_of_mem_take h)
/-! _law_cell -/
theorem scCell : FnScope ["_law_script", "_law_k", "_law_state", "_law_cell_here"] ["_law_script", "_law_k"] (defScope sCell) := ⟨rfl, rfl, rfl, by decide +kernel, rfl, by decide +kernel, by decide +kernel⟩
def spCellL (K : PySem.W.Frag) : Sp := fun vs H Q _ => ∃ (a : Addr) (ns : List Int) (k : Nat), vs = [.ref a, .int (k : Int)] ∧ SqL K H a (ns.map V.int) ∧ k < 64 ∧ ∀ (n : Int) H', Same H H' → Q (.int n) H'
theorem ok_cell {f : Addr} {fd : FuncData} (F : Fun K "_law_cell" "_law_cell" sCell f fd) (ml : mg "len" = none) : FnOk P w K mg base CX0 3 f fd ["_law_script", "_law_k"] (spCellL K) := by
  refine F.ok scCell (fun vs H Q E h => ?_) (fun cdv A outer s H vs Q E hr h => ?_)
  · obtain ⟨a, ns, k, rfl, _⟩ := h
    rfl
  · obtain ⟨a, ns, k, rfl, hS, hk, q⟩ := h
    refine ⟨_, pss_cons (ps_if (pt_cmpR op_lt (pv 1) (pe_callB call_len_seq (by rfl) ml (by decide +kernel) (pa_cons (pv 0) pa_nil)) (nomark _)) (pss_one (ps_ret (pe_ix ix_list (pv 0) (pv 1) (fun _ _ => rfl)))) pss_nil)
      (pss_cons (ps_set (i := 2) scCell.nd rfl (.inl rfl) (pe_op op_mod (pe_op op_mul pe_int (pe_op op_add (pe_op op_add (pe_op op_mul (pv 1) (pv 1)) (pe_op op_mul pe_int (pv 1))) pe_int)) pe_int))
      (pss_cons (ps_for PassesOwn.never rfl (pi_list (pe_slice sl_list (pv 0) po_none (po_some pe_int))) (pg_name (i := 3) scCell.nd rfl (.inl rfl))
        (pss_one (ps_set (i := 2) scCell.nd rfl (.inl rfl) (pe_op op_mod (pe_op op_add (pe_op op_mul (pv 2) pe_int) (pv 3)) pe_int))))
      (pss_one (ps_ret (pv 2))))), ?_⟩
    refine ⟨_, rfl, _, rfl, a, _, rfl, .inl hS, _, _, rfl, rfl, _, rfl, ?_⟩
    by_cases hlt : k < ns.length
    · have e1 : decide ((k : Int) < (((ns.map V.int).length : Nat) : Int)) = true := decide_eq_true (by rw [List.length_map]; omega)
      rw [e1]
      have g : (ns.map V.int)[k]? = some (V.int ns[k]) := by
        rw [List.getElem?_map, List.getElem?_eq_getElem hlt]
        rfl
      exact iteT ⟨_, rfl, _, rfl, a, _, _, _, rfl, rfl, hS, at_of rfl g, q _ H (Same.refl _)⟩
    · have e1 : decide ((k : Int) < (((ns.map V.int).length : Nat) : Int)) = false := decide_eq_false (by rw [List.length_map]; omega)
      rw [e1]
      refine iteF ⟨_, rfl, _, rfl, _, _, rfl, rfl, .inl ⟨by omega, by omega⟩, _, rfl, _, _, rfl, rfl, .inl ⟨by decide, by decide⟩, _, _, rfl, rfl, _, _, rfl, rfl, _, _, rfl, rfl, .inl ⟨by decide, by decide⟩, _, _, rfl, rfl, (by show (0 : Int) < 1000000021; decide), ?_⟩
      refine ⟨_, rfl, 3, rfl, a, _, rfl, hS, fun c nc => ?_⟩
      refine ⟨c, rfl, ⟨_, SqL.of upd_same⟩, for_list (K := K) (a := c) (xs := cutV (ns.map V.int) none (some 3)) (fun i σ H' => ∃ (st : Int) (v : Option V), σ = [some (.ref a), some (.int (k : Int)), some (.int st), v] ∧ Same (upd H c (.lst (cutV (ns.map V.int) none (some 3)))) H')
        ⟨_, none, rfl, Same.refl _⟩ (fun i σ H' _ z => ?_) ?_ ?_⟩
      · obtain ⟨_, _, _, s1⟩ := z
        exact SqL.of (s1 _ _ upd_same)
      · rintro i x σ H' hi ⟨st, v, rfl, s1⟩
        obtain ⟨z, _, rfl⟩ := List.mem_map.mp (cutV_mem (List.mem_of_getElem? hi))
        refine ⟨_, rfl, _, _, rfl, rfl, .inr ⟨by decide, by decide⟩, _, rfl, _, _, rfl, rfl, _, _, rfl, rfl, (by show (0 : Int) < 1000000021; decide), ?_⟩
        exact ⟨_, _, rfl, s1⟩
      · rintro σ H' ⟨st, v, rfl, s1⟩
        exact ⟨_, rfl, q st H' ((same_upd nc).trans s1)⟩
/-! _law_purse -/
def Purse (H : Hp) (p : Addr) : Prop := ∃ a d c : Int, H p = some (.lst [.int a, .int d, .int c]) ∧ 0 ≤ a ∧ a < 1000000021 ∧ 0 ≤ d ∧ 0 ≤ c
theorem scPurse : FnScope ["_law_cell_here", "_law_digits"] ["_law_cell_here"] (defScope sPurse) := ⟨rfl, rfl, rfl, by decide +kernel, rfl, by decide +kernel, by decide +kernel⟩
def spPurse : Sp := fun vs H Q _ => ∃ n : Int, vs = [.int n] ∧ ∀ p H', Same H H' → H p = none → Purse H' p → Q (.ref p) H'
theorem ok_purse {f : Addr} {fd : FuncData} (F : Fun K "_law_purse" "_law_purse" sPurse f fd) (ma : mg "abs" = none) : FnOk P w K mg base CX0 3 f fd ["_law_cell_here"] spPurse := by
  refine F.ok scPurse (fun vs H Q E h => ?_) (fun cdv A outer s H vs Q E hr h => ?_)
  · obtain ⟨n, rfl, _⟩ := h
    rfl
  · obtain ⟨n, rfl, q⟩ := h
    refine ⟨_, pss_cons (ps_set (i := 1) scPurse.nd rfl (.inl rfl) pe_int)
      (pss_cons (ps_if (PW.pt (pw_or (pt_cmpR op_lt (pv 0) pe_int (nomark _)) (pw_or1 (pt_cmpR op_ge (pv 0) (pe_op op_pow pe_int pe_int) (nomark _)))))
        (pss_one (ps_set (i := 1) scPurse.nd rfl (.inl rfl) (pe_callB call_abs (by rfl) ma (by decide +kernel) (pa_cons (pv 0) pa_nil)))) pss_nil)
      (pss_one (ps_ret (pe_lst (pa_cons (pe_op op_mod (pv 0) pe_int) (pa_cons (pv 1) (pa_cons pe_int pa_nil))))))), ?_⟩
    have fin : ∀ d : Int, 0 ≤ d → tRet (fun σ H Q => tCons (tOp (rI (fun _ j => 0 < j) fun i j => .int (i % j)) (tVar 0) (tC (.int 1000000021))) (tCons (tVar 1) (tCons (tC (.int 0)) tNil)) σ H fun vs H1 => vs.length ≤ sizeLine ∧ ∀ p, H1 p = none → Q (.ref p) (upd H1 p (.lst vs)))
        { nx := fun _ H' => Q .non H', rt := Q } [some (.int n), some (.int d)] H := by
      intro d hd
      refine ⟨_, rfl, _, _, rfl, rfl, (by show (0 : Int) < 1000000021; decide), _, rfl, (by show 3 ≤ sizeLine; decide), fun p np => ?_⟩
      exact q p _ (same_upd np) np ⟨_, d, 0, upd_same, Int.emod_nonneg _ (by decide), Int.emod_lt_of_pos _ (by decide), hd, Int.le_refl _⟩
    refine ⟨_, rfl, _, _, rfl, rfl, _, rfl, ?_⟩
    by_cases h1 : n < 0
    · rw [decide_eq_true h1]
      refine ⟨_, rfl, n, rfl, ?_⟩
      exact fin _ (by split <;> omega)
    · rw [decide_eq_false h1]
      refine ⟨_, rfl, _, _, rfl, rfl, ⟨by decide, by decide, by decide⟩, _, _, rfl, rfl, _, rfl, ?_⟩
      by_cases h2 : (10 : Int) ^ (18 : Int).toNat ≤ n
      · rw [decide_eq_true h2]
        refine ⟨_, rfl, n, rfl, ?_⟩
        exact fin _ (by split <;> omega)
      · rw [decide_eq_false h2]
        exact fin 0 (Int.le_refl _)
/-! _law_take -/
/-- the purse goes on, all else that is tracked stays -/
structure Step (p : Addr) (H H' : Hp) : Prop where
  purse : Purse H' p
  keep : ∀ b o, b ≠ p → H b = some o → H' b = some o
theorem scTake : FnScope ["_law_purse_here", "_law_many", "_law_state", "_law_taken"] ["_law_purse_here", "_law_many"] (defScope sTake) := ⟨rfl, rfl, rfl, by decide +kernel, rfl, by decide +kernel, by decide +kernel⟩
def spTake : Sp := fun vs H Q _ => ∃ (p : Addr) (m : Int), vs = [.ref p, .int m] ∧ 0 < m ∧ m < 1073741824 ∧ Purse H p ∧ ∀ (r : Int) H', 0 ≤ r → r < m → Step p H H' → Q (.int r) H'
theorem ok_take {f : Addr} {fd : FuncData} (F : Fun K "_law_take" "_law_take" sTake f fd) : FnOk P w K mg base CX0 3 f fd ["_law_purse_here", "_law_many"] spTake := by
  refine F.ok scTake (fun vs H Q E h => ?_) (fun cdv A outer s H vs Q E hr h => ?_)
  · obtain ⟨p, m, rfl, _⟩ := h
    rfl
  · obtain ⟨p, m, rfl, hm, hm2, ⟨a, d, c, hp, a0, a1, d0, c0⟩, q⟩ := h
    refine ⟨_, pss_cons (ps_asg (pe_op op_add (pe_ix ix_list (pv 0) pe_int (fun _ _ => rfl)) pe_int) (pg_sub (pv 0) pe_int set_list))
      (pss_cons (ps_set (i := 2) scTake.nd rfl (.inl rfl) (pe_ix ix_list (pv 0) pe_int (fun _ _ => rfl)))
      (pss_cons (ps_asg (pe_op op_mod (pe_op op_add (pe_op op_add (pe_op op_mul (pv 2) (pe_op op_add (pe_op op_mod (pv 2) pe_int) pe_int)) (pe_op op_mul pe_int (pe_ix ix_list (pv 0) pe_int (fun _ _ => rfl)))) pe_int) pe_int) (pg_sub (pv 0) pe_int set_list))
      (pss_cons (ps_if (pt_cmpR op_gt (pe_ix ix_list (pv 0) pe_int (fun _ _ => rfl)) pe_int (nomark _))
        (pss_cons (ps_set (i := 3) scTake.nd rfl (.inl rfl) (pe_op op_mod (pe_ix ix_list (pv 0) pe_int (fun _ _ => rfl)) (pv 1)))
        (pss_cons (ps_asg (pe_op op_fdiv (pe_ix ix_list (pv 0) pe_int (fun _ _ => rfl)) (pv 1)) (pg_sub (pv 0) pe_int set_list)) (pss_one (ps_ret (pv 3))))) pss_nil)
      (pss_one (ps_ret (pe_op op_mod (pe_op op_fdiv (pe_ix ix_list (pv 0) pe_int (fun _ _ => rfl)) pe_int) (pv 1))))))), ?_⟩
    refine ⟨_, rfl, p, _, _, _, rfl, rfl, SqL.of hp, at_of (j := 2) rfl rfl, _, _, rfl, rfl, _, rfl, p, _, _, 2, rfl, rfl, hp, rfl, ?_⟩
    refine ⟨_, rfl, p, _, _, _, rfl, rfl, SqL.of upd_same, at_of (j := 0) rfl rfl, ?_⟩
    refine ⟨_, rfl, _, rfl, _, _, rfl, rfl, (by show (0 : Int) < 50021; decide), _, _, rfl, rfl, _, _, rfl, rfl, .inl ⟨by omega, by omega⟩, _, rfl, p, _, _, _, rfl, rfl, SqL.of upd_same, at_of (j := 2) rfl rfl, _, _, rfl, rfl, .inl ⟨by decide, by decide⟩, _, _, rfl, rfl, _, _, rfl, rfl, _, _, rfl, rfl, (by show (0 : Int) < 1000000021; decide), ?_⟩
    refine ⟨_, rfl, p, _, _, 0, rfl, rfl, upd_same, rfl, ?_⟩
    refine ⟨_, rfl, p, _, _, _, rfl, rfl, SqL.of upd_same, at_of (j := 1) rfl rfl, _, _, rfl, rfl, _, rfl, ?_⟩
    have keep : ∀ (o1 o2 : HO) b o, b ≠ p → H b = some o → upd (upd H p o1) p o2 b = some o := fun o1 o2 b o hb e => by rw [upd_ne hb, upd_ne hb]; exact e
    have n0 : ∀ z : Int, 0 ≤ z % 1000000021 := fun z => Int.emod_nonneg _ (by decide)
    have n1 : ∀ z : Int, z % 1000000021 < 1000000021 := fun z => Int.emod_lt_of_pos _ (by decide)
    by_cases hd : 0 < d
    · rw [decide_eq_true hd]
      refine ⟨_, rfl, p, _, _, _, rfl, rfl, SqL.of upd_same, at_of (j := 1) rfl rfl, _, rfl, _, _, rfl, rfl, hm, ?_⟩
      refine ⟨_, rfl, p, _, _, _, rfl, rfl, SqL.of upd_same, at_of (j := 1) rfl rfl, _, rfl, _, _, rfl, rfl, ⟨hm, hm2⟩, _, rfl, p, _, _, 1, rfl, rfl, upd_same, rfl, _, rfl, ?_⟩
      refine q _ _ (Int.emod_nonneg _ (by omega)) (Int.emod_lt_of_pos _ hm) ⟨⟨_, _, _, upd_same, n0 _, n1 _, Int.ediv_nonneg d0 (by omega), by omega⟩, fun b o hb e => ?_⟩
      rw [upd_ne hb]
      exact keep _ _ b o hb e
    · rw [decide_eq_false hd]
      refine ⟨_, rfl, p, _, _, _, rfl, rfl, SqL.of upd_same, at_of (j := 0) rfl rfl, _, _, rfl, rfl, ⟨by decide, by decide⟩, _, rfl, _, _, rfl, rfl, hm, ?_⟩
      exact q _ _ (Int.emod_nonneg _ (by omega)) (Int.emod_lt_of_pos _ hm) ⟨⟨_, _, _, upd_same, n0 _, n1 _, d0, by omega⟩, keep _ _⟩
end
end Du

set_option Elab.async false
set_option linter.all false
set_option maxRecDepth 100000
namespace Du
open PySem L2
/-- a text of these signs -/
def ofL (l : List Nat) : Str := ⟨l.toArray⟩
theorem ofL_codes (l : List Nat) : (ofL l).cps.toList = l := by simp [ofL]
theorem ofL_inj {l m : List Nat} (h : ofL l = ofL m) : l = m := by
  have := congrArg (fun z : Str => z.cps.toList) h
  simpa [ofL] using this
theorem ofL_len (l : List Nat) : (ofL l).length = l.length := by simp [ofL, Str.length]
theorem str_ofL (z : Str) : z = ofL z.cps.toList := by
  cases z
  simp [ofL]
theorem app_ofL (l m : List Nat) : ofL l ++ ofL m = ofL (l ++ m) := by
  show Str.append _ _ = _
  simp [Str.append, ofL]
def allL (l : List Nat) : Prop := ∀ c ∈ l, isLetter c = true
theorem nm_ofL {l : List Nat} (h1 : 1 ≤ l.length) (h8 : l.length ≤ 8) (h : allL l) : isNm (ofL l) = true := by
  unfold isNm
  rw [ofL_len, ofL_codes, decide_eq_true h1, decide_eq_true h8]
  show (l.all isLetter) = true
  exact List.all_eq_true.mpr h
theorem nodup_range_map {α : Type} {n : Nat} {f : Nat → α} (h : ∀ i j, i < n → j < n → i < j → f i ≠ f j) : ((List.range n).map f).Nodup := by
  unfold List.Nodup
  rw [List.pairwise_map]
  exact (List.pairwise_lt_range (n := n)).imp_of_mem fun {a b} ha hb hab => h a b (List.mem_range.mp ha) (List.mem_range.mp hb) hab
/-! the words of rows -/
def ownW : List Str := ["task", "door", "every", "let", "leave", "come", "serve", "end", "in", "soon", "none", "go"]
def ix (n : Int) (spot step : Int) (k : Nat) : Nat := ((spot + step * (k : Int)) % n).toNat
theorem ix_lt {n spot step : Int} {k : Nat} (h : 0 < n) : (ix n spot step k : Int) < n ∧ ((ix n spot step k : Nat) : Int) = (spot + step * (k : Int)) % n := by
  have h1 := Int.emod_nonneg (spot + step * (k : Int)) (show n ≠ 0 by omega)
  have h2 := Int.emod_lt_of_pos (spot + step * (k : Int)) h
  unfold ix
  omega
def Stp (step : Int) : Prop := step = 1 ∨ step = 5 ∨ step = 7 ∨ step = 11
theorem ix12 {spot step : Int} (hs : Stp step) {i j : Nat} (hj : j < 12) (hij : i < j) : ix 12 spot step i ≠ ix 12 spot step j := by
  have h1 := (ix_lt (n := 12) (spot := spot) (step := step) (k := i) (by decide)).2
  have h2 := (ix_lt (n := 12) (spot := spot) (step := step) (k := j) (by decide)).2
  rcases hs with rfl | rfl | rfl | rfl <;> omega
theorem ix26 {spot step : Int} (hs : Stp step) {i j : Nat} (hj : j < 12) (hij : i < j) : ix 26 spot step i ≠ ix 26 spot step j := by
  have h1 := (ix_lt (n := 26) (spot := spot) (step := step) (k := i) (by decide)).2
  have h2 := (ix_lt (n := 26) (spot := spot) (step := step) (k := j) (by decide)).2
  rcases hs with rfl | rfl | rfl | rfl <;> omega
def w1 (spot step : Int) (k : Nat) : Str := ownW.getD (ix 12 spot step k) ""
theorem ownW_nodup : ownW.Nodup := by decide +kernel
theorem ownW_nm : ∀ z ∈ ownW, isNm z = true := by decide +kernel
theorem w1_at (spot step : Int) (k : Nat) : ownW[ix 12 spot step k]? = some (w1 spot step k) := by
  have h := (ix_lt (n := 12) (spot := spot) (step := step) (k := k) (by decide)).1
  have hl : ix 12 spot step k < ownW.length := by
    show ix 12 spot step k < 12
    omega
  unfold w1
  rw [List.getD_eq_getElem?_getD, List.getElem?_eq_getElem hl]
  rfl
theorem w1_nm (spot step : Int) (k : Nat) : isNm (w1 spot step k) = true := ownW_nm _ (List.mem_of_getElem? (w1_at spot step k))
theorem w1_nodup {spot step : Int} (hs : Stp step) {n : Nat} (hn : n ≤ 12) : ((List.range n).map (w1 spot step)).Nodup :=
  nodup_range_map fun i j hi hj hij e => ix12 hs (by omega) hij (nd_ix ownW_nodup (w1_at spot step i) (by rw [e]; exact w1_at spot step j))
/-! words about a stem -/
def letterAt (begin step : Int) (k : Nat) : Nat := letters.cps.toList.getD (ix 26 begin step k) 0
theorem letters_nodup : letters.cps.toList.Nodup := by decide +kernel
theorem letters_len : letters.cps.toList.length = 26 := by decide +kernel
theorem letter_at (begin step : Int) (k : Nat) : letters.cps.toList[ix 26 begin step k]? = some (letterAt begin step k) := by
  have h := (ix_lt (n := 26) (spot := begin) (step := step) (k := k) (by decide)).1
  have hl : ix 26 begin step k < letters.cps.toList.length := by
    rw [letters_len]
    omega
  unfold letterAt
  rw [List.getD_eq_getElem?_getD, List.getElem?_eq_getElem hl]
  rfl
theorem letter_is {i c : Nat} (h : letters.cps.toList[i]? = some c) : isLetter c = true := decide_eq_true (List.mem_of_getElem? h)
def w2 (st : List Nat) (cut : Nat) (begin step : Int) (k : Nat) : Str := ofL (st.take cut ++ [letterAt begin step k] ++ st.drop cut)
theorem w2_nm {st : List Nat} {cut : Nat} {begin step : Int} {k : Nat} (h : allL st) (hl : st.length ≤ 7) : isNm (w2 st cut begin step k) = true := by
  refine nm_ofL ?_ ?_ ?_
  · simp
    omega
  · simp
    omega
  · intro c hc
    simp at hc
    rcases hc with hc | hc | hc
    · exact h c (List.mem_of_mem_take hc)
    · rw [hc]
      exact letter_is (letter_at begin step k)
    · exact h c (List.mem_of_mem_drop hc)
theorem w2_nodup {st : List Nat} {cut : Nat} {begin step : Int} (hs : Stp step) {n : Nat} (hn : n ≤ 12) : ((List.range n).map (w2 st cut begin step)).Nodup :=
  nodup_range_map fun i j hi hj hij e => by
    have e1 := ofL_inj e
    rw [List.append_assoc, List.append_assoc] at e1
    have e2 := List.append_cancel_left e1
    have e3 : letterAt begin step i = letterAt begin step j := by
      simpa using e2
    exact ix26 hs (by omega) hij (nd_ix letters_nodup (letter_at begin step i) (by rw [e3]; exact letter_at begin step j))
/-! cuts -/
theorem cutS_to (st : List Nat) (cut : Nat) (h : cut ≤ st.length) : cutS (ofL st) none (some (cut : Int)) = ofL (st.take cut) := by
  unfold cutS
  rw [ofL_codes, ofL_len, HT.sIx_none, HT.sIx_nat, Nat.min_eq_left h]
  rfl
theorem cutS_from (st : List Nat) (cut : Nat) (h : cut ≤ st.length) : cutS (ofL st) (some (cut : Int)) none = ofL (st.drop cut) := by
  unfold cutS
  rw [ofL_codes, ofL_len, HT.sIx_none, HT.sIx_nat, Nat.min_eq_left h, List.take_of_length_le (by rw [List.length_drop]; exact Nat.le_refl _)]
  rfl
theorem join_ones : ∀ l : List Nat, Str.join "" (l.map fun c => (⟨#[c]⟩ : Str)) = ofL l
  | [] => rfl
  | [c] => rfl
  | c :: d :: r => by
    have ih := join_ones (d :: r)
    show (⟨#[c]⟩ : Str) ++ "" ++ Str.join "" ((d :: r).map fun c => (⟨#[c]⟩ : Str)) = ofL (c :: d :: r)
    rw [ih]
    show (ofL [c] ++ ofL []) ++ ofL (d :: r) = ofL (c :: d :: r)
    rw [app_ofL, app_ofL]
    rfl
end Du

set_option Elab.async false
set_option linter.all false
set_option maxRecDepth 100000
namespace Du
open PySem L2
-- MISSING sWords _law_words
abbrev sWords : Stmt := topS 0
theorem Purse.ne {H : Hp} {p q : Addr} (h : Purse H p) (n : H q = none) : q ≠ p := by
  obtain ⟨_, _, _, e, _⟩ := h
  exact (ne_of_none e n).symm
theorem Step.refl {p : Addr} {H : Hp} (h : Purse H p) : Step p H H := ⟨h, fun _ _ _ e => e⟩
theorem Step.trans {p : Addr} {H H1 H2 : Hp} (a : Step p H H1) (b : Step p H1 H2) : Step p H H2 := ⟨b.purse, fun c o n e => b.keep c o n (a.keep c o n e)⟩
theorem Purse.upd {H : Hp} {p q : Addr} {o : HO} (h : Purse H p) (n : q ≠ p) : Purse (upd H q o) p := by
  obtain ⟨a, d, c, e, r⟩ := h
  exact ⟨a, d, c, by rw [upd_ne n.symm]; exact e, r⟩
theorem Step.put {p q : Addr} {H H1 : Hp} {o : HO} (s : Step p H H1) (n : H q = none) (hq : q ≠ p) : Step p H (upd H1 q o) :=
  ⟨s.purse.upd hq, fun b u nb e => by rw [upd_ne (ne_of_none e n)]; exact s.keep b u nb e⟩
theorem Step.new {p q : Addr} {H : Hp} {o : HO} (h : Purse H p) (n : H q = none) : Step p H (upd H q o) := (Step.refl h).put n (h.ne n)
theorem Step.of_same {p : Addr} {H H' : Hp} (h : Purse H p) (s : Same H H') : Step p H H' := by
  obtain ⟨a, d, c, e, r⟩ := h
  exact ⟨⟨a, d, c, s _ _ e, r⟩, fun b o _ e => s b o e⟩
theorem Step.free {p q : Addr} {H H' : Hp} (s : Step p H H') (n : H' q = none) : H q = none := by
  cases e : H q with
  | none => rfl
  | some o =>
    rw [s.keep q o (s.purse.ne n) e] at n
    cases n
theorem at_nat {α : Type} {xs : List α} {z : Int} {j : Nat} {v : α} (e : z = (j : Int)) (h : xs[j]? = some v) : atI xs z = some v := by
  rw [e]
  exact atI_nat h
theorem range_map_succ {α : Type} (f : Nat → α) (i : Nat) : (List.range (i + 1)).map f = (List.range i).map f ++ [f i] := by
  rw [List.range_succ, List.map_append]
  rfl
end Du

set_option Elab.async false
set_option linter.all false
set_option maxRecDepth 100000
namespace Du
open PySem L2
open PySem.Spec (ltCps)
theorem lt_tri : ∀ a b : List Nat, ltCps a b = false → a ≠ b → ltCps b a = true
  | [], [], _, h => absurd rfl h
  | [], _ :: _, h, _ => by simp [ltCps] at h
  | _ :: _, [], _, _ => rfl
  | a :: r, b :: t, h, hn => by
    simp only [ltCps, Bool.or_eq_false_iff, decide_eq_false_iff_not, Bool.and_eq_false_iff] at h
    simp only [ltCps, Bool.or_eq_true, decide_eq_true_eq, Bool.and_eq_true]
    by_cases e : a = b
    · subst e
      rcases h.2 with z | z
      · simp at z
      · exact .inr ⟨by simp, lt_tri r t z fun q => hn (by rw [q])⟩
    · exact .inl (by omega)
theorem lt_tra : ∀ a b c : List Nat, ltCps a b = true → ltCps b c = true → ltCps a c = true
  | [], [], _, h, _ => by simp [ltCps] at h
  | [], _ :: _, [], _, h => by simp [ltCps] at h
  | [], _ :: _, _ :: _, _, _ => rfl
  | _ :: _, [], _, h, _ => by simp [ltCps] at h
  | _ :: _, _ :: _, [], _, h => by simp [ltCps] at h
  | a :: r, b :: t, c :: u, h1, h2 => by
    simp only [ltCps, Bool.or_eq_true, decide_eq_true_eq, Bool.and_eq_true, beq_iff_eq] at h1 h2 ⊢
    rcases h1 with h1 | ⟨rfl, h1⟩ <;> rcases h2 with h2 | ⟨rfl, h2⟩
    · exact .inl (by omega)
    · exact .inl h1
    · exact .inl h2
    · exact .inr ⟨rfl, lt_tra r t u h1 h2⟩
theorem cps_inj {a b : Str} (h : a.cps.toList = b.cps.toList) : a = b := by
  rw [str_ofL a, str_ofL b, h]
theorem rising_pw : ∀ (p : Str) (r : List Str), PyProof.Rows.risingS p r = true → (p :: r).Nodup → (p :: r).Pairwise fun a b => ltCps a.cps.toList b.cps.toList = true
  | p, [], _, _ => by simp
  | p, x :: r, h, hn => by
    simp only [PyProof.Rows.risingS, Bool.and_eq_true, Bool.not_eq_true'] at h
    have hn' := List.nodup_cons.mp hn
    have ih := rising_pw x r h.2 hn'.2
    have hpx : ltCps p.cps.toList x.cps.toList = true := lt_tri _ _ h.1 fun e => hn'.1 (by rw [cps_inj e.symm]; exact List.mem_cons_self)
    refine List.pairwise_cons.mpr ⟨fun y hy => ?_, ih⟩
    rcases List.mem_cons.mp hy with rfl | hy
    · exact hpx
    · exact lt_tra _ _ _ hpx ((List.pairwise_cons.mp ih).1 y hy)
theorem sorted_pw {ys : List Str} (h : PyProof.Rows.sortedS ys = true) (hn : ys.Nodup) : ys.Pairwise fun a b => ltCps a.cps.toList b.cps.toList = true := by
  cases ys with
  | nil => simp
  | cons p r => exact rising_pw p r h hn
theorem pw_take {ys : List Str} (h : ys.Pairwise fun a b => ltCps a.cps.toList b.cps.toList = true) {i : Nat} {x y : Str} (hx : x ∈ ys.take i) (hy : ys[i]? = some y) : ltCps x.cps.toList y.cps.toList = true := by
  obtain ⟨j, hj⟩ := List.getElem?_of_mem hx
  obtain ⟨hl, e⟩ := List.getElem?_eq_some_iff.mp hj
  rw [List.getElem_take] at e
  rw [List.length_take] at hl
  obtain ⟨hi, e2⟩ := List.getElem?_eq_some_iff.mp hy
  rw [← e, ← e2]
  exact List.pairwise_iff_getElem.mp h j i (by omega) hi (by omega)
theorem ahead_lt {h g : Hold} (hn : ltCps h.1.cps.toList g.1.cps.toList = true) : ahead h g = true := by
  unfold ahead
  have ne : ¬ h.1 = g.1 := fun e => by
    rw [e] at hn
    rw [PyProof.Rows.ltCps_eq] at hn
    exact absurd (of_decide_eq_true hn) (by simp)
  rw [if_neg ne, ← PyProof.Rows.ltCps_eq]
  exact hn
theorem ahead_same {h g : Hold} (e : h.1 = g.1) (hl : h.2.1 + h.2.2 ≤ g.2.1) : ahead h g = true := by
  unfold ahead
  rw [if_pos e]
  exact decide_eq_true hl
def chain (hs : List Hold) : Bool := (hs.zip (hs.drop 1)).all fun p => ahead p.1 p.2
theorem chain_add : ∀ (hs : List Hold) (h : Hold), chain hs = true → (∀ g, hs.getLast? = some g → ahead g h = true) → chain (hs ++ [h]) = true
  | [], h, _, _ => rfl
  | [g], h, _, q => by
    show (ahead g h && true) = true
    rw [q g rfl]
    rfl
  | g :: k :: r, h, c, q => by
    have c' : (ahead g k && chain (k :: r)) = true := c
    rw [Bool.and_eq_true] at c'
    show (ahead g k && chain ((k :: r) ++ [h])) = true
    rw [c'.1, chain_add (k :: r) h c'.2 fun g hg => q g (by rw [List.getLast?_cons_cons]; exact hg)]
    rfl
/-- holds that are good, in the making -/
structure Good (hs : List Hold) (c : Int) : Prop where
  len : hs.length ≤ 4
  all : ∀ h ∈ hs, isHd h c = true
  ch : chain hs = true
theorem Good.ok {hs : List Hold} {c : Int} (g : Good hs c) : areHds hs c = true := by
  unfold areHds
  rw [decide_eq_true g.len]
  have e : (hs.all fun h => isHd h c) = true := List.all_eq_true.mpr g.all
  rw [e]
  exact g.ch
theorem Good.nm {hs : List Hold} {c : Int} (g : Good hs c) : ∀ h ∈ hs, isNm h.1 = true := fun h hh => by
  have z := g.all h hh
  unfold isHd at z
  exact (Bool.and_eq_true_iff.mp z).1
theorem Good.nil (c : Int) : Good [] c := ⟨by simp, by simp, rfl⟩
theorem Good.add {hs : List Hold} {c : Int} {h : Hold} (g : Good hs c) (hl : hs.length < 4) (hh : isHd h c = true) (q : ∀ g, hs.getLast? = some g → ahead g h = true) : Good (hs ++ [h]) c :=
  ⟨by rw [List.length_append]; show hs.length + 1 ≤ 4; omega, fun k hk => by
    rcases List.mem_append.mp hk with z | z
    · exact g.all k z
    · rw [List.mem_singleton.mp z]
      exact hh, chain_add hs h g.ch q⟩
theorem hd_of {z : Str} {s l c : Int} (hz : isNm z = true) (h0 : 0 ≤ s) (h1 : 1 ≤ l) (h2 : s + l ≤ c) : isHd (z, s, l) c = true := by
  unfold isHd
  rw [hz]
  simp
  omega
/-! under a step of the purse -/
theorem sqT_step {K : PySem.W.Frag} {p a : Addr} {H H' : Hp} {xs : List V} (hp : Purse H p) (s : Step p H H') (h : SqT K H a xs) : SqT K H' a xs := by
  obtain ⟨x, d, c, e, _⟩ := hp
  rcases h with (h | ⟨o, h⟩) | h
  · exact .inl (.inl (s.keep a _ (ne_of h e (by intro z; cases z)) h))
  · exact .inl (.inr ⟨o, s.keep a _ (ne_of h e (by intro z; cases z)) h⟩)
  · exact .inr h
theorem HdAt.step {K : PySem.W.Frag} {p : Addr} {H H' : Hp} {v : V} {h : Hold} (d : HdAt K H v h) (hp : Purse H p) (s : Step p H H') : HdAt K H' v h := by
  obtain ⟨a, e, q⟩ := d
  exact ⟨a, e, sqT_step hp s q⟩
theorem HdsAt.step {K : PySem.W.Frag} {p t : Addr} {H H' : Hp} {hs : List Hold} (d : HdsAt K H t hs) (hp : Purse H p) (s : Step p H H') : HdsAt K H' t hs := by
  obtain ⟨vs, h1, h2, h3⟩ := d
  exact ⟨vs, sqT_step hp s h1, h2, fun i v h e1 e2 => (h3 i v h e1 e2).step hp s⟩
end Du

set_option Elab.async false
set_option linter.all false
set_option maxRecDepth 100000
namespace Du
open PySem L2
abbrev pInit : List Str := ["self", "name", "cost", "gap", "due", "holds"]
abbrev FunI (K : PySem.W.Frag) (e0 f : Addr) (fd : FuncData) : Prop := FunD K "__init__" "Task.__init__" (defArgs sInit) (defBody sInit) (defScope sInit) [] [("due", .non), ("holds", .ref e0)] f fd
section
variable {K : PySem.W.Frag} {e0 f : Addr} {fd : FuncData}
def one {α : Type} (l : List α) (i : Nat) : List α := (l.drop i).take 1
theorem one_rel {vs : List V} {us : List Value} (r : Vals vs us) (i : Nat) : Vals (one vs i) (one us i) := (r.drop i).take 1
/-- all five by name -/
theorem kb5 (F : FunI K e0 f fd) : ∃ mv : List Value, KBn K fd pInit 1 ["holds", "gap", "name", "due", "cost"] (fun us ws => us ++ (one ws 2 ++ (one ws 4 ++ (one ws 1 ++ (one ws 3 ++ one ws 0))))) (fun us ws => us ++ (one ws 2 ++ (one ws 4 ++ (one ws 1 ++ (one ws 3 ++ one ws 0))))) :=
  F.kbinds0 1 _ [] (fun us _ ws => us ++ (one ws 2 ++ (one ws 4 ++ (one ws 1 ++ (one ws 3 ++ one ws 0))))) (by simp) (by simp)
    (fun r1 _ r3 => r1.append ((one_rel r3 2).append ((one_rel r3 4).append ((one_rel r3 1).append ((one_rel r3 3).append (one_rel r3 0))))))
    (fun D doc pm an cdv ct us mv ws h1 h2 h3 => match us, mv, ws, h1, h2, h3 with | [_], [], [_, _, _, _, _], _, _, _ => rfl)
/-- four by name -/
theorem kb4 (F : FunI K e0 f fd) : ∃ mv : List Value, KBn K fd pInit 2 ["gap", "due", "cost", "holds"] (fun us ws => us ++ (one ws 2 ++ (one ws 0 ++ (one ws 1 ++ one ws 3)))) (fun us ws => us ++ (one ws 2 ++ (one ws 0 ++ (one ws 1 ++ one ws 3)))) :=
  F.kbinds0 2 _ [] (fun us _ ws => us ++ (one ws 2 ++ (one ws 0 ++ (one ws 1 ++ one ws 3)))) (by simp) (by simp)
    (fun r1 _ r3 => r1.append ((one_rel r3 2).append ((one_rel r3 0).append ((one_rel r3 1).append (one_rel r3 3)))))
    (fun D doc pm an cdv ct us mv ws h1 h2 h3 => match us, mv, ws, h1, h2, h3 with | [_, _], [], [_, _, _, _], _, _, _ => rfl)
theorem kb3 (F : FunI K e0 f fd) : ∃ mv : List Value, KBn K fd pInit 3 ["holds", "due", "gap"] (fun us ws => us ++ (one ws 2 ++ (one ws 1 ++ one ws 0))) (fun us ws => us ++ (one ws 2 ++ (one ws 1 ++ one ws 0))) :=
  F.kbinds0 3 _ [] (fun us _ ws => us ++ (one ws 2 ++ (one ws 1 ++ one ws 0))) (by simp) (by simp)
    (fun r1 _ r3 => r1.append ((one_rel r3 2).append ((one_rel r3 1).append (one_rel r3 0))))
    (fun D doc pm an cdv ct us mv ws h1 h2 h3 => match us, mv, ws, h1, h2, h3 with | [_, _, _], [], [_, _, _], _, _, _ => rfl)
theorem kb2 (F : FunI K e0 f fd) : ∃ mv : List Value, KBn K fd pInit 4 ["due", "holds"] (fun us ws => us ++ ws) (fun us ws => us ++ ws) :=
  F.kbinds0 4 _ [] (fun us _ ws => us ++ ws) (by simp) (by simp) (fun r1 _ r3 => r1.append r3)
    (fun D doc pm an cdv ct us mv ws h1 h2 h3 => match us, mv, ws, h1, h2, h3 with | [_, _, _, _], [], [_, _], _, _, _ => rfl)
theorem kbD (F : FunI K e0 f fd) : ∃ mv : List Value, KBn K fd pInit 4 ["due"] (fun us ws => us ++ (ws ++ mv)) (fun us ws => us ++ (ws ++ [V.ref e0])) :=
  F.kbinds0 4 _ [("holds", V.ref e0)] (fun us mv ws => us ++ (ws ++ mv)) (by simp) (by simp) (fun r1 r2 r3 => r1.append (r3.append r2))
    (fun D doc pm an cdv ct us mv ws h1 h2 h3 => match us, mv, ws, h1, h2, h3 with | [_, _, _, _], [_], [_], _, _, _ => ⟨_, _, _, _, _, _, rfl, rfl, rfl⟩)
theorem kbH (F : FunI K e0 f fd) : ∃ mv : List Value, KBn K fd pInit 4 ["holds"] (fun us ws => us ++ (mv ++ ws)) (fun us ws => us ++ ([V.non] ++ ws)) :=
  F.kbinds0 4 _ [("due", V.non)] (fun us mv ws => us ++ (mv ++ ws)) (by simp) (by simp) (fun r1 r2 r3 => r1.append (r2.append r3))
    (fun D doc pm an cdv ct us mv ws h1 h2 h3 => match us, mv, ws, h1, h2, h3 with | [_, _, _, _], [_], [_], _, _, _ => ⟨_, _, _, _, _, _, rfl, rfl, rfl⟩)
theorem kb0 (F : FunI K e0 f fd) : ∃ ds, Vals [V.non, V.ref e0] ds ∧ Binds K fd pInit ds :=
  F.binds0 4 (by simp) rfl (fun D doc pm an cdv ct us ks h1 h2 => match us, ks, h1, h2 with | [_, _, _, _], [_, _], _, _ => ⟨_, _, _, _, _, _, rfl, rfl, _, _, _, _, _, _, rfl, rfl, rfl⟩)
end
end Du

set_option Elab.async false
set_option linter.all false
set_option maxRecDepth 100000
namespace Du
open PySem L2 PyProof.Rows
section
variable {P : Program} {w : World} {K : PySem.W.Frag} {mg : Str → Option Value} {base : Heap} {k : Nat} {f : Addr} {N ps : List Str} {A : Around} {outer : List Env} {s : Shared} {H : Hp} {args : Args} {us : List Value} {vs : List V} {Q : VK}
/-- a def's call where one stands, by its body there -/
theorem fn_at {name qual : Str} {params : Arguments} {body : List Stmt} {scope : Scope} {dV kV doc pm cdv ct oc : Value} {an od : Option Addr} {osl : Array (Option Value)}
    (lk : K.lookup f = some ⟨oc, od, .func (PySem.W.fnOf name qual params body scope dV kV doc pm an cdv ct), osl⟩) (hcd : PySem.W.codeIn K cdv qual = true) (S : FnScope N ps scope) (hr : Room (k + 1) A) (e0 : Env0 P w K mg base A outer s H)
    (hb : BindsTo s (PySem.W.fnOf name qual params body scope dV kV doc pm an cdv ct) args (ps.zip us)) (r : Vals vs us) (hl : vs.length = ps.length)
    (go : ∃ t, PSs (cxOf CX0 P w K mg base N qual scope f cdv A outer s H E0).nox body t ∧ t { nx := fun _ H' => Q .non H', rt := Q } (L2.start N vs) H) : codeAny (model P w) A (.call (.ref f) args) (CR CX0 outer P w H s Q E0) s := by
  have kept := fun b o e => (e0.bs b o e).1
  have KX : K.In s.heap := e0.mod.kin.keeps kept
  refine codeAny_call_function hr.depth (KX _ _ lk) rfl S.co S.gen rfl (PySem.W.codeRec_of KX hcd) (hb _ _ _ _ (wpAny_newFunctionEnv_cells S.kind (fun y hy => (S.par y.1 (List.of_mem_zip hy).1).imp id fun q => ⟨q, PySem.W.cellsFrom_some _ _ _ (.inl q)⟩) fun env he s1 x => ?_))
  subst he
  obtain ⟨t, ht, hq⟩ := go
  have I := inv_start (CX := CX0) (E := E0) S hr.hd e0 hl r x
  refine ⟨(e0.mod.nolimit.keeps kept).keeps x.toInCall.keep, codeAny_func (wpAny_mono (ht.nox.run [] s1 _ H _ I hq) (fun fl s' hs => ?_) fun _ _ z => z)⟩
  match fl, hs with
  | .ret u, ⟨v, σ', H', J, rv, q⟩ => exact ⟨v, H', J.os, J.bare, J.base, J.hok, rv, q⟩
  | .next, ⟨σ', H', J, q⟩ => exact ⟨V.non, H', J.os, J.bare, J.base, J.hok, rfl, q⟩
  | .brk, ⟨_, _, _, q⟩ => exact q.elim
  | .cont, ⟨_, _, _, q⟩ => exact q.elim
end
/-- the law's def, called by the claim's own caller -/
def LawOk (P : Program) (w : World) (K : PySem.W.Frag) (mg : Str → Option Value) (base : Heap) (fa : Addr) (fd : FuncData) (x : Str) (sp : Sp) : Prop :=
  ∀ (s : Shared) (H : Hp) (u : Value) (v : V) (Q : VK), Env0 P w K mg base callerA [] s H → BindsTo s fd ⟨[u], []⟩ [(x, u)] → RelV v u → sp [v] H Q E0 → codeAny (model P w) callerA (.call (.ref fa) ⟨[u], []⟩) (CR CX0 [] P w H s Q E0) s
theorem law_at {P : Program} {w : World} {K : PySem.W.Frag} {mg mb : Str → Option Value} {fa a : Addr} {fd : FuncData} {x : Str} {sp : Sp} {s1 : Shared} {vs : List Value} {ns : List Int}
    (KX : K.In s1.heap) (hns : s1.heap.Ns mainGlobals mg) (hb : s1.heap.Ns builtinsNs mb) (hbb : ∀ y : Str, y ≠ "__name__" → mb y = bootBuiltins y) (hlim : s1.heap.NoLimit) (hg : s1.gens = #[])
    (ha : s1.heap.get? a = some { cls := .type "list", data := .seq vs.toArray }) (hi : IntsAre vs ns) (hl : ns.length ≤ sizeLine)
    (F : ∀ base : Heap, K.In base → base.Ns mainGlobals mg → LawOk P w K mg base fa fd x sp) (hbind : ∀ (s : Shared) (u : Value), BindsTo s fd ⟨[u], []⟩ [(x, u)])
    (hsp : ∀ H : Hp, SqL K H a (ns.map V.int) → sp [.ref a] H (fun v _ => v = .bl true) E0) :
    codeAny (model P w) callerA (.call (.ref fa) ⟨[.ref a], []⟩) (fun r s' => r = .ok (.ret (.bool true)) ∧ OldK s1.heap s'.heap ∧ s'.os = s1.os ∧ AllBare s'.gens) s1 := by
  have rv := vals_ints hi
  let H : Hp := fun b => if b = a ∧ K.lookup a = none then some (.frz { cls := .type "list", data := .seq vs.toArray } (.lst (ns.map V.int))) else none
  have hH : ∀ b u, H b = some u → b = a ∧ K.lookup a = none ∧ u = .frz { cls := .type "list", data := .seq vs.toArray } (.lst (ns.map V.int)) := fun b u e => by
    by_cases hc : b = a ∧ K.lookup a = none
    · have e' := (if_pos hc).symm.trans e
      exact ⟨hc.1, hc.2, (Option.some.inj e').symm⟩
    · have e' := (if_neg hc).symm.trans e
      cases e'
  have hS : SqL K H a (ns.map V.int) := by
    cases hk : K.lookup a with
    | none => exact .inl (.inr ⟨_, if_pos ⟨rfl, hk⟩⟩)
    | some o =>
      have eo := (KX a o hk).symm.trans ha
      cases eo
      exact .inr ⟨_, vs.toArray, _, hk, rfl, rfl, rfl, by rw [List.size_toArray, hi.length]; exact hl, by simpa using rv⟩
  have hok : HOk P w H s1.heap := fun b u e => by
    obtain ⟨rfl, _, rfl⟩ := hH b u e
    exact ⟨ha, by rw [List.length_map]; exact hl, vs, _, rv, ha⟩
  have noD : ∀ {b : Addr} {o : Obj} {es : Array DictEntry} {ep : Nat}, s1.heap.get? b = some o → o.data = .dict es ep → H b = none := fun {b o es ep} e d => by
    cases q : H b with
    | none => rfl
    | some u =>
      obtain ⟨rfl, _⟩ := hH b u q
      cases ha.symm.trans e
      cases (show Data.seq vs.toArray _ = Data.dict es ep from d)
  have ns' : ∀ {b : Addr} {m : Str → Option Value}, s1.heap.Ns b m → (hidT s1.heap H).Ns b m := fun ⟨o, es, ep, e, d, z⟩ => ⟨o, es, ep, hidT_get e (noD e d), d, z⟩
  have hKb : K.In (hidT s1.heap H) := fun b o e => hidT_get (KX b o e) (by
    cases q : H b with
    | none => rfl
    | some u =>
      obtain ⟨rfl, hk, _⟩ := hH b u q
      rw [hk] at e
      cases e)
  obtain ⟨mc, l1, l2⟩ := hlim
  have e0 : Env0 P w K mg (hidT s1.heap H) callerA [] s1 H := ⟨rfl, ⟨hKb, ns' hns, ⟨mb, ns' hb, hbb⟩, ⟨mc, ns' l1, l2⟩⟩, fun b o e => of_hidT e, Nat.le_of_eq (hidT_size _ _), trivial, (fun b z => nomatch z), hok, .of_eq hg⟩
  refine codeAny_mono (F _ hKb (ns' hns) s1 H (.ref a) (.ref a) _ e0 (hbind s1 (.ref a)) rfl (hsp H hS)) fun r s' h => ?_
  match r, h with
  | .error _, h => exact h.elim
  | .ok .next, h => exact h.elim
  | .ok .brk, h => exact h.elim
  | .ok .cont, h => exact h.elim
  | .ok (.ret u), ⟨v, H', os, bare, un, hok', rvu, q⟩ =>
    have q' : v = .bl true := q
    subst q'
    obtain rfl : u = Value.bool true := rvu
    refine ⟨rfl, OldK.of_keep fun b o e => ?_, os, bare⟩
    cases z : H b with
    | none => exact un.keep b o e z (fun y => nomatch y) (fun y => nomatch y)
    | some y =>
      obtain ⟨rfl, hk, rfl⟩ := hH b y z
      have e2 := (hok' _ _ (un.frzs _ _ _ z)).1
      rw [← Option.some.inj (ha.symm.trans e)]
      exact e2
theorem walk_at {l : PySem.W.OpenLaw} {n : Nat} {q : Program} {loose : List Str} {XP : (Str → Option Value) → Heap → Prop} {YP : World → Heap → Prop} {d : DefRec} {K : Params → PySem.W.Frag} {sp : World → Sp} {x : Str} (hn : l.most = some n) (hn2 : n ≤ sizeLine) (hdf : d.params.defaults = [])
    (hY : ∀ (w : World) (h : Heap), YP w h → (K w.params).In h)
    (F : ∀ (w : World) (mg : Str → Option Value) (fa : Addr) (h : Heap), (K w.params).In h → h.Ns mainGlobals mg → mg d.name = some (.ref fa) →
      ∃ fd : FuncData, (∀ (s : Shared) (u : Value), BindsTo s fd ⟨[u], []⟩ [(x, u)]) ∧ ∀ base : Heap, (K w.params).In base → base.Ns mainGlobals mg → LawOk l.prog w (K w.params) mg base fa fd x (sp w))
    (hsp : ∀ (w : World) (H : Hp) (a : Addr) (ns : List Int), ns.length ≤ n → SqL (K w.params) H a (ns.map V.int) → sp w [.ref a] H (fun v _ => v = .bl true) E0) :
    PySem.W.WalkO q loose XP YP l.row.toRowW d [] (fun f vs => PySem.call f vs) := by
  refine Att.attach_call hn hdf fun w s0 s1 mg mb fa o pm cd doc a vs ns G Y ho hd hcd hmg hobj hints hlen hg => ?_
  obtain ⟨fd, hb, hF⟩ := F w mg fa _ (hY w _ Y) G.T.g hmg
  exact law_at (hY w _ Y) G.T.g G.T.b G.T.builtins G.T.nolimit hg hobj hints (Nat.le_trans hlen hn2) hF hb fun H hS => hsp w H a ns hlen hS
end Du

set_option Elab.async false
set_option linter.all false
set_option maxRecDepth 100000
set_option maxHeartbeats 1000000
namespace Du
open PySem PySem.W PySem.Calls PyProof.Rows PySem.HandSPX
open L2 (defArgs defBody defScope inClass)
/-- what the written part says of an error class over ValueError with one field -/
structure ErrC (P : Program) (K : Frag) (mg : Str → Option Value) (x fld qual : Str) (st : Stmt) (C fI : Addr) : Prop where
  gC : mg x = some (.ref C)
  cls : ∃ nm q N bs bm sn sub ab col dd k0 k1 k2 k3 k5, K.lookup C = some (excClassObj nm q C N bs bm true sn sub ab col dd k0 k1 k2 k3 k5 "ValueError.__new__") ∧ refsVE bm = true
  sa : findIn K (.ref C) "__setattr__" = some (some (.builtin "object.__setattr__"))
  ga : findIn K (.ref C) "__getattribute__" = some (some (.builtin "BaseException.__getattribute__"))
  gg : findIn K (.ref C) "__getattr__" = some none
  noN : findIn K (.ref C) fld = some none
  iC : findIn K (.ref C) "__init__" = some (some (.ref fI))
  tC : typeIn K (.ref fI) = some (.type "function")
  kC : keepIn K (.ref C) = true
  exC : subIn K (.ref C) (.type "BaseException") = some true
  veC : subIn K (.ref C) (.type "ValueError") = some true
  tyC : typeIn K (.ref C) = some (.type "type")
  hdC : hasDictIn K C = true
  mro : mroIn K C (.ref C) = some true
  sup : ks_superIn K C C "__init__" = some (some (.builtin "ValueError.__init__"))
  any : nsIn K cStatics "thirdparty.any" = some none
  top : (P.main.scope.names.lookup ("super" : Str)).isSome = false
  mS : mg "super" = none
  fn : ∃ (oc : Value) (od : Option Addr) (doc pm : Value) (an : Option Addr) (cda cc : Addr) (ct : Value) (osl : Array (Option Value)) (ccl cl : Value) (cdd cld : Option Addr) (ccs csl : Array (Option Value)) (vs : Array Value) (file : Str) (tf : Tok),
    K.lookup fI = some ⟨oc, od, .func (ksFn "__init__" qual (defArgs st) (defBody st) (defScope st) .none .none doc pm an (.ref cda) ct cc), osl⟩ ∧ codeIn K (.ref cda) qual = true ∧
    K.lookup cda = some ⟨ccl, cdd, .fields vs, ccs⟩ ∧ vs[2]? = some (.str file tf) ∧ ((P.main.file : Str) == file) = true ∧ K.lookup cc = some ⟨cl, cld, .cell (some (.ref C)), csl⟩
/-- what __init__ leaves of a fresh exception at x -/
structure ErrEnd (h h' : Heap) (x C dx : Addr) (fld : Str) (v : Value) : Prop where
  keep : ∀ b o, b ≠ x → h.get? b = some o → h'.get? b = some o
  obj : ∃ t1 : Addr, h'.get? x = some { cls := .ref C, dict := some dx, data := .fields #[.ref t1, .none, .none, .none, .bool false, .none] }
  dbig : h.objs.size ≤ dx
  dne : dx ≠ x
  ns : h'.Ns1 dx (fun y => if y = fld then some v else none)
section
variable {prog : Program} {w : World} {A : Around} {E : Value → Shared → Prop} {h : Heap} {g : Array GenState} {d : Drawn} {t : Nat} {os : OsState}
variable {nm q : Str} {C N : Addr} {bs bm : List Value} {hdct : Bool} {sn : List Str} {sub : List Value} {ab : Bool} {col : Option Bool} {dd : Option Addr} {k0 k1 k2 k3 k5 : Option Value} {B newId i : String} {bmB : List Value}
/-- the bound __init__ of the built-in base, called -/
theorem call_mw (FB : ExcBaseFacts B newId i bmB) {u e t0 : Addr} {rest : List Value} {Q : Value → Shared → Prop} (hC : h.get? C = some (excClassObj nm q C N bs bm hdct sn sub ab col dd k0 k1 k2 k3 k5 newId)) (he : h.get? e = some (excO C t0)) (hu : h.get? u = some (kxs_mw i e))
    (hrest : rest.length ≤ sizeLine) (hq : ∀ h' t1, (∀ b o, b ≠ e → h.get? b = some o → h'.get? b = some o) → h'.get? e = some (excO C t1) → Q .none ⟨h', g, d, t, os⟩) : wpAny (model prog w) A (call (.ref u) rest) Q E ⟨h, g, d, t, os⟩ := by
  refine wpAny_call (codeAny_of_tree ?_)
  show wpAny _ A.in1 (callAny (.ref u) ⟨rest, []⟩) _ _ _
  simp only [callAny]
  refine wpAny_bind (wpAny_load hu (KFB.if_so (show (Value.type "method-wrapper" == Value.type "method" || Value.type "method-wrapper" == Value.type "builtin_function_or_method" || Value.type "method-wrapper" == Value.type "method-wrapper") = true by decide) (wpAny_bind (check_bound_init FB.toExcCallFacts hC he rfl (wpAny_bind (wpAny_pure (wpAny_pure ⟨plainId_quiet FB.init.plain _, codeAny_builtin FB.initEntry ?_⟩)))))))
  exact exc_init_tree (cls := .ref C) (t0 := t0) (dv := none) (c2 := .none) (c3 := .none) (b4 := .bool false) he hrest fun h' k e' _ => hq h' _ k e'
end
abbrev sNoTask : Stmt := inClass (topS 4) 0
section
variable {prog : Program} {w : World} {A : Around} {E : Value → Shared → Prop} {R : Result → Shared → Prop} {s : Shared} {K : Frag} {mg mb : Str → Option Value} {C fI : Addr} {nm qual : Str}
theorem init_NoTask (T : ErrC prog K mg nm "part" qual sNoTask C fI) {x t0 : Addr} {v : Value} (X : K.In s.heap) (hlim : s.heap.NoLimit) (G : s.heap.Ns mainGlobals mg) (Bn : s.heap.Ns builtinsNs mb) (hbb : ∀ y : Str, y ≠ "__name__" → mb y = bootBuiltins y)
    (hx : s.heap.get? x = some (excO C t0)) (hnx : K.lookup x = none) (hroom : A.depth < recursionLimit) (hq : ∀ h' tk dx, ErrEnd s.heap h' x C dx "part" v → R (.ok (.ret .none)) { s with heap := h', toks := tk }) : codeAny (model prog w) A (.call (.ref fI) ⟨[.ref x, v], []⟩) R s := by
  obtain ⟨oc, od, doc, pm, an, cda, cc, ct, osl, ccl, cl, cdd, cld, ccs, csl, vs, file, tf, lk, hcd, hcode, hvs, hfile, hcell⟩ := T.fn
  obtain ⟨nm', q', N', bs, bm, sn, sub, ab, col, dd, k0, k1, k2, k3, k5, hC, hbm⟩ := T.cls
  have hcl : clsIn K C = some { name := nm', bases := bs, mro := .ref C :: bm, ns := N', qualname := q', hasDict := true, slotNames := sn, subclasses := sub, abstract := ab, collection := col, hasDel := false } := by unfold clsIn; rw [hC] <;> rfl
  have nocell : ∀ y ∈ (defScope sNoTask).names, y.2 ≠ .cell := by decide +kernel
  refine ks_codeAny_call_defAt (binds := [(("self" : Str), Value.ref x), ("part", v)]) hroom (X _ _ lk) rfl hlim (codeRec_of X hcd) rfl (BindsTo.of_eq rfl) nocell (fun y hy => ?_) (fun h1 hn k => ?_)
  · rcases List.mem_cons.mp hy with rfl | hy
    · rfl
    · rw [List.mem_singleton.mp hy]
      rfl
  have X1 : K.In h1 := X.keeps k
  have hx1 := k _ _ hx
  have I1 : InstAt h1 x (excO C t0) C none := ⟨hx1, rfl, rfl, trivial⟩
  obtain ⟨oD, hD1, cdD, hD2⟩ : ∃ oD, h1.get? C = some oD ∧ ∃ cd, oD.data = .cls cd := ⟨_, X1 _ _ hC, _, rfl⟩
  refine ks_wpAt_execs_cons (ks_wpAt_Expr_any (ks_wpAt_MethodCall ?_))
  refine ks_wpAt_super_base rfl rfl (by decide) rfl (X1 _ _ lk) rfl rfl rfl (X1 _ _ hcode) rfl hvs hfile T.top ?_
  refine ks_loadName_global rfl rfl (loadGlobal_builtin (G.keeps k) T.mS (Bn.keeps k) ((hbb _ (by decide)).trans PyProof.Rows.Boot.«super») ⟨rfl, ?_⟩)
  refine wpAny_loadName_free rfl rfl rfl ⟨_, X1 _ _ hcell, rfl⟩ ?_
  refine wpAny_loadName_local rfl rfl hn rfl ?_
  refine ks_wpAny_isType_cls hD1 hD2 ⟨rfl, ?_⟩
  refine ks_wpAny_call_super hD1 hD2 hx1 rfl (fun c e => by cases e) (looks_mroIn X1 T.mro) (fun h2 hso k2 => ?_)
  have X2 : K.In h2 := X1.keeps k2
  have hx2 := k2 _ _ hx1
  have I2 : InstAt h2 x (excO C t0) C none := ⟨hx2, rfl, rfl, trivial⟩
  have hm := T.sup
  unfold ks_superIn at hm
  rw [hcl] at hm
  have hmro : W.Looks (model prog w) h2 (mroOf (.ref C)) (.ref C :: bm) := (looks_clsIn X2 hcl).andThen .now
  refine kxs_getMethod kxs_ValueError hso (looks_opaque X2 T.any) hmro rfl X2 hm (I2.type.andThen (looks_subIn X2 T.veC)) (ks_ne X2 I2 hcl) (by decide) ?_
  have k3 : ∀ b o, h2.get? b = some o → (h2.push (kxs_mw "ValueError.__init__" x)).get? b = some o := fun b o e => Heap.get?_push_of_some _ e
  refine kxs_callWith (i := "ValueError.__init__") (x := x) rfl (evalArgs_plain (args_cons (Calls.Constant_str (args_nil ⟨Heap.get?_push_at rfl rfl, ?_⟩))))
  refine call_mw F.excBase_ValueError (k3 _ _ (X2 _ _ hC)) (k3 _ _ hx2) (Heap.get?_push_at rfl rfl) (by show 1 ≤ sizeLine; decide) fun h4 t1 k4 hx4 => ?_
  -- the field
  have kx : ∀ b o, b ≠ x → h1.get? b = some o → h4.get? b = some o := fun b o hb e => k4 b o hb (k3 b o (k2 b o e))
  have X4 : K.In h4 := fun b o e => kx b o (fun z => by rw [z, hnx] at e; cases e) (X1 b o e)
  have hL : s.heap.objs.size ≠ x := Nat.ne_of_gt (Heap.lt_size hx)
  obtain ⟨oL, esL, epL, eL, rL⟩ := id hn
  have hn4 : h4.Ns s.heap.objs.size _ := ⟨oL, esL, epL, kx _ _ hL eL, rL⟩
  refine ks_wpAt_execs_cons (ks_wpAt_Assign_Attr (wpAt_of_wpAny (wpAny_Name (wpAny_loadName_local rfl rfl hn4 rfl (wpAny_Name (wpAny_loadName_local rfl rfl hn4 rfl ?_) (by decide))) (by decide))))
  refine set_plain X4 (ox := excO C t1) (od := none) ⟨hx4, rfl, rfl, trivial⟩ T.sa ?_
  refine exc_osa X4 hx4 hcl (show refsVE (.ref C :: bm) = true from hbm) rfl T.noN (fun h5 tk5 dx k5 dn dne hx5 hn5 => ?_)
  refine wpAt_of_wpAny (wpAny_execs_nil (hq h5 tk5 dx ⟨fun b o hb e => k5 b o hb (kx b o hb (k b o e)), ⟨t1, hx5⟩, ?_, dne, hn5⟩))
  have z : s.heap.objs.size < h4.objs.size := hn4.lt
  have dn' : h4.objs.size ≤ dx := dn
  omega
/-- the error made -/
structure ErrMade (h h' : Heap) (e C d : Addr) (fld : Str) (v : Value) : Prop where
  keep : ∀ b o, h.get? b = some o → h'.get? b = some o
  new : h.objs.size ≤ e
  obj : ∃ oe vs, h'.get? e = some oe ∧ oe.cls = .ref C ∧ oe.dict = some d ∧ oe.data = .fields vs ∧ vs[1]? = some .none ∧ vs[2]? = some .none
  dbig : h.objs.size ≤ d
  dne : d ≠ e
  ns : h'.Ns1 d (fun y => if y = fld then some v else none)
theorem made_NoTask (T : ErrC prog K mg nm "part" qual sNoTask C fI) {v : Value} (X : K.In s.heap) (hlim : s.heap.NoLimit) (G : s.heap.Ns mainGlobals mg) (Bn : s.heap.Ns builtinsNs mb) (hbb : ∀ y : Str, y ≠ "__name__" → mb y = bootBuiltins y) (hroom : A.depth + 1 < recursionLimit)
    (hq : ∀ h' tk e d, ErrMade s.heap h' e C d "part" v → R (.ok (.ret (.ref e))) { s with heap := h', toks := tk }) : codeAny (model prog w) A (.call (.ref C) ⟨[v], []⟩) R s := by
  obtain ⟨nm', q', N', bs, bm, sn, sub, ab, col, dd, k0, k1, k2, k3, k5, hC, hbm⟩ := T.cls
  obtain ⟨hp, g, dr, tk, os⟩ := s
  have k : ∀ b o, hp.get? b = some o → ((hp.push (kdv_tup [v])).push (excO C hp.objs.size)).get? b = some o := fun b o e => Heap.get?_push_of_some _ (Heap.get?_push_of_some _ e)
  have hget : ((hp.push (kdv_tup [v])).push (excO C hp.objs.size)).get? (hp.objs.size + 1) = some (excO C hp.objs.size) := by heap_get
  have hnx : K.lookup (hp.objs.size + 1) = none := by
    cases e : K.lookup (hp.objs.size + 1) with
    | none => rfl
    | some o => exact absurd (Nat.lt_of_succ_lt (Heap.lt_size (show hp.get? (hp.objs.size + 1) = some o from X _ _ e))) (Nat.lt_irrefl _)
  refine call_own F.excBase_ValueError (fun X => refsVE_contains X bm hbm) (X _ _ hC) (looks_findIn X T.iC) (fun self => bind_fn X self T.tC) (by show 1 ≤ sizeLine; decide) ?_
  refine init_NoTask (s := ⟨(hp.push (kdv_tup [v])).push (excO C hp.objs.size), g, dr, tk, os⟩) T (X.keeps k) (hlim.keeps k) (G.keeps k) (Bn.keeps k) hbb hget hnx hroom fun h' tk' dx m => ?_
  obtain ⟨k', ⟨t1, hx⟩, dn, dne, hns⟩ := m
  have z : hp.objs.size + 1 + 1 ≤ dx := by
    have q := dn
    rw [Heap.size_push, Heap.size_push] at q
    exact q
  exact ⟨rfl, hq h' tk' (hp.objs.size + 1) dx ⟨fun b o e => k' b o (Nat.ne_of_lt (Nat.lt_succ_of_lt (Heap.lt_size e))) (k b o e), Nat.le_succ _, ⟨_, _, hx, rfl, rfl, rfl, rfl, rfl⟩, Nat.le_trans (Nat.le_trans (Nat.le_succ _) (Nat.le_succ _)) z, dne, hns⟩⟩
end
end Du

set_option Elab.async false
set_option linter.all false
set_option maxRecDepth 100000
set_option maxHeartbeats 1000000
namespace Du
open PySem PySem.Spec PyProof.Rows L2
open L2N (Zn)
/-- an object's classes as a tuple: how a clause's match is seen -/
def Mat (K : PySem.W.Frag) (cs : List Value) : Prop := ∀ {M : Model} {h : Heap} {cls : Value} {tp e : Addr}, K.In h → PySem.W.Looks M h (typeOf (.ref e)) cls → h.get? tp = some { cls := .type "tuple", data := .seq cs.toArray } → PySem.W.exmAny K cls cs = some true → PySem.W.Looks M h (excMatches (.ref e) (.ref tp)) true
theorem mat2 {K : PySem.W.Frag} {c1 c2 : Value} : Mat K [c1, c2] := fun X L hp hx => PySem.W.exm_tup2 X L hp hx
theorem mat3 {K : PySem.W.Frag} {c1 c2 c3 : Value} : Mat K [c1, c2, c3] := fun X L hp hx => PySem.W.exm_tup3 X L hp hx
/-- the clause's tuple, laid where the error is handled -/
def Lays (X : Cx) (te : Expr) (cs : List Value) : Prop := ∀ (a : Addr) (oe : Obj) (pn : List (Addr × Obj)) (σ : L2.St) (H : Hp) (s : Shared) (Q : Value → Shared → Prop) (E : Value → Shared → Prop), Inv (X.suite a ((a, oe) :: pn)) [] σ H s →
  (∀ tp h', h'.get? tp = some { cls := .type "tuple", data := .seq cs.toArray } → (∀ b o, s.heap.get? b = some o → h'.get? b = some o) → Q (.ref tp) { s with heap := h' }) → wpAny (model X.prog X.w) (X.A.mark (some (.ref a))) (eval te X.env) Q E s
theorem name_at {X : Cx} {x : Str} {c : Value} {np : Pos} (hc : Names X x c) {a : Addr} {oe : Obj} {pn : List (Addr × Obj)} {σ : L2.St} {H : Hp} {s : Shared} {Q : Value → Shared → Prop} {E : Value → Shared → Prop} (S : Inv (X.suite a ((a, oe) :: pn)) [] σ H s) (q : Q c s) :
    wpAny (model X.prog X.w) (X.A.mark (some (.ref a))) (eval (.Name x np) X.env) Q E s := by
  obtain ⟨hg, hd, hm | ⟨hm, hv, hn⟩⟩ := hc
  · exact ld_glob (X := X.suite a ((a, oe) :: pn)) S hg hm q hd
  · exact ld_blt (X := X.suite a ((a, oe) :: pn)) S hg hm hv q hn hd
theorem lays2 {X : Cx} {x1 x2 : Str} {c1 c2 : Value} {n1 n2 tp : Pos} {kk : Nat} (h1 : Names X x1 c1) (h2 : Names X x2 c2) : Lays X (.Tuple [.Name x1 n1, .Name x2 n2] kk tp) [c1, c2] := fun a oe pn σ H s Q E S q =>
  wpAny_Tuple_spliced (args_cons (name_at h1 S (args_cons (name_at h2 S (args_nil ⟨by show 2 ≤ sizeLine; decide, q _ _ (Heap.get?_push_size _ rfl) fun b o e => Heap.get?_push_of_some _ e⟩)))))
theorem lays3 {X : Cx} {x1 x2 x3 : Str} {c1 c2 c3 : Value} {n1 n2 n3 tp : Pos} {kk : Nat} (h1 : Names X x1 c1) (h2 : Names X x2 c2) (h3 : Names X x3 c3) : Lays X (.Tuple [.Name x1 n1, .Name x2 n2, .Name x3 n3] kk tp) [c1, c2, c3] := fun a oe pn σ H s Q E S q =>
  wpAny_Tuple_spliced (args_cons (name_at h1 S (args_cons (name_at h2 S (args_cons (name_at h3 S (args_nil ⟨by show 3 ≤ sizeLine; decide, q _ _ (Heap.get?_push_size _ rfl) fun b o e => Heap.get?_push_of_some _ e⟩)))))))
theorem flying_push {B h h' : Heap} {l : List Env} {a : Addr} {Z : Obj → Prop} (k : ∀ b o, h.get? b = some o → h'.get? b = some o) (f : HandSPX.FlyingZ B l a Z h) : HandSPX.FlyingZ B l a Z h' := by
  obtain ⟨f1, f2, f3, oe, vs, T, oT, ts, t1, t2, t3, t4, t5, t6, t7, t8, t9⟩ := f
  exact ⟨fun b o e => k b o (f1 b o e), f2, Heap.FunFrames.of_keeps (fun b o e _ => ⟨o, k b o e, rfl⟩) f3, oe, vs, T, oT, ts, k _ _ t1, t2, t3, t4, t5, t6, k _ _ t7, t8, t9⟩
/-- what 'except (..) as n' wishes of an exception of the body, each of which it takes -/
def wTup (K : PySem.W.Frag) (cs : List Value) (i : Nat) (ts : Addr → Value → Option Addr → TS) (D : Ends) : WX := fun cls d σ H =>
  PySem.W.exmAny K cls cs = some true ∧ ∀ a, H a = none → ts a cls d { nx := fun σ' H' => D.nx (σ'.set i none) H', rt := D.rt, bk := fun σ' H' => D.bk (σ'.set i none) H', ct := fun σ' H' => D.ct (σ'.set i none) H' } (σ.set i (some (.ref a))) H
theorem ps_try_tup {X : Cx} {n : Str} {i : Nat} {te : Expr} {cs : List Value} {body suite : List Stmt} {b0 : Stmt} {pos pos' : Pos} {tb : WX → TS} {ts : Addr → Value → Option Addr → TS} (hs : X.stack = X.env :: X.outer) (hf : X.env.frame = some X.env.locals) (hN : X.N.Nodup) (hi : X.N[i]? = some n)
    (hln : X.env.kindOf n = some .local) (hl : Lays X te cs) (hm : Mat X.K cs)
    (hb : ∀ (W : WX) (pn : List (Addr × Obj)) (xe : Value → Shared → Prop), L2N.Takes (X.tr pn xe) W → PassesOwn (model X.prog X.w) X.A X.env xe → PSs (X.tr pn xe) body (tb W))
    (hsu : ∀ (a : Addr) (oe : Obj) (cls : Value) (d : Option Addr) (pn : List (Addr × Obj)), Zn cls d oe → (∃ vs, oe.data = .fields vs) → PSs (X.suite a ((a, oe) :: pn)) (b0 :: suite) (ts a cls d)) :
    PS X (.Try body [.ExceptHandler (some te) (some n) (b0 :: suite) pos'] [] [] pos) (fun D σ H => tb (wTup X.K cs i ts D) D σ H) := by
  refine ⟨fun pins s σ H D I h => ?_⟩
  have ok := I.ok
  refine wpAny_Try_except (wpAny_mono ((hb (wTup X.K cs i ts D) (X.pn ++ pins) (fun e s1 => wpAny (model X.prog X.w) X.A (noteFrame e X.env) (fun _ s2 => wpAny (model X.prog X.w) X.A (setFlight e none) (fun _ s3 =>
    wpAny (model X.prog X.w) X.A (handleBy e X.env [.ExceptHandler (some te) (some n) (b0 :: suite) pos']) (SP X pins D) X.xe s3) X.xe s2) X.xe s1) (fun u s' xx => ?_) PassesOwn.looking).run [] s σ H D (I.toTry _) h) (fun f s1 hsp => ?_) (fun _ _ he => he))
  · obtain ⟨a, B, sI, pins', σ', H', cls, d, rfl, J', nb, up, sky, na, os, ag, hyes, go⟩ := xx
    have J : Inv X pins σ' H' sI := J'.ofTry ok
    have hfr : X.A.frames = some (X.env :: X.outer) := by rw [ok.frames, hs]
    show wpAny (model X.prog X.w) X.A (noteFrame (.ref a) X.env) _ _ _
    refine L2N.Sky.land Zn.steady hfr hf (by rw [← hs]; exact sky) fun h3 fl3 up3 => ?_
    obtain ⟨oe3, vs3, he3, hz3, hd3⟩ := fl3.there
    have nfr : a ∉ frs (X.env :: X.outer) := fun m => by
      obtain ⟨_, o', e', hnf⟩ := fl3.2.2.1.mem m
      cases he3.symm.trans e'
      exact hnf _ hd3
    have nL : a ≠ X.env.locals := fun z => nfr (List.mem_filterMap.mpr ⟨X.env, List.mem_cons_self, by rw [hf, z]⟩)
    have nF : a ∉ X.fs := fun m => by
      obtain ⟨e, he, q⟩ := List.mem_filterMap.mp m
      exact nfr (List.mem_filterMap.mpr ⟨e, List.mem_cons_of_mem _ he, q⟩)
    have J3 : Inv X pins σ' H' { s' with heap := h3 } := J.landed nb fl3.1 (up.trans up3) os ag
    refine wpAny_handleBy_cons (codeAny_handlers_test ?_) (by intro q; cases q)
    refine hl a oe3 (X.pn ++ pins) σ' H' _ _ _ (J3.suite he3 hd3 na nL nF) fun tp h4 ht k4 => ?_
    have fl4 := flying_push k4 fl3
    have up4 : h3.UpToSlots h4 := Heap.UpToSlots.of_keeps k4
    have LT : PySem.W.Looks (model X.prog X.w) h4 (typeOf (.ref a)) cls := fun A Q E s k q => wpAny_typeOf_ref (k _ _ (k4 _ _ he3)) (by rw [hz3.1]; exact q)
    refine (hm (J3.kIn.keeps k4) LT ht hyes).here ?_
    show codeAny (model X.prog X.w) (X.A.mark (some (.ref a))) (.handlers (.ref a) [.ExceptHandler none (some n) (b0 :: suite) pos'] X.env) _ _
    refine codeAny_handlers_suite_as (HandSPX.lands_againZ (s := { s' with heap := h4 }) fl4 fun h5 fl5 up5 => ?_)
    have J5 : Inv X pins σ' H' { s' with heap := h5 } := J.landed nb fl5.1 (((up.trans up3).trans up4).trans up5) os ag
    obtain ⟨oe5, vs5, he5, hz5, hd5⟩ := fl5.there
    refine store_ok (X := X.suite a ((a, oe5) :: (X.pn ++ pins))) (v := .ref a) (J5.suite he5 hd5 na nL nF) hN hi (.inl hln) rfl (fun s6 S6 => ?_) (.inr hln)
    refine wpAny_mono ((hsu a oe5 cls d (X.pn ++ pins) hz5 ⟨_, hd5⟩).run [] s6 _ H' _ S6 (go a na)) (fun f s7 hsp => ?_) (fun _ _ z => False.elim z)
    match f, hsp with
    | .next, ⟨σ6, H6, S7, q6⟩ => exact gone_ok (S7.unsuite ok) hN hi hln fun s8 J8 => ⟨_, _, J8, q6⟩
    | .brk, ⟨σ6, H6, S7, q6⟩ => exact gone_ok (S7.unsuite ok) hN hi hln fun s8 J8 => ⟨_, _, J8, q6⟩
    | .cont, ⟨σ6, H6, S7, q6⟩ => exact gone_ok (S7.unsuite ok) hN hi hln fun s8 J8 => ⟨_, _, J8, q6⟩
    | .ret u, ⟨v6, σ6, H6, S7, r6, q6⟩ => exact gone_ok (S7.unsuite ok) hN hi hln fun s8 J8 => ⟨_, _, _, J8, r6, q6⟩
  · match f, hsp with
    | .next, ⟨σ', H', J', q⟩ => exact wpAny_execs_nil ⟨σ', H', J'.ofTry ok, q⟩
    | .brk, ⟨σ', H', J', q⟩ => exact ⟨σ', H', J'.ofTry ok, q⟩
    | .cont, ⟨σ', H', J', q⟩ => exact ⟨σ', H', J'.ofTry ok, q⟩
    | .ret u, ⟨v, σ', H', J', r, q⟩ => exact ⟨v, σ', H', J'.ofTry ok, r, q⟩
end Du

set_option Elab.async false
set_option linter.all false
set_option maxRecDepth 100000
set_option maxHeartbeats 1000000
namespace Du
open PySem PySem.Spec PyProof.Rows L2
open L2N (Zn)
/-- an error class with one field, by its making -/
structure Err (P : Program) (w : World) (K : PySem.W.Frag) (mg : Str → Option Value) (x fld : Str) (C : Addr) : Prop where
  gC : mg x = some (.ref C)
  kC : PySem.W.keepIn K (.ref C) = true
  exC : PySem.W.subIn K (.ref C) (.type "BaseException") = some true
  tyC : PySem.W.typeIn K (.ref C) = some (.type "type")
  ga : PySem.W.findIn K (.ref C) "__getattribute__" = some (some (.builtin "BaseException.__getattribute__"))
  gg : PySem.W.findIn K (.ref C) "__getattr__" = some none
  noN : PySem.W.findIn K (.ref C) fld = some none
  hdC : PySem.W.hasDictIn K C = true
  made : ∀ {A : Around} {R : Result → Shared → Prop} {s : Shared} {mb : Str → Option Value} {v : Value}, K.In s.heap → s.heap.NoLimit → s.heap.Ns mainGlobals mg → s.heap.Ns builtinsNs mb → (∀ y : Str, y ≠ "__name__" → mb y = bootBuiltins y) → A.depth + 1 < recursionLimit →
    (∀ h' tk e d, ErrMade s.heap h' e C d fld v → R (.ok (.ret (.ref e))) { s with heap := h', toks := tk }) → codeAny (model P w) A (.call (.ref C) ⟨[v], []⟩) R s
theorem relO_fld {v : V} {u : Value} {fld : Str} (r : RelV v u) (f : Str) : RelO (List.lookup f [(fld, v)]) (if f = fld then some u else none) := by
  by_cases h : f = fld
  · subst h
    rw [if_pos rfl, show List.lookup f [(f, v)] = some v by simp [List.lookup]]
    exact r
  · have e : (f == fld) = false := by simpa using h
    rw [if_neg h, show List.lookup f [(fld, v)] = none by simp [List.lookup, e]]
    trivial
def tMkErr (C : Addr) (fld : Str) (ta : TA) : L2.St → Hp → XK → Prop := fun σ H Q => ta σ H fun vs H1 => ∃ v, vs = [v] ∧ ∀ d, H1 d = none → Q (.ref C) (some d) (upd H1 d (.xd [(fld, v)]))
theorem pmk_err {X : Cx} {C : Addr} {x fld : Str} {a : Expr} {ta : TA} {p pos : Pos} {k : Nat} (T : Err X.prog X.w X.K X.mg x fld C) (hr : Room k X.A) (hg : Gl X x) (ha : PA X [a] ta) (hdb : (x == ("__debug__" : Str)) = false := by decide)
    (he : starEach (a :: []) X.env = (false, eval a X.env) :: starEach [] X.env := by rfl) (hpl : (backTo pos (starEach [] X.env)).any (·.1) = false := by rfl) : L2N.PMk X (.Call (.Name x p) [a] [] pos) (tMkErr C fld ta) := by
  intro pins s σ H Q I h
  refine wpAny_Call_Name_kw (ld_glob I hg T.gC (PySem.W.callWith_K (h₀ := X.base) I.ok.mod.kin T.kC (thn (ha.run pos pins s σ H _ I h) fun us s1 hh => ?_) he hpl) hdb)
  obtain ⟨vs, H1, I1, r1, v, rfl, q1⟩ := hh
  obtain ⟨v', rfl, rv⟩ := vals1 r1
  refine ⟨I1.kIn, ?_⟩
  obtain ⟨mb, hb, hbb⟩ := I1.ok.mod.blt
  have hlim := I1.nolimit
  have G := I1.ok.mod.glob.keeps I1.bk
  have B := hb.keeps I1.bk
  show wpAny _ _ (call (.ref C) [v']) _ _ _
  refine wpAny_call (T.made I1.kIn hlim G B hbb (by have := hr.dp; omega) fun h' tk' e d M => ?_)
  obtain ⟨hp, g, dr, tk, os⟩ := s1
  show L2N.MkP X pins σ Q (.ref e) ⟨h', g, dr, tk', os⟩
  obtain ⟨oe, fv, hoe, hc, hd, hdat, h1, h2⟩ := M.obj
  obtain ⟨G', g1, g2⟩ := restrict h' fun b => decide (b ≠ e)
  have gk : ∀ b, b ≠ e → G'.get? b = h'.get? b := fun b hb => g1 b (decide_eq_true hb)
  have ge : G'.get? e = none := g2 e (by simp)
  have old : ∀ b o, hp.get? b = some o → G'.get? b = some o := fun b o q => (gk b (Nat.ne_of_lt (Nat.lt_of_lt_of_le (Heap.lt_size q) M.new))).trans (M.keep b o q)
  have J : Inv X pins σ (upd H1 d (.xd [(fld, v)])) ⟨G', g, dr, tk', os⟩ := I1.laid (t' := tk') old M.dbig ⟨_, M.ns.at (fun o q => (gk d M.dne).trans q), fun f => relO_fld rv f⟩
  refine ⟨e, oe, fv, ⟨G', g, dr, tk', os⟩, _, .ref C, some d, rfl, J, fun b o q => ?_, ge, hoe, ⟨hc, hd, fun vs ev => ?_⟩, hdat, h1, ?_, rfl, I1.bare, raises_own T.exC T.tyC, q1 d (I1.hok.fresh M.dbig)⟩
  · by_cases hb : b = e
    · rw [hb] at q
      cases ge.symm.trans q
    · exact (gk b hb).symm.trans q
  · cases hdat.symm.trans ev
    exact h2
  · rw [upd_ne (Ne.symm M.dne)]
    exact I1.hok.fresh M.new
/-- raise X(e) -/
theorem ps_raiseErr {X : Cx} {C : Addr} {x fld : Str} {a : Expr} {ta : TA} {W : WX} {p pos pos2 : Pos} {k : Nat} (hc : X.calm = true) (T : Err X.prog X.w X.K X.mg x fld C) (hr : Room k X.A) (tk : L2N.Takes X W) (hg : Gl X x) (ha : PA X [a] ta) (hdb : (x == ("__debug__" : Str)) = false := by decide)
    (he : starEach (a :: []) X.env = (false, eval a X.env) :: starEach [] X.env := by rfl) (hpl : (backTo pos (starEach [] X.env)).any (·.1) = false := by rfl) :
    PS X (.Raise (some (.Call (.Name x p) [a] [] pos)) none pos2) (fun _ σ H => tMkErr C fld ta σ H fun cls d H' => W cls d σ H') := L2N.ps_raise hc tk (pmk_err T hr hg ha hdb he hpl)
theorem err_of {P : Program} {w : World} {K : PySem.W.Frag} {mg : Str → Option Value} {x qual : Str} {C fI : Addr} (T : ErrC P K mg x "part" qual sNoTask C fI) : Err P w K mg x "part" C :=
  ⟨T.gC, T.kC, T.exC, T.tyC, T.ga, T.gg, T.noN, T.hdC, fun X l G B hb hr q => made_NoTask T X l G B hb hr q⟩
end Du

set_option Elab.async false
set_option linter.all false
set_option maxRecDepth 100000
set_option maxHeartbeats 1000000
namespace Du
open PySem PySem.Spec PyProof.Rows L2
open L2N (Zn)
open L2H (RoomH Hot1 PinOk cxH inv_startH roomH_of)
/-- what isinstance asks of an error's class -/
structure ErrI (K : PySem.W.Frag) (C : Addr) : Prop where
  ga : PySem.W.findIn K (.ref C) "__getattribute__" = some (some (.builtin "BaseException.__getattribute__"))
  gg : PySem.W.findIn K (.ref C) "__getattr__" = some none
  exC : PySem.W.subIn K (.ref C) (.type "BaseException") = some true
  hdC : PySem.W.hasDictIn K C = true
  ha : PySem.W.findIn K (.ref C) "__class__" = some (some (.builtin "object.__class__"))
  hn : PySem.W.specialIn K (.builtin "object.__class__") "__get__" = some (some (.builtin "getset_descriptor.__get__"))
  ht : PySem.W.takesIn K (.builtin "object.__class__") = some true
  hm : PySem.W.mroIn K C (.type "object") = some true
/-- a pinned error with its dict -/
theorem err_at {X : Cx} {pins : List (Addr × Obj)} {σ : L2.St} {H : Hp} {s : Shared} {a C dd : Addr} {oe : Obj} {fs : List (Str × V)} (hp : (a, oe) ∈ X.pn) (hz : Zn (.ref C) (some dd) oe) (hf : ∃ vs, oe.data = .fields vs) (I : Inv X pins σ H s) (hd : H dd = some (.xd fs)) :
    ∃ (od : Obj) (mA : Str → Option Value), PySem.W.InstAt s.heap a oe C (some od) ∧ (∀ f, RelO (fs.lookup f) (mA f)) ∧ ∀ f, PySem.W.lookIn f od = some (mA f) := by
  obtain ⟨ha, _⟩ := I.pin (a, oe) (List.mem_append_left _ hp)
  obtain ⟨vs, hv⟩ := hf
  obtain ⟨mA, hns, hr⟩ := (show ObjOk X.prog X.w H s.heap dd (.xd fs) from I.hok dd _ hd)
  obtain ⟨od, ho, hl⟩ := lookIn_ns hns
  exact ⟨od, mA, ⟨ha, hz.1, by unfold PySem.W.notCls; rw [hv] <;> rfl, by rw [hz.2.1]; exact ho⟩, hr, hl⟩
/-- isinstance(e, c), isinstance(e, (c, ..)), e a pinned error -/
def rIsX (K : PySem.W.Frag) (C a dd : Addr) : List V → Hp → VK → Prop := fun xs H Q => ∃ fs : List (Str × V), H dd = some (.xd fs) ∧
  ((∃ (c : V) (cv : Value) (b : Bool), xs = [.ref a, c] ∧ ClsV c cv ∧ PySem.W.kitOne K (.ref C) cv = some b ∧ Q (.bl b) H) ∨ (∃ (tp : Addr) (cs : List V) (us : List Value) (b : Bool), xs = [.ref a, .ref tp] ∧ H tp = some (.tup cs) ∧ Paired ClsV cs us ∧ PySem.W.kitAny K (.ref C) us = some b ∧ Q (.bl b) H))
theorem call_isX {X : Cx} {a C dd : Addr} {oe : Obj} (T : ErrI X.K C) (hp : (a, oe) ∈ X.pn) (hz : Zn (.ref C) (some dd) oe) (hf : ∃ vs, oe.data = .fields vs) : CallR X (.builtin "isinstance") (rIsX X.K C a dd) := by
  intro pins s σ H xs us Q I r h
  obtain ⟨fs, hd, h⟩ := h
  obtain ⟨od, mA, J, _, _⟩ := err_at hp hz hf I hd
  have Z := PySem.W.kitx_exc (x := a) (ox := oe) (od := some od) (by obtain ⟨cd, hc, _⟩ := PySem.W.any_some T.hdC; rw [hc]; rfl) T.ga T.gg T.exC T.ha T.hn T.ht T.hm
  rcases h with ⟨c, cv, b, rfl, k, e, q⟩ | ⟨tp, cs, ws, b, rfl, hT, k, e, q⟩
  · obtain ⟨u1, u2, rfl, r1, r2⟩ := vals2 r
    cases (show u1 = Value.ref a from r1)
    cases k.eq r2
    exact PySem.W.kia_one Z I.kIn J e (fun z => nomatch z) fun tk => ⟨.bl b, H, I.tok tk, rfl, q⟩
  · obtain ⟨u1, u2, rfl, r1, r2⟩ := vals2 r
    cases (show u1 = Value.ref a from r1)
    cases (show u2 = Value.ref tp from r2)
    obtain ⟨_, its, rv, ⟨oc, odd, dt, sl⟩, h1, h2, n, h3⟩ := (show ObjOk X.prog X.w H s.heap tp (.tup cs) from I.hok tp _ hT)
    cases ClsV.all k rv
    simp only at h2 h3
    subst h2 h3
    exact PySem.W.kia_tup Z I.kIn J h1 e (fun z => nomatch z) fun tk => ⟨.bl b, H, I.tok tk, rfl, q⟩
/-- e.fld, e a pinned error -/
theorem pe_fldX {X : Cx} {a C dd : Addr} {oe : Obj} {fld : Str} {e : Expr} {te : TE} {pos : Pos} (T : ErrI X.K C) (hno : PySem.W.findIn X.K (.ref C) fld = some none) (hp : (a, oe) ∈ X.pn) (hz : Zn (.ref C) (some dd) oe) (hf : ∃ vs, oe.data = .fields vs) (he : PE X e te)
    (hb : attributeBase e fld X.env (eval e X.env) = eval e X.env := by rfl) : PE X (.Attribute e fld pos) (fun σ H Q => te σ H fun x H1 => x = .ref a ∧ ∃ (fs : List (Str × V)) (v : V), H1 dd = some (.xd fs) ∧ fs.lookup fld = some v ∧ Q v H1) := by
  refine ⟨fun pins s σ H Q I h => attr_of hb (thn (he.run pins s σ H _ I h) fun u s1 hh => ?_)⟩
  obtain ⟨x, H1, I1, rx, rfl, fs, v, hd, hl, q⟩ := hh
  cases (show u = Value.ref a from rx)
  obtain ⟨od, mA, J, hr, hlk⟩ := err_at hp hz hf I1 hd
  obtain ⟨u, hu, ru⟩ := RelO.some_of (v := v) (o := mA fld) (by rw [← hl]; exact hr fld)
  exact HandSPX.exc_get I1.kIn J T.ga T.gg T.exC (PySem.W.findObj_own T.hdC hno rfl (by rw [hlk, hu])) (handed_of ru) ⟨v, H1, I1.tok _, ru, q⟩
/-! a def that is handed the error that is being handled -/
structure FnE (P : Program) (w : World) (K : PySem.W.Frag) (mg : Str → Option Value) (base : Heap) (k : Nat) (f : Addr) (fd : FuncData) (ps : List Str) (sp : Addr × Obj → Sp) : Prop where
  len : ∀ p vs H Q, sp p vs H Q E0 → vs.length = ps.length
  run : ∀ (A : Around) (outer : List Env) (s : Shared) (H : Hp) (args : Args) (us : List Value) (vs : List V) (Q : VK) (p : Addr × Obj), RoomH k A → Hot1 A p → PinOk outer H s p → Env0 P w K mg base A outer s H → BindsTo s fd args (ps.zip us) → Vals vs us → sp p vs H Q E0 →
    codeAny (model P w) A (.call (.ref f) args) (CR CX0 outer P w H s Q E0) s
theorem fnE_of {P : Program} {w : World} {K : PySem.W.Frag} {mg : Str → Option Value} {base : Heap} {k : Nat} {x qual : Str} {st : Stmt} {f : Addr} {fd : FuncData} {N ps : List Str} {sp : Addr × Obj → Sp} (F : Fun K x qual st f fd) (S : FnScope N ps (defScope st)) (len : ∀ p vs H Q, sp p vs H Q E0 → vs.length = ps.length)
    (hbody : ∀ (cdv : Value) (A : Around) (outer : List Env) (s : Shared) (H : Hp) (vs : List V) (Q : VK) (p : Addr × Obj), Hot1 A p → RoomH k (A.deeper (envOfC qual (defScope st) s.heap.objs.size f cdv)) → sp p vs H Q E0 →
      ∃ t, PSs (cxH CX0 P w K mg base N qual (defScope st) f cdv A outer s H E0 p).nox (defBody st) t ∧ t { nx := fun _ H' => Q .non H', rt := Q } (L2.start N vs) H) : FnE P w K mg base (k + 1) f fd ps sp := by
  obtain ⟨oc, od, kV, doc, pm, an, cdv, ct, osl, rfl, lk, hcd⟩ := F.ex
  refine ⟨len, fun A outer s H args us vs Q p hr hot hpin e0 hb r hsp => ?_⟩
  have kept := fun b o e => (e0.bs b o e).1
  have KX : K.In s.heap := e0.mod.kin.keeps kept
  refine codeAny_call_function hr.depth (KX _ _ lk) rfl S.co S.gen rfl (PySem.W.codeRec_of KX hcd) (hb _ _ _ _ (wpAny_newFunctionEnv_cells S.kind (fun y hy => (S.par y.1 (List.of_mem_zip hy).1).imp id fun q => ⟨q, PySem.W.cellsFrom_some _ _ _ (.inl q)⟩) fun env he s1 x => ?_))
  subst he
  obtain ⟨t, ht, hq⟩ := hbody cdv A outer s H vs Q p hot (hr.deeper _) hsp
  have I := inv_startH (CX := CX0) (E := E0) S hpin e0 (len p vs H Q hsp) r x
  refine ⟨(e0.mod.nolimit.keeps kept).keeps x.toInCall.keep, codeAny_func (wpAny_mono (ht.nox.run [] s1 _ H _ I hq) (fun fl s' hs => ?_) fun _ _ z => z)⟩
  match fl, hs with
  | .ret u, ⟨v, σ', H', J, rv, q⟩ => exact ⟨v, H', J.os, J.bare, J.base, J.hok, rv, q⟩
  | .next, ⟨σ', H', J, q⟩ => exact ⟨V.non, H', J.os, J.bare, J.base, J.hok, rfl, q⟩
  | .brk, ⟨_, _, _, q⟩ => exact q.elim
  | .cont, ⟨_, _, _, q⟩ => exact q.elim
/-- f(e), e the error that is being handled -/
theorem pe_callE {X : Cx} {k : Nat} {f : Addr} {fd : FuncData} {ps : List Str} {sp : Addr × Obj → Sp} {x : Str} {q pos : Pos} {e : Expr} {es : List Expr} {t : TA} {p : Addr × Obj} (F : FnE X.prog X.w X.K X.mg X.base k f fd ps sp) (hr : RoomH k X.A) (hot : Hot1 X.A p) (hp : p ∈ X.pn) (hg : Gl X x) (hm : X.mg x = some (.ref f))
    (hk : PySem.W.keepIn X.K (.ref f) = true) (hb : Binds X.K fd ps []) (ha : PA X (e :: es) t) (hdb : (x == ("__debug__" : Str)) = false := by decide) (he : starEach (e :: es) X.env = (false, eval e X.env) :: starEach es X.env := by rfl) (hpl : (backTo pos (starEach es X.env)).any (·.1) = false := by rfl) :
    PE X (.Call (.Name x q) (e :: es) [] pos) (fun σ H Q => t σ H fun vs H1 => sp p vs H1 Q E0) := by
  refine ⟨fun pins s σ H Q I h => wpAny_Call_Name_kw (ld_glob I hg hm (PySem.W.callWith_K (h₀ := X.base) I.ok.mod.kin hk (thn (ha.run pos pins s σ H _ I h) fun us s1 ⟨vs, H1, I1, r, q⟩ => ⟨I1.kIn, ?_⟩) he hpl) hdb)⟩
  have b := hb s1 us I1.kIn (by rw [List.append_nil, ← r.length]; exact F.len _ _ _ _ q)
  rw [List.append_nil] at b
  have P1 := I1.pin p (List.mem_append_left _ hp)
  refine wpAny_call (codeAny_mono (F.run X.A X.stack s1 H1 ⟨us, []⟩ us vs Q p hr hot ⟨P1.1, P1.2.1, fun m => (List.mem_cons.mp (I1.stkSub p.1 m)).elim P1.2.2.1 P1.2.2.2.1, P1.2.2.2.2⟩ I1.env0 b r q) fun z s' hq => ?_)
  match z, hq with
  | .error _, hq => exact hq.elim
  | .ok (.ret u), hq => exact I1.after hq
  | .ok .next, hq => exact hq.elim
  | .ok .brk, hq => exact hq.elim
  | .ok .cont, hq => exact hq.elim
end Du

set_option Elab.async false
set_option linter.all false
set_option maxRecDepth 100000
set_option maxHeartbeats 1000000
namespace Du
open PySem L2 PyProof.Rows
section
variable {X : Cx} {k : Nat} {f C : Addr} {fd : FuncData} {ps : List Str} {sp : Sp}
/-- what an own __repr__ promises of the object at a: the text t -/
def ReprSp (sp : Sp) (H0 : Hp) (a : Addr) (t : Str) : Prop := ∀ H, Same H0 H → ∀ Q : VK, (∀ H', Same H H' → Q (.str t) H') → sp [.ref a] H Q E0
/-- a class with an own __repr__ -/
structure OwnR (P : Program) (w : World) (K : PySem.W.Frag) (mg : Str → Option Value) (base : Heap) (k : Nat) (C : Addr) (sp : Sp) : Prop where
  ex : ∃ (f : Addr) (fd : FuncData) (ps : List Str), FnOk P w K mg base CX0 k f fd ps sp ∧ Binds K fd ps [] ∧ PySem.W.findIn K (.ref C) "__repr__" = some (some (.ref f)) ∧ PySem.W.isFn K (.ref f) = true
/-- repr(x), x of an own class -/
theorem call_reprO (R : OwnR X.prog X.w X.K X.mg X.base k C sp) (hr : Room (k + 1) X.A) : CallR X (.builtin "repr") (fun xs H Q => ∃ (a dx : Addr) (fs : List (Str × V)) (t : Str), xs = [.ref a] ∧ H a = some (.ins C dx fs) ∧ ReprSp sp H a t ∧ ∀ H', Same H H' → Q (.str t) H') := by
  obtain ⟨f, fd, ps, F, hb, hs, hf⟩ := R.ex
  intro pins s σ H xs us Q I r h
  obtain ⟨a, dx, fs, t, rfl, ha, hsp, q⟩ := h
  obtain ⟨u, rfl, ru⟩ := vals1 r
  cases ru
  obtain ⟨mA, J, _⟩ := ins_get I.hok ha
  obtain ⟨od, J, _⟩ := J.look
  obtain ⟨m, hF⟩ := I.fr
  refine PySem.W.repr_K (by have := hr.un; show X.A.units + 1 < cLine; omega) hF I.ok.mod.kin J hs hf (wpAny_mono (own_call F hb ⟨hr.in1, rfl⟩ I (vs := [.ref a]) (Q := fun v H' => v = .str t ∧ Q (.str t) H') (.cons rfl .nil) (hsp H (Same.refl _) _ fun H' s' => ⟨rfl, q H' s'⟩)) (fun v s' q => ?_) fun _ _ z => z)
  obtain ⟨z, H', I', rz, rfl, q⟩ := q
  obtain ⟨tk, rfl⟩ := rz
  exact ⟨.str t, H', I', ⟨_, rfl⟩, q⟩
/-- v is shown as t by repr, whatever else is being shown -/
def SItem (X : Cx) (n : Nat) (H0 : Hp) (v : V) (t : Str) : Prop := ∀ (A : Around) (g : List Code) (pins : List (Addr × Obj)) (σ : L2.St) (s : Shared) (H : Hp) (u : Value) (Q : Str → Shared → Prop) (base : Nat), A.guards = some g → (∀ b, v = .ref b → Clear g b) → Same H0 H → base + t.length ≤ sizeLine → Sub X n A → Inv X pins σ H s → RelV v u →
  (∀ s' H', Same H H' → Inv X pins σ H' s' → Q t s') → wpAny (model X.prog X.w) A (pyReprUnder base u) Q X.xe s
theorem SItem.of_is {n : Nat} {H0 : Hp} {v : V} {t : Str} (h : ∀ u, RelV v u → ReprIs X.prog X.w u t) : SItem X n H0 v t := fun A g pins σ s H u Q base _ _ _ hb _ I r q => h u r base hb A X.xe s Q fun tk => q _ H (Same.refl _) (I.tok tk)
theorem SItem.int {n : Nat} {H0 : Hp} {i : Int} (h : i.natAbs.log2 < 1920) : SItem X n H0 (.int i) (toString i) := .of_is fun u r => by
  obtain ⟨t, rfl⟩ := r
  exact ReprIs.int t h
theorem SItem.str {n : Nat} {H0 : Hp} {z : Str} (h : (reprText z).length ≤ sizeLine) : SItem X n H0 (.str z) (reprText z) := .of_is fun u r => by
  obtain ⟨t, rfl⟩ := r
  exact ReprIs.str z t h
theorem SItem.bl {n : Nat} {H0 : Hp} {b : Bool} : SItem X n H0 (.bl b) (if b then "True" else "False") := .of_is fun u r => by
  cases r
  exact ReprIs.bool b
theorem SItem.non {n : Nat} {H0 : Hp} : SItem X n H0 .non "None" := .of_is fun u r => by
  cases r
  exact ReprIs.none
theorem SItem.own {H0 : Hp} {a dx : Addr} {fs : List (Str × V)} {t : Str} (R : OwnR X.prog X.w X.K X.mg X.base k C sp) (ha : H0 a = some (.ins C dx fs)) (hsp : ReprSp sp H0 a t) : SItem X k H0 (.ref a) t := by
  obtain ⟨f, fd, ps, F, hb, hs, hf⟩ := R.ex
  intro A g pins σ s H u Q base _ _ s0 hbase sb I r q
  cases (show u = Value.ref a from r)
  obtain ⟨mA, J, _⟩ := ins_get I.hok (s0 _ _ ha)
  obtain ⟨od, J, _⟩ := J.look
  have hu : A.units < cLine := by have := sb.room.un; omega
  refine wpAny_pyReprUnder_ref (by omega) ?_
  unfold pyReprObjUnder pyReprObjBy
  refine wpAny_bind (wpAny_cRoomFor hu (wpAny_bind (wpAny_bind (J.type.here ((PySem.W.looks_findIn I.kIn hs).here ?_)))))
  show wpAny _ _ (if (some (Value.ref f)).isNone = true then _ else _) _ _ _
  rw [if_neg (by simp)]
  have go : wpAny (model X.prog X.w) A (call (.ref f) [.ref a]) (fun v s' => ∃ tk, v = .str t tk ∧ Q t s') X.xe s := wpAny_mono (own_call F hb sb I (vs := [.ref a]) (Q := fun v H' => v = .str t ∧ Same H H') (.cons rfl .nil) (hsp H s0 _ fun H' s' => ⟨rfl, s'⟩)) (fun v s' z => by
    obtain ⟨z, H', I', rz, rfl, sm⟩ := z
    obtain ⟨tk, rfl⟩ := rz
    exact ⟨tk, rfl, q s' H' sm I'⟩) fun _ _ z => z
  refine wpAny_bind (m := callSpecialIfBoundBy? _ (.ref a) (Str.ofString "__repr__")) ?_
  simp only [callSpecialIfBoundBy?, bindSpecialIfBound?]
  refine wpAny_holding (wpAny_bind (wpAny_bind (wpAny_bind (J.type.here ((PySem.W.looks_findIn I.kIn hs).here (wpAny_bind (wpAny_askSetting (wpAny_ite ?_))))))))
  have fin : wpAny (model X.prog X.w) A (call (.ref f) ([.ref a] ++ []) >>= fun v => pure (some v)) (fun r s' => wpAny (model X.prog X.w) A (match r with
      | some r => do
        if ← isInstance r (.type "str") then pure r else raiseError "TypeError" s!"__repr__ returned non-string (type {← typeNameOf r})"
      | none => unsupported "repr:special-get-raises") (fun v s' => ∃ x u, v = .str x u ∧ Q x s') X.xe s') X.xe s := by
    refine wpAny_bind (wpAny_mono go (fun v s' z => ?_) fun _ _ z => z)
    obtain ⟨tk, rfl, q'⟩ := z
    exact wpAny_pure (wpAny_bind (wpAny_isInstance (T := "str") (b := true) rfl isSubtype_str_str (wpAny_pure ⟨t, tk, rfl, q'⟩)))
  split
  · exact wpAny_bind ((PySem.W.bind_fn I.kIn _ (beq_iff_eq.mp hf)).here (wpAny_pure (by exact fin)))
  · exact wpAny_tryCatch (wpAny_bind ((PySem.W.bind_fn I.kIn _ (beq_iff_eq.mp hf)).here (wpAny_pure (by exact fin))))
/-- item by item -/
inductive SItems (X : Cx) (n : Nat) (H : Hp) : List V → List Str → Prop
  | nil : SItems X n H [] []
  | cons {v : V} {t : Str} {vs : List V} {ts : List Str} : SItem X n H v t → SItems X n H vs ts → SItems X n H (v :: vs) (t :: ts)
theorem SItems.len {n : Nat} {H : Hp} {vs : List V} {ts : List Str} (h : SItems X n H vs ts) : ts.length = vs.length := by
  induction h with
  | nil => rfl
  | cons _ _ ih => simp [ih]
theorem tupFoldJ {n : Nat} {H0 : Hp} {A : Around} {g : List Code} {pins : List (Addr × Obj)} {σ : L2.St} (sb : Sub X n A) (hg : A.guards = some g) : ∀ (vs : List V) (ts : List Str) (us : List Value) (acc : Array Str) (m : Nat) (s : Shared) (H : Hp) (Q : (Array Str × Nat) → Shared → Prop), SItems X n H0 vs ts → (∀ v ∈ vs, ∀ b, v = .ref b → Clear g b) → Vals vs us → Same H0 H → Inv X pins σ H s → m + piled ts ≤ sizeLine →
    (∀ s' H', Same H H' → Inv X pins σ H' s' → Q ⟨acc ++ ts.toArray, m + piled ts⟩ s') → wpAny (model X.prog X.w) A (forIn us (⟨acc, m⟩ : (Array Str × Nat)) tupBody) Q X.xe s := by
  intro vs
  induction vs with
  | nil =>
    intro ts us acc m s H Q hT _ hv _ I hn q
    cases hT
    cases hv
    rw [List.forIn_nil]
    exact wpAny_pure (by simpa [piled] using q s H (Same.refl _) I)
  | cons v vs ih =>
    intro ts us acc m s H Q hT hc hv s0 I hn q
    cases hT with
    | cons hx hl =>
      rename_i t ts'
      cases hv with
      | cons r rs =>
        rw [piled_cons] at hn
        rw [List.forIn_cons]
        refine wpAny_bind (wpAny_bind (hx A g pins σ s H _ _ (m + 1) hg (hc v List.mem_cons_self) s0 (by omega) sb I r fun s' H' sm I' => wpAny_pure ?_))
        refine ih ts' _ (acc.push t) (m + (t.length + 2)) s' H' Q hl (fun v hv => hc v (List.mem_cons_of_mem _ hv)) rs (s0.trans sm) I' (by omega) fun s2 H2 sm2 I2 => ?_
        have e : m + piled (t :: ts') = m + (t.length + 2) + piled ts' := by
          rw [piled_cons]
          omega
        have q' := q s2 H2 (sm.trans sm2) I2
        rw [e] at q'
        simpa using q'
/-- repr of a tuple, shown item by item, where nothing is being shown -/
theorem call_reprT {n : Nat} (hg : X.A.guards = some []) (hr : Room (n + 2) X.A) : CallR X (.builtin "repr") (fun xs H Q => ∃ (a : Addr) (vs : List V) (ts : List Str), xs = [.ref a] ∧ H a = some (.tup vs) ∧ SItems X n H vs ts ∧ (∀ v ∈ vs, v ≠ .ref a) ∧ (tupleText ts).length ≤ sizeLine ∧ ∀ H', Same H H' → Q (.str (tupleText ts)) H') := by
  intro pins s σ H xs us Q I r h
  obtain ⟨a, vs, ts, rfl, ha, hT, hne, hz, q⟩ := h
  obtain ⟨u, rfl, ru⟩ := vals1 r
  cases ru
  obtain ⟨_, its, rv, ⟨oc, odd, dt, sl⟩, h1, h2, m, h3⟩ := (show ObjOk X.prog X.w H s.heap a (.tup vs) from I.hok a _ ha)
  simp only at h2 h3
  subst h2 h3
  have hTy : s.TypeIs (.ref a) "tuple" := ⟨_, h1, rfl⟩
  have hun := hr.un
  have hp := piled_le_tupleText ts
  have hlen : ts.length = its.length := hT.len.trans rv.length
  refine call_repr_slot (by omega) hTy F.slot_tuple_repr ?_
  refine wpAny_call (codeAny_call_builtin_own (Code.quiet_builtin _ (by decide +kernel)) F.entry_tuple_repr (F.slot_tuple_repr.check _ _ _ _ _ _ _ _ hTy (F.args_tuple_repr_1 _) ?_))
  show wpOwn _ _ _ (Builtin.tupleReprAt 0 ⟨[.ref a], []⟩) _ _ _
  rw [tuple_repr_tree, tupleReprUnderWay_eq]
  refine wpOwn_bind (wpOwn_stackTailAny (A := X.A.in1) hg (tupGuardF_off _) (tupGuardF_pos _) (wpOwn_of_wpAny ?_))
  show wpAny _ _ (tupleReprRest 0 (.ref a)) _ _ s
  unfold tupleReprRest Builtin.Tuple.tupleItemsOf
  refine wpAny_bind (wpAny_bind (wpAny_seqItems h1 rfl (wpAny_pure ?_)))
  rw [← Array.forIn_toList]
  have sb : Sub X n (X.A.in1.under (.builtin "tuple.__repr__" ⟨[.ref a], []⟩)) := by
    refine ⟨⟨hr.hd, ?_, ?_⟩, rfl⟩
    · have := hr.dp
      have hw : (Code.builtin "tuple.__repr__" ⟨[.ref a], []⟩).weight = 1 := by first | rfl | (show 0 + 0 + (if (Code.builtin "tuple.__repr__" ⟨[.ref a], []⟩).isGuard then 1 else 0) + 0 = 1; rw [isGuard_tuple_repr]; rfl)
      show X.A.depth + (Code.builtin "tuple.__repr__" ⟨[.ref a], []⟩).weight + 3 * n + 5 < _
      omega
    · rw [units_under_tuple_repr]
      show X.A.units + 1 + 1 + 16 * n + 200 < _
      omega
  refine wpAny_bind (tupFoldJ sb (guards_under_guard (isGuard_tuple_repr _) hg) vs ts _ _ _ s H _ hT (fun v hv b e => (Clear.nil b).cons (a := a) fun z => hne v hv (by rw [e, z])) rv (Same.refl _) I (by omega) fun s' H' sm I' => ?_)
  refine wpAny_bind (wpAny_mkStr (wpAny_pure ?_) (by simpa [tupleText, hlen] using hz))
  have q' := q H' sm
  refine ⟨_, _, rfl, .str (tupleText ts), H', I'.tok _, ⟨s'.toks, ?_⟩, q'⟩
  simp [tupleText, hlen]
end
end Du

set_option Elab.async false
set_option linter.all false
set_option maxRecDepth 100000
set_option maxHeartbeats 1000000
namespace Du
open PySem L2 PyProof.Rows
/-- what is shown whatever else is being shown: as t -/
inductive It (P : Program) (w : World) (K : PySem.W.Frag) (mg : Str → Option Value) (base : Heap) (n : Nat) (H : Hp) : V → Str → Prop
  | non : It P w K mg base n H .non "None"
  | bl (b : Bool) : It P w K mg base n H (.bl b) (if b then "True" else "False")
  | int (i : Int) : i.natAbs.log2 < 1920 → It P w K mg base n H (.int i) (toString i)
  | str (z : Str) : (reprText z).length ≤ sizeLine → It P w K mg base n H (.str z) (reprText z)
  | own {C a dx : Addr} {k : Nat} {sp : Sp} {fs : List (Str × V)} {t : Str} : OwnR P w K mg base k C sp → k ≤ n → H a = some (.ins C dx fs) → ReprSp sp H a t → It P w K mg base n H (.ref a) t
  | emp {a : Addr} : H a = some (.dK []) → It P w K mg base n H (.ref a) "{}"
inductive Its (P : Program) (w : World) (K : PySem.W.Frag) (mg : Str → Option Value) (base : Heap) (n : Nat) (H : Hp) : List V → List Str → Prop
  | nil : Its P w K mg base n H [] []
  | cons {v : V} {t : Str} {vs : List V} {ts : List Str} : It P w K mg base n H v t → Its P w K mg base n H vs ts → Its P w K mg base n H (v :: vs) (t :: ts)
/-- v is shown as t by repr -/
inductive Sh (P : Program) (w : World) (K : PySem.W.Frag) (mg : Str → Option Value) (base : Heap) (n : Nat) (H : Hp) : V → Str → Prop
  | it {v : V} {t : Str} : It P w K mg base n H v t → Sh P w K mg base n H v t
  | dat {a : Addr} {d : PyData} : Dp K H (.ref a) d → d.showable = true → d.hasDict = false → d.depth ≤ 64 → d.shown.length ≤ sizeLine → Sh P w K mg base n H (.ref a) d.shown
  | tup {a : Addr} {vs : List V} {ts : List Str} : H a = some (.tup vs) → Its P w K mg base n H vs ts → (∀ v ∈ vs, v ≠ .ref a) → (tupleText ts).length ≤ sizeLine → Sh P w K mg base n H (.ref a) (tupleText ts)
section
variable {P : Program} {w : World} {K : PySem.W.Frag} {mg : Str → Option Value} {base : Heap} {n : Nat} {H H' : Hp} {v : V} {t : Str}
theorem ReprSp.same {sp : Sp} {a : Addr} (h : ReprSp sp H a t) (s : Same H H') : ReprSp sp H' a t := fun H2 s2 => h H2 (s.trans s2)
theorem It.same (h : It P w K mg base n H v t) (s : Same H H') : It P w K mg base n H' v t := by
  cases h with
  | non => exact .non
  | bl b => exact .bl b
  | int i h => exact .int i h
  | str z h => exact .str z h
  | own R hk ha hs => exact .own R hk (s _ _ ha) (hs.same s)
  | emp h => exact .emp (s _ _ h)
theorem Its.same {vs : List V} {ts : List Str} (h : Its P w K mg base n H vs ts) (s : Same H H') : Its P w K mg base n H' vs ts := by
  induction h with
  | nil => exact .nil
  | cons h _ ih => exact .cons (h.same s) ih
mutual
theorem dp_same (s : Same H H') : ∀ (d : PyData) (v : V), Dp K H v d → Dp K H' v d
  | .none, _, h => by cases h; exact .non
  | .bool _, _, h => by cases h; exact .bl _
  | .int _, _, h => by cases h; exact .int _
  | .str _, _, h => by cases h; exact .str _
  | .list ds, _, h => by
    cases h with
    | lst q a => exact .lst (q.ext s) (dps_same s ds _ a)
  | .tuple ds, _, h => by
    cases h with
    | tup q a => exact .tup (q.ext s) (dps_same s ds _ a)
  | .dict _, _, h => nomatch h
theorem dps_same (s : Same H H') : ∀ (ds : List PyData) (vs : List V), DpAll K H vs ds → DpAll K H' vs ds
  | [], _, h => by cases h; exact .nil
  | d :: ds, _, h => by
    cases h with
    | cons h1 h2 => exact .cons (dp_same s d _ h1) (dps_same s ds _ h2)
end
theorem Sh.same (h : Sh P w K mg base n H v t) (s : Same H H') : Sh P w K mg base n H' v t := by
  cases h with
  | it h => exact .it (h.same s)
  | dat h a b c d => exact .dat (dp_same s _ _ h) a b c d
  | tup h i a b => exact .tup (s _ _ h) (i.same s) a b
end
section
variable {X : Cx} {n : Nat} {H : Hp} {v : V} {t : Str}
theorem emp_reprK {pins : List (Addr × Obj)} {σ : L2.St} {s : Shared} {a : Addr} (I : Inv X pins σ H s) (h : H a = some (.dK [])) : ReprK X.prog X.w [a] s.heap 1 (.ref a) "{}" := by
  obtain ⟨_, hsm, vs, hkv, o, es, ep, ho, hx, hd, _, hp, _⟩ := dk_of I.hok h
  cases hkv
  have e : es.toList = [] := by
    generalize es.toList = l at hp
    cases hp
    rfl
  have z : dictText [] = ("{}" : Str) := by decide +kernel
  rw [← z]
  exact ReprK.dict ho hx.1 hd hsm (fun q => nomatch q) (by rw [e]; exact .nil)
theorem It.item (h : It X.prog X.w X.K X.mg X.base n H v t) : SItem X n H v t := by
  cases h with
  | non => exact .non
  | bl b => exact .bl
  | int i h => exact .int h
  | str z h => exact .str h
  | own R hk ha hs => exact fun A g pins σ s H2 u Q base hg hc s0 hb sb I r q => SItem.own R ha hs A g pins σ s H2 u Q base hg hc s0 hb (sb.mono hk) I r q
  | emp h =>
    intro A g pins σ s H2 u Q base hg hc s0 hb sb I r q
    cases (show u = Value.ref _ from r)
    have hun := sb.room.un
    exact emp_reprK I (s0 _ _ h) base hb A g X.xe s Q hg (fun b hb => by rw [List.mem_singleton.mp hb]; exact hc _ rfl) (by omega) (fun _ _ e => e) fun h' tk k => q _ H2 (Same.refl _) (I.kept k)
theorem Its.items {vs : List V} {ts : List Str} (h : Its X.prog X.w X.K X.mg X.base n H vs ts) : SItems X n H vs ts := by
  induction h with
  | nil => exact .nil
  | cons h _ ih => exact .cons h.item ih
/-- repr(v) -/
theorem call_repr (hg : X.A.guards = some []) (hr : Room (n + 2) X.A) : CallR X (.builtin "repr") (fun xs H Q => ∃ (v : V) (t : Str), xs = [v] ∧ Sh X.prog X.w X.K X.mg X.base n H v t ∧ ∀ H', Same H H' → Q (.str t) H') := by
  intro pins s σ H xs us Q I r h
  obtain ⟨v, t, rfl, hs, q⟩ := h
  have hun := hr.un
  cases hs with
  | it h =>
    cases h with
    | non =>
      obtain ⟨u, rfl, ru⟩ := vals1 r
      cases ru
      exact P.repr_of_none ⟨.str "None", H, I.tok _, ⟨_, rfl⟩, q H (Same.refl _)⟩
    | bl b =>
      obtain ⟨u, rfl, ru⟩ := vals1 r
      cases ru
      exact P.repr_of_bool ⟨.str _, H, I.tok _, ⟨_, rfl⟩, q H (Same.refl _)⟩
    | int i h =>
      obtain ⟨u, rfl, ru⟩ := vals1 r
      obtain ⟨tk, rfl⟩ := ru
      exact P.repr_of_int h ⟨.str _, H, I.tok _, ⟨_, rfl⟩, q H (Same.refl _)⟩
    | str z h =>
      obtain ⟨u, rfl, ru⟩ := vals1 r
      obtain ⟨tk, rfl⟩ := ru
      exact P.repr_of_str ⟨.str _, H, I.tok _, ⟨_, rfl⟩, q H (Same.refl _)⟩ h
    | own R hk ha hs => exact call_reprO R (hr.mono (by omega)) pins s σ H _ us Q I r ⟨_, _, _, _, rfl, ha, hs, q⟩
    | emp h =>
      obtain ⟨u, rfl, ru⟩ := vals1 r
      cases ru
      obtain ⟨_, hsm, vs, hkv, o, es, ep, ho, hx, hd, _, hp, _⟩ := dk_of I.hok h
      cases hkv
      have e : es.toList = [] := by
        generalize es.toList = l at hp
        cases hp
        rfl
      have rd : Reads s.heap (.ref _) (.dict []) _ := .dict (kvs := []) ho hx.1 hd (by rw [e]; exact .nil) (by rw [e]; exact .nil)
      have z : PyData.shown (.dict []) = ("{}" : Str) := by decide +kernel
      refine repr_of_reads' rd rfl (fun _ hm => ?_) hg (by show X.A.units + (0 + 1 + 1) < cLine; omega) (fun _ _ e => e) (fun h' u tk hk => ⟨.str "{}", H, I.kept hk, ⟨u, by rw [z]⟩, q H (Same.refl _)⟩) (by rw [z]; decide +kernel)
      simp only [List.append_nil, List.mem_singleton] at hm
      rw [← hm] at hsm
      simp at hsm
  | dat h a b c d => exact call_reprD hg (by omega) pins s σ H _ us Q I r ⟨_, _, rfl, h, a, b, c, d, q H (Same.refl _)⟩
  | tup h i a b => exact call_reprT hg hr pins s σ H _ us Q I r ⟨_, _, _, rfl, h, i.items, a, b, q⟩
end
end Du

set_option Elab.async false
set_option linter.all false
set_option maxRecDepth 100000
set_option maxHeartbeats 1000000
namespace Du
open PySem L2 PyProof.Rows
open L2N (Zn)
open L2H (RoomH Hot1 PinOk cxH roomH_of)
/-- o.m(k = v, ..) -/
def tMethK (C : Addr) (m : Str) (n : Nat) (sp : Sp) (gV : List V → List V → List V) (E : XK) (ta : TE) (tk : TA) : TE := fun σ H Q => ta σ H fun x H1 => ∃ a dx fs, x = .ref a ∧ H1 a = some (.ins C dx fs) ∧ fs.lookup m = none ∧ tk σ H1 fun zs H2 => zs.length = n ∧ sp (gV [.ref a] zs) H2 Q E
theorem pe_methK0 {X : Cx} {CX : CXT} {k : Nat} {f C : Addr} {fd : FuncData} {ps ks : List Str} {sp : Sp} {E : XK} {m : Str} {o : Expr} {kws : List Keyword} {ta : TE} {tk : TA} {apos pos : Pos} {g : List Value → List Value → List Value} {gV : List V → List V → List V} {pl : Sem Bool}
    (he : PE X o ta) (c : Cls X.K C) (hm : Meth X.K C m f) (F : FnOk X.prog X.w X.K X.mg X.base CX k f fd ps sp) (hr : Room k X.A) (hb : KBn X.K fd ps 1 ks g gV) (hx : Passes CX X E) (hkw : PK X kws tk)
    (hall : (backToKw pos (keywordEach kws X.env)).all (·.1.isSome) = true := by rfl) (hks : (backToKw pos (keywordEach kws X.env)).filterMap (·.1) = ks := by rfl)
    (hpl : ((backTo pos (starEach [] X.env)).any (·.1) || (backToKw pos (keywordEach kws X.env)).any (·.1.isNone)) = false := by rfl)
    (ht : eval (.Call (.Attribute o m apos) [] kws pos) X.env = (do
      let ov ← eval o X.env
      standAt apos.atName
      let (f, first) ← holding [ov] (getMethod ov m pl)
      callWith pos f first (backTo pos (starEach [] X.env)) (backToKw pos (keywordEach kws X.env))) := by rfl) : PE X (.Call (.Attribute o m apos) [] kws pos) (tMethK C m ks.length sp gV E ta tk) := by
  refine ⟨fun pins s σ H Q I h => PySem.W.methodCall_KW (pl := pl) (thn (he.run pins s σ H _ I h) fun u s1 ⟨x, H1, I1, rx, a, dx, fs, ex, ea, l, q⟩ => ?_) ht⟩
  subst ex
  obtain rfl : u = Value.ref a := rx
  refine getmeth_ok I1 ea c hm l (PySem.W.callWith_KW0 (first := [.ref a]) (h₀ := X.base) I.ok.mod.kin hm.kp hall ?_ hpl)
  refine thn (hkw.run pos pins s1 σ H1 _ I1 q) fun ws s2 ⟨zs, H2, I2, rz, l2, q2⟩ => ⟨I2.kIn, ?_⟩
  rw [hks]
  have r1 : Vals [V.ref a] [Value.ref a] := .cons rfl .nil
  refine wpAny_call (codeAny_mono (F.run X.A X.stack s2 H2 ⟨[Value.ref a], ks.zip ws⟩ (g [Value.ref a] ws) (gV [.ref a] zs) Q E hr I2.env0 (hb.to s2 [Value.ref a] ws I2.kIn rfl (rz.length.symm.trans l2)) (hb.rel r1 rz) q2) fun r s' hq => ?_)
  match r, hq with
  | .error e, hq => exact hx pins σ H2 s2 e s' I2 hq
  | .ok (.ret u), hq => exact I2.after hq
  | .ok .next, hq => exact hq.elim
  | .ok .brk, hq => exact hq.elim
  | .ok .cont, hq => exact hq.elim
/-- o.m(k = v, ..) in a try: what is raised may be seen with the slots as they are -/
def tMethKT (C : Addr) (m : Str) (n : Nat) (sp : Sp) (gV : List V → List V → List V) (E : L2.St → XK) (ta : TE) (tk : TA) : TE := fun σ H Q => ta σ H fun x H1 => ∃ a dx fs, x = .ref a ∧ H1 a = some (.ins C dx fs) ∧ fs.lookup m = none ∧ tk σ H1 fun zs H2 => zs.length = n ∧ sp (gV [.ref a] zs) H2 Q (E σ)
theorem pe_methKT0 {X : Cx} {CX : CXT} {k : Nat} {f C : Addr} {fd : FuncData} {ps ks : List Str} {sp : Sp} {E : L2.St → XK} {m : Str} {o : Expr} {kws : List Keyword} {ta : TE} {tk : TA} {apos pos : Pos} {g : List Value → List Value → List Value} {gV : List V → List V → List V} {pl : Sem Bool}
    (he : PE X o ta) (c : Cls X.K C) (hm : Meth X.K C m f) (F : FnOk X.prog X.w X.K X.mg X.base CX k f fd ps sp) (hr : Room k X.A) (hb : KBn X.K fd ps 1 ks g gV) (hx : ∀ σ, PassesAt CX X σ (E σ)) (hkw : PK X kws tk)
    (hall : (backToKw pos (keywordEach kws X.env)).all (·.1.isSome) = true := by rfl) (hks : (backToKw pos (keywordEach kws X.env)).filterMap (·.1) = ks := by rfl)
    (hpl : ((backTo pos (starEach [] X.env)).any (·.1) || (backToKw pos (keywordEach kws X.env)).any (·.1.isNone)) = false := by rfl)
    (ht : eval (.Call (.Attribute o m apos) [] kws pos) X.env = (do
      let ov ← eval o X.env
      standAt apos.atName
      let (f, first) ← holding [ov] (getMethod ov m pl)
      callWith pos f first (backTo pos (starEach [] X.env)) (backToKw pos (keywordEach kws X.env))) := by rfl) : PE X (.Call (.Attribute o m apos) [] kws pos) (tMethKT C m ks.length sp gV E ta tk) := by
  refine ⟨fun pins s σ H Q I h => PySem.W.methodCall_KW (pl := pl) (thn (he.run pins s σ H _ I h) fun u s1 ⟨x, H1, I1, rx, a, dx, fs, ex, ea, l, q⟩ => ?_) ht⟩
  subst ex
  obtain rfl : u = Value.ref a := rx
  refine getmeth_ok I1 ea c hm l (PySem.W.callWith_KW0 (first := [.ref a]) (h₀ := X.base) I.ok.mod.kin hm.kp hall ?_ hpl)
  refine thn (hkw.run pos pins s1 σ H1 _ I1 q) fun ws s2 ⟨zs, H2, I2, rz, l2, q2⟩ => ⟨I2.kIn, ?_⟩
  rw [hks]
  have r1 : Vals [V.ref a] [Value.ref a] := .cons rfl .nil
  refine wpAny_call (codeAny_mono (F.run X.A X.stack s2 H2 ⟨[Value.ref a], ks.zip ws⟩ (g [Value.ref a] ws) (gV [.ref a] zs) Q (E σ) hr I2.env0 (hb.to s2 [Value.ref a] ws I2.kIn rfl (rz.length.symm.trans l2)) (hb.rel r1 rz) q2) fun r s' hq => ?_)
  match r, hq with
  | .error e, hq => exact hx σ pins H2 s2 e s' I2 hq
  | .ok (.ret u), hq => exact I2.after hq
  | .ok .next, hq => exact hq.elim
  | .ok .brk, hq => exact hq.elim
  | .ok .cont, hq => exact hq.elim
/-- o.m(e, ..) in a try -/
def tMethT (C : Addr) (m : Str) (sp : Sp) (E : L2.St → XK) (ta : TE) (t : TA) : TE := fun σ H Q => ta σ H fun x H1 => ∃ a dx fs, x = .ref a ∧ H1 a = some (.ins C dx fs) ∧ fs.lookup m = none ∧ t σ H1 fun vs H2 => sp (.ref a :: vs) H2 Q (E σ)
theorem pe_methT {X : Cx} {CX : CXT} {k : Nat} {f C : Addr} {fd : FuncData} {ps : List Str} {sp : Sp} {E : L2.St → XK} {m : Str} {o e : Expr} {es : List Expr} {ta : TE} {t : TA} {apos pos : Pos} {pl : Sem Bool}
    (he : PE X o ta) (c : Cls X.K C) (hm : Meth X.K C m f) (F : FnOk X.prog X.w X.K X.mg X.base CX k f fd ps sp) (hr : Room k X.A) (hb : Binds X.K fd ps []) (hx : ∀ σ, PassesAt CX X σ (E σ)) (ha : PA X (e :: es) t)
    (hst : starEach (e :: es) X.env = (false, eval e X.env) :: starEach es X.env := by rfl) (hpl : (backTo pos (starEach es X.env)).any (·.1) = false := by rfl)
    (ht : eval (.Call (.Attribute o m apos) (e :: es) [] pos) X.env = (do
      let ov ← eval o X.env
      standAt apos.atName
      let (f, first) ← holding [ov] (getMethod ov m pl)
      callWith pos f first (backTo pos (starEach (e :: es) X.env)) (backToKw pos (keywordEach [] X.env))) := by rfl) : PE X (.Call (.Attribute o m apos) (e :: es) [] pos) (tMethT C m sp E ta t) := by
  refine ⟨fun pins s σ H Q I h => PySem.W.methodCall_KW (pl := pl) (thn (he.run pins s σ H _ I h) fun u s1 ⟨x, H1, I1, rx, a, dx, fs, ex, ea, l, q⟩ => ?_) ht⟩
  subst ex
  obtain rfl : u = Value.ref a := rx
  refine getmeth_ok I1 ea c hm l (PySem.W.callWith_K (first := [.ref a]) (h₀ := X.base) I.ok.mod.kin hm.kp (thn (ha.run pos pins s1 σ H1 _ I1 q) fun us s2 ⟨vs, H2, I2, r, q2⟩ => ⟨I2.kIn, ?_⟩) hst hpl)
  exact run_fnS (us := .ref a :: us) (vs := .ref a :: vs) F hr hb (hx σ) I2 (.cons rfl r) q2
/-- o.m() in a try -/
theorem pe_methT0 {X : Cx} {CX : CXT} {k : Nat} {f C : Addr} {fd : FuncData} {ps : List Str} {sp : Sp} {E : L2.St → XK} {m : Str} {o : Expr} {ta : TE} {apos pos : Pos} {pl : Sem Bool}
    (he : PE X o ta) (c : Cls X.K C) (hm : Meth X.K C m f) (F : FnOk X.prog X.w X.K X.mg X.base CX k f fd ps sp) (hr : Room k X.A) (hb : Binds X.K fd ps []) (hx : ∀ σ, PassesAt CX X σ (E σ))
    (ht : eval (.Call (.Attribute o m apos) [] [] pos) X.env = (do
      let ov ← eval o X.env
      standAt apos.atName
      let (f, first) ← holding [ov] (getMethod ov m pl)
      callWith pos f first (backTo pos (starEach [] X.env)) (backToKw pos (keywordEach [] X.env))) := by rfl) : PE X (.Call (.Attribute o m apos) [] [] pos) (tMethT C m sp E ta tNil) := by
  refine ⟨fun pins s σ H Q I h => PySem.W.methodCall_KW (pl := pl) (thn (he.run pins s σ H _ I h) fun u s1 ⟨x, H1, I1, rx, a, dx, fs, ex, ea, l, q⟩ => ?_) ht⟩
  subst ex
  obtain rfl : u = Value.ref a := rx
  exact getmeth_ok I1 ea c hm l (PySem.W.callWith_K0 (first := [.ref a]) I1.kIn hm.kp (run_fnS (us := [.ref a]) (vs := [.ref a]) F hr hb (hx σ) I1 (.cons rfl .nil) q))
/-- a block by what it is seen to do -/
theorem pss_of {X : Cx} {st : List Stmt} {t' : TS} (h : ∀ (pins : List (Addr × Obj)) (s : Shared) (σ : L2.St) (H : Hp) (D : Ends), Inv X pins σ H s → t' D σ H → ∃ t, PSs X st t ∧ t D σ H) : PSs X st t' := ⟨fun pins s σ H D I q => by
  obtain ⟨t, ht, q'⟩ := h pins s σ H D I q
  exact ht.run pins s σ H D I q'⟩
/-! a def that must know that nothing is being shown -/
structure FnG (P : Program) (w : World) (K : PySem.W.Frag) (mg : Str → Option Value) (base : Heap) (k : Nat) (f : Addr) (fd : FuncData) (ps : List Str) (sp : Sp) : Prop where
  len : ∀ vs H Q, sp vs H Q E0 → vs.length = ps.length
  run : ∀ (A : Around) (outer : List Env) (s : Shared) (H : Hp) (args : Args) (us : List Value) (vs : List V) (Q : VK), A.guards = some [] → Room k A → Env0 P w K mg base A outer s H → BindsTo s fd args (ps.zip us) → Vals vs us → sp vs H Q E0 →
    codeAny (model P w) A (.call (.ref f) args) (CR CX0 outer P w H s Q E0) s
theorem fnG_of {P : Program} {w : World} {K : PySem.W.Frag} {mg : Str → Option Value} {base : Heap} {k : Nat} {x qual : Str} {st : Stmt} {f : Addr} {fd : FuncData} {N ps : List Str} {sp : Sp} (F : Fun K x qual st f fd) (S : FnScope N ps (defScope st)) (len : ∀ vs H Q, sp vs H Q E0 → vs.length = ps.length)
    (hbody : ∀ (cdv : Value) (A : Around) (outer : List Env) (s : Shared) (H : Hp) (vs : List V) (Q : VK), (A.deeper (envOfC qual (defScope st) s.heap.objs.size f cdv)).guards = some [] → Room k (A.deeper (envOfC qual (defScope st) s.heap.objs.size f cdv)) → sp vs H Q E0 →
      ∃ t, PSs (cxOf CX0 P w K mg base N qual (defScope st) f cdv A outer s H E0).nox (defBody st) t ∧ t { nx := fun _ H' => Q .non H', rt := Q } (L2.start N vs) H) : FnG P w K mg base (k + 1) f fd ps sp := by
  obtain ⟨oc, od, kV, doc, pm, an, cdv, ct, osl, rfl, lk, hcd⟩ := F.ex
  exact ⟨len, fun A outer s H args us vs Q hg hr e0 hb r hsp => fn_at lk hcd S hr e0 hb r (len vs H Q hsp) (hbody cdv A outer s H vs Q hg (hr.deeper _) hsp)⟩
structure DnG (P : Program) (w : World) (K : PySem.W.Frag) (mg : Str → Option Value) (base : Heap) (k : Nat) (x : Str) (ps : List Str) (sp : Sp) : Prop where
  ex : ∃ (f : Addr) (fd : FuncData), FnG P w K mg base k f fd ps sp ∧ mg x = some (.ref f) ∧ PySem.W.keepIn K (.ref f) = true ∧ Binds K fd ps []
theorem pcallG {X : Cx} {k : Nat} {x : Str} {ps : List Str} {sp : Sp} {p pos : Pos} {e : Expr} {es : List Expr} {t : TA} (D : DnG X.prog X.w X.K X.mg X.base k x ps sp) (hG : X.A.guards = some []) (hr : Room k X.A) (hg : Gl X x) (ha : PA X (e :: es) t)
    (hdb : (x == ("__debug__" : Str)) = false := by decide) (he : starEach (e :: es) X.env = (false, eval e X.env) :: starEach es X.env := by rfl) (hpl : (backTo pos (starEach es X.env)).any (·.1) = false := by rfl) :
    PE X (.Call (.Name x p) (e :: es) [] pos) (tCall sp [] E0 t) := by
  obtain ⟨f, fd, F, hm, hk, hb⟩ := D.ex
  refine ⟨fun pins s σ H Q I h => wpAny_Call_Name_kw (ld_glob I hg hm (PySem.W.callWith_K (h₀ := X.base) I.ok.mod.kin hk (thn (ha.run pos pins s σ H _ I h) fun us s1 ⟨vs, H1, I1, r, q⟩ => ⟨I1.kIn, ?_⟩) he hpl) hdb)⟩
  have q : sp vs H1 Q E0 := by
    have z : sp (vs ++ []) H1 Q E0 := q
    rwa [List.append_nil] at z
  have b := hb s1 us I1.kIn (by rw [List.append_nil, ← r.length]; exact F.len _ _ _ q)
  rw [List.append_nil] at b
  refine wpAny_call (codeAny_mono (F.run X.A X.stack s1 H1 ⟨us, []⟩ us vs Q hG hr I1.env0 b r q) fun z s' hq => ?_)
  match z, hq with
  | .error _, hq => exact hq.elim
  | .ok (.ret u), hq => exact I1.after hq
  | .ok .next, hq => exact hq.elim
  | .ok .brk, hq => exact hq.elim
  | .ok .cont, hq => exact hq.elim
/-- repr(x), x of an own class, while an error is being handled -/
theorem call_reprOE {X : Cx} {k : Nat} {f C : Addr} {fd : FuncData} {sp : Sp} {p : Addr × Obj} (F : FnE X.prog X.w X.K X.mg X.base k f fd ["self"] (fun _ => sp)) (hb : Binds X.K fd ["self"] []) (hs : PySem.W.findIn X.K (.ref C) "__repr__" = some (some (.ref f))) (hf : PySem.W.isFn X.K (.ref f) = true)
    (hr : RoomH (k + 1) X.A) (hot : Hot1 X.A p) (hp : p ∈ X.pn) : CallR X (.builtin "repr") (fun xs H Q => ∃ (a dx : Addr) (fs : List (Str × V)) (t : Str), xs = [.ref a] ∧ H a = some (.ins C dx fs) ∧ ReprSp sp H a t ∧ ∀ H', Same H H' → Q (.str t) H') := by
  intro pins s σ H xs us Q I r h
  obtain ⟨a, dx, fs, t, rfl, ha, hsp, q⟩ := h
  obtain ⟨u, rfl, ru⟩ := vals1 r
  cases ru
  obtain ⟨mA, J, _⟩ := ins_get I.hok ha
  obtain ⟨od, J, _⟩ := J.look
  obtain ⟨m, hF⟩ := I.fr
  have hu := hr.un
  have hd := hr.dp
  refine PySem.W.repr_K (by show X.A.units + 1 < cLine; omega) hF I.ok.mod.kin J hs hf ?_
  have e := I.env0
  have e0 : Env0 X.prog X.w X.K X.mg X.base X.A.in1 X.stack s H := ⟨e.frames, e.mod, e.bs, e.bsz, e.funs, e.frf, e.hok, e.bare⟩
  have b := hb s [Value.ref a] I.kIn (by rfl)
  rw [List.append_nil] at b
  have P1 := I.pin p (List.mem_append_left _ hp)
  refine wpAny_call (codeAny_mono (F.run X.A.in1 X.stack s H ⟨[Value.ref a], []⟩ [Value.ref a] [V.ref a] (fun v H' => v = .str t ∧ Q (.str t) H') p ⟨by show X.A.depth + 3 * k + 5 < _; omega, by show X.A.units + 1 + 16 * k + 200 < _; omega⟩ hot
    ⟨P1.1, P1.2.1, fun m => (List.mem_cons.mp (I.stkSub p.1 m)).elim P1.2.2.1 P1.2.2.2.1, P1.2.2.2.2⟩ e0 b (.cons rfl .nil) (hsp H (Same.refl _) _ fun H' s' => ⟨rfl, q H' s'⟩)) fun z s' hq => ?_)
  match z, hq with
  | .error _, hq => exact hq.elim
  | .ok .next, hq => exact hq.elim
  | .ok .brk, hq => exact hq.elim
  | .ok .cont, hq => exact hq.elim
  | .ok (.ret u), hq =>
    obtain ⟨v, H', I', rv, rfl, q'⟩ := I.after hq
    obtain ⟨tk, rfl⟩ := rv
    exact ⟨.str t, H', I', ⟨_, rfl⟩, q'⟩
/-- repr of plain things, while an error is being handled too -/
theorem call_reprP {X : Cx} (hg : X.A.guards = some []) (hu : X.A.units + 66 < cLine) : CallR X (.builtin "repr") (fun xs H Q => ∃ (v : V) (t : Str), xs = [v] ∧ (v = .non ∧ t = "None" ∨ (∃ b : Bool, v = .bl b ∧ t = (if b then ("True" : Str) else ("False" : Str))) ∨ (∃ i : Int, v = .int i ∧ i.natAbs.log2 < 1920 ∧ t = toString i) ∨ (∃ z : Str, v = .str z ∧ (reprText z).length ≤ sizeLine ∧ t = reprText z) ∨
    (∃ a, v = .ref a ∧ H a = some (.dK []) ∧ t = "{}") ∨ (∃ a d, v = .ref a ∧ Dp X.K H (.ref a) d ∧ d.showable = true ∧ d.hasDict = false ∧ d.depth ≤ 64 ∧ d.shown.length ≤ sizeLine ∧ t = d.shown)) ∧ Q (.str t) H) := by
  intro pins s σ H xs us Q I r h
  obtain ⟨v, t, rfl, hs, q⟩ := h
  obtain ⟨u, rfl, ru⟩ := vals1 r
  rcases hs with ⟨rfl, rfl⟩ | ⟨b, rfl, rfl⟩ | ⟨i, rfl, hi, rfl⟩ | ⟨z, rfl, hz, rfl⟩ | ⟨a, rfl, h, rfl⟩ | ⟨a, d, rfl, hd, h1, h2, h3, h4, rfl⟩
  · cases ru
    exact P.repr_of_none ⟨.str "None", H, I.tok _, ⟨_, rfl⟩, q⟩
  · cases ru
    exact P.repr_of_bool ⟨.str _, H, I.tok _, ⟨_, rfl⟩, q⟩
  · obtain ⟨tk, rfl⟩ := ru
    exact P.repr_of_int hi ⟨.str _, H, I.tok _, ⟨_, rfl⟩, q⟩
  · obtain ⟨tk, rfl⟩ := ru
    exact P.repr_of_str ⟨.str _, H, I.tok _, ⟨_, rfl⟩, q⟩ hz
  · cases ru
    obtain ⟨_, hsm, vs, hkv, o, es, ep, ho, hx, hd, _, hp, _⟩ := dk_of I.hok h
    cases hkv
    have e : es.toList = [] := by
      generalize es.toList = l at hp
      cases hp
      rfl
    have rd : Reads s.heap (.ref _) (.dict []) _ := .dict (kvs := []) ho hx.1 hd (by rw [e]; exact .nil) (by rw [e]; exact .nil)
    have z : PyData.shown (.dict []) = ("{}" : Str) := by decide +kernel
    refine repr_of_reads' rd rfl (fun _ hm => ?_) hg (by show X.A.units + (0 + 1 + 1) < cLine; omega) (fun _ _ e => e) (fun h' u tk hk => ⟨.str "{}", H, I.kept hk, ⟨u, by rw [z]⟩, q⟩) (by rw [z]; decide +kernel)
    simp only [List.append_nil, List.mem_singleton] at hm
    rw [← hm] at hsm
    simp at hsm
  · exact call_reprD hg (by omega) pins s σ H _ [u] Q I (.cons ru .nil) ⟨_, _, rfl, hd, h1, h2, h3, h4, q⟩
end Du

set_option Elab.async false
set_option linter.all false
set_option maxRecDepth 100000
namespace Du
open PySem L2 PyProof.Rows
theorem iteN {c : Bool} {A B : Prop} (e : c = false) (h : B) : if c = true then A else B := by
  rw [e]
  exact iteF h
theorem iteY {c : Bool} {A B : Prop} (e : c = true) (h : A) : if c = true then A else B := by
  rw [e]
  exact iteT h
/-- a statement whose end is told once for all its ways -/
def tJ (t : TS) : TS := fun D σ H => ∃ J : L2.St → Hp → Prop, t { D with nx := J } σ H ∧ ∀ σ' H', J σ' H' → D.nx σ' H'
theorem ps_j {X : Cx} {st : Stmt} {t : TS} (h : PS X st t) : PS X st (tJ t) := by
  refine ⟨fun pins s σ H D I ⟨J, hJ, hN⟩ => thn (h.run pins s σ H { D with nx := J } I hJ) fun f s1 q => ?_⟩
  cases f with
  | next =>
    obtain ⟨σ', H', I', q⟩ := q
    exact ⟨σ', H', I', hN _ _ q⟩
  | ret v => exact q
  | brk => exact q
  | cont => exact q
/-- an expression whose value is told once for all its ways -/
def tJe (t : TE) : TE := fun σ H Q => ∃ J : VK, t σ H J ∧ ∀ v H', J v H' → Q v H'
theorem pe_j {X : Cx} {e : Expr} {t : TE} (h : PE X e t) : PE X e (tJe t) := ⟨fun pins s σ H Q I ⟨J, hJ, hN⟩ => thn (h.run pins s σ H J I hJ) fun u s1 ⟨v, H', I', r, q⟩ => ⟨v, H', I', r, hN _ _ q⟩⟩
/-- f(k = v, ..) -/
def tCallK0 (n : Nat) (sp : Sp) (gV : List V → List V → List V) (E : XK) (tk : TA) : TE := fun σ H Q => tk σ H fun zs H2 => zs.length = n ∧ sp (gV [] zs) H2 Q E
theorem pe_callK0 {X : Cx} {CX : CXT} {k : Nat} {f : Addr} {fd : FuncData} {x : Str} {p pos : Pos} {ps ks : List Str} {sp : Sp} {E : XK} {kws : List Keyword} {tk : TA} {g : List Value → List Value → List Value} {gV : List V → List V → List V}
    (F : FnOk X.prog X.w X.K X.mg X.base CX k f fd ps sp) (hr : Room k X.A) (hg : Gl X x) (hm : X.mg x = some (.ref f)) (hk : PySem.W.keepIn X.K (.ref f) = true) (hb : KBn X.K fd ps 0 ks g gV) (hx : Passes CX X E) (hkw : PK X kws tk)
    (hall : (backToKw pos (keywordEach kws X.env)).all (·.1.isSome) = true := by rfl) (hks : (backToKw pos (keywordEach kws X.env)).filterMap (·.1) = ks := by rfl)
    (hdb : (x == ("__debug__" : Str)) = false := by decide)
    (hpl : ((backTo pos (starEach [] X.env)).any (·.1) || (backToKw pos (keywordEach kws X.env)).any (·.1.isNone)) = false := by rfl) :
    PE X (.Call (.Name x p) [] kws pos) (tCallK0 ks.length sp gV E tk) := by
  refine ⟨fun pins s σ H Q I h => ?_⟩
  refine wpAny_Call_Name_kw (ld_glob I hg hm ?_ hdb)
  refine PySem.W.callWith_KW0 (h₀ := X.base) I.ok.mod.kin hk hall ?_ hpl
  refine thn (hkw.run pos pins s σ H _ I h) fun ws s2 ⟨zs, H2, I2, rz, l2, q2⟩ => ⟨I2.kIn, ?_⟩
  rw [hks]
  refine wpAny_call (codeAny_mono (F.run X.A X.stack s2 H2 ⟨[], ks.zip ws⟩ (g [] ws) (gV [] zs) Q E hr I2.env0 (hb.to s2 [] ws I2.kIn rfl (rz.length.symm.trans l2)) (hb.rel .nil rz) q2) fun r s' hq => ?_)
  match r, hq with
  | .error e, hq => exact hx pins σ H2 s2 e s' I2 hq
  | .ok (.ret u), hq => exact I2.after hq
  | .ok .next, hq => exact hq.elim
  | .ok .brk, hq => exact hq.elim
  | .ok .cont, hq => exact hq.elim
/-- a def by its name, for keywords -/
structure DnK (P : Program) (w : World) (K : PySem.W.Frag) (mg : Str → Option Value) (base : Heap) (k : Nat) (x : Str) (ps : List Str) (sp : Sp) (n : Nat) (ks : List Str) (gV : List V → List V → List V) : Prop where
  ex : ∃ (f : Addr) (fd : FuncData) (g : List Value → List Value → List Value), FnOk P w K mg base CX0 k f fd ps sp ∧ mg x = some (.ref f) ∧ PySem.W.keepIn K (.ref f) = true ∧ KBn K fd ps n ks g gV
theorem pcallK0 {X : Cx} {k : Nat} {x : Str} {ps ks : List Str} {sp : Sp} {p pos : Pos} {kws : List Keyword} {tk : TA} {gV : List V → List V → List V} (D : DnK X.prog X.w X.K X.mg X.base k x ps sp 0 ks gV) (hr : Room k X.A) (hg : Gl X x) (hkw : PK X kws tk)
    (hall : (backToKw pos (keywordEach kws X.env)).all (·.1.isSome) = true := by rfl) (hks : (backToKw pos (keywordEach kws X.env)).filterMap (·.1) = ks := by rfl)
    (hdb : (x == ("__debug__" : Str)) = false := by decide)
    (hpl : ((backTo pos (starEach [] X.env)).any (·.1) || (backToKw pos (keywordEach kws X.env)).any (·.1.isNone)) = false := by rfl) :
    PE X (.Call (.Name x p) [] kws pos) (tCallK0 ks.length sp gV E0 tk) := by
  obtain ⟨f, fd, g, F, hm, hk, hb⟩ := D.ex
  exact pe_callK0 F hr hg hm hk hb pass0 hkw hall hks hdb hpl
end Du

set_option Elab.async false
set_option linter.all false
set_option maxRecDepth 100000
set_option maxHeartbeats 1000000
namespace Du
open PySem PySem.W PySem.Calls PyProof.Rows PySem.HandSPX
open L2 (defArgs defBody defScope inClass)
abbrev sNoNumber : Stmt := inClass (topS 6) 0
section
variable {prog : Program} {w : World} {A : Around} {E : Value → Shared → Prop} {R : Result → Shared → Prop} {s : Shared} {K : Frag} {mg mb : Str → Option Value} {C fI : Addr} {nm qual : Str}
theorem init_NoNumber (T : ErrC prog K mg nm "number" qual sNoNumber C fI) {x t0 : Addr} {v : Value} (X : K.In s.heap) (hlim : s.heap.NoLimit) (G : s.heap.Ns mainGlobals mg) (Bn : s.heap.Ns builtinsNs mb) (hbb : ∀ y : Str, y ≠ "__name__" → mb y = bootBuiltins y)
    (hx : s.heap.get? x = some (excO C t0)) (hnx : K.lookup x = none) (hroom : A.depth < recursionLimit) (hq : ∀ h' tk dx, ErrEnd s.heap h' x C dx "number" v → R (.ok (.ret .none)) { s with heap := h', toks := tk }) : codeAny (model prog w) A (.call (.ref fI) ⟨[.ref x, v], []⟩) R s := by
  obtain ⟨oc, od, doc, pm, an, cda, cc, ct, osl, ccl, cl, cdd, cld, ccs, csl, vs, file, tf, lk, hcd, hcode, hvs, hfile, hcell⟩ := T.fn
  obtain ⟨nm', q', N', bs, bm, sn, sub, ab, col, dd, k0, k1, k2, k3, k5, hC, hbm⟩ := T.cls
  have hcl : clsIn K C = some { name := nm', bases := bs, mro := .ref C :: bm, ns := N', qualname := q', hasDict := true, slotNames := sn, subclasses := sub, abstract := ab, collection := col, hasDel := false } := by unfold clsIn; rw [hC] <;> rfl
  have nocell : ∀ y ∈ (defScope sNoNumber).names, y.2 ≠ .cell := by decide +kernel
  refine ks_codeAny_call_defAt (binds := [(("self" : Str), Value.ref x), ("number", v)]) hroom (X _ _ lk) rfl hlim (codeRec_of X hcd) rfl (BindsTo.of_eq rfl) nocell (fun y hy => ?_) (fun h1 hn k => ?_)
  · rcases List.mem_cons.mp hy with rfl | hy
    · rfl
    · rw [List.mem_singleton.mp hy]
      rfl
  have X1 : K.In h1 := X.keeps k
  have hx1 := k _ _ hx
  have I1 : InstAt h1 x (excO C t0) C none := ⟨hx1, rfl, rfl, trivial⟩
  obtain ⟨oD, hD1, cdD, hD2⟩ : ∃ oD, h1.get? C = some oD ∧ ∃ cd, oD.data = .cls cd := ⟨_, X1 _ _ hC, _, rfl⟩
  refine ks_wpAt_execs_cons (ks_wpAt_Expr_any (ks_wpAt_MethodCall ?_))
  refine ks_wpAt_super_base rfl rfl (by decide) rfl (X1 _ _ lk) rfl rfl rfl (X1 _ _ hcode) rfl hvs hfile T.top ?_
  refine ks_loadName_global rfl rfl (loadGlobal_builtin (G.keeps k) T.mS (Bn.keeps k) ((hbb _ (by decide)).trans PyProof.Rows.Boot.«super») ⟨rfl, ?_⟩)
  refine wpAny_loadName_free rfl rfl rfl ⟨_, X1 _ _ hcell, rfl⟩ ?_
  refine wpAny_loadName_local rfl rfl hn rfl ?_
  refine ks_wpAny_isType_cls hD1 hD2 ⟨rfl, ?_⟩
  refine ks_wpAny_call_super hD1 hD2 hx1 rfl (fun c e => by cases e) (looks_mroIn X1 T.mro) (fun h2 hso k2 => ?_)
  have X2 : K.In h2 := X1.keeps k2
  have hx2 := k2 _ _ hx1
  have I2 : InstAt h2 x (excO C t0) C none := ⟨hx2, rfl, rfl, trivial⟩
  have hm := T.sup
  unfold ks_superIn at hm
  rw [hcl] at hm
  have hmro : W.Looks (model prog w) h2 (mroOf (.ref C)) (.ref C :: bm) := (looks_clsIn X2 hcl).andThen .now
  refine kxs_getMethod kxs_ValueError hso (looks_opaque X2 T.any) hmro rfl X2 hm (I2.type.andThen (looks_subIn X2 T.veC)) (ks_ne X2 I2 hcl) (by decide) ?_
  have k3 : ∀ b o, h2.get? b = some o → (h2.push (kxs_mw "ValueError.__init__" x)).get? b = some o := fun b o e => Heap.get?_push_of_some _ e
  refine kxs_callWith (i := "ValueError.__init__") (x := x) rfl (evalArgs_plain (args_cons (Calls.Constant_str (args_nil ⟨Heap.get?_push_at rfl rfl, ?_⟩))))
  refine call_mw F.excBase_ValueError (k3 _ _ (X2 _ _ hC)) (k3 _ _ hx2) (Heap.get?_push_at rfl rfl) (by show 1 ≤ sizeLine; decide) fun h4 t1 k4 hx4 => ?_
  -- the field
  have kx : ∀ b o, b ≠ x → h1.get? b = some o → h4.get? b = some o := fun b o hb e => k4 b o hb (k3 b o (k2 b o e))
  have X4 : K.In h4 := fun b o e => kx b o (fun z => by rw [z, hnx] at e; cases e) (X1 b o e)
  have hL : s.heap.objs.size ≠ x := Nat.ne_of_gt (Heap.lt_size hx)
  obtain ⟨oL, esL, epL, eL, rL⟩ := id hn
  have hn4 : h4.Ns s.heap.objs.size _ := ⟨oL, esL, epL, kx _ _ hL eL, rL⟩
  refine ks_wpAt_execs_cons (ks_wpAt_Assign_Attr (wpAt_of_wpAny (wpAny_Name (wpAny_loadName_local rfl rfl hn4 rfl (wpAny_Name (wpAny_loadName_local rfl rfl hn4 rfl ?_) (by decide))) (by decide))))
  refine set_plain X4 (ox := excO C t1) (od := none) ⟨hx4, rfl, rfl, trivial⟩ T.sa ?_
  refine exc_osa X4 hx4 hcl (show refsVE (.ref C :: bm) = true from hbm) rfl T.noN (fun h5 tk5 dx k5 dn dne hx5 hn5 => ?_)
  refine wpAt_of_wpAny (wpAny_execs_nil (hq h5 tk5 dx ⟨fun b o hb e => k5 b o hb (kx b o hb (k b o e)), ⟨t1, hx5⟩, ?_, dne, hn5⟩))
  have z : s.heap.objs.size < h4.objs.size := hn4.lt
  have dn' : h4.objs.size ≤ dx := dn
  omega
theorem made_NoNumber (T : ErrC prog K mg nm "number" qual sNoNumber C fI) {v : Value} (X : K.In s.heap) (hlim : s.heap.NoLimit) (G : s.heap.Ns mainGlobals mg) (Bn : s.heap.Ns builtinsNs mb) (hbb : ∀ y : Str, y ≠ "__name__" → mb y = bootBuiltins y) (hroom : A.depth + 1 < recursionLimit)
    (hq : ∀ h' tk e d, ErrMade s.heap h' e C d "number" v → R (.ok (.ret (.ref e))) { s with heap := h', toks := tk }) : codeAny (model prog w) A (.call (.ref C) ⟨[v], []⟩) R s := by
  obtain ⟨nm', q', N', bs, bm, sn, sub, ab, col, dd, k0, k1, k2, k3, k5, hC, hbm⟩ := T.cls
  obtain ⟨hp, g, dr, tk, os⟩ := s
  have k : ∀ b o, hp.get? b = some o → ((hp.push (kdv_tup [v])).push (excO C hp.objs.size)).get? b = some o := fun b o e => Heap.get?_push_of_some _ (Heap.get?_push_of_some _ e)
  have hget : ((hp.push (kdv_tup [v])).push (excO C hp.objs.size)).get? (hp.objs.size + 1) = some (excO C hp.objs.size) := by heap_get
  have hnx : K.lookup (hp.objs.size + 1) = none := by
    cases e : K.lookup (hp.objs.size + 1) with
    | none => rfl
    | some o => exact absurd (Nat.lt_of_succ_lt (Heap.lt_size (show hp.get? (hp.objs.size + 1) = some o from X _ _ e))) (Nat.lt_irrefl _)
  refine call_own F.excBase_ValueError (fun X => refsVE_contains X bm hbm) (X _ _ hC) (looks_findIn X T.iC) (fun self => bind_fn X self T.tC) (by show 1 ≤ sizeLine; decide) ?_
  refine init_NoNumber (s := ⟨(hp.push (kdv_tup [v])).push (excO C hp.objs.size), g, dr, tk, os⟩) T (X.keeps k) (hlim.keeps k) (G.keeps k) (Bn.keeps k) hbb hget hnx hroom fun h' tk' dx m => ?_
  obtain ⟨k', ⟨t1, hx⟩, dn, dne, hns⟩ := m
  have z : hp.objs.size + 1 + 1 ≤ dx := by
    have q := dn
    rw [Heap.size_push, Heap.size_push] at q
    exact q
  exact ⟨rfl, hq h' tk' (hp.objs.size + 1) dx ⟨fun b o e => k' b o (Nat.ne_of_lt (Nat.lt_succ_of_lt (Heap.lt_size e))) (k b o e), Nat.le_succ _, ⟨_, _, hx, rfl, rfl, rfl, rfl, rfl⟩, Nat.le_trans (Nat.le_trans (Nat.le_succ _) (Nat.le_succ _)) z, dne, hns⟩⟩
theorem err_ofNumber {P : Program} {w : World} {K : PySem.W.Frag} {mg : Str → Option Value} {x qual : Str} {C fI : Addr} (T : ErrC P K mg x "number" qual sNoNumber C fI) : Err P w K mg x "number" C :=
  ⟨T.gC, T.kC, T.exC, T.tyC, T.ga, T.gg, T.noN, T.hdC, fun X l G B hb hr q => made_NoNumber T X l G B hb hr q⟩
end
end Du

set_option Elab.async false
set_option linter.all false
set_option maxRecDepth 100000
namespace Du
open PySem L2
/-! things of any kind, known for good -/
/-- neither a purse nor a list of five -/
def Fix (o : HO) : Prop := (∀ i j k : Int, o ≠ .lst [.int i, .int j, .int k]) ∧ ∀ ys : List V, o = .lst ys → ys.length ≠ 5
def Kp (H H' : Hp) : Prop := ∀ a o, H a = some o → Fix o → H' a = some o
def ObT (K : PySem.W.Frag) (H : Hp) (x : V) (t : Value) : Prop := ∃ (a : Addr) (o : HO), x = .ref a ∧ H a = some o ∧ Fix o ∧ ∀ H' : Hp, H' a = some o → TyX K H' (.ref a) t
def Ty2 (K : PySem.W.Frag) (H : Hp) (x : V) (t : Value) : Prop := (∀ H' : Hp, TyX K H' x t) ∨ ObT K H x t
section
variable {K : PySem.W.Frag} {H H' : Hp} {x : V} {t : Value} {p a : Addr} {lo hi : Int} {b : Bool} {xs : List V}
theorem Kp.trans {H H1 H2 : Hp} (a : Kp H H1) (b : Kp H1 H2) : Kp H H2 := fun x o e n => b x o (a x o e n) n
theorem Kp.of_same (s : Same H H') : Kp H H' := fun a o e _ => s a o e
theorem Kp.of_step (hp : Purse H p) (s : Step p H H') : Kp H H' := fun a o e n => by
  obtain ⟨i, j, l, ep, _⟩ := id hp
  exact s.keep a o (ne_of e ep (n.1 i j l)) e
theorem Kp.upd {T : Addr} {ys : List V} {o' : HO} (h : H T = some (.lst ys)) (h5 : ys.length = 5) : Kp H (upd H T o') := fun a o e n => by
  rw [upd_ne (ne_of e h (fun z => n.2 _ z h5))]
  exact e
theorem Fix.tup : Fix (.tup xs) := ⟨(fun _ _ _ z => nomatch z), (fun _ z => nomatch z)⟩
theorem Fix.frz {o : Obj} {u : HO} : Fix (.frz o u) := ⟨(fun _ _ _ z => nomatch z), (fun _ z => nomatch z)⟩
theorem Fix.dK {ks : List (Key × V)} : Fix (.dK ks) := ⟨(fun _ _ _ z => nomatch z), (fun _ z => nomatch z)⟩
theorem Fix.ins {C dx : Addr} {fs : List (Str × V)} : Fix (.ins C dx fs) := ⟨(fun _ _ _ z => nomatch z), (fun _ z => nomatch z)⟩
theorem Ty2.ty (h : Ty2 K H x t) : TyX K H x t := by
  rcases h with h | ⟨a, o, rfl, e, _, k⟩
  · exact h H
  · exact k H e
theorem Ty2.kp (h : Ty2 K H x t) (s : Kp H H') : Ty2 K H' x t := by
  rcases h with h | ⟨a, o, rfl, e, n, k⟩
  · exact .inl h
  · exact .inr ⟨a, o, rfl, s _ _ e n, n, k⟩
theorem sqT_kp (h : SqT K H a xs) (s : Kp H H') : SqT K H' a xs := by
  rcases h with (z | ⟨o, z⟩) | z
  · exact .inl (.inl (s _ _ z .tup))
  · exact .inl (.inr ⟨o, s _ _ z .frz⟩)
  · exact .inr z
theorem HdAt.kp {v : V} {h : Hold} (d : HdAt K H v h) (s : Kp H H') : HdAt K H' v h := by
  obtain ⟨a, e, q⟩ := d
  exact ⟨a, e, sqT_kp q s⟩
theorem HdsAt.kp {t : Addr} {hs : List Hold} (d : HdsAt K H t hs) (s : Kp H H') : HdsAt K H' t hs := by
  obtain ⟨vs, h1, h2, h3⟩ := d
  exact ⟨vs, sqT_kp h1 s, h2, fun i v h e1 e2 => (h3 i v h e1 e2).kp s⟩
def BadN (K : PySem.W.Frag) (H : Hp) (x : V) : Prop := (∃ z : Str, x = .str z ∧ z.length ≤ sizeLine ∧ isNm z = false) ∨ (∃ t, Ty2 K H x t ∧ PySem.W.kitOne K t (.type "str") = some false)
def BadL (K : PySem.W.Frag) (H : Hp) (x : V) (lo hi : Int) : Prop := (∃ i : Int, x = .int i ∧ (decide (lo ≤ i) && decide (i ≤ hi)) = false) ∨ (∃ b : Bool, x = .bl b) ∨ (∃ t, Ty2 K H x t ∧ PySem.W.kitOne K t (.type "int") = some false)
def GoodN (x : V) : Prop := ∃ z : Str, x = .str z ∧ isNm z = true
def GoodL (x : V) (lo hi : Int) : Prop := ∃ i : Int, x = .int i ∧ lo ≤ i ∧ i ≤ hi
def NmV (K : PySem.W.Frag) (H : Hp) (x : V) (b : Bool) : Prop := (b = false ∧ GoodN x) ∨ (b = true ∧ BadN K H x)
def WhV (K : PySem.W.Frag) (H : Hp) (x : V) (lo hi : Int) (b : Bool) : Prop := (b = false ∧ GoodL x lo hi) ∨ (b = true ∧ BadL K H x lo hi)
theorem BadN.kp (h : BadN K H x) (s : Kp H H') : BadN K H' x := h.imp id fun ⟨t, a, b⟩ => ⟨t, a.kp s, b⟩
theorem BadL.kp (h : BadL K H x lo hi) (s : Kp H H') : BadL K H' x lo hi := h.imp id fun h => h.imp id fun ⟨t, a, b⟩ => ⟨t, a.kp s, b⟩
theorem NmV.kp (h : NmV K H x b) (s : Kp H H') : NmV K H' x b := h.imp id fun h => ⟨h.1, h.2.kp s⟩
theorem WhV.kp (h : WhV K H x lo hi b) (s : Kp H H') : WhV K H' x lo hi b := h.imp id fun h => ⟨h.1, h.2.kp s⟩
theorem NmV.good (h : NmV K H x false) : GoodN x := by
  rcases h with h | h
  · exact h.2
  · cases h.1
theorem WhV.good (h : WhV K H x lo hi false) : GoodL x lo hi := by
  rcases h with h | h
  · exact h.2
  · cases h.1
/-- is_name, asked -/
theorem ask_name {Q : VK} {E : XK} (h : NmV K H x b) (q : ∀ H', Same H H' → Q (.bl (!b)) H') : spName K [x] H Q E := by
  refine ⟨x, rfl, ?_⟩
  rcases h with ⟨rfl, z, rfl, hz⟩ | ⟨rfl, ⟨z, rfl, hl, hz⟩ | ⟨t, ht, hk⟩⟩
  · refine .inl ⟨z, rfl, Nat.le_trans (nm_len hz).2 (by decide), fun H' s => ?_⟩
    rw [hz]
    exact q H' s
  · refine .inl ⟨z, rfl, hl, fun H' s => ?_⟩
    rw [hz]
    exact q H' s
  · exact .inr ⟨t, ht.ty, hk, q H (Same.refl _)⟩
theorem ask_whole {Q : VK} {E : XK} (h : WhV K H x lo hi b) (q : Q (.bl (!b)) H) : spWhole K [x, .int lo, .int hi] H Q E := by
  refine ⟨x, lo, hi, rfl, ?_⟩
  rcases h with ⟨rfl, i, rfl, h1, h2⟩ | ⟨rfl, ⟨i, rfl, hz⟩ | ⟨c, rfl⟩ | ⟨t, ht, hk⟩⟩
  · refine .inl ⟨i, rfl, ?_⟩
    rw [decide_eq_true h1, decide_eq_true h2]
    exact q
  · refine .inl ⟨i, rfl, ?_⟩
    rw [hz]
    exact q
  · exact .inr (.inl ⟨c, rfl, q⟩)
  · exact .inr (.inr ⟨t, ht.ty, hk, q⟩)
/-- no hold -/
def BadH (K : PySem.W.Frag) (H : Hp) (v : V) (cost : Int) : Prop := (∃ t, Ty2 K H v t ∧ PySem.W.kitOne K t (.type "tuple") = some false) ∨ (∃ a xs, v = .ref a ∧ SqT K H a xs ∧ xs.length ≠ 3) ∨
  (∃ a x0 x1 x2, v = .ref a ∧ SqT K H a [x0, x1, x2] ∧ (BadN K H x0 ∨ (GoodN x0 ∧ BadL K H x1 0 cost) ∨ (GoodN x0 ∧ ∃ s : Int, x1 = .int s ∧ 0 ≤ s ∧ s ≤ cost ∧ BadL K H x2 1 (cost - s))))
theorem BadH.kp {v : V} {cost : Int} (h : BadH K H v cost) (s : Kp H H') : BadH K H' v cost := by
  rcases h with ⟨t, a, b⟩ | ⟨a, xs, e, q, n⟩ | ⟨a, x0, x1, x2, e, q, h⟩
  · exact .inl ⟨t, a.kp s, b⟩
  · exact .inr (.inl ⟨a, xs, e, sqT_kp q s, n⟩)
  · refine .inr (.inr ⟨a, x0, x1, x2, e, sqT_kp q s, ?_⟩)
    rcases h with h | ⟨g, h⟩ | ⟨g, n, e, h1, h2, h⟩
    · exact .inl (h.kp s)
    · exact .inr (.inl ⟨g, h.kp s⟩)
    · exact .inr (.inr ⟨g, n, e, h1, h2, h.kp s⟩)
/-- a hold or none -/
def ElV (K : PySem.W.Frag) (H : Hp) (cost : Int) (v : V) (r : Bool) : Prop := (∃ h : Hold, HdAt K H v h ∧ h.1.length ≤ sizeLine ∧ r = isHd h cost) ∨ (r = false ∧ BadH K H v cost)
theorem ElV.kp {v : V} {r : Bool} {cost : Int} (h : ElV K H cost v r) (s : Kp H H') : ElV K H' cost v r := by
  rcases h with ⟨h, a, b, c⟩ | ⟨a, b⟩
  · exact .inl ⟨h, a.kp s, b, c⟩
  · exact .inr ⟨a, b.kp s⟩
/-- no row of holds -/
def BadHs (K : PySem.W.Frag) (H : Hp) (x : V) (cost : Int) : Prop := (∃ t, Ty2 K H x t ∧ PySem.W.kitOne K t (.type "tuple") = some false) ∨ (∃ a xs, x = .ref a ∧ SqT K H a xs ∧ 4 < xs.length) ∨
  (∃ (a : Addr) (xs : List V) (rs : List Bool), x = .ref a ∧ SqT K H a xs ∧ xs.length ≤ 4 ∧ rs.length = xs.length ∧ (∀ (i : Nat) v r, xs[i]? = some v → rs[i]? = some r → ElV K H cost v r) ∧ false ∈ rs) ∨
  (∃ (t : Addr) (hs : List Hold), x = .ref t ∧ HdsAt K H t hs ∧ (∀ h ∈ hs, h.1.length ≤ sizeLine) ∧ areHds hs cost = false)
theorem BadHs.kp {cost : Int} (h : BadHs K H x cost) (s : Kp H H') : BadHs K H' x cost := by
  rcases h with ⟨t, a, b⟩ | ⟨a, xs, e, q, n⟩ | ⟨a, xs, rs, e, q, n, l, h, m⟩ | ⟨t, hs, e, q, l, h⟩
  · exact .inl ⟨t, a.kp s, b⟩
  · exact .inr (.inl ⟨a, xs, e, sqT_kp q s, n⟩)
  · exact .inr (.inr (.inl ⟨a, xs, rs, e, sqT_kp q s, n, l, fun i v r e1 e2 => (h i v r e1 e2).kp s, m⟩))
  · exact .inr (.inr (.inr ⟨t, hs, e, q.kp s, l, h⟩))
def GoodHs (K : PySem.W.Frag) (H : Hp) (x : V) (cost : Int) : Prop := ∃ (t : Addr) (hs : List Hold), x = .ref t ∧ HdsAt K H t hs ∧ (∀ h ∈ hs, h.1.length ≤ sizeLine) ∧ areHds hs cost = true
def HoV (K : PySem.W.Frag) (H : Hp) (x : V) (cost : Int) (b : Bool) : Prop := (b = false ∧ GoodHs K H x cost) ∨ (b = true ∧ BadHs K H x cost)
theorem HoV.kp {cost : Int} (h : HoV K H x cost b) (s : Kp H H') : HoV K H' x cost b := h.imp (fun ⟨e, t, hs, e1, q, l, h⟩ => ⟨e, t, hs, e1, q.kp s, l, h⟩) fun h => ⟨h.1, h.2.kp s⟩
/-- a due: None or a number -/
def DuV (K : PySem.W.Frag) (H : Hp) (x : V) (g : Int) (b : Bool) : Prop := (x = .non ∧ b = false) ∨ (x ≠ .non ∧ WhV K H x 1 g b)
theorem DuV.kp {g : Int} (h : DuV K H x g b) (s : Kp H H') : DuV K H' x g b := h.imp id fun h => ⟨h.1, h.2.kp s⟩
end
section
variable {P : Program} {w : World} {K : PySem.W.Frag} {mg : Str → Option Value} {base : Heap}
def spOr (a b : Sp) : Sp := fun vs H Q E => a vs H Q E ∨ b vs H Q E
theorem fnOr {CX : CXT} {k : Nat} {f : Addr} {fd : FuncData} {ps : List Str} {a b : Sp} (x : FnOk P w K mg base CX k f fd ps a) (y : FnOk P w K mg base CX k f fd ps b) : FnOk P w K mg base CX k f fd ps (spOr a b) :=
  ⟨fun vs H Q E h => h.elim (x.len vs H Q E) (y.len vs H Q E), fun A outer s H args us vs Q E hr e0 hb r h => h.elim (x.run A outer s H args us vs Q E hr e0 hb r) (y.run A outer s H args us vs Q E hr e0 hb r)⟩
/-! is_hold of what is none -/
def spHoldB (K : PySem.W.Frag) : Sp := fun vs H Q _ => ∃ (v : V) (cost : Int), vs = [v, .int cost] ∧ BadH K H v cost ∧ ∀ H', Same H H' → Q (.bl false) H'
theorem ok_holdB {f : Addr} {fd : FuncData} (F : Fun K "is_hold" "is_hold" sHold f fd) (mI : mg "isinstance" = none) (mt : mg "tuple" = none) (ml : mg "len" = none)
    (DN : Dn P w K mg base 3 "is_name" ["thing"] (spName K)) (DW : Dn P w K mg base 3 "is_whole" ["thing", "least", "most"] (spWhole K)) :
    FnOk P w K mg base CX0 4 f fd ["thing", "cost"] (spHoldB K) := by
  refine F.ok scHold (fun vs H Q E h => ?_) (fun cdv A outer s H vs Q E hr h => ?_)
  · obtain ⟨v, cost, rfl, _⟩ := h
    rfl
  · obtain ⟨v, cost, rfl, hb, q⟩ := h
    refine ⟨_, (pss_cons (ps_if (PW.pt (pw_or (pt_not (pt_val (pe_callB call_isi (by rfl) mI (by decide +kernel) (pa_cons (pv 0) (pa_cons (pe_bltn (v := .ty "tuple") (by rfl) mt (by decide +kernel) rfl) pa_nil))))) (pw_or1 (pt_cmpR op_ne (pe_callB call_len_seq (by rfl) ml (by decide +kernel) (pa_cons (pv 0) pa_nil)) pe_int (nomark _))))) (pss_one (ps_ret pe_bl)) pss_nil) (pss_cons (ps_asg (pv 0) (pg_tup rfl (pgs_cons (pg_name (i := 2) scHold.nd rfl (.inl rfl)) (pgs_cons (pg_name (i := 3) scHold.nd rfl (.inl rfl)) (pgs_cons (pg_name (i := 4) scHold.nd rfl (.inl rfl)) pgs_nil))))) (pss_one (ps_ret (pe_and (pcall DN hr (by rfl) (pa_cons (pv 2) pa_nil)) (pe_and (pcall DW hr (by rfl) (pa_cons (pv 3) (pa_cons pe_int (pa_cons (pv 1) pa_nil)))) (pe_one (pcall DW hr (by rfl) (pa_cons (pv 4) (pa_cons pe_int (pa_cons (pe_op op_sub (pv 1) (pv 3)) pa_nil))))))))))), ?_⟩
    rcases hb with ⟨t, ht, hk⟩ | ⟨a, xs, rfl, hS, hn⟩ | ⟨a, x0, x1, x2, rfl, hS, h⟩
    · exact ⟨_, rfl, _, _, _, _, false, rfl, .ty "tuple", ht.ty, hk, false, rfl, iteT (q H (Same.refl _))⟩
    · refine ⟨_, rfl, _, _, _, _, true, rfl, .ty "tuple", tyx_tup hS, kit_tt, true, rfl, ?_⟩
      refine ⟨_, rfl, a, _, rfl, .inr hS, rfl, _, rfl, ?_⟩
      have e : (!decide (V.int (xs.length : Nat) = V.int 3)) = true := by
        have : ¬ (V.int (xs.length : Nat) = V.int 3) := fun z => hn (by have := V.int.inj z; omega)
        rw [decide_eq_false this]
        rfl
      rw [e]
      exact iteT (q H (Same.refl _))
    · refine ⟨_, rfl, _, _, _, _, true, rfl, .ty "tuple", tyx_tup hS, kit_tt, true, rfl, ?_⟩
      refine ⟨_, rfl, a, _, rfl, .inr hS, rfl, _, rfl, ?_⟩
      show if (!decide ((V.int (3 : Nat)) = V.int 3)) = true then _ else _
      refine iteNS rfl ?_
      refine ⟨_, rfl, a, _, rfl, hS, rfl, _, _, rfl, _, _, rfl, _, _, rfl, rfl, ?_⟩
      refine ⟨_, rfl, ?_⟩
      unfold tNil
      rcases h with h | ⟨g, h⟩ | ⟨g, n, rfl, h1, h2, h⟩
      · refine ask_name (.inr ⟨rfl, h⟩) fun H1 s1 => ⟨_, rfl, ?_⟩
        exact iteF (q H1 s1)
      · refine ask_name (.inl ⟨rfl, g⟩) fun H1 s1 => ⟨_, rfl, iteT ⟨_, rfl, ?_⟩⟩
        unfold tCons tC
        refine ⟨_, rfl, ?_⟩
        refine ask_whole (.inr ⟨rfl, h.kp (.of_same s1)⟩) ?_
        exact ⟨_, rfl, iteF (q H1 s1)⟩
      · refine ask_name (.inl ⟨rfl, g⟩) fun H1 s1 => ⟨_, rfl, iteT ⟨_, rfl, ?_⟩⟩
        unfold tCons tC
        refine ⟨_, rfl, ?_⟩
        refine ask_whole (.inl ⟨rfl, n, rfl, h1, h2⟩) ?_
        refine ⟨_, rfl, iteT ⟨_, rfl, _, rfl, _, rfl, _, _, rfl, rfl, ?_⟩⟩
        refine ask_whole (.inr ⟨rfl, h.kp (.of_same s1)⟩) ?_
        exact q H1 s1
end
end Du

set_option Elab.async false
set_option linter.all false
set_option maxRecDepth 100000
namespace Du
open PySem L2
abbrev sWrongD : Stmt := topS 23
abbrev sDInit : Stmt := inClass (topS 25) 0
abbrev sTRepr : Stmt := inClass (topS 24) 5
abbrev sDRepr : Stmt := inClass (topS 25) 4
/-! all but lists stay -/
def Kt (H H' : Hp) : Prop := ∀ a o, H a = some o → (∀ ys : List V, o ≠ .lst ys) → H' a = some o
section
variable {K : PySem.W.Frag} {H H1 H2 H' : Hp} {p a : Addr} {xs : List V}
theorem Kt.refl : Kt H H := fun _ _ e _ => e
theorem Kt.trans (a : Kt H H1) (b : Kt H1 H2) : Kt H H2 := fun x o e n => b x o (a x o e n) n
theorem Kt.of_same (s : Same H H') : Kt H H' := fun a o e _ => s a o e
theorem Kt.of_step (hp : Purse H p) (s : Step p H H') : Kt H H' := fun a o e n => by
  obtain ⟨i, j, l, ep, _⟩ := id hp
  exact s.keep a o (ne_of e ep (n _)) e
theorem Kt.put {ys zs : List V} (h : H a = some (.lst ys)) : Kt H (upd H a (.lst zs)) := fun b o e n => by
  rw [upd_ne (ne_of e h (n _))]
  exact e
theorem Kt.lst {a : Addr} {zs : List V} (s : Kt H H') (n : H a = none) : Kt H (upd H' a (.lst zs)) := fun b o e h => by
  rw [upd_ne (ne_of_none e n)]
  exact s b o e h
theorem sqT_kt (h : SqT K H a xs) (s : Kt H H') : SqT K H' a xs := by
  rcases h with (z | ⟨o, z⟩) | z
  · exact .inl (.inl (s _ _ z (fun _ q => nomatch q)))
  · exact .inl (.inr ⟨o, s _ _ z (fun _ q => nomatch q)⟩)
  · exact .inr z
theorem HdAt.kt {v : V} {h : Hold} (d : HdAt K H v h) (s : Kt H H') : HdAt K H' v h := by
  obtain ⟨a, e, q⟩ := d
  exact ⟨a, e, sqT_kt q s⟩
theorem HdsAt.kt {t : Addr} {hs : List Hold} (d : HdsAt K H t hs) (s : Kt H H') : HdsAt K H' t hs := by
  obtain ⟨vs, h1, h2, h3⟩ := d
  exact ⟨vs, sqT_kt h1 s, h2, fun i v h e1 e2 => (h3 i v h e1 e2).kt s⟩
theorem TaskAt.kt {C x h : Addr} {v : TaskV} (d : TaskAt K C H x v h) (s : Kt H H') : TaskAt K C H' x v h := by
  obtain ⟨⟨dx, e⟩, q⟩ := d
  exact ⟨⟨dx, s _ _ e (fun _ q => nomatch q)⟩, q.kt s⟩
end
/-! doors -/
def df (n : Str) (r g : Int) : List (Str × V) := [("name", .str n), ("room", .int r), ("gap", .int g)]
theorem df_name (n : Str) (r g : Int) : (df n r g).lookup ("name" : Str) = some (.str n) := rfl
theorem df_room (n : Str) (r g : Int) : (df n r g).lookup ("room" : Str) = some (.int r) := rfl
theorem df_gap (n : Str) (r g : Int) : (df n r g).lookup ("gap" : Str) = some (.int g) := rfl
structure DoorC (K : PySem.W.Frag) (mg : Str → Option Value) (C : Addr) : Prop where
  cl : Cls K C
  nN : NoAttr K C "name"
  nR : NoAttr K C "room"
  nG : NoAttr K C "gap"
  mg : mg "Door" = some (.ref C)
  kc : PySem.W.findIn K (.ref C) "__class__" = some (some (.builtin "object.__class__"))
  kg : PySem.W.specialIn K (.builtin "object.__class__") "__get__" = some (some (.builtin "getset_descriptor.__get__"))
  kt : PySem.W.takesIn K (.builtin "object.__class__") = some true
  km : PySem.W.mroIn K C (.type "object") = some true
abbrev pD : List Str := ["self", "name", "room", "gap"]
def DoorAt (C : Addr) (H : Hp) (x : Addr) (n : Str) (r g : Int) : Prop := ∃ dx, H x = some (.ins C dx (df n r g))
section
variable {P : Program} {w : World} {K : PySem.W.Frag} {mg : Str → Option Value} {base : Heap}
/-! wrong_in_door of a good one -/
abbrev nWrongD : List Str := ["name", "room", "gap"]
theorem scWrongD : FnScope nWrongD nWrongD (defScope sWrongD) := ⟨rfl, rfl, rfl, by decide +kernel, rfl, by decide +kernel, by decide +kernel⟩
def spWrongD : Sp := fun vs H Q _ => ∃ (n : Str) (r g : Int), vs = [.str n, .int r, .int g] ∧ isNm n = true ∧ (1 ≤ r ∧ r ≤ 99) ∧ (1 ≤ g ∧ g ≤ 600) ∧ ∀ H', Same H H' → Q .non H'
theorem ok_wrongD {f : Addr} {fd : FuncData} (F : Fun K "wrong_in_door" "wrong_in_door" sWrongD f fd) (mC : ∃ t, mg "MOST_COST" = some (.int 99 t)) (mG : ∃ t, mg "MOST_GAP" = some (.int 600 t))
    (DN : Dn P w K mg base 2 "is_name" ["thing"] (spName K)) (DW : Dn P w K mg base 2 "is_whole" ["thing", "least", "most"] (spWhole K)) : FnOk P w K mg base CX0 3 f fd nWrongD spWrongD := by
  obtain ⟨uC, mC⟩ := mC
  obtain ⟨uG, mG⟩ := mG
  refine F.ok scWrongD (fun vs H Q E h => ?_) (fun cdv A outer s H vs Q E hr h => ?_)
  · obtain ⟨n, r, g, rfl, _⟩ := h
    rfl
  · obtain ⟨n, r, g, rfl, hn, hr1, hg1, k⟩ := h
    refine ⟨_, (pss_cons (ps_if (pt_not (pt_val (pcall DN hr (by rfl) (pa_cons (pv 0) pa_nil)))) pss_never pss_nil) (pss_cons (ps_if (pt_not (pt_val (pcall DW hr (by rfl) (pa_cons (pv 1) (pa_cons pe_int (pa_cons (pe_glob (v := .int 99) rfl mC ⟨_, rfl⟩) pa_nil)))))) pss_never pss_nil) (pss_cons (ps_if (pt_not (pt_val (pcall DW hr (by rfl) (pa_cons (pv 2) (pa_cons pe_int (pa_cons (pe_glob (v := .int 600) rfl mG ⟨_, rfl⟩) pa_nil)))))) pss_never pss_nil) (pss_one (ps_ret pe_non))))), ?_⟩
    refine ⟨_, rfl, ?_⟩
    unfold tNil
    refine ask_name (.inl ⟨rfl, n, rfl, hn⟩) fun H1 s1 => ⟨_, rfl, iteF ⟨_, rfl, ?_⟩⟩
    unfold tCons tC
    refine ask_whole (.inl ⟨rfl, r, rfl, hr1.1, hr1.2⟩) ?_
    refine ⟨_, rfl, iteF ⟨_, rfl, ?_⟩⟩
    refine ask_whole (.inl ⟨rfl, g, rfl, hg1.1, hg1.2⟩) ?_
    exact ⟨_, rfl, iteF (k H1 s1)⟩
abbrev nDInit : List Str := ["self", "name", "room", "gap", "part"]
theorem scDInit : FnScope nDInit pD (defScope sDInit) := ⟨rfl, rfl, rfl, by decide +kernel, rfl, by decide +kernel, by decide +kernel⟩
/-- a good door's __init__ -/
def spDInit (C : Addr) : Sp := fun vs H Q _ => ∃ (x dx : Addr) (n : Str) (r g : Int), vs = [.ref x, .str n, .int r, .int g] ∧ isNm n = true ∧ (1 ≤ r ∧ r ≤ 99) ∧ (1 ≤ g ∧ g ≤ 600) ∧ H x = some (.ins C dx []) ∧
  ∀ H', DoorAt C H' x n r g → (∀ b o, H b = some o → b ≠ x → H' b = some o) → Q .non H'
theorem ok_dinit {C f : Addr} {fd : FuncData} (F : Fun K "__init__" "Door.__init__" sDInit f fd) (T : DoorC K mg C) (DD : Dn P w K mg base 3 "wrong_in_door" nWrongD spWrongD) : FnOk P w K mg base CX0 4 f fd pD (spDInit C) := by
  refine F.ok scDInit (fun vs H Q E h => ?_) (fun cdv A outer s H vs Q E hr h => ?_)
  · obtain ⟨x, dx, n, r, g, rfl, _⟩ := h
    rfl
  · obtain ⟨x, dx, n, r, g, rfl, hn, hr1, hg1, hx, k⟩ := h
    refine ⟨_, (pss_cons (ps_set (i := 4) scDInit.nd rfl (.inl rfl) (pcall DD hr (by rfl) (pa_cons (pv 1) (pa_cons (pv 2) (pa_cons (pv 3) pa_nil))))) (pss_cons (ps_if (pt_cmpR op_notN (pv 4) pe_non (nomark _)) pss_never pss_nil) (pss_cons (ps_fld (pv 0) (pv 1) rfl) (pss_cons (ps_fld (pv 0) (pv 2) rfl) (pss_one (ps_fld (pv 0) (pv 3) rfl)))))), ?_⟩
    refine ⟨_, rfl, _, rfl, _, rfl, n, r, g, rfl, hn, hr1, hg1, fun H1 s1 => ?_⟩
    refine ⟨_, rfl, rfl, _, rfl, ?_⟩
    refine iteF ?_
    refine ⟨_, rfl, _, rfl, x, C, dx, [], rfl, s1 _ _ hx, T.cl, T.nN, (by show 0 < 1000; decide), ?_⟩
    refine ⟨_, rfl, _, rfl, x, C, dx, _, rfl, upd_same, T.cl, T.nR, (by show 1 < 1000; decide), ?_⟩
    refine ⟨_, rfl, _, rfl, x, C, dx, _, rfl, upd_same, T.cl, T.nG, (by show 2 < 1000; decide), ?_⟩
    refine k _ ⟨dx, upd_same⟩ fun b o eb hb => ?_
    rw [upd_ne hb, upd_ne hb, upd_ne hb]
    exact s1 _ _ eb
theorem doorSp {C : Addr} {H : Hp} {n : Str} {r g : Int} {Q : Addr → Hp → Prop} (hn : isNm n = true) (hr : 1 ≤ r ∧ r ≤ 99) (hg : 1 ≤ g ∧ g ≤ 600) (k : ∀ x H', Same H H' → H x = none → DoorAt C H' x n r g → Q x H') :
    ∀ x dx, H x = none → H dx = none → dx ≠ x → spDInit C [.ref x, .str n, .int r, .int g] (upd (upd H dx (.own x)) x (.ins C dx [])) (fun u H3 => u = .non ∧ Q x H3) E0 := by
  intro x dx nx ndx hne
  have s1 : Same H (upd (upd H dx (.own x)) x (.ins C dx [])) := same_upd2 (same_upd ndx) nx
  exact ⟨x, dx, n, r, g, rfl, hn, hr, hg, upd_same, fun H' hi keep => ⟨rfl, k x H' (fun b o e => keep b o (s1 b o e) (ne_of_none e nx)) nx hi⟩⟩
theorem taskSp {C h : Addr} {H : Hp} {v : TaskV} {od : Option Int} {Q : Addr → Hp → Prop} (hh : HdsAt K H h v.holds) (ho : v.ok) (hd : v.due = od.getD v.gap) (q : ∀ x H', Same H H' → H x = none → TaskAt K C H' x v h → Q x H') :
    ∀ x dx, H x = none → H dx = none → dx ≠ x → spInit K C [.ref x, .str v.name, .int v.cost, .int v.gap, dueV od, .ref h] (upd (upd H dx (.own x)) x (.ins C dx [])) (fun u H3 => u = .non ∧ Q x H3) E0 := by
  intro x dx nx ndx hne
  have s1 : Same H (upd (upd H dx (.own x)) x (.ins C dx [])) := same_upd2 (same_upd ndx) nx
  exact ⟨x, dx, h, v, od, rfl, hd, ho, hh.same s1, upd_same, fun H' tk keep => ⟨rfl, q x H' (fun b o e => keep b o (s1 b o e) (ne_of_none e nx)) nx tk⟩⟩
/-! repr of tasks and doors -/
def inText (a n : Str) : Str := Str.empty ++ a ++ n ++ ")"
theorem inText_len (a n : Str) (ha : a.length ≤ 10) (h : n.length ≤ 1000) : (inText a n).length ≤ sizeLine := by
  unfold inText
  rw [strLen_append, strLen_append, strLen_append]
  have e1 : Str.empty.length ≤ 10 := by decide +kernel
  have e2 : ((")" : Str)).length ≤ 10 := by decide +kernel
  exact Nat.le_trans (show _ ≤ 1100 by omega) (by decide)
theorem inText_len2 (a n : Str) (ha : a.length ≤ 10) (h : n.length ≤ 1000) : (Str.empty ++ a ++ n).length ≤ sizeLine := by
  have z := inText_len a n ha h
  unfold inText at z
  rw [strLen_append] at z
  omega
theorem scTRepr : FnScope ["self"] ["self"] (defScope sTRepr) := ⟨rfl, rfl, rfl, by decide +kernel, rfl, by decide +kernel, by decide +kernel⟩
theorem scDRepr : FnScope ["self"] ["self"] (defScope sDRepr) := ⟨rfl, rfl, rfl, by decide +kernel, rfl, by decide +kernel, by decide +kernel⟩
def spTRepr (K : PySem.W.Frag) (C : Addr) : Sp := fun vs H Q _ => ∃ (x h : Addr) (v : TaskV), vs = [.ref x] ∧ TaskAt K C H x v h ∧ v.name.length ≤ 1000 ∧ Q (.str (inText "Task(" v.name)) H
def spDRepr (C : Addr) : Sp := fun vs H Q _ => ∃ (x : Addr) (n : Str) (r g : Int), vs = [.ref x] ∧ DoorAt C H x n r g ∧ n.length ≤ 1000 ∧ Q (.str (inText "Door(" n)) H
theorem ok_trepr {C f : Addr} {fd : FuncData} (F : Fun K "__repr__" "Task.__repr__" sTRepr f fd) (T : TaskC K mg C) : FnOk P w K mg base CX0 3 f fd ["self"] (spTRepr K C) := by
  refine F.ok scTRepr (fun vs H Q E h => ?_) (fun cdv A outer s H vs Q E hr h => ?_)
  · obtain ⟨x, h, v, rfl, _⟩ := h
    rfl
  · obtain ⟨x, h, v, rfl, ⟨⟨dx, hx⟩, hh⟩, hn, q⟩ := h
    refine ⟨_, (pss_one (ps_ret (pe_joined (.cons pe_str (.cons (pe_fmt (pe_fld (pv 0) rfl)) (.cons pe_str .nil)))))), ?_⟩
    refine ⟨_, rfl, by decide +kernel, ?_⟩
    exact ⟨_, rfl, x, C, dx, _, _, rfl, hx, T.cl, T.nN, tf_name _ _ _ _ _, .inl ⟨v.name, rfl, Nat.le_trans hn (by decide), v.name, rfl, inText_len2 _ _ (by decide +kernel) hn, _, rfl, inText_len _ _ (by decide +kernel) hn, q⟩⟩
theorem ok_drepr {C f : Addr} {fd : FuncData} (F : Fun K "__repr__" "Door.__repr__" sDRepr f fd) (T : DoorC K mg C) : FnOk P w K mg base CX0 3 f fd ["self"] (spDRepr C) := by
  refine F.ok scDRepr (fun vs H Q E h => ?_) (fun cdv A outer s H vs Q E hr h => ?_)
  · obtain ⟨x, n, r, g, rfl, _⟩ := h
    rfl
  · obtain ⟨x, n, r, g, rfl, ⟨dx, hx⟩, hn, q⟩ := h
    refine ⟨_, (pss_one (ps_ret (pe_joined (.cons pe_str (.cons (pe_fmt (pe_fld (pv 0) rfl)) (.cons pe_str .nil)))))), ?_⟩
    refine ⟨_, rfl, by decide +kernel, ?_⟩
    exact ⟨_, rfl, x, C, dx, _, _, rfl, hx, T.cl, T.nN, df_name _ _ _, .inl ⟨n, rfl, Nat.le_trans hn (by decide), n, rfl, inText_len2 _ _ (by decide +kernel) hn, _, rfl, inText_len _ _ (by decide +kernel) hn, q⟩⟩
end
/-! members -/
inductive Mem
  | task (v : TaskV)
  | door (n : Str) (r g : Int)
def Mem.name : Mem → Str
  | .task v => v.name
  | .door n _ _ => n
def Mem.ok : Mem → Prop
  | .task v => v.ok
  | .door n r g => isNm n = true ∧ (1 ≤ r ∧ r ≤ 99) ∧ (1 ≤ g ∧ g ≤ 600)
theorem Mem.nm {m : Mem} (h : m.ok) : isNm m.name = true := by
  cases m with
  | task v => exact h.1
  | door n r g => exact h.1
def MemAt (K : PySem.W.Frag) (CT CD : Addr) (H : Hp) (x : Addr) : Mem → Prop
  | .task v => ∃ h, TaskAt K CT H x v h
  | .door n r g => DoorAt CD H x n r g
/-- members in a row: the things of a list or tuple -/
def Mems (K : PySem.W.Frag) (CT CD : Addr) (H : Hp) (vs : List V) (ms : List Mem) : Prop := vs.length = ms.length ∧ ∀ (i : Nat) v m, vs[i]? = some v → ms[i]? = some m → ∃ x, v = .ref x ∧ MemAt K CT CD H x m
def MemsAt (K : PySem.W.Frag) (CT CD : Addr) (H : Hp) (t : Addr) (ms : List Mem) : Prop := ∃ vs : List V, SqT K H t vs ∧ Mems K CT CD H vs ms
def crewF (t : Addr) : List (Str × V) := [("members", .ref t)]
def CrewAt (K : PySem.W.Frag) (CT CD CC : Addr) (H : Hp) (c : Addr) (ms : List Mem) : Prop := ∃ dx t, H c = some (.ins CC dx (crewF t)) ∧ MemsAt K CT CD H t ms
structure CrewOk (ms : List Mem) : Prop where
  len : ms.length ≤ 8
  nd : (ms.map Mem.name).Nodup
  all : ∀ m ∈ ms, m.ok
section
variable {K : PySem.W.Frag} {CT CD CC : Addr} {H H' : Hp} {x t c : Addr} {m : Mem} {ms : List Mem} {vs : List V}
theorem MemAt.kt (h : MemAt K CT CD H x m) (s : Kt H H') : MemAt K CT CD H' x m := by
  cases m with
  | task v => exact h.imp fun a q => q.kt s
  | door n r g => exact h.imp fun a q => s _ _ q (fun _ q => nomatch q)
theorem Mems.kt (h : Mems K CT CD H vs ms) (s : Kt H H') : Mems K CT CD H' vs ms := ⟨h.1, fun i v m e1 e2 => (h.2 i v m e1 e2).imp fun x q => ⟨q.1, q.2.kt s⟩⟩
theorem MemsAt.kt (h : MemsAt K CT CD H t ms) (s : Kt H H') : MemsAt K CT CD H' t ms := h.imp fun vs q => ⟨sqT_kt q.1 s, q.2.kt s⟩
theorem CrewAt.kt (h : CrewAt K CT CD CC H c ms) (s : Kt H H') : CrewAt K CT CD CC H' c ms := by
  obtain ⟨dx, t, e, q⟩ := h
  exact ⟨dx, t, s _ _ e (fun _ q => nomatch q), q.kt s⟩
theorem Mems.nil : Mems K CT CD H [] [] := ⟨rfl, fun i v m e _ => by simp at e⟩
theorem Mems.add (h : Mems K CT CD H vs ms) (q : MemAt K CT CD H x m) : Mems K CT CD H (vs ++ [.ref x]) (ms ++ [m]) := by
  refine ⟨by rw [List.length_append, List.length_append, h.1]; rfl, fun i v n e1 e2 => ?_⟩
  by_cases hi : i < vs.length
  · rw [List.getElem?_append_left hi] at e1
    rw [List.getElem?_append_left (h.1 ▸ hi)] at e2
    exact h.2 i v n e1 e2
  · rw [List.getElem?_append_right (by omega)] at e1
    rw [List.getElem?_append_right (by rw [← h.1]; omega), ← h.1] at e2
    have z : i - vs.length = 0 := by
      have := (List.getElem?_eq_some_iff.mp e1).1
      simp at this
      omega
    rw [z] at e1 e2
    cases e1
    cases e2
    exact ⟨x, rfl, q⟩
theorem Mems.at (h : Mems K CT CD H vs ms) {i : Nat} {v : V} (e : vs[i]? = some v) : ∃ (x : Addr) (m : Mem), v = .ref x ∧ ms[i]? = some m ∧ MemAt K CT CD H x m := by
  have hi : i < ms.length := by
    rw [← h.1]
    exact (List.getElem?_eq_some_iff.mp e).1
  have e2 : ms[i]? = some ms[i] := List.getElem?_eq_getElem hi
  obtain ⟨x, ex, q⟩ := h.2 i v _ e e2
  exact ⟨x, _, ex, e2, q⟩
end
end Du

set_option Elab.async false
set_option linter.all false
set_option maxRecDepth 100000
namespace Du
open PySem L2
abbrev sMust : Stmt := topS 17
/-- a def that may raise, by its name -/
structure DnX (P : Program) (w : World) (K : PySem.W.Frag) (mg : Str → Option Value) (base : Heap) (k : Nat) (x : Str) (ps : List Str) (sp : Sp) : Prop where
  ex : ∃ (f : Addr) (fd : FuncData), FnOk P w K mg base (L2N.CX P w) k f fd ps sp ∧ mg x = some (.ref f) ∧ PySem.W.keepIn K (.ref f) = true ∧ Binds K fd ps []
theorem pcallX {X : Cx} {k : Nat} {x : Str} {ps : List Str} {sp : Sp} {E : XK} {p pos : Pos} {e : Expr} {es : List Expr} {t : TA} (D : DnX X.prog X.w X.K X.mg X.base k x ps sp) (hr : Room k X.A) (hg : Gl X x) (hx : Passes (L2N.CX X.prog X.w) X E) (ha : PA X (e :: es) t)
    (hdb : (x == ("__debug__" : Str)) = false := by decide) (he : starEach (e :: es) X.env = (false, eval e X.env) :: starEach es X.env := by rfl) (hpl : (backTo pos (starEach es X.env)).any (·.1) = false := by rfl) :
    PE X (.Call (.Name x p) (e :: es) [] pos) (tCall sp [] E t) := by
  obtain ⟨f, fd, F, hm, hk, hb⟩ := D.ex
  exact pe_call F hr hg hm hk hb .nil hx ha hdb he hpl
section
variable {P : Program} {w : World} {K : PySem.W.Frag} {mg : Str → Option Value} {base : Heap}
theorem scMust : FnScope ["thing", "least", "most"] ["thing", "least", "most"] (defScope sMust) := ⟨rfl, rfl, rfl, by decide +kernel, rfl, by decide +kernel, by decide +kernel⟩
def spMust (K : PySem.W.Frag) (CN : Addr) : Sp := fun vs H Q E => ∃ (x : V) (lo hi : Int), vs = [x, .int lo, .int hi] ∧
  ((GoodL x lo hi ∧ Q .non H) ∨ (BadL K H x lo hi ∧ ∀ dd H', Same H H' → H' dd = some (.xd [("number", x)]) → E (.ref CN) (some dd) H'))
theorem ok_must {CN f : Addr} {fd : FuncData} (F : Fun K "must_be_whole" "must_be_whole" sMust f fd) (TN : Err P w K mg "NoNumber" "number" CN) (DW : Dn P w K mg base 2 "is_whole" ["thing", "least", "most"] (spWhole K)) :
    FnOk P w K mg base (L2N.CX P w) 3 f fd ["thing", "least", "most"] (spMust K CN) := by
  obtain ⟨oc, od, kV, doc, pm, an, cdv, ct, osl, rfl, lk, hcd⟩ := F.ex
  refine fn_of lk hcd scMust (fun vs H Q E h => ?_) fun A outer s H vs Q E hr h => ?_
  · obtain ⟨x, lo, hi, rfl, _⟩ := h
    rfl
  · obtain ⟨x, lo, hi, rfl, k⟩ := h
    have tk := L2N.takes_of (X := cxOf (L2N.CX P w) P w K mg base ["thing", "least", "most"] "must_be_whole" (defScope sMust) f cdv A outer s H E) (E := E) rfl rfl rfl rfl
    refine ⟨_, (pss_one (ps_if (pt_not (pt_val (pcall DW hr (by rfl) (pa_cons (pv 0) (pa_cons (pv 1) (pa_cons (pv 2) pa_nil)))))) (pss_one (ps_raiseErr rfl TN hr tk (by rfl) (pa_cons (pv 0) pa_nil))) pss_nil)), ?_⟩
    refine ⟨_, rfl, _, rfl, _, rfl, ?_⟩
    unfold tNil
    rcases k with ⟨hg, q⟩ | ⟨hb, e⟩
    · refine ask_whole (.inl ⟨rfl, hg⟩) ?_
      exact ⟨_, rfl, iteF q⟩
    · refine ask_whole (.inr ⟨rfl, hb⟩) ?_
      exact ⟨_, rfl, iteT ⟨_, rfl, _, rfl, fun d nd => e d _ (same_upd nd) upd_same⟩⟩
end
end Du

set_option Elab.async false
set_option linter.all false
set_option maxRecDepth 100000
namespace Du
open PySem L2
/-! what a door may serve: the rule, turn by turn, and in a sum -/
def rf (r g rest first : Int) : Nat → Int
  | 0 => first
  | t + 1 => rf r g rest first t + max 0 (min r (rest - (t : Int) * g))
def psum (b g : Int) : Nat → Int
  | 0 => 0
  | i + 1 => psum b g i + (b - (i : Int) * g)
theorem rf_low {r g rest first : Int} (hr : 0 ≤ r) : ∀ t : Nat, (∀ s : Nat, s < t → r ≤ rest - (s : Int) * g) → rf r g rest first t = first + (t : Int) * r
  | 0, _ => by simp [rf]
  | t + 1, h => by
    have h1 := h t (Nat.lt_succ_self t)
    rw [rf, rf_low hr t fun s hs => h s (by omega)]
    have : max 0 (min r (rest - (t : Int) * g)) = r := by omega
    rw [this, Int.natCast_add, Int.add_mul]
    simp only [Int.natCast_one, Int.one_mul]
    omega
theorem rf_mid {r g rest first : Int} {W : Nat} (hg : 0 ≤ g) (h1 : rest - (W : Int) * g < r) : ∀ i : Nat, (∀ s : Nat, s < i → 0 ≤ rest - (W : Int) * g - (s : Int) * g) → rf r g rest first (W + i) = rf r g rest first W + psum (rest - (W : Int) * g) g i
  | 0, _ => by simp [psum]
  | i + 1, h => by
    have h2 := h i (Nat.lt_succ_self i)
    have h3 : 0 ≤ (i : Int) * g := Int.mul_nonneg (by omega) hg
    rw [show W + (i + 1) = (W + i) + 1 from rfl, rf, rf_mid hg h1 i fun s hs => h s (by omega), psum, Int.natCast_add, Int.add_mul]
    omega
theorem rf_hi {r g rest first : Int} {N : Nat} (hg : 0 ≤ g) (h1 : rest - (N : Int) * g ≤ 0) : ∀ j : Nat, rf r g rest first (N + j) = rf r g rest first N
  | 0 => rfl
  | j + 1 => by
    have h3 : 0 ≤ (j : Int) * g := Int.mul_nonneg (by omega) hg
    rw [show N + (j + 1) = (N + j) + 1 from rfl, rf, rf_hi hg h1 j, Int.natCast_add, Int.add_mul]
    omega
/-- how many whole rooms -/
def whl (r g rest : Int) : Int := max 0 ((rest - r) / g + 1)
/-- what is served in a stretch -/
def srv (r g n : Int) : Int := rf r g (n - min r n) (min r n) (n / g + 2).toNat
theorem whl_low {r g rest : Int} (hg : 1 ≤ g) {s : Nat} (h : (s : Int) < whl r g rest) : r ≤ rest - (s : Int) * g := by
  unfold whl at h
  have h1 : (s : Int) ≤ (rest - r) / g := by omega
  have h2 := Int.ediv_mul_le (rest - r) (show g ≠ 0 by omega)
  have h3 : (s : Int) * g ≤ (rest - r) / g * g := Int.mul_le_mul_of_nonneg_right h1 (by omega)
  omega
theorem whl_up {r g rest : Int} (hg : 1 ≤ g) : rest - whl r g rest * g < r := by
  have h2 := Int.lt_ediv_add_one_mul_self (rest - r) (show 0 < g by omega)
  unfold whl
  by_cases h : 0 ≤ (rest - r) / g + 1
  · rw [Int.max_eq_right h]
    omega
  · rw [Int.max_eq_left (by omega)]
    have h3 : ((rest - r) / g + 1) * g ≤ 0 := Int.mul_nonpos_of_nonpos_of_nonneg (by omega) (by omega)
    omega
/-- the program's sum is the rule's -/
theorem srv_eq {r g n : Int} {k : Nat} (hr : 1 ≤ r) (hg : 1 ≤ g) (hn : 1 ≤ n) (hk : ∀ s : Nat, s < k → 0 ≤ n - min r n - whl r g (n - min r n) * g - (s : Int) * g) (hk2 : n - min r n - whl r g (n - min r n) * g - (k : Int) * g ≤ 0) (hk3 : whl r g (n - min r n) + k ≤ n / g + 2) :
    min r n + whl r g (n - min r n) * r + psum (n - min r n - whl r g (n - min r n) * g) g k = srv r g n := by
  unfold srv
  generalize n - min r n = rest at *
  generalize min r n = first
  have hw0 : 0 ≤ whl r g rest := by unfold whl; omega
  obtain ⟨W, hW⟩ : ∃ W : Nat, whl r g rest = (W : Int) := ⟨(whl r g rest).toNat, by omega⟩
  have up := whl_up (r := r) (rest := rest) hg
  have lo := rf_low (r := r) (g := g) (rest := rest) (first := first) (by omega) W fun s hs => whl_low hg (by omega)
  rw [hW] at up hk hk2 hk3 ⊢
  have mid := rf_mid (first := first) (show 0 ≤ g by omega) up k hk
  have hN : rest - ((W + k : Nat) : Int) * g ≤ 0 := by
    rw [Int.natCast_add, Int.add_mul]
    omega
  have hi := rf_hi (r := r) (first := first) (show 0 ≤ g by omega) hN ((n / g + 2).toNat - (W + k))
  rw [show W + k + ((n / g + 2).toNat - (W + k)) = (n / g + 2).toNat by omega] at hi
  rw [hi, mid, lo]
theorem psum_sum (b g : Int) : ∀ k : Nat, ((List.range k).map fun i : Nat => b - (i : Int) * g).sum = psum b g k
  | 0 => rfl
  | k + 1 => by
    rw [List.range_succ, List.map_append, List.sum_append, psum_sum b g k]
    simp [psum]
end Du

set_option Elab.async false
set_option linter.all false
set_option maxRecDepth 100000
namespace Du
open PySem L2
abbrev oAdd : V → V → Hp → VK → Prop := rI0 fun i j => .int (i + j)
abbrev oSub : V → V → Hp → VK → Prop := rI0 fun i j => .int (i - j)
abbrev sServed : Stmt := topS 28
theorem small_c {a b c : Int} (ha : -(2 ^ 40) ≤ a) (ha' : a < 2 ^ 40) (hb : -(2 ^ 40) ≤ b) (hb' : b < 2 ^ 40) (hc : 1 ≤ c) (hc' : c ≤ 600) : Builtin.Range.small a b c = true := by
  unfold Builtin.Range.small Builtin.Range.rangeSize
  have hq : 0 ≤ (b - a - 1) / c ∨ ¬ a < b := by
    by_cases h : a < b
    · exact .inl (Int.ediv_nonneg (by omega) (by omega))
    · exact .inr h
  have hz : a < b → (b - a - 1) / c ≤ b - a - 1 := fun h => Int.ediv_le_self _ (by omega)
  rw [if_pos (by omega)]
  simp only [Builtin.Range.rangeFitsLong, Bool.and_eq_true, Bool.or_eq_true, decide_eq_true_eq, beq_iff_eq]
  split
  · rename_i h
    have h1 := hz h
    have h2 := hq.resolve_right fun n => n h
    refine ⟨by omega, .inr ?_⟩
    rw [if_pos (by omega)]
    simp only [Bool.and_eq_true, decide_eq_true_eq]
    omega
  · exact ⟨by omega, .inl rfl⟩
/-- the numbers of a range with a step -/
def rgn (a b c : Int) : Nat := (if a < b then (b - a - 1) / c + 1 else 0).toNat
theorem rgn_at {a b c : Int} (hc : 1 ≤ c) {i : Nat} (h : i < rgn a b c) : a + (i : Int) * c < b := by
  unfold rgn at h
  split at h
  · have h1 : (i : Int) ≤ (b - a - 1) / c := by omega
    have h2 := Int.ediv_mul_le (b - a - 1) (show c ≠ 0 by omega)
    have h3 : (i : Int) * c ≤ (b - a - 1) / c * c := Int.mul_le_mul_of_nonneg_right h1 (by omega)
    omega
  · simp at h
theorem rgn_end {a b c : Int} (hc : 1 ≤ c) : b ≤ a + (rgn a b c : Int) * c := by
  unfold rgn
  split
  · rename_i hab
    have h0 : 0 ≤ (b - a - 1) / c := Int.ediv_nonneg (by omega) (by omega)
    have h2 := Int.lt_ediv_add_one_mul_self (b - a - 1) (show 0 < c by omega)
    rw [Int.toNat_of_nonneg (by omega)]
    omega
  · simp
    omega
theorem rgn_le {a b c : Int} (hc : 1 ≤ c) : (rgn a b c : Int) ≤ max 0 (b - a) := by
  unfold rgn
  split
  · have h2 := Int.ediv_le_self (a := b - a - 1) c (by omega)
    have h0 : 0 ≤ (b - a - 1) / c := Int.ediv_nonneg (by omega) (by omega)
    omega
  · simp
    omega
theorem whl_top {r g rest : Int} (hr : 0 ≤ rest) (hg : 1 ≤ g) (h1 : 1 ≤ r := by omega) : whl r g rest * g ≤ rest + g := by
  unfold whl
  by_cases h : 0 ≤ (rest - r) / g + 1
  · have h2 := Int.ediv_mul_le (rest - r) (show g ≠ 0 by omega)
    rw [Int.max_eq_right h, Int.add_mul, Int.one_mul]
    omega
  · rw [Int.max_eq_left (by omega), Int.zero_mul]
    omega
theorem turns {r g rest n : Int} (hr : 1 ≤ r) (hg : 1 ≤ g) (h0 : 0 ≤ rest) (hn : rest ≤ n) : whl r g rest + (rgn (whl r g rest * g) rest g : Nat) ≤ n / g + 2 := by
  have key : ∀ z : Int, (z - 1) * g ≤ n → z ≤ n / g + 2 := fun z h => by
    have := (Int.le_ediv_iff_mul_le (a := z - 1) (b := n) (show 0 < g by omega)).mpr h
    omega
  refine key _ ?_
  unfold rgn
  split
  · rename_i hab
    have h1 : 0 ≤ (rest - whl r g rest * g - 1) / g := Int.ediv_nonneg (by omega) (by omega)
    have h2 := Int.ediv_mul_le (rest - whl r g rest * g - 1) (show g ≠ 0 by omega)
    rw [Int.toNat_of_nonneg (by omega), show whl r g rest + ((rest - whl r g rest * g - 1) / g + 1) - 1 = whl r g rest + (rest - whl r g rest * g - 1) / g by omega, Int.add_mul]
    omega
  · have := whl_top h0 hg hr
    have e : (whl r g rest + ((0 : Int).toNat : Nat) - 1) * g = whl r g rest * g - g := by
      rw [show whl r g rest + ((0 : Int).toNat : Nat) - 1 = whl r g rest - 1 by simp, Int.sub_mul, Int.one_mul]
    rw [e]
    omega
theorem rgC_up {a b c : Int} (ha : -(2 ^ 40) ≤ a) (ha' : a < 2 ^ 40) (hb : -(2 ^ 40) ≤ b) (hb' : b < 2 ^ 40) (hc : 1 ≤ c) (hc' : c ≤ 600) : RgC a b c (rgn a b c) := by
  refine ⟨by omega, by omega, small_c ha ha' hb hb' hc hc', ?_⟩
  unfold Builtin.Range.rangeSize rgn
  rw [if_pos (by omega)]
  split
  · have h0 : 0 ≤ (b - a - 1) / c := Int.ediv_nonneg (by omega) (by omega)
    omega
  · rfl
theorem kit_self {K : PySem.W.Frag} {C : Addr} : PySem.W.kitOne K (.ref C) (.ref C) = some true := by
  unfold PySem.W.kitOne
  simp
/-- what is no door -/
def NoDr (K : PySem.W.Frag) (H : Hp) (CD : Addr) (x : V) : Prop := ∃ t, Ty2 K H x t ∧ PySem.W.kitOne K t (.ref CD) = some false
section
variable {P : Program} {w : World} {K : PySem.W.Frag} {mg : Str → Option Value} {base : Heap} {CT CD CE CN : Addr}
theorem scServed : FnScope ["door", "long", "first", "rest", "whole", "parts", "at"] ["door", "long"] (defScope sServed) := ⟨rfl, rfl, rfl, by decide +kernel, rfl, by decide +kernel, by decide +kernel⟩
def spServed (K : PySem.W.Frag) (CD CE CN : Addr) : Sp := fun vs H Q E => ∃ x y : V, vs = [x, y] ∧
  ((∃ (a : Addr) (nm : Str) (r g n : Int), x = .ref a ∧ DoorAt CD H a nm r g ∧ (1 ≤ r ∧ r ≤ 99) ∧ (1 ≤ g ∧ g ≤ 600) ∧ y = .int n ∧ 1 ≤ n ∧ n ≤ 1000000 ∧ ∀ H', Same H H' → Q (.int (srv r g n)) H') ∨
   (NoDr K H CD x ∧ ∀ dd H', Same H H' → H' dd = some (.xd [("part", .non)]) → E (.ref CE) (some dd) H') ∨
   (∃ (a : Addr) (nm : Str) (r g : Int), x = .ref a ∧ DoorAt CD H a nm r g ∧ BadL K H y 1 1000000 ∧ ∀ dd H', Same H H' → H' dd = some (.xd [("number", y)]) → E (.ref CN) (some dd) H'))
set_option maxHeartbeats 1000000 in
theorem ok_served {f : Addr} {fd : FuncData} (F : Fun K "most_served" "most_served" sServed f fd) (T : DoorC K mg CD) (TE' : Err P w K mg "NoDoor" "part" CE) (mI : mg "isinstance" = none) (mn : mg "min" = none) (mx : mg "max" = none) (mr : mg "range" = none) (ms : mg "sum" = none) (mL : ∃ t, mg "MOST_LONG" = some (.int 1000000 t)) (DM : DnX P w K mg base 3 "must_be_whole" ["thing", "least", "most"] (spMust K CN)) :
    FnOk P w K mg base (L2N.CX P w) 4 f fd ["door", "long"] (spServed K CD CE CN) := by
  obtain ⟨tL, mL⟩ := mL
  obtain ⟨oc, od, kV, doc, pm, an, cdv, ct, osl, rfl, lk, hcd⟩ := F.ex
  refine fn_of lk hcd scServed (fun vs H Q E h => ?_) fun A outer s H vs Q E hr h => ?_
  · obtain ⟨x, y, rfl, _⟩ := h
    rfl
  · obtain ⟨x, y, rfl, k⟩ := h
    have tk := L2N.takes_of (X := cxOf (L2N.CX P w) P w K mg base ["door", "long", "first", "rest", "whole", "parts", "at"] "most_served" (defScope sServed) f cdv A outer s H E) (E := E) rfl rfl rfl rfl
    refine ⟨_, (pss_cons (ps_if (pt_not (pt_val (pe_callB call_isi (by rfl) mI (by decide +kernel) (pa_cons (pv 0) (pa_cons (pe_glob (v := .ref CD) rfl T.mg rfl) pa_nil))))) (pss_one (ps_raiseErr rfl TE' (show Room 2 _ from hr.mono (by decide)) tk (by rfl) (pa_cons pe_non pa_nil))) pss_nil) (pss_cons (ps_expr (pcallX DM hr (by rfl) (L2N.passes_call tk (fun _ _ _ _ h => h)) (pa_cons (pv 1) (pa_cons pe_int (pa_cons (pe_glob (v := .int 1000000) rfl mL ⟨_, rfl⟩) pa_nil))))) (pss_cons (ps_set (i := 2) scServed.nd rfl (.inl rfl) (pe_callB (call_min2 rfl) (by rfl) mn (by decide +kernel) (pa_cons (pe_fld (pv 0) rfl) (pa_cons (pv 1) pa_nil)))) (pss_cons (ps_set (i := 3) scServed.nd rfl (.inr rfl) (pe_op op_sub (pv 1) (pv 2))) (pss_cons (ps_set (i := 4) scServed.nd rfl (.inl rfl) (pe_callB (call_max2 rfl) (by rfl) mx (by decide +kernel) (pa_cons pe_int (pa_cons (pe_op op_add (pe_op op_fdiv (pe_op op_sub (pv 3) (pe_fld (pv 0) rfl)) (pe_fld (pv 0) rfl)) pe_int) pa_nil)))) (pss_cons (ps_setLc (i := 5) (own := [("at", 6)]) (g := gName 6) (tt := tYes) (te := tOp oSub (tVar 3) (tVar 6)) rfl scServed.nd rfl rfl (sw_true rfl rfl rfl (by decide +kernel)) (pi_range3 (by rfl) mr (pa_cons (pe_op op_mul (pv 4) (pe_fld (pv 0) rfl)) (pa_cons (pv 3) (pa_cons (pe_fld (pv 0) rfl) pa_nil)))) (blkOk_by (N := ["door", "long", "first", "rest", "whole", "parts", "at"]) (sc := defScope sServed) (by decide +kernel))
        (fun _ _ _ _ _ => pg_name (i := 6) scServed.nd rfl (Or.inl rfl)) (fun _ _ _ _ _ => pts_nil) (fun _ _ _ _ _ => pe_op op_sub (pv 3) (pv 6))) (pss_one (ps_ret (pe_op op_add (pe_op op_add (pv 2) (pe_op op_mul (pv 4) (pe_fld (pv 0) rfl))) (pe_callB (cr_sum rfl) (by rfl) ms (by decide +kernel) (pa_cons (pv 5) pa_nil))))))))))), ?_⟩
    have isD : ∀ {H : Hp} {a : Addr} {nm : Str} {r g : Int}, DoorAt CD H a nm r g → TyX K H (.ref a) (.ref CD) := fun h => by
      obtain ⟨dx, e⟩ := h
      exact .base (.ins e T.cl T.kc T.kg T.kt T.km)
    rcases k with ⟨a, nm, r, g, n, rfl, hd, hr1, hg1, rfl, hn1, hn2, q⟩ | ⟨⟨t, ht, ho⟩, e⟩ | ⟨a, nm, r, g, rfl, hd, hb, e⟩
    · refine ⟨_, rfl, _, _, _, _, true, rfl, .own CD, isD hd, kit_self, true, rfl, iteF ?_⟩
      refine ⟨_, rfl, _, 1, 1000000, rfl, .inl ⟨⟨n, rfl, hn1, hn2⟩, ?_⟩⟩
      obtain ⟨dx, ed⟩ := id hd
      have hw0 : 0 ≤ whl r g (n - min r n) := by unfold whl; omega
      have hup := whl_up (r := r) (rest := n - min r n) hg1.1
      have e1 : (if n < r then n else r) = min r n := by split <;> omega
      refine ⟨_, rfl, a, CD, dx, _, _, rfl, ed, T.cl, T.nR, df_room _ _ _, _, rfl, r, n, rfl, ?_⟩
      rw [e1]
      refine ⟨_, rfl, _, rfl, _, _, rfl, rfl, ?_⟩
      have m0 : 0 ≤ min r n ∧ min r n ≤ n ∧ min r n ≤ r := by omega
      have e2 : srv r g n = min r n + whl r g (n - min r n) * r + psum (n - min r n - whl r g (n - min r n) * g) g (rgn (whl r g (n - min r n) * g) (n - min r n) g) := by
        refine (srv_eq hr1.1 hg1.1 hn1 (fun s hs => ?_) ?_ ?_).symm
        · have := rgn_at hg1.1 hs
          omega
        · have := rgn_end (a := whl r g (n - min r n) * g) (b := n - min r n) hg1.1
          omega
        · exact turns hr1.1 hg1.1 (by omega) (by omega)
      rw [e2] at q
      obtain ⟨rest, hrest⟩ : ∃ rest, rest = n - min r n := ⟨_, rfl⟩
      rw [← hrest] at q hw0 hup e2
      have hre : 0 ≤ rest ∧ rest < 1000000 := by omega
      have w3 := whl_top (r := r) (g := g) (rest := rest) (by omega) hg1.1
      have w2 : whl r g rest ≤ whl r g rest * g := by
        have := Int.mul_le_mul_of_nonneg_left hg1.1 hw0
        rw [Int.mul_one] at this
        exact this
      have w4 : 0 ≤ whl r g rest * g := Int.mul_nonneg hw0 (by omega)
      refine ⟨_, rfl, _, rfl, a, CD, dx, _, _, rfl, ed, T.cl, T.nR, df_room _ _ _, _, _, rfl, rfl, _, rfl, a, CD, dx, _, _, rfl, ed, T.cl, T.nG, df_gap _ _ _, _, _, rfl, rfl, ⟨by omega, by omega⟩, _, _, rfl, rfl, 0, _, rfl, ?_⟩
      have e3 : (if (n - min r n - r) / g + 1 > 0 then (n - min r n - r) / g + 1 else 0) = whl r g rest := by rw [hrest]; unfold whl; split <;> omega
      rw [e3]
      have rgc := rgC_up (a := whl r g rest * g) (b := rest) (c := g) (by omega) (by omega) (by omega) (by omega) hg1.1 hg1.2
      have hlen : rgn (whl r g rest * g) rest g ≤ 100000 := by have := rgn_le (a := whl r g rest * g) (b := rest) hg1.1; omega
      refine ⟨_, rfl, _, rfl, a, CD, dx, _, _, rfl, ed, T.cl, T.nG, df_gap _ _ _, _, _, rfl, rfl, (.inl ⟨by omega, by omega⟩), _, rfl, _, rfl, a, CD, dx, _, _, rfl, ed, T.cl, T.nG, df_gap _ _ _, _, _, _, _, rfl, by rw [← hrest]; exact rgc, fun D nD => lc_it walk_rangeC (fun i H' => Same H H' ∧ H' D = some (.lst (((List.range i).map fun s : Nat => rest - whl r g rest * g - (s : Int) * g).map V.int))) ⟨same_upd nD, upd_same⟩ (fun _ _ _ _ => trivial) ?_ ?_⟩
      · rintro i y H1' H1 hi ⟨s1, eD⟩ ⟨rfl, rfl⟩
        refine ⟨rfl, _, rfl, _, rfl, _, _, rfl, rfl, _, eD, ?_, same_upd2 s1 nD, ?_⟩
        · rw [List.length_map, List.length_map, List.length_range]
          exact Nat.lt_of_lt_of_le hi (Nat.le_trans hlen (by decide))
        · rw [upd_same, List.range_succ, List.map_append, List.map_append]
          refine congrArg (fun z => some (HO.lst (_ ++ [V.int z]))) ?_
          show n - min r n - (whl r g rest * g + (i : Int) * g) = rest - whl r g rest * g - (i : Int) * g
          omega
      · rintro H1 ⟨s1, eD⟩
        refine ⟨_, rfl, _, rfl, _, rfl, a, CD, dx, _, _, rfl, s1 _ _ ed, T.cl, T.nR, df_room _ _ _, _, _, rfl, rfl, (.inl ⟨by omega, by omega⟩), _, _, rfl, rfl, _, rfl, D, _, rfl, SqL.of eD, _, _, rfl, rfl, ?_⟩
        rw [psum_sum]
        exact q H1 s1
    · refine ⟨_, rfl, _, _, _, _, false, rfl, .own CD, ht.ty, ho, false, rfl, iteT ?_⟩
      exact ⟨_, rfl, fun d nd => e d _ (same_upd nd) upd_same⟩
    · refine ⟨_, rfl, _, _, _, _, true, rfl, .own CD, isD hd, kit_self, true, rfl, iteF ?_⟩
      exact ⟨_, rfl, _, 1, 1000000, rfl, .inr ⟨hb, e⟩⟩
end
end Du

set_option Elab.async false
set_option linter.all false
set_option maxRecDepth 100000
namespace Du
open PySem L2
abbrev sDrawnR : Stmt := topS 33
abbrev sByRule : Stmt := topS 34
abbrev sSizes : Stmt := topS 36
section
variable {P : Program} {w : World} {K : PySem.W.Frag} {mg : Str → Option Value} {base : Heap} {CT CD CE CN : Addr}
/-! _law_drawn -/
theorem scDrawnR : FnScope ["_law_purse_here", "_law_way", "_law_room"] ["_law_purse_here"] (defScope sDrawnR) := ⟨rfl, rfl, rfl, by decide +kernel, rfl, by decide +kernel, by decide +kernel⟩
def spDrawnR : Sp := fun vs H Q _ => ∃ p : Addr, vs = [.ref p] ∧ Purse H p ∧ ∀ (t : Addr) (r g : Int) H', Step p H H' → H t = none → H' t = some (.tup [.int r, .int g]) → (1 ≤ r ∧ r ≤ 99) → (1 ≤ g ∧ g ≤ 600) → Q (.ref t) H'
theorem ok_drawnR {f : Addr} {fd : FuncData} (F : Fun K "_law_drawn" "_law_drawn" sDrawnR f fd) (mn : mg "min" = none) (DT : Dn P w K mg base 3 "_law_take" ["_law_purse_here", "_law_many"] spTake) : FnOk P w K mg base CX0 4 f fd ["_law_purse_here"] spDrawnR := by
  refine F.ok scDrawnR (fun vs H Q E h => ?_) (fun cdv A outer s H vs Q E hr h => ?_)
  · obtain ⟨p, rfl, _⟩ := h
    rfl
  · obtain ⟨p, rfl, hp, q⟩ := h
    have hr3 : Room 3 _ := hr.mono (by decide)
    refine ⟨_, (pss_cons (ps_set (i := 1) scDrawnR.nd rfl (.inl rfl) (pcall DT hr3 (by rfl) (pa_cons (pv 0) (pa_cons pe_int pa_nil)))) (pss_cons (ps_if (pt_cmpR op_lt (pv 1) pe_int (nomark _)) (pss_one (ps_ret (pe_tup (pa_cons (pe_op op_add pe_int (pcall DT hr3 (by rfl) (pa_cons (pv 0) (pa_cons pe_int pa_nil)))) (pa_cons (pe_op op_add pe_int (pcall DT hr3 (by rfl) (pa_cons (pv 0) (pa_cons pe_int pa_nil)))) pa_nil))))) pss_nil) (pss_cons (ps_if (pt_cmpR op_eq (pv 1) pe_int (nomark _)) (pss_one (ps_ret (pe_tup (pa_cons (pe_op op_add pe_int (pcall DT hr3 (by rfl) (pa_cons (pv 0) (pa_cons pe_int pa_nil)))) (pa_cons (pe_op op_add pe_int (pcall DT hr3 (by rfl) (pa_cons (pv 0) (pa_cons pe_int pa_nil)))) pa_nil))))) pss_nil) (pss_cons (ps_set (i := 2) scDrawnR.nd rfl (.inl rfl) (pe_op op_add pe_int (pcall DT hr3 (by rfl) (pa_cons (pv 0) (pa_cons pe_int pa_nil))))) (pss_one (ps_ret (pe_tup (pa_cons (pv 2) (pa_cons (pe_callB (call_min2 rfl) (by rfl) mn (by decide +kernel) (pa_cons pe_int (pa_cons (pe_op op_add (pv 2) (pcall DT hr3 (by rfl) (pa_cons (pv 0) (pa_cons pe_int pa_nil)))) pa_nil))) pa_nil))))))))), ?_⟩
    refine ⟨_, rfl, p, 4, rfl, by decide, by decide, hp, fun z H1 z0 z1 s1 => ?_⟩
    have two : ∀ (a b : Int), 1 ≤ a → 1 ≤ b → a ≤ 99 → b ≤ 600 → ∀ H4, Step p H H4 → ([V.int a, V.int b]).length ≤ sizeLine ∧ ∀ t, H4 t = none → Q (.ref t) (upd H4 t (.tup [.int a, .int b])) := fun a b a1 b1 a2 b2 H4 s4 => ⟨(by show 2 ≤ sizeLine; decide), fun t nt => q t a b _ (s4.trans (Step.new s4.purse nt)) (s4.free nt) upd_same ⟨a1, a2⟩ ⟨b1, b2⟩⟩
    refine ⟨_, rfl, _, _, rfl, rfl, _, rfl, ite2 (fun _ => ?_) (fun _ => ?_)⟩
    · exact ⟨_, rfl, p, 5, rfl, by decide, by decide, s1.purse, fun x H2 x0 x1 s2 => ⟨_, _, rfl, rfl, _, rfl, p, 9, rfl, by decide, by decide, s2.purse, fun y H3 y0 y1 s3 => ⟨_, _, rfl, rfl, two _ _ (by omega) (by omega) (by omega) (by omega) _ ((s1.trans s2).trans s3)⟩⟩⟩
    · refine ⟨_, rfl, rfl, _, rfl, ite2 (fun _ => ?_) (fun _ => ?_)⟩
      · exact ⟨_, rfl, p, 99, rfl, by decide, by decide, s1.purse, fun x H2 x0 x1 s2 => ⟨_, _, rfl, rfl, _, rfl, p, 600, rfl, by decide, by decide, s2.purse, fun y H3 y0 y1 s3 => ⟨_, _, rfl, rfl, two _ _ (by omega) (by omega) (by omega) (by omega) _ ((s1.trans s2).trans s3)⟩⟩⟩
      · refine ⟨_, rfl, p, 99, rfl, by decide, by decide, s1.purse, fun x H2 x0 x1 s2 => ⟨_, _, rfl, rfl, ?_⟩⟩
        refine ⟨_, rfl, _, rfl, _, rfl, p, 3, rfl, by decide, by decide, s2.purse, fun y H3 y0 y1 s3 => ⟨_, _, rfl, rfl, 600, _, rfl, ?_⟩⟩
        exact two _ _ (by omega) (by split <;> omega) (by omega) (by split <;> omega) _ ((s1.trans s2).trans s3)
/-! _law_by_rule -/
abbrev nByRule : List Str := ["_law_room", "_law_gap", "_law_size", "_law_first", "_law_found", "_law_left", "_law_turn"]
theorem scByRule : FnScope nByRule ["_law_room", "_law_gap", "_law_size"] (defScope sByRule) := ⟨rfl, rfl, rfl, by decide +kernel, rfl, by decide +kernel, by decide +kernel⟩
def spByRule : Sp := fun vs H Q _ => ∃ r g n : Int, vs = [.int r, .int g, .int n] ∧ (1 ≤ r ∧ r ≤ 99) ∧ (1 ≤ g ∧ g ≤ 600) ∧ 1 ≤ n ∧ n ≤ 1000000 ∧ ∀ H', Same H H' → Q (.int (srv r g n)) H'
theorem ok_byRule {f : Addr} {fd : FuncData} (F : Fun K "_law_by_rule" "_law_by_rule" sByRule f fd) (mn : mg "min" = none) (mx : mg "max" = none) (mr : mg "range" = none) : FnOk P w K mg base CX0 3 f fd ["_law_room", "_law_gap", "_law_size"] spByRule := by
  refine F.ok scByRule (fun vs H Q E h => ?_) (fun cdv A outer s H vs Q E hr h => ?_)
  · obtain ⟨r, g, n, rfl, _⟩ := h
    rfl
  · obtain ⟨r, g, n, rfl, hr1, hg1, hn1, hn2, q⟩ := h
    refine ⟨_, (pss_cons (ps_set (i := 3) scByRule.nd rfl (.inl rfl) (pe_callB (call_min2 rfl) (by rfl) mn (by decide +kernel) (pa_cons (pv 0) (pa_cons (pv 2) pa_nil)))) (pss_cons (ps_par (i := 4) (j := 5) rfl scByRule.nd rfl rfl (by decide) rfl rfl (pa_cons (pv 3) (pa_cons (pe_op op_sub (pv 2) (pv 3)) pa_nil)) (by rfl)) (pss_cons (ps_for PassesOwn.never rfl (pi_range1 (by rfl) mr (pa_cons (pe_op op_add (pe_op op_fdiv (pv 2) (pv 1)) pe_int) pa_nil)) (pg_name (i := 6) scByRule.nd rfl (.inl rfl))
        (pss_cons (ps_set (i := 4) scByRule.nd rfl (.inl rfl) (pe_op op_add (pv 4) (pe_callB (call_max2 rfl) (by rfl) mx (by decide +kernel) (pa_cons pe_int (pa_cons (pe_callB (call_min2 rfl) (by rfl) mn (by decide +kernel) (pa_cons (pv 0) (pa_cons (pv 5) pa_nil))) pa_nil))))) (pss_one (ps_set (i := 5) scByRule.nd rfl (.inl rfl) (pe_op op_sub (pv 5) (pv 1)))))) (pss_one (ps_ret (pv 4)))))), ?_⟩
    have hd : 0 ≤ n / g := Int.ediv_nonneg (by omega) (by omega)
    have hd2 : n / g ≤ n := Int.ediv_le_self _ (by omega)
    have e1 : (if n < r then n else r) = min r n := by split <;> omega
    refine ⟨_, rfl, _, rfl, r, n, rfl, ?_⟩
    rw [e1]
    refine ⟨_, rfl, _, rfl, _, rfl, _, _, rfl, rfl, _, _, rfl, ?_⟩
    refine ⟨_, rfl, _, rfl, _, _, rfl, rfl, ⟨by omega, by omega⟩, _, _, rfl, rfl, n / g + 2, rfl, by omega, by omega, for_range (lo := 0) (n := (n / g + 2).toNat) (fun j σ H' => ∃ v6 : Option V, σ = [some (.int r), some (.int g), some (.int n), some (.int (min r n)), some (.int (rf r g (n - min r n) (min r n) j)), some (.int (n - min r n - (j : Int) * g)), v6] ∧ H' = H) ⟨_, by simp [rf]; rfl, rfl⟩ ?_ ?_⟩
    · rintro j σ H1 hj ⟨v6, rfl, rfl⟩
      refine ⟨_, rfl, _, rfl, _, rfl, r, _, rfl, 0, _, rfl, _, _, rfl, rfl, ?_⟩
      refine ⟨_, rfl, _, rfl, _, _, rfl, rfl, ⟨some (.int (0 + (j : Int))), ?_, rfl⟩⟩
      have e5 : ∀ x : Int, (if (if x < r then x else r) > 0 then (if x < r then x else r) else 0) = max 0 (min r x) := fun x => by repeat (first | omega | split)
      have e6 : n - min r n - ((j + 1 : Nat) : Int) * g = n - min r n - (j : Int) * g - g := by rw [Int.natCast_add, Int.add_mul]; omega
      rw [rf, e6]
      show [some (V.int r), some (V.int g), some (V.int n), some (V.int (min r n)), some (V.int (rf r g (n - min r n) (min r n) j + (if (if n - min r n - (j : Int) * g < r then n - min r n - (j : Int) * g else r) > 0 then (if n - min r n - (j : Int) * g < r then n - min r n - (j : Int) * g else r) else 0))), some (V.int (n - min r n - (j : Int) * g - g)), some (V.int (0 + (j : Int)))] = _
      rw [e5]
    · rintro σ H1 ⟨v6, rfl, rfl⟩
      exact ⟨_, rfl, q _ (.refl _)⟩
end
end Du

set_option Elab.async false
set_option linter.all false
set_option maxRecDepth 100000
namespace Du
open PySem L2
/-- the best of all placings, from behind -/
def sfN (r g n : Nat) : Nat → List Nat
  | 0 => List.replicate (g + 1) 0
  | i + 1 => (fun l : List Nat => Nat.max (l.headD 0) (Nat.min r (Nat.min n (n + g - 1 - i) - (n + g - 1 - i - g)) + l.getD (g - 1) 0) :: l) (sfN r g n i)
def chk (r g n : Nat) : Bool := decide (((sfN r g n (n + g)).headD 0 : Int) = srv r g n)
theorem chk_1_1 : ((List.range 80).all fun n => 1 == 0 || n == 0 || chk 1 1 n) = true := by
  decide +kernel
theorem chk_2_1 : ((List.range 80).all fun n => 1 == 0 || n == 0 || chk 1 2 n) = true := by
  decide +kernel
theorem chk_2_2 : ((List.range 80).all fun n => 2 == 0 || n == 0 || chk 2 2 n) = true := by
  decide +kernel
theorem chk_3_1 : ((List.range 80).all fun n => 1 == 0 || n == 0 || chk 1 3 n) = true := by
  decide +kernel
theorem chk_3_2 : ((List.range 80).all fun n => 2 == 0 || n == 0 || chk 2 3 n) = true := by
  decide +kernel
theorem chk_3_3 : ((List.range 80).all fun n => 3 == 0 || n == 0 || chk 3 3 n) = true := by
  decide +kernel
theorem chk_4_1 : ((List.range 80).all fun n => 1 == 0 || n == 0 || chk 1 4 n) = true := by
  decide +kernel
theorem chk_4_2 : ((List.range 80).all fun n => 2 == 0 || n == 0 || chk 2 4 n) = true := by
  decide +kernel
theorem chk_4_3 : ((List.range 80).all fun n => 3 == 0 || n == 0 || chk 3 4 n) = true := by
  decide +kernel
theorem chk_4_4 : ((List.range 80).all fun n => 4 == 0 || n == 0 || chk 4 4 n) = true := by
  decide +kernel
theorem chk_5_1 : ((List.range 80).all fun n => 1 == 0 || n == 0 || chk 1 5 n) = true := by
  decide +kernel
theorem chk_5_2 : ((List.range 80).all fun n => 2 == 0 || n == 0 || chk 2 5 n) = true := by
  decide +kernel
theorem chk_5_3 : ((List.range 80).all fun n => 3 == 0 || n == 0 || chk 3 5 n) = true := by
  decide +kernel
theorem chk_5_4 : ((List.range 80).all fun n => 4 == 0 || n == 0 || chk 4 5 n) = true := by
  decide +kernel
theorem chk_5_5 : ((List.range 80).all fun n => 5 == 0 || n == 0 || chk 5 5 n) = true := by
  decide +kernel
theorem chk_6_1 : ((List.range 80).all fun n => 1 == 0 || n == 0 || chk 1 6 n) = true := by
  decide +kernel
theorem chk_6_2 : ((List.range 80).all fun n => 2 == 0 || n == 0 || chk 2 6 n) = true := by
  decide +kernel
theorem chk_6_3 : ((List.range 80).all fun n => 3 == 0 || n == 0 || chk 3 6 n) = true := by
  decide +kernel
theorem chk_6_4 : ((List.range 80).all fun n => 4 == 0 || n == 0 || chk 4 6 n) = true := by
  decide +kernel
theorem chk_6_5 : ((List.range 80).all fun n => 5 == 0 || n == 0 || chk 5 6 n) = true := by
  decide +kernel
theorem chk_6_6 : ((List.range 80).all fun n => 6 == 0 || n == 0 || chk 6 6 n) = true := by
  decide +kernel
theorem chk_7_1 : ((List.range 80).all fun n => 1 == 0 || n == 0 || chk 1 7 n) = true := by
  decide +kernel
theorem chk_7_2 : ((List.range 80).all fun n => 2 == 0 || n == 0 || chk 2 7 n) = true := by
  decide +kernel
theorem chk_7_3 : ((List.range 80).all fun n => 3 == 0 || n == 0 || chk 3 7 n) = true := by
  decide +kernel
theorem chk_7_4 : ((List.range 80).all fun n => 4 == 0 || n == 0 || chk 4 7 n) = true := by
  decide +kernel
theorem chk_7_5 : ((List.range 80).all fun n => 5 == 0 || n == 0 || chk 5 7 n) = true := by
  decide +kernel
theorem chk_7_6 : ((List.range 80).all fun n => 6 == 0 || n == 0 || chk 6 7 n) = true := by
  decide +kernel
theorem chk_7_7 : ((List.range 80).all fun n => 7 == 0 || n == 0 || chk 7 7 n) = true := by
  decide +kernel
theorem chk_8_1 : ((List.range 80).all fun n => 1 == 0 || n == 0 || chk 1 8 n) = true := by
  decide +kernel
theorem chk_8_2 : ((List.range 80).all fun n => 2 == 0 || n == 0 || chk 2 8 n) = true := by
  decide +kernel
theorem chk_8_3 : ((List.range 80).all fun n => 3 == 0 || n == 0 || chk 3 8 n) = true := by
  decide +kernel
theorem chk_8_4 : ((List.range 80).all fun n => 4 == 0 || n == 0 || chk 4 8 n) = true := by
  decide +kernel
theorem chk_8_5 : ((List.range 80).all fun n => 5 == 0 || n == 0 || chk 5 8 n) = true := by
  decide +kernel
theorem chk_8_6 : ((List.range 80).all fun n => 6 == 0 || n == 0 || chk 6 8 n) = true := by
  decide +kernel
theorem chk_8_7 : ((List.range 80).all fun n => 7 == 0 || n == 0 || chk 7 8 n) = true := by
  decide +kernel
theorem chk_8_8 : ((List.range 80).all fun n => 8 == 0 || n == 0 || chk 8 8 n) = true := by
  decide +kernel
theorem chk_9_1 : ((List.range 80).all fun n => 1 == 0 || n == 0 || chk 1 9 n) = true := by
  decide +kernel
theorem chk_9_2 : ((List.range 80).all fun n => 2 == 0 || n == 0 || chk 2 9 n) = true := by
  decide +kernel
theorem chk_9_3 : ((List.range 80).all fun n => 3 == 0 || n == 0 || chk 3 9 n) = true := by
  decide +kernel
theorem chk_9_4 : ((List.range 80).all fun n => 4 == 0 || n == 0 || chk 4 9 n) = true := by
  decide +kernel
theorem chk_9_5 : ((List.range 80).all fun n => 5 == 0 || n == 0 || chk 5 9 n) = true := by
  decide +kernel
theorem chk_9_6 : ((List.range 80).all fun n => 6 == 0 || n == 0 || chk 6 9 n) = true := by
  decide +kernel
theorem chk_9_7 : ((List.range 80).all fun n => 7 == 0 || n == 0 || chk 7 9 n) = true := by
  decide +kernel
theorem chk_9_8 : ((List.range 80).all fun n => 8 == 0 || n == 0 || chk 8 9 n) = true := by
  decide +kernel
theorem chk_9_9 : ((List.range 80).all fun n => 9 == 0 || n == 0 || chk 9 9 n) = true := by
  decide +kernel
theorem chk_10_1 : ((List.range 80).all fun n => 1 == 0 || n == 0 || chk 1 10 n) = true := by
  decide +kernel
theorem chk_10_2 : ((List.range 80).all fun n => 2 == 0 || n == 0 || chk 2 10 n) = true := by
  decide +kernel
theorem chk_10_3 : ((List.range 80).all fun n => 3 == 0 || n == 0 || chk 3 10 n) = true := by
  decide +kernel
theorem chk_10_4 : ((List.range 80).all fun n => 4 == 0 || n == 0 || chk 4 10 n) = true := by
  decide +kernel
theorem chk_10_5 : ((List.range 80).all fun n => 5 == 0 || n == 0 || chk 5 10 n) = true := by
  decide +kernel
theorem chk_10_6 : ((List.range 80).all fun n => 6 == 0 || n == 0 || chk 6 10 n) = true := by
  decide +kernel
theorem chk_10_7 : ((List.range 80).all fun n => 7 == 0 || n == 0 || chk 7 10 n) = true := by
  decide +kernel
theorem chk_10_8 : ((List.range 80).all fun n => 8 == 0 || n == 0 || chk 8 10 n) = true := by
  decide +kernel
theorem chk_10_9 : ((List.range 80).all fun n => 9 == 0 || n == 0 || chk 9 10 n) = true := by
  decide +kernel
theorem chk_10_10 : ((List.range 80).all fun n => 10 == 0 || n == 0 || chk 10 10 n) = true := by
  decide +kernel
theorem chk_11_1 : ((List.range 80).all fun n => 1 == 0 || n == 0 || chk 1 11 n) = true := by
  decide +kernel
theorem chk_11_2 : ((List.range 80).all fun n => 2 == 0 || n == 0 || chk 2 11 n) = true := by
  decide +kernel
theorem chk_11_3 : ((List.range 80).all fun n => 3 == 0 || n == 0 || chk 3 11 n) = true := by
  decide +kernel
theorem chk_11_4 : ((List.range 80).all fun n => 4 == 0 || n == 0 || chk 4 11 n) = true := by
  decide +kernel
theorem chk_11_5 : ((List.range 80).all fun n => 5 == 0 || n == 0 || chk 5 11 n) = true := by
  decide +kernel
theorem chk_11_6 : ((List.range 80).all fun n => 6 == 0 || n == 0 || chk 6 11 n) = true := by
  decide +kernel
theorem chk_11_7 : ((List.range 80).all fun n => 7 == 0 || n == 0 || chk 7 11 n) = true := by
  decide +kernel
theorem chk_11_8 : ((List.range 80).all fun n => 8 == 0 || n == 0 || chk 8 11 n) = true := by
  decide +kernel
theorem chk_11_9 : ((List.range 80).all fun n => 9 == 0 || n == 0 || chk 9 11 n) = true := by
  decide +kernel
theorem chk_11_10 : ((List.range 80).all fun n => 10 == 0 || n == 0 || chk 10 11 n) = true := by
  decide +kernel
theorem chk_11_11 : ((List.range 80).all fun n => 11 == 0 || n == 0 || chk 11 11 n) = true := by
  decide +kernel
theorem chk_zero (g : Nat) : ((List.range 80).all fun n => (0 : Nat) == 0 || n == 0 || chk 0 g n) = true := by
  rw [List.all_eq_true]
  intro n _
  rfl
theorem chk_0 : ((List.range (0 + 1)).all fun r => (List.range 80).all fun n => r == 0 || n == 0 || chk r 0 n) = true := by
  rw [List.all_eq_true]
  intro r hr
  have h : r < 0 + 1 := List.mem_range.mp hr
  have h : r = 0 := by omega
  rw [h]
  exact chk_zero 0
theorem chk_1 : ((List.range (1 + 1)).all fun r => (List.range 80).all fun n => r == 0 || n == 0 || chk r 1 n) = true := by
  rw [List.all_eq_true]
  intro r hr
  have h : r < 1 + 1 := List.mem_range.mp hr
  have h : r = 0 ∨ r = 1 := by omega
  rcases h with rfl | rfl
  · exact chk_zero 1
  · exact chk_1_1
theorem chk_2 : ((List.range (2 + 1)).all fun r => (List.range 80).all fun n => r == 0 || n == 0 || chk r 2 n) = true := by
  rw [List.all_eq_true]
  intro r hr
  have h : r < 2 + 1 := List.mem_range.mp hr
  have h : r = 0 ∨ r = 1 ∨ r = 2 := by omega
  rcases h with rfl | rfl | rfl
  · exact chk_zero 2
  · exact chk_2_1
  · exact chk_2_2
theorem chk_3 : ((List.range (3 + 1)).all fun r => (List.range 80).all fun n => r == 0 || n == 0 || chk r 3 n) = true := by
  rw [List.all_eq_true]
  intro r hr
  have h : r < 3 + 1 := List.mem_range.mp hr
  have h : r = 0 ∨ r = 1 ∨ r = 2 ∨ r = 3 := by omega
  rcases h with rfl | rfl | rfl | rfl
  · exact chk_zero 3
  · exact chk_3_1
  · exact chk_3_2
  · exact chk_3_3
theorem chk_4 : ((List.range (4 + 1)).all fun r => (List.range 80).all fun n => r == 0 || n == 0 || chk r 4 n) = true := by
  rw [List.all_eq_true]
  intro r hr
  have h : r < 4 + 1 := List.mem_range.mp hr
  have h : r = 0 ∨ r = 1 ∨ r = 2 ∨ r = 3 ∨ r = 4 := by omega
  rcases h with rfl | rfl | rfl | rfl | rfl
  · exact chk_zero 4
  · exact chk_4_1
  · exact chk_4_2
  · exact chk_4_3
  · exact chk_4_4
theorem chk_5 : ((List.range (5 + 1)).all fun r => (List.range 80).all fun n => r == 0 || n == 0 || chk r 5 n) = true := by
  rw [List.all_eq_true]
  intro r hr
  have h : r < 5 + 1 := List.mem_range.mp hr
  have h : r = 0 ∨ r = 1 ∨ r = 2 ∨ r = 3 ∨ r = 4 ∨ r = 5 := by omega
  rcases h with rfl | rfl | rfl | rfl | rfl | rfl
  · exact chk_zero 5
  · exact chk_5_1
  · exact chk_5_2
  · exact chk_5_3
  · exact chk_5_4
  · exact chk_5_5
theorem chk_6 : ((List.range (6 + 1)).all fun r => (List.range 80).all fun n => r == 0 || n == 0 || chk r 6 n) = true := by
  rw [List.all_eq_true]
  intro r hr
  have h : r < 6 + 1 := List.mem_range.mp hr
  have h : r = 0 ∨ r = 1 ∨ r = 2 ∨ r = 3 ∨ r = 4 ∨ r = 5 ∨ r = 6 := by omega
  rcases h with rfl | rfl | rfl | rfl | rfl | rfl | rfl
  · exact chk_zero 6
  · exact chk_6_1
  · exact chk_6_2
  · exact chk_6_3
  · exact chk_6_4
  · exact chk_6_5
  · exact chk_6_6
theorem chk_7 : ((List.range (7 + 1)).all fun r => (List.range 80).all fun n => r == 0 || n == 0 || chk r 7 n) = true := by
  rw [List.all_eq_true]
  intro r hr
  have h : r < 7 + 1 := List.mem_range.mp hr
  have h : r = 0 ∨ r = 1 ∨ r = 2 ∨ r = 3 ∨ r = 4 ∨ r = 5 ∨ r = 6 ∨ r = 7 := by omega
  rcases h with rfl | rfl | rfl | rfl | rfl | rfl | rfl | rfl
  · exact chk_zero 7
  · exact chk_7_1
  · exact chk_7_2
  · exact chk_7_3
  · exact chk_7_4
  · exact chk_7_5
  · exact chk_7_6
  · exact chk_7_7
theorem chk_8 : ((List.range (8 + 1)).all fun r => (List.range 80).all fun n => r == 0 || n == 0 || chk r 8 n) = true := by
  rw [List.all_eq_true]
  intro r hr
  have h : r < 8 + 1 := List.mem_range.mp hr
  have h : r = 0 ∨ r = 1 ∨ r = 2 ∨ r = 3 ∨ r = 4 ∨ r = 5 ∨ r = 6 ∨ r = 7 ∨ r = 8 := by omega
  rcases h with rfl | rfl | rfl | rfl | rfl | rfl | rfl | rfl | rfl
  · exact chk_zero 8
  · exact chk_8_1
  · exact chk_8_2
  · exact chk_8_3
  · exact chk_8_4
  · exact chk_8_5
  · exact chk_8_6
  · exact chk_8_7
  · exact chk_8_8
theorem chk_9 : ((List.range (9 + 1)).all fun r => (List.range 80).all fun n => r == 0 || n == 0 || chk r 9 n) = true := by
  rw [List.all_eq_true]
  intro r hr
  have h : r < 9 + 1 := List.mem_range.mp hr
  have h : r = 0 ∨ r = 1 ∨ r = 2 ∨ r = 3 ∨ r = 4 ∨ r = 5 ∨ r = 6 ∨ r = 7 ∨ r = 8 ∨ r = 9 := by omega
  rcases h with rfl | rfl | rfl | rfl | rfl | rfl | rfl | rfl | rfl | rfl
  · exact chk_zero 9
  · exact chk_9_1
  · exact chk_9_2
  · exact chk_9_3
  · exact chk_9_4
  · exact chk_9_5
  · exact chk_9_6
  · exact chk_9_7
  · exact chk_9_8
  · exact chk_9_9
theorem chk_10 : ((List.range (10 + 1)).all fun r => (List.range 80).all fun n => r == 0 || n == 0 || chk r 10 n) = true := by
  rw [List.all_eq_true]
  intro r hr
  have h : r < 10 + 1 := List.mem_range.mp hr
  have h : r = 0 ∨ r = 1 ∨ r = 2 ∨ r = 3 ∨ r = 4 ∨ r = 5 ∨ r = 6 ∨ r = 7 ∨ r = 8 ∨ r = 9 ∨ r = 10 := by omega
  rcases h with rfl | rfl | rfl | rfl | rfl | rfl | rfl | rfl | rfl | rfl | rfl
  · exact chk_zero 10
  · exact chk_10_1
  · exact chk_10_2
  · exact chk_10_3
  · exact chk_10_4
  · exact chk_10_5
  · exact chk_10_6
  · exact chk_10_7
  · exact chk_10_8
  · exact chk_10_9
  · exact chk_10_10
theorem chk_11 : ((List.range (11 + 1)).all fun r => (List.range 80).all fun n => r == 0 || n == 0 || chk r 11 n) = true := by
  rw [List.all_eq_true]
  intro r hr
  have h : r < 11 + 1 := List.mem_range.mp hr
  have h : r = 0 ∨ r = 1 ∨ r = 2 ∨ r = 3 ∨ r = 4 ∨ r = 5 ∨ r = 6 ∨ r = 7 ∨ r = 8 ∨ r = 9 ∨ r = 10 ∨ r = 11 := by omega
  rcases h with rfl | rfl | rfl | rfl | rfl | rfl | rfl | rfl | rfl | rfl | rfl | rfl
  · exact chk_zero 11
  · exact chk_11_1
  · exact chk_11_2
  · exact chk_11_3
  · exact chk_11_4
  · exact chk_11_5
  · exact chk_11_6
  · exact chk_11_7
  · exact chk_11_8
  · exact chk_11_9
  · exact chk_11_10
  · exact chk_11_11
theorem chk_all : ((List.range 12).all fun g => (List.range (g + 1)).all fun r => (List.range 80).all fun n => r == 0 || n == 0 || chk r g n) = true := by
  rw [List.all_eq_true]
  intro g hg
  have h : g < 12 := List.mem_range.mp hg
  have h : g = 0 ∨ g = 1 ∨ g = 2 ∨ g = 3 ∨ g = 4 ∨ g = 5 ∨ g = 6 ∨ g = 7 ∨ g = 8 ∨ g = 9 ∨ g = 10 ∨ g = 11 := by omega
  rcases h with rfl | rfl | rfl | rfl | rfl | rfl | rfl | rfl | rfl | rfl | rfl | rfl
  · exact chk_0
  · exact chk_1
  · exact chk_2
  · exact chk_3
  · exact chk_4
  · exact chk_5
  · exact chk_6
  · exact chk_7
  · exact chk_8
  · exact chk_9
  · exact chk_10
  · exact chk_11
end Du

set_option Elab.async false
set_option linter.all false
set_option maxRecDepth 100000
namespace Du
open PySem L2
abbrev sPlace : Stmt := topS 35
theorem sfN_len (r g n : Nat) : ∀ i, (sfN r g n i).length = g + 1 + i
  | 0 => by simp [sfN]
  | i + 1 => by
    show (_ :: sfN r g n i).length = _
    rw [List.length_cons, sfN_len r g n i]
    rfl
theorem place_eq {r g n : Nat} (h1 : 1 ≤ r) (h2 : r ≤ g) (h3 : g < 12) (h4 : 1 ≤ n) (h5 : n < 80) : ((sfN r g n (n + g)).headD 0 : Int) = srv r g n := by
  have h := chk_all
  rw [List.all_eq_true] at h
  have h := h g (List.mem_range.mpr h3)
  rw [List.all_eq_true] at h
  have h := h r (List.mem_range.mpr (by omega))
  rw [List.all_eq_true] at h
  have h := h n (List.mem_range.mpr h5)
  rw [show (r == 0) = false from beq_eq_false_iff_ne.mpr (by omega), show (n == 0) = false from beq_eq_false_iff_ne.mpr (by omega)] at h
  exact of_decide_eq_true h
def valL (l : List Nat) : List V := l.map fun z : Nat => V.int (z : Int)
theorem valL_set {m v : Nat} {l : List Nat} : (valL (List.replicate (m + 1) 0 ++ l)).set m (.int (v : Int)) = valL (List.replicate m 0 ++ v :: l) := by
  unfold valL
  rw [List.replicate_succ', List.append_assoc, List.map_append, List.map_append, List.set_append_right _ _ (by simp)]
  simp
theorem valL_at {m j : Nat} {l : List Nat} {z : Nat} (h : l[j]? = some z) : (valL (List.replicate m 0 ++ l))[m + j]? = some (.int (z : Int)) := by
  unfold valL
  rw [List.getElem?_map, List.getElem?_append_right (by simp), List.length_replicate, show m + j - m = j by omega, h]
  rfl
theorem valL_len {m : Nat} {l : List Nat} : (valL (List.replicate m 0 ++ l)).length = m + l.length := by
  unfold valL
  rw [List.length_map, List.length_append, List.length_replicate]
section
variable {P : Program} {w : World} {K : PySem.W.Frag} {mg : Str → Option Value} {base : Heap} {CT CD CE CN : Addr}
abbrev nPlace : List Str := ["_law_room", "_law_gap", "_law_size", "_law_best", "_law_at", "_law_begin", "_law_term"]
theorem scPlace : FnScope nPlace ["_law_room", "_law_gap", "_law_size"] (defScope sPlace) := ⟨rfl, rfl, rfl, by decide +kernel, rfl, by decide +kernel, by decide +kernel⟩
def spPlace : Sp := fun vs H Q _ => ∃ r g n : Nat, vs = [.int r, .int g, .int n] ∧ 1 ≤ r ∧ r ≤ g ∧ g < 12 ∧ 1 ≤ n ∧ n < 80 ∧ ∀ H', Same H H' → Q (.int (srv r g n)) H'
set_option maxHeartbeats 1000000 in
theorem ok_place {f : Addr} {fd : FuncData} (F : Fun K "_law_by_placings" "_law_by_placings" sPlace f fd) (mn : mg "min" = none) (mx : mg "max" = none) (mr : mg "range" = none) : FnOk P w K mg base CX0 3 f fd ["_law_room", "_law_gap", "_law_size"] spPlace := by
  refine F.ok scPlace (fun vs H Q E h => ?_) (fun cdv A outer s H vs Q E hr h => ?_)
  · obtain ⟨r, g, n, rfl, _⟩ := h
    rfl
  · obtain ⟨r, g, n, rfl, r1, rg, g1, n1, n2, q⟩ := h
    refine ⟨_, (pss_cons (ps_set (i := 3) scPlace.nd rfl (.inl rfl) (pe_op op_rep (pe_lst (pa_cons pe_int pa_nil)) (pe_op op_add (pe_op op_add (pe_op op_add (pv 2) (pv 1)) (pv 1)) pe_int))) (pss_cons (ps_for PassesOwn.never rfl (pi_range3 (by rfl) mr (pa_cons (pe_op op_sub (pe_op op_add (pv 2) (pv 1)) pe_int) (pa_cons (pe_un un_neg pe_int) (pa_cons (pe_un un_neg pe_int) pa_nil)))) (pg_name (i := 4) scPlace.nd rfl (.inl rfl))
        (pss_cons (ps_par (i := 5) (j := 6) rfl scPlace.nd rfl rfl (by decide) rfl rfl (pa_cons (pe_callB (call_max2 rfl) (by rfl) mx (by decide +kernel) (pa_cons pe_int (pa_cons (pe_op op_sub (pv 4) (pv 1)) pa_nil))) (pa_cons (pe_callB (call_min2 rfl) (by rfl) mn (by decide +kernel) (pa_cons (pv 2) (pa_cons (pv 4) pa_nil))) pa_nil)) (by rfl)) (pss_one (ps_asg (pe_callB (call_max2 rfl) (by rfl) mx (by decide +kernel) (pa_cons (pe_ix ix_list (pv 3) (pe_op op_add (pv 4) pe_int) (fun _ _ => rfl)) (pa_cons (pe_op op_add (pe_callB (call_min2 rfl) (by rfl) mn (by decide +kernel) (pa_cons (pv 0) (pa_cons (pe_callB (call_max2 rfl) (by rfl) mx (by decide +kernel) (pa_cons pe_int (pa_cons (pe_op op_sub (pv 6) (pv 5)) pa_nil))) pa_nil))) (pe_ix ix_list (pv 3) (pe_op op_add (pv 4) (pv 1)) (fun _ _ => rfl))) pa_nil))) (pg_sub (pv 3) (pv 4) set_list))))) (pss_one (ps_ret (pe_ix ix_list (pv 3) pe_int (fun _ _ => rfl)))))), ?_⟩
    refine ⟨(by show 1 ≤ sizeLine; decide), fun L0 nL0 => ?_⟩
    have s0 := same_upd (o := .lst [.int 0]) nL0
    refine ⟨_, rfl, _, rfl, _, _, rfl, rfl, _, rfl, _, _, rfl, rfl, _, _, rfl, rfl, L0, _, _, rfl, rfl, upd_same, by omega, by omega, Nat.le_trans (show ([V.int 0]).length * ((n : Int) + g + g + 1).toNat ≤ 1000 by simp; omega) (by decide), fun B nB => ?_⟩
    have s1 := s0.trans (same_upd (o := .lst (List.replicate ((n : Int) + g + g + 1).toNat [V.int 0]).flatten) nB)
    have eB : (upd (upd H L0 (.lst [.int 0])) B (.lst (List.replicate ((n : Int) + g + g + 1).toNat [V.int 0]).flatten)) B = some (.lst (valL (List.replicate (n + g - 0) 0 ++ sfN r g n 0))) := by
      rw [upd_same, List.flatten_replicate_singleton]
      unfold valL
      rw [show sfN r g n 0 = List.replicate (g + 1) 0 from rfl, List.replicate_append_replicate, List.map_replicate]
      exact congrArg (fun k => some (HO.lst (List.replicate k (V.int 0)))) (by omega)
    have nB0 : H B = none := s0.free nB
    generalize upd (upd H L0 (.lst [.int 0])) B (.lst (List.replicate ((n : Int) + g + g + 1).toNat [V.int 0]).flatten) = H1 at s1 eB
    refine ⟨_, rfl, _, rfl, _, _, rfl, rfl, _, _, rfl, rfl, 1, rfl, 1, rfl, _, _, _, _, rfl, RgC.neg (i := (n : Int) + g - 1) (j := -1) (by omega) (by omega) (by omega) (by omega), for_rangeC (lo := (n : Int) + g - 1) (c := -1) (n := ((n : Int) + g - 1 - -1).toNat) (fun i σ H' => ∃ v4 v5 v6 : Option V, σ = [some (.int r), some (.int g), some (.int n), some (.ref B), v4, v5, v6] ∧ Same H H' ∧ H' B = some (.lst (valL (List.replicate (n + g - i) 0 ++ sfN r g n i)))) ⟨_, _, _, rfl, s1, eB⟩ ?_ ?_⟩
    · rintro i σ H2 hi ⟨v4, v5, v6, rfl, s2, e2⟩
      have hi2 : i < n + g := by omega
      have hl := sfN_len r g n i
      generalize hsf : sfN r g n i = l at e2 hl
      have eA : (n : Int) + g - 1 + (i : Int) * -1 = ((n + g - 1 - i : Nat) : Int) := by omega
      obtain ⟨at_, hat⟩ : ∃ at_ : Nat, at_ = n + g - 1 - i := ⟨_, rfl⟩
      rw [eA, ← hat]
      obtain ⟨x0, hx0⟩ : ∃ x0, l[0]? = some x0 := ⟨_, List.getElem?_eq_getElem (by omega)⟩
      obtain ⟨x1, hx1⟩ : ∃ x1, l[g - 1]? = some x1 := ⟨_, List.getElem?_eq_getElem (by omega)⟩
      have a0 := valL_at (m := n + g - i) hx0
      have a1 := valL_at (m := n + g - i) hx1
      have e3 : (if (at_ : Int) - g > 0 then (at_ : Int) - g else 0) = ((at_ - g : Nat) : Int) := by split <;> omega
      have e4 : (if (at_ : Int) < n then (at_ : Int) else n) = ((min n at_ : Nat) : Int) := by split <;> omega
      refine ⟨_, rfl, _, rfl, _, _, rfl, rfl, 0, _, rfl, ?_⟩
      refine ⟨_, rfl, _, rfl, n, _, rfl, _, _, rfl, ?_⟩
      rw [e3, e4]
      refine ⟨_, rfl, _, rfl, _, _, rfl, rfl, B, _, _, _, rfl, rfl, SqL.of e2, at_nat (by omega) a0, ?_⟩
      refine ⟨_, rfl, _, rfl, _, rfl, _, _, rfl, rfl, 0, _, rfl, r, _, rfl, ?_⟩
      have e5 : (if ((min n at_ : Nat) : Int) - ((at_ - g : Nat) : Int) > 0 then ((min n at_ : Nat) : Int) - ((at_ - g : Nat) : Int) else 0) = ((min n at_ - (at_ - g) : Nat) : Int) := by split <;> omega
      rw [e5]
      have e6 : ∀ z : Nat, (if (z : Int) < r then (z : Int) else r) = ((min r z : Nat) : Int) := fun z => by split <;> omega
      rw [e6]
      refine ⟨_, rfl, _, rfl, _, rfl, _, _, rfl, rfl, B, _, _, _, rfl, rfl, SqL.of e2, at_nat (by omega) a1, _, _, rfl, rfl, x0, _, rfl, ?_⟩
      have e7 : (if ((min r (min n at_ - (at_ - g)) : Nat) : Int) + (x1 : Int) > (x0 : Int) then ((min r (min n at_ - (at_ - g)) : Nat) : Int) + (x1 : Int) else (x0 : Int)) = ((Nat.max x0 (Nat.min r (Nat.min n at_ - (at_ - g)) + x1) : Nat) : Int) := by
        show _ = ((max x0 (min r (min n at_ - (at_ - g)) + x1) : Nat) : Int)
        split <;> omega
      rw [e7]
      have hm : n + g - i = at_ + 1 := by omega
      refine ⟨_, rfl, _, rfl, B, _, _, at_, rfl, rfl, e2, ?_, ?_⟩
      · unfold ixN
        rw [if_pos (by omega), valL_len, if_pos (by omega)]
        rfl
      · refine ⟨_, _, _, rfl, ?_, ?_⟩
        · exact same_upd2 s2 nB0
        · rw [upd_same, hm, valL_set, show n + g - (i + 1) = at_ by omega]
          rw [show sfN r g n (i + 1) = Nat.max ((sfN r g n i).headD 0) (Nat.min r (Nat.min n (n + g - 1 - i) - (n + g - 1 - i - g)) + (sfN r g n i).getD (g - 1) 0) :: sfN r g n i from rfl, hsf, ← hat]
          rw [List.getD_eq_getElem?_getD, hx1, List.headD_eq_head?_getD, List.head?_eq_getElem?, hx0]
          rfl
    · rintro σ H2 ⟨v4, v5, v6, rfl, s2, e2⟩
      have hn : ((n : Int) + g - 1 - -1).toNat = n + g := by omega
      rw [hn] at e2
      have hl := sfN_len r g n (n + g)
      have hp := place_eq r1 rg g1 n1 n2
      generalize sfN r g n (n + g) = l at e2 hl hp
      obtain ⟨x0, hx0⟩ : ∃ x0, l[0]? = some x0 := ⟨_, List.getElem?_eq_getElem (by omega)⟩
      have a0 := valL_at (m := n + g - (n + g)) hx0
      rw [List.headD_eq_head?_getD, List.head?_eq_getElem?, hx0] at hp
      refine ⟨_, rfl, B, _, _, _, rfl, rfl, SqL.of e2, at_nat (j := n + g - (n + g) + 0) (by omega) a0, ?_⟩
      rw [show ((x0 : Nat) : Int) = srv r g n from hp]
      exact q H2 s2
end
end Du

set_option Elab.async false
set_option linter.all false
set_option maxRecDepth 100000
namespace Du
open PySem L2
abbrev sSizes' : Stmt := topS 36
section
variable {P : Program} {w : World} {K : PySem.W.Frag} {mg : Str → Option Value} {base : Heap} {CT CD CE CN : Addr}
abbrev nSizes : List Str := ["_law_purse_here", "_law_room", "_law_gap", "_law_some", "_law_size"]
theorem scSizes : FnScope nSizes ["_law_purse_here", "_law_room", "_law_gap"] (defScope sSizes) := ⟨rfl, rfl, rfl, by decide +kernel, rfl, by decide +kernel, by decide +kernel⟩
def Sz (y : V) : Prop := ∃ z : Int, y = .int z ∧ 1 ≤ z ∧ z ≤ 1000000
def spSizes : Sp := fun vs H Q _ => ∃ (p : Addr) (r g : Int), vs = [.ref p, .int r, .int g] ∧ Purse H p ∧ (1 ≤ r ∧ r ≤ 99) ∧ (1 ≤ g ∧ g ≤ 600) ∧ ∀ (L : Addr) (ys : List V) H', Step p H H' → H L = none → H' L = some (.lst ys) → (∀ y ∈ ys, Sz y) → Q (.ref L) H'
set_option maxHeartbeats 1000000 in
theorem ok_sizes {f : Addr} {fd : FuncData} (F : Fun K "_law_sizes" "_law_sizes" sSizes f fd) (mn : mg "min" = none) (mx : mg "max" = none) (mi : mg "int" = none) (DT : Dn P w K mg base 3 "_law_take" ["_law_purse_here", "_law_many"] spTake) : FnOk P w K mg base CX0 4 f fd ["_law_purse_here", "_law_room", "_law_gap"] spSizes := by
  refine F.ok scSizes (fun vs H Q E h => ?_) (fun cdv A outer s H vs Q E hr h => ?_)
  · obtain ⟨p, r, g, rfl, _⟩ := h
    rfl
  · obtain ⟨p, r, g, rfl, hp, hr1, hg1, q⟩ := h
    have hr3 : Room 3 _ := hr.mono (by decide)
    refine ⟨_, (pss_cons (ps_set (i := 3) scSizes.nd rfl (.inl rfl) (pe_lst (pa_cons pe_int (pa_cons (pv 1) (pa_cons (pv 2) (pa_cons (pe_op op_add (pv 1) (pv 2)) (pa_cons (pe_op op_mul pe_int (pv 2)) (pa_cons (pe_op op_add (pv 2) pe_int) (pa_cons (pe_callB (call_max2 rfl) (by rfl) mx (by decide +kernel) (pa_cons pe_int (pa_cons (pe_op op_sub (pv 1) pe_int) pa_nil))) (pa_cons (pe_op op_add pe_int (pcall DT hr3 (by rfl) (pa_cons (pv 0) (pa_cons pe_int pa_nil)))) pa_nil)))))))))) (pss_cons (ps_set (i := 3) scSizes.nd rfl (.inl rfl) (pe_op op_cat (pv 3) (pe_lst (pa_cons (pe_op op_add (pe_op op_add (pe_op op_mul (pcall DT hr3 (by rfl) (pa_cons (pv 0) (pa_cons pe_int pa_nil))) (pv 2)) (pe_op op_mul (pcall DT hr3 (by rfl) (pa_cons (pv 0) (pa_cons pe_int pa_nil))) (pv 1))) pe_int) (pa_cons (pe_op op_add pe_int (pcall DT hr3 (by rfl) (pa_cons (pv 0) (pa_cons (pe_op op_mul pe_int (pv 2)) pa_nil)))) pa_nil))))) (pss_one (ps_ret (pe_op op_cat (pe_lc (own := [("_law_size", 4)]) (g := gName 4) (tt := tYes) rfl scSizes.nd (pi_list (pv 3)) (blkOk_by (N := nSizes) (sc := defScope sSizes) (by decide +kernel)) (fun _ _ _ _ _ => pg_name (i := 4) scSizes.nd rfl (Or.inl rfl)) (fun _ _ _ _ _ => pts_nil) (fun _ _ _ _ _ => pe_callB (call_min2 rfl) (by rfl) mn (by decide +kernel) (pa_cons (pe_op op_pow pe_int pe_int) (pa_cons (pv 4) pa_nil))))
        (pe_lst (pa_cons (pe_ix ix_list (pe_lst (pa_cons (pe_op op_pow pe_int pe_int) (pa_cons pe_int pa_nil))) (pe_callTy call_int1 (by rfl) mi (by decide +kernel) (pa_cons (pe_cmpR op_lt (pv 2) pe_int (nomark _)) pa_nil)) (fun _ _ => rfl)) pa_nil))))))), ?_⟩
    refine ⟨_, rfl, _, rfl, _, rfl, _, rfl, _, _, rfl, rfl, _, rfl, _, _, rfl, rfl, (.inr ⟨by omega, by omega⟩), _, rfl, _, _, rfl, rfl, _, rfl, _, _, rfl, rfl, 1, _, rfl, _, rfl, p, 60, rfl, by decide, by decide, hp, fun x H1 x0 x1 s1 => ⟨_, _, rfl, rfl, (by show 8 ≤ sizeLine; decide), fun L1 n1 => ?_⟩⟩
    have bnd : ∀ (a b c : Int), 0 ≤ a → a < b → 0 ≤ c → c ≤ 600 → 0 ≤ a * c ∧ a * c ≤ b * 600 := fun a b c a0 a1 c0 c1 => ⟨Int.mul_nonneg a0 c0, Int.mul_le_mul (by omega) c1 c0 (by omega)⟩
    have s2 := s1.trans (Step.new (o := .lst [.int 1, .int r, .int g, .int (r + g), .int (2 * g), .int (g + 1), .int (if r - 1 > 1 then r - 1 else 1), .int (1 + x)]) s1.purse n1)
    have hL1 : L1 ≠ p := s1.purse.ne n1
    have P1 : ∀ y ∈ [V.int 1, .int r, .int g, .int (r + g), .int (2 * g), .int (g + 1), .int (if r - 1 > 1 then r - 1 else 1), .int (1 + x)], ∃ z : Int, y = .int z ∧ 1 ≤ z := fun y hy => by
      simp only [List.mem_cons, List.not_mem_nil, or_false] at hy
      rcases hy with rfl | rfl | rfl | rfl | rfl | rfl | rfl | rfl
      · exact ⟨_, rfl, by omega⟩
      · exact ⟨_, rfl, by omega⟩
      · exact ⟨_, rfl, by omega⟩
      · exact ⟨_, rfl, by omega⟩
      · exact ⟨_, rfl, by omega⟩
      · exact ⟨_, rfl, by omega⟩
      · exact ⟨_, rfl, by split <;> omega⟩
      · exact ⟨_, rfl, by omega⟩
    have e1 : (upd H1 L1 (.lst [.int 1, .int r, .int g, .int (r + g), .int (2 * g), .int (g + 1), .int (if r - 1 > 1 then r - 1 else 1), .int (1 + x)])) L1 = some (.lst [.int 1, .int r, .int g, .int (r + g), .int (2 * g), .int (g + 1), .int (if r - 1 > 1 then r - 1 else 1), .int (1 + x)]) := upd_same
    have l1 : ([V.int 1, .int r, .int g, .int (r + g), .int (2 * g), .int (g + 1), .int (if r - 1 > 1 then r - 1 else 1), .int (1 + x)]).length = 8 := rfl
    generalize [V.int 1, .int r, .int g, .int (r + g), .int (2 * g), .int (g + 1), .int (if r - 1 > 1 then r - 1 else 1), .int (1 + x)] = zs at s2 P1 e1 l1
    generalize upd H1 L1 (.lst zs) = H2 at s2 e1
    refine ⟨_, rfl, _, rfl, p, 5, rfl, by decide, by decide, s2.purse, fun a H3 a0 a1 s3 => ⟨_, rfl, _, _, rfl, rfl, (.inl ⟨by omega, by omega⟩), _, rfl, p, 3, rfl, by decide, by decide, s3.purse, fun b H4 b0 b1 s4 => ⟨_, rfl, _, _, rfl, rfl, (.inl ⟨by omega, by omega⟩), _, _, rfl, rfl, _, _, rfl, rfl, ?_⟩⟩⟩
    have ha := bnd a 5 g a0 a1 (by omega) (by omega)
    have hb := bnd b 3 r b0 b1 (by omega) (by omega)
    have s4' := (s2.trans s3).trans s4
    refine ⟨_, rfl, _, rfl, _, _, rfl, rfl, (.inr ⟨by omega, by omega⟩), p, _, rfl, by omega, by omega, s4.purse, fun c H5 c0 c1 s5 => ⟨_, _, rfl, rfl, (by show 2 ≤ sizeLine; decide), fun L2 n2 => ?_⟩⟩
    have s6 := s5.trans (Step.new (o := .lst [.int (a * g + b * r + 1), .int (1 + c)]) s5.purse n2)
    have e6 : (upd H5 L2 (.lst [.int (a * g + b * r + 1), .int (1 + c)])) L2 = some (.lst [.int (a * g + b * r + 1), .int (1 + c)]) := upd_same
    have e6' := s6.keep _ _ hL1 (s4.keep _ _ hL1 (s3.keep _ _ hL1 e1))
    refine ⟨L1, L2, _, _, rfl, rfl, e6', e6, Nat.le_trans (show zs.length + 2 ≤ 10 by omega) (by decide), fun L3 n3 => ?_⟩
    have s7 := (s4'.trans s6).trans (Step.new (o := .lst (zs ++ [.int (a * g + b * r + 1), .int (1 + c)])) s6.purse n3)
    have P2 : ∀ y ∈ zs ++ [.int (a * g + b * r + 1), .int (1 + c)], ∃ z : Int, y = .int z ∧ 1 ≤ z := fun y hy => by
      rcases List.mem_append.mp hy with h | h
      · exact P1 y h
      · simp only [List.mem_cons, List.not_mem_nil, or_false] at h
        rcases h with rfl | rfl
        · exact ⟨_, rfl, by omega⟩
        · exact ⟨_, rfl, by omega⟩
    have l2 : (zs ++ [V.int (a * g + b * r + 1), .int (1 + c)]).length = 10 := by rw [List.length_append, l1]; rfl
    have e7 : (upd (upd H5 L2 (.lst [.int (a * g + b * r + 1), .int (1 + c)])) L3 (.lst (zs ++ [.int (a * g + b * r + 1), .int (1 + c)]))) L3 = some (.lst (zs ++ [.int (a * g + b * r + 1), .int (1 + c)])) := upd_same
    generalize zs ++ [V.int (a * g + b * r + 1), .int (1 + c)] = ws at s7 P2 e7 l2
    generalize upd (upd H5 L2 (.lst [.int (a * g + b * r + 1), .int (1 + c)])) L3 (.lst ws) = H7 at s7 e7
    refine ⟨_, rfl, L3, rfl, ⟨_, SqL.of e7⟩, fun D nD => lc_list (K := K) (a := L3) (xs := ws) (fun i H' => Same H7 H' ∧ ∃ ys : List V, H' D = some (.lst ys) ∧ ys.length = i ∧ ∀ y ∈ ys, Sz y) ⟨same_upd nD, [], upd_same, rfl, fun y hy => nomatch hy⟩ (fun i H' _ z => SqL.of (z.1 _ _ e7)) ?_ ?_⟩
    · rintro i y H8 hy ⟨s8, ys, e8, l8, h8⟩
      obtain ⟨z, rfl, z1⟩ := P2 y (List.mem_of_getElem? hy)
      have hi := (List.getElem?_eq_some_iff.mp hy).1
      refine ⟨rfl, _, _, rfl, rfl, ⟨by decide, by decide, by decide⟩, _, rfl, _, z, rfl, _, e8, ?_, same_upd2 s8 nD, _, upd_same, by rw [List.length_append, l8]; rfl, fun y hy => ?_⟩
      · exact Nat.lt_of_lt_of_le (show ys.length < 10 by omega) (by decide)
      · rcases List.mem_append.mp hy with h | h
        · exact h8 y h
        · rw [List.mem_singleton.mp h]
          have hp6 : (10 : Int) ^ (6 : Int).toNat = 1000000 := rfl
          exact ⟨_, rfl, by split <;> omega, by split <;> omega⟩
    · rintro H8 ⟨s8, ys, e8, l8, h8⟩
      have hp6 : (10 : Int) ^ (6 : Int).toNat = 1000000 := rfl
      refine ⟨_, _, rfl, rfl, ⟨by decide, by decide, by decide⟩, (by show 2 ≤ sizeLine; decide), fun L4 n4 => ?_⟩
      have s9 := s8.trans (same_upd (o := .lst [.int (10 ^ (6 : Int).toNat), .int 1]) n4)
      have e9 : (upd H8 L4 (.lst [.int (10 ^ (6 : Int).toNat), .int 1])) L4 = some (.lst [.int (10 ^ (6 : Int).toNat), .int 1]) := upd_same
      have e8' := same_upd (o := .lst [.int (10 ^ (6 : Int).toNat), .int 1]) n4 _ _ e8
      generalize upd H8 L4 (.lst [.int (10 ^ (6 : Int).toNat), .int 1]) = H9 at s9 e9 e8'
      refine ⟨_, rfl, _, _, rfl, rfl, .inr ⟨_, rfl, ?_⟩⟩
      obtain ⟨z, hz, z1, z2⟩ : ∃ z : Int, atI [V.int (10 ^ (6 : Int).toNat), .int 1] (if decide (g < 200) = true then 1 else 0) = some (.int z) ∧ 1 ≤ z ∧ z ≤ 1000000 := by
        cases decide (g < 200) with
        | true => exact ⟨1, at_of (j := 1) rfl rfl, by decide, by decide⟩
        | false => exact ⟨1000000, at_of (j := 0) rfl rfl, by decide, by decide⟩
      refine ⟨L4, _, _, _, rfl, rfl, SqL.of e9, hz, (by show 1 ≤ sizeLine; decide), fun L5 n5 => ?_⟩
      have s10 := s9.trans (same_upd (o := .lst [.int z]) n5)
      refine ⟨D, L5, _, _, rfl, rfl, same_upd n5 _ _ e8', upd_same, Nat.le_trans (show ys.length + 1 ≤ 11 by omega) (by decide), fun L6 n6 => ?_⟩
      have s11 := s10.trans (same_upd (o := .lst (ys ++ [.int z])) n6)
      have t11 := s7.trans (Step.of_same s7.purse s11)
      refine q L6 _ _ t11 ((s7.trans (Step.of_same s7.purse s10)).free n6) upd_same fun y hy => ?_
      rcases List.mem_append.mp hy with h | h
      · exact h8 y h
      · exact ⟨z, List.mem_singleton.mp h, z1, z2⟩
end
end Du

set_option Elab.async false
set_option linter.all false
set_option maxRecDepth 100000
namespace Du
open PySem L2
open L2N (Zn)
open L2H (RoomH Hot1 PinOk cxH roomH_of)
abbrev sToldR : Stmt := topS 37
/-- f(k = v, ..) in a try -/
def tCallKS0 (n : Nat) (sp : Sp) (gV : List V → List V → List V) (E : L2.St → XK) (tk : TA) : TE := fun σ H Q => tk σ H fun zs H2 => zs.length = n ∧ sp (gV [] zs) H2 Q (E σ)
theorem pe_callKS0 {X : Cx} {CX : CXT} {k : Nat} {f : Addr} {fd : FuncData} {x : Str} {p pos : Pos} {ps ks : List Str} {sp : Sp} {E : L2.St → XK} {kws : List Keyword} {tk : TA} {g : List Value → List Value → List Value} {gV : List V → List V → List V}
    (F : FnOk X.prog X.w X.K X.mg X.base CX k f fd ps sp) (hr : Room k X.A) (hg : Gl X x) (hm : X.mg x = some (.ref f)) (hk : PySem.W.keepIn X.K (.ref f) = true) (hb : KBn X.K fd ps 0 ks g gV) (hx : ∀ σ, PassesAt CX X σ (E σ)) (hkw : PK X kws tk)
    (hall : (backToKw pos (keywordEach kws X.env)).all (·.1.isSome) = true := by rfl) (hks : (backToKw pos (keywordEach kws X.env)).filterMap (·.1) = ks := by rfl)
    (hdb : (x == ("__debug__" : Str)) = false := by decide)
    (hpl : ((backTo pos (starEach [] X.env)).any (·.1) || (backToKw pos (keywordEach kws X.env)).any (·.1.isNone)) = false := by rfl) :
    PE X (.Call (.Name x p) [] kws pos) (tCallKS0 ks.length sp gV E tk) := by
  refine ⟨fun pins s σ H Q I h => ?_⟩
  refine wpAny_Call_Name_kw (ld_glob I hg hm ?_ hdb)
  refine PySem.W.callWith_KW0 (h₀ := X.base) I.ok.mod.kin hk hall ?_ hpl
  refine thn (hkw.run pos pins s σ H _ I h) fun ws s2 ⟨zs, H2, I2, rz, l2, q2⟩ => ⟨I2.kIn, ?_⟩
  rw [hks]
  refine wpAny_call (codeAny_mono (F.run X.A X.stack s2 H2 ⟨[], ks.zip ws⟩ (g [] ws) (gV [] zs) Q (E σ) hr I2.env0 (hb.to s2 [] ws I2.kIn rfl (rz.length.symm.trans l2)) (hb.rel .nil rz) q2) fun r s' hq => ?_)
  match r, hq with
  | .error e, hq => exact hx σ pins H2 s2 e s' I2 hq
  | .ok (.ret u), hq => exact I2.after hq
  | .ok .next, hq => exact hq.elim
  | .ok .brk, hq => exact hq.elim
  | .ok .cont, hq => exact hq.elim
/-- the error classes that the law asks for -/
structure ErrS (K : PySem.W.Frag) (mg : Str → Option Value) (CN CE c1 c2 cB cL cF : Addr) : Prop where
  gN : mg "NoNumber" = some (.ref CN)
  gE : mg "NoDoor" = some (.ref CE)
  g1 : mg "NoTask" = some (.ref c1)
  g2 : mg "NoCrew" = some (.ref c2)
  gB : mg "TimeError" = some (.ref cB)
  gL : mg "LostError" = some (.ref cL)
  gF : mg "FullError" = some (.ref cF)
  zV : mg "ValueError" = none
  zI : mg "isinstance" = none
  eN : ErrI K CN
  eE : ErrI K CE
  nN : PySem.W.kitAny K (.ref CN) [.ref c1, .ref c2, .ref cL, .ref cF] = some false
  nE : PySem.W.kitAny K (.ref CE) [.ref c1, .ref c2, .ref cL, .ref cF] = some false
  kNE : PySem.W.kitOne K (.ref CN) (.ref CE) = some false
  kNN : PySem.W.kitOne K (.ref CN) (.ref CN) = some true
  kEE : PySem.W.kitOne K (.ref CE) (.ref CE) = some true
  kNV : PySem.W.kitOne K (.ref CN) (.type "ValueError") = some true
  kEV : PySem.W.kitOne K (.ref CE) (.type "ValueError") = some true
  fN : PySem.W.findIn K (.ref CN) "number" = some none
  fE : PySem.W.findIn K (.ref CE) "part" = some none
  mN : PySem.W.exmAny K (.ref CN) [.ref cB, .ref cL, .ref cF] = some true
  mE : PySem.W.exmAny K (.ref CE) [.ref cB, .ref cL, .ref cF] = some true
section
variable {P : Program} {w : World} {K : PySem.W.Frag} {mg : Str → Option Value} {base : Heap} {CT CD : Addr}
abbrev nToldR : List Str := ["_law_portal", "_law_size", "_law_by_name", "e"]
abbrev pToldR : List Str := ["_law_portal", "_law_size", "_law_by_name"]
theorem scToldR : FnScope nToldR pToldR (defScope sToldR) := ⟨rfl, rfl, rfl, by decide +kernel, rfl, by decide +kernel, by decide +kernel⟩
theorem kServed {f : Addr} {fd : FuncData} (F : Fun K "most_served" "most_served" sServed f fd) : KBn K fd ["door", "long"] 0 ["long", "door"] (fun us ws => us ++ (one ws 1 ++ one ws 0)) (fun us ws => us ++ (one ws 1 ++ one ws 0)) := by
  obtain ⟨oc, od, kV, doc, pm, an, cdv, ct, osl, rfl, lk, hcd⟩ := F.ex
  exact ⟨fun s us ws X h1 h2 => .of_eq (match us, ws, h1, h2 with | [], [_, _], _, _ => rfl), fun r1 r2 => r1.append ((one_rel r2 1).append (one_rel r2 0))⟩
/-- what the suite does -/
def tSuiteR (CN CE : Addr) (a : Addr) (cls : Value) (d : Option Addr) : TS := fun D σ H => ∃ dd : Addr, d = some dd ∧ σ[3]? = some (some (.ref a)) ∧
  ((∃ x : V, cls = .ref CN ∧ H dd = some (.xd [("number", x)]) ∧ ∀ r H', Same H H' → H r = none → H' r = some (.tup [.str "number", x]) → D.rt (.ref r) H') ∨
   (∃ x : V, cls = .ref CE ∧ H dd = some (.xd [("part", x)]) ∧ ∀ r H', Same H H' → H r = none → H' r = some (.tup [.str "door", x]) → D.rt (.ref r) H'))
def spToldR (K : PySem.W.Frag) (CD : Addr) : Sp := fun vs H Q _ => ∃ (x y : V) (b : Bool), vs = [x, y, .bl b] ∧
  ((∃ (a : Addr) (nm : Str) (r g n : Int), x = .ref a ∧ DoorAt CD H a nm r g ∧ (1 ≤ r ∧ r ≤ 99) ∧ (1 ≤ g ∧ g ≤ 600) ∧ y = .int n ∧ 1 ≤ n ∧ n ≤ 1000000 ∧ ∀ t H', Same H H' → H t = none → H' t = some (.tup [.str "told", .int (srv r g n)]) → Q (.ref t) H') ∨
   (NoDr K H CD x ∧ ∀ t H', Same H H' → H t = none → H' t = some (.tup [.str "door", .non]) → Q (.ref t) H') ∨
   (∃ (a : Addr) (nm : Str) (r g : Int), x = .ref a ∧ DoorAt CD H a nm r g ∧ BadL K H y 1 1000000 ∧ ∀ t H', Same H H' → H t = none → H' t = some (.tup [.str "number", y]) → Q (.ref t) H'))
set_option maxHeartbeats 2000000 in
theorem ok_toldR {CN CE c1 c2 cB cL cF f fv : Addr} {fd fdv : FuncData} (F : Fun K "_law_told" "_law_told" sToldR f fd) (S : ErrS K mg CN CE c1 c2 cB cL cF) (FV : Fun K "most_served" "most_served" sServed fv fdv) (mv : mg "most_served" = some (.ref fv)) (kp : PySem.W.keepIn K (.ref fv) = true) (G : FnOk P w K mg base (L2N.CX P w) 4 fv fdv ["door", "long"] (spServed K CD CE CN)) (bv : Binds K fdv ["door", "long"] []) :
    FnOk P w K mg base CX0 5 f fd pToldR (spToldR K CD) := by
  have kv := kServed FV
  refine F.ok scToldR (fun vs H Q E h => ?_) (fun cdv A outer s H vs Q E hr h => ?_)
  · obtain ⟨x, y, b, rfl, _⟩ := h
    rfl
  · obtain ⟨x, y, b, rfl, k⟩ := h
    refine ⟨_, (pss_one (ps_try_tup (i := 3) (cs := [.ref cB, .ref cL, .ref cF]) (ts := tSuiteR CN CE) rfl rfl scToldR.nd rfl rfl (lays3 ⟨by rfl, by decide, .inl S.gB⟩ ⟨by rfl, by decide, .inl S.gL⟩ ⟨by rfl, by decide, .inl S.gF⟩) mat3
        (fun W pn xe tk po => (pss_cons (ps_if (pt_val (pv 2)) (pss_one (ps_ret (pe_tup (pa_cons pe_str (pa_cons (pe_callKS0 G hr (by rfl) mv kp kv (fun σ => L2N.passAt tk σ) (pk_cons (pv 1) (pk_cons (pv 0) pk_nil))) pa_nil))))) pss_nil) (pss_one (ps_ret (pe_tup (pa_cons pe_str (pa_cons (pe_callS G hr (by rfl) mv kp bv (fun σ => L2N.passAt tk σ) (pa_cons (pv 0) (pa_cons (pv 1) pa_nil))) pa_nil)))))))
        (fun a oe cls d pn hz hf' => pss_of fun pins s' σ H' D I h' => by
          obtain ⟨dd, rfl, e3, h'⟩ := h'
          have hp := List.mem_cons_self (a := (a, oe)) (l := pn)
          rcases h' with ⟨x', rfl, hd, q'⟩ | ⟨x', rfl, hd, q'⟩
          · refine ⟨_, (pss_cons (ps_if (PW.pt (pw_or (pt_val (pe_callB (call_isX S.eN hp hz hf') (by rfl) S.zI (by decide +kernel) (pa_cons (pv 3) (pa_cons (pe_tup (pa_cons (pe_glob (v := .ref c1) rfl S.g1 rfl) (pa_cons (pe_glob (v := .ref c2) rfl S.g2 rfl) (pa_cons (pe_glob (v := .ref cL) rfl S.gL rfl) (pa_cons (pe_glob (v := .ref cF) rfl S.gF rfl) pa_nil))))) pa_nil)))) (pw_or1 (pt_not (pt_val (pe_callB (call_isX S.eN hp hz hf') (by rfl) S.zI (by decide +kernel) (pa_cons (pv 3) (pa_cons (pe_bltn (v := .ty "ValueError") (by rfl) S.zV (by decide +kernel) rfl) pa_nil)))))))) pss_never pss_nil) (pss_cons (ps_if (pt_val (pe_callB (call_isX S.eN hp hz hf') (by rfl) S.zI (by decide +kernel) (pa_cons (pv 3) (pa_cons (pe_glob (v := .ref CE) rfl S.gE rfl) pa_nil)))) pss_never pss_nil) (pss_cons (ps_if (pt_val (pe_callB (call_isX S.eN hp hz hf') (by rfl) S.zI (by decide +kernel) (pa_cons (pv 3) (pa_cons (pe_glob (v := .ref CN) rfl S.gN rfl) pa_nil)))) (pss_one (ps_ret (pe_tup (pa_cons pe_str (pa_cons (pe_fldX S.eN S.fN hp hz hf' (pv 3)) pa_nil))))) pss_nil) (pss_one (ps_ret (pe_tup (pa_cons pe_str (pa_cons pe_non pa_nil)))))))), ?_⟩
            refine ⟨_, e3, (show 4 ≤ sizeLine by decide), fun tp nt => ?_⟩
            have s1 := same_upd (o := .tup [.ref c1, .ref c2, .ref cL, .ref cF]) nt
            have hd1 := s1 _ _ hd
            refine ⟨_, hd1, .inr ⟨tp, _, _, false, rfl, upd_same, .cons (.own _) (.cons (.own _) (.cons (.own _) (.cons (.own _) .nil))), S.nN, false, rfl, ?_⟩⟩
            refine iteF ⟨_, e3, _, hd1, .inl ⟨_, _, true, rfl, .ty _, S.kNV, true, rfl, ?_⟩⟩
            refine iteF ⟨_, e3, _, hd1, .inl ⟨_, _, false, rfl, .own _, S.kNE, false, rfl, ?_⟩⟩
            refine iteF ⟨_, e3, _, hd1, .inl ⟨_, _, true, rfl, .own _, S.kNN, true, rfl, ?_⟩⟩
            refine iteT ⟨_, e3, rfl, _, _, hd1, rfl, (show 2 ≤ sizeLine by decide), fun r nr => ?_⟩
            exact q' r _ (s1.trans (same_upd nr)) (s1.free nr) upd_same
          · refine ⟨_, (pss_cons (ps_if (PW.pt (pw_or (pt_val (pe_callB (call_isX S.eE hp hz hf') (by rfl) S.zI (by decide +kernel) (pa_cons (pv 3) (pa_cons (pe_tup (pa_cons (pe_glob (v := .ref c1) rfl S.g1 rfl) (pa_cons (pe_glob (v := .ref c2) rfl S.g2 rfl) (pa_cons (pe_glob (v := .ref cL) rfl S.gL rfl) (pa_cons (pe_glob (v := .ref cF) rfl S.gF rfl) pa_nil))))) pa_nil)))) (pw_or1 (pt_not (pt_val (pe_callB (call_isX S.eE hp hz hf') (by rfl) S.zI (by decide +kernel) (pa_cons (pv 3) (pa_cons (pe_bltn (v := .ty "ValueError") (by rfl) S.zV (by decide +kernel) rfl) pa_nil)))))))) pss_never pss_nil) (pss_cons (ps_if (pt_val (pe_callB (call_isX S.eE hp hz hf') (by rfl) S.zI (by decide +kernel) (pa_cons (pv 3) (pa_cons (pe_glob (v := .ref CE) rfl S.gE rfl) pa_nil)))) (pss_one (ps_ret (pe_tup (pa_cons pe_str (pa_cons (pe_fldX S.eE S.fE hp hz hf' (pv 3)) pa_nil))))) pss_nil) (pss_cons (ps_if (pt_val (pe_callB (call_isX S.eE hp hz hf') (by rfl) S.zI (by decide +kernel) (pa_cons (pv 3) (pa_cons (pe_glob (v := .ref CN) rfl S.gN rfl) pa_nil)))) pss_never pss_nil) (pss_one (ps_ret (pe_tup (pa_cons pe_str (pa_cons pe_non pa_nil)))))))), ?_⟩
            refine ⟨_, e3, (show 4 ≤ sizeLine by decide), fun tp nt => ?_⟩
            have s1 := same_upd (o := .tup [.ref c1, .ref c2, .ref cL, .ref cF]) nt
            have hd1 := s1 _ _ hd
            refine ⟨_, hd1, .inr ⟨tp, _, _, false, rfl, upd_same, .cons (.own _) (.cons (.own _) (.cons (.own _) (.cons (.own _) .nil))), S.nE, false, rfl, ?_⟩⟩
            refine iteF ⟨_, e3, _, hd1, .inl ⟨_, _, true, rfl, .ty _, S.kEV, true, rfl, ?_⟩⟩
            refine iteF ⟨_, e3, _, hd1, .inl ⟨_, _, true, rfl, .own _, S.kEE, true, rfl, ?_⟩⟩
            refine iteT ⟨_, e3, rfl, _, _, hd1, rfl, (show 2 ≤ sizeLine by decide), fun r nr => ?_⟩
            exact q' r _ (s1.trans (same_upd nr)) (s1.free nr) upd_same))), ?_⟩
    refine ⟨_, rfl, b, rfl, ?_⟩
    have enN : ∀ (σ : L2.St) dd H', σ.length = 4 → (∀ t H2, Same H H2 → H t = none → H2 t = some (.tup [.str "number", y]) → Q (.ref t) H2) → Same H H' → H' dd = some (.xd [("number", y)]) → wTup K [.ref cB, .ref cL, .ref cF] 3 (tSuiteR CN CE) { nx := fun _ H' => Q .non H', rt := Q } (.ref CN) (some dd) σ H' := fun σ dd H' hσ q s1 hd => ⟨S.mN, fun a na => ⟨dd, rfl, List.getElem?_set_self (by rw [hσ]; decide), .inl ⟨y, rfl, hd, fun r H2 s2 nr er => q r H2 (s1.trans s2) (s1.free nr) er⟩⟩⟩
    have enE : ∀ (σ : L2.St) dd H', σ.length = 4 → (∀ t H2, Same H H2 → H t = none → H2 t = some (.tup [.str "door", .non]) → Q (.ref t) H2) → Same H H' → H' dd = some (.xd [("part", .non)]) → wTup K [.ref cB, .ref cL, .ref cF] 3 (tSuiteR CN CE) { nx := fun _ H' => Q .non H', rt := Q } (.ref CE) (some dd) σ H' := fun σ dd H' hσ q s1 hd => ⟨S.mE, fun a na => ⟨dd, rfl, List.getElem?_set_self (by rw [hσ]; decide), .inr ⟨.non, rfl, hd, fun r H2 s2 nr er => q r H2 (s1.trans s2) (s1.free nr) er⟩⟩⟩
    have key : ∀ (σ : L2.St), σ.length = 4 → spServed K CD CE CN [x, y] H (fun v H1 => ([.str "told", v] : List V).length ≤ sizeLine ∧ ∀ p, H1 p = none → Q (.ref p) (upd H1 p (.tup [.str "told", v]))) (fun c d H' => wTup K [.ref cB, .ref cL, .ref cF] 3 (tSuiteR CN CE) { nx := fun _ H' => Q .non H', rt := Q } c d σ H') := fun σ hσ => by
      refine ⟨x, y, rfl, ?_⟩
      rcases k with ⟨a, nm, r, g, n, rfl, hd, hr1, hg1, rfl, n1, n2, q⟩ | ⟨hn, q⟩ | ⟨a, nm, r, g, rfl, hd, hb, q⟩
      · exact .inl ⟨a, nm, r, g, n, rfl, hd, hr1, hg1, rfl, n1, n2, fun H1 s1 => ⟨(by show 2 ≤ sizeLine; decide), fun t nt => q t _ (s1.trans (same_upd nt)) (s1.free nt) upd_same⟩⟩
      · exact .inr (.inl ⟨hn, fun dd H' s1 hd => enE σ dd H' hσ q s1 hd⟩)
      · exact .inr (.inr ⟨a, nm, r, g, rfl, hd, hb, fun dd H' s1 hd => enN σ dd H' hσ q s1 hd⟩)
    cases b with
    | true => exact iteT ⟨_, rfl, _, rfl, rfl, key _ rfl⟩
    | false => exact iteF ⟨_, rfl, _, rfl, key _ rfl⟩
end
end Du

set_option Elab.async false
set_option linter.all false
set_option maxRecDepth 100000
namespace Du
open PySem L2
/-- a thing of any kind, that is shown as t -/
inductive Tg (K : PySem.W.Frag) (CT CD : Addr) (H : Hp) : V → Str → Prop
  | non : Tg K CT CD H .non "None"
  | bl (b : Bool) : Tg K CT CD H (.bl b) (if b then ("True" : Str) else ("False" : Str))
  | int (i : Int) : i.natAbs.log2 < 1920 → Tg K CT CD H (.int i) (toString i)
  | str (z : Str) : Tg K CT CD H (.str z) (reprText z)
  | emp {a : Addr} : H a = some (.dK []) → Tg K CT CD H (.ref a) "{}"
  | dat {a : Addr} {d : PyData} : (∀ H', Kp H H' → Dp K H' (.ref a) d) → d.showable = true → d.hasDict = false → d.depth ≤ 60 → Tg K CT CD H (.ref a) d.shown
  | task {a h : Addr} {v : TaskV} : TaskAt K CT H a v h → v.name.length ≤ 1000 → Tg K CT CD H (.ref a) (inText "Task(" v.name)
  | door {a : Addr} {n : Str} {r g : Int} : DoorAt CD H a n r g → n.length ≤ 1000 → Tg K CT CD H (.ref a) (inText "Door(" n)
theorem Kt.of_kp {H H' : Hp} (s : Kp H H') : Kt H H' := fun a o e n => s a o e ⟨fun _ _ _ z => n _ z, fun ys z => absurd z (n ys)⟩
section
variable {P : Program} {w : World} {K : PySem.W.Frag} {mg : Str → Option Value} {base : Heap} {CT CD : Addr} {H H' : Hp} {x : V} {t : Str}
theorem Tg.kp (h : Tg K CT CD H x t) (s : Kp H H') : Tg K CT CD H' x t := by
  cases h with
  | non => exact .non
  | bl b => exact .bl b
  | int i h => exact .int i h
  | str z => exact .str z
  | emp h => exact .emp (s _ _ h .dK)
  | dat h a b c => exact .dat (fun H2 s2 => h H2 (s.trans s2)) a b c
  | task h n => exact .task (h.kt (.of_kp s)) n
  | door h n => exact .door (h.imp fun dx e => s _ _ e .ins) n
/-- how own things are shown -/
structure OwnS (P : Program) (w : World) (K : PySem.W.Frag) (mg : Str → Option Value) (base : Heap) (CT CD : Addr) : Prop where
  rT : OwnR P w K mg base 3 CT (spTRepr K CT)
  rD : OwnR P w K mg base 3 CD (spDRepr CD)
theorem two_len (a b : Str) : (tupleText [a, b]).length = a.length + b.length + 4 := by
  unfold tupleText
  rw [strLen_append, strLen_append]
  show 1 + (a ++ ", " ++ b).length + 1 = _
  rw [strLen_append, strLen_append]
  have : ((", " : String) : Str).length = 2 := rfl
  omega
theorem big_line : 20000 ≤ sizeLine := by decide
theorem int_log {i : Int} {k : Nat} (h : i.natAbs < 2 ^ k) (hk : k ≤ 1920 := by decide) : i.natAbs.log2 < 1920 := by
  by_cases h0 : i.natAbs = 0
  · rw [h0]
    decide
  · exact Nat.lt_of_lt_of_le ((Nat.log2_lt h0).mpr h) hk
theorem int_len {i : Int} (h : i.natAbs.log2 < 1920) : (Str.ofString (toString i)).length ≤ 2000 := Nat.le_trans (PyProof.Rows.int_text_len_1921 h) (by decide)
/-- (word, x) as it is shown -/
theorem Tg.pair {wd : Str} (hw : (reprText wd).length ≤ 100) (S : OwnS P w K mg base CT CD) (h : Tg K CT CD H x t) (hl : t.length ≤ 10000) {r : Addr} (s : Kp H H') (nr : H r = none) (er : H' r = some (.tup [.str wd, x])) : Sh P w K mg base 4 H' (.ref r) (tupleText [reprText wd, t]) := by
  have hz : (tupleText [reprText wd, t]).length ≤ sizeLine := by
    rw [two_len]
    exact Nat.le_trans (show _ ≤ 20000 by omega) big_line
  have hs : It P w K mg base 4 H' (.str wd) (reprText wd) := .str _ (Nat.le_trans hw (Nat.le_trans (by decide) big_line))
  have tup : It P w K mg base 4 H' x t → x ≠ .ref r → Sh P w K mg base 4 H' (.ref r) (tupleText [reprText wd, t]) := fun i n => .tup er (.cons hs (.cons i .nil)) (fun v hv => by
    simp only [List.mem_cons, List.not_mem_nil, or_false] at hv
    rcases hv with rfl | rfl
    · exact fun z => nomatch z
    · exact n) hz
  have ne : ∀ {a : Addr} {o : HO}, H a = some o → V.ref a ≠ V.ref r := fun e z => by
    cases z
    rw [nr] at e
    cases e
  cases h with
  | non => exact tup .non (fun z => nomatch z)
  | bl b => exact tup (.bl b) (fun z => nomatch z)
  | int i h => exact tup (.int i h) (fun z => nomatch z)
  | str z => exact tup (.str z (Nat.le_trans hl (Nat.le_trans (by decide) big_line))) (fun z => nomatch z)
  | emp h => exact tup (.emp (s _ _ h .dK)) (ne h)
  | dat h a b c =>
    rename_i d
    have e : (PyData.tuple [.str wd, d]).shown = tupleText [reprText wd, d.shown] := by simp [PyData.shown, PyData.shownAll]
    rw [← e]
    refine .dat (.tup (SqT.of er) (.cons (.str _) (.cons (h H' s) .nil))) ?_ ?_ ?_ (by rw [e]; exact hz)
    · simp [PyData.showable, PyData.showableAll, a]
    · simp [PyData.hasDict, PyData.hasDictAll, b]
    · simp only [PyData.depth, PyData.depthAll]
      omega
  | task h n =>
    obtain ⟨⟨dx, e⟩, _⟩ := id h
    exact tup (.own S.rT (by decide) (s _ _ e .ins) fun H2 s2 Q q => ⟨_, _, _, rfl, h.kt (.of_kp (s.trans (.of_same s2))), n, q H2 (Same.refl _)⟩) (ne e)
  | door h n =>
    obtain ⟨dx, e⟩ := id h
    exact tup (.own S.rD (by decide) (s _ _ e .ins) fun H2 s2 Q q => ⟨_, _, _, _, rfl, ⟨dx, s2 _ _ (s _ _ e .ins)⟩, n, q H2 (Same.refl _)⟩) (ne e)
/-- (i, j) as it is shown -/
theorem ints_sh {i j : Int} {r : Addr} (hi : i.natAbs.log2 < 1920) (hj : j.natAbs.log2 < 1920) (er : H r = some (.tup [.int i, .int j])) : Sh P w K mg base 4 H (.ref r) (tupleText [toString i, toString j]) := by
  refine .tup er (.cons (.int i hi) (.cons (.int j hj) .nil)) (fun v hv => by
    simp only [List.mem_cons, List.not_mem_nil, or_false] at hv
    rcases hv with rfl | rfl <;> exact fun z => nomatch z) ?_
  rw [two_len]
  have := int_len hi
  have := int_len hj
  exact Nat.le_trans (show _ ≤ 20000 by omega) big_line
/-- (word, (i, j)) as it is shown -/
theorem many_sh {wd : Str} (hw : (reprText wd).length ≤ 100) {i j : Int} {r r2 : Addr} (hi : i.natAbs.log2 < 1920) (hj : j.natAbs.log2 < 1920) (er : H r = some (.tup [.str wd, .ref r2])) (er2 : H r2 = some (.tup [.int i, .int j])) : Sh P w K mg base 4 H (.ref r) (tupleText [reprText wd, tupleText [toString i, toString j]]) := by
  have e : (PyData.tuple [.str wd, .tuple [.int i, .int j]]).shown = tupleText [reprText wd, tupleText [toString i, toString j]] := by simp [PyData.shown, PyData.shownAll]
  rw [← e]
  refine .dat (.tup (SqT.of er) (.cons (.str _) (.cons (.tup (SqT.of er2) (.cons (.int _) (.cons (.int _) .nil))) .nil))) ?_ ?_ ?_ ?_
  · simp [PyData.showable, PyData.showableAll, hi, hj]
  · simp [PyData.hasDict, PyData.hasDictAll]
  · simp only [PyData.depth, PyData.depthAll]
    omega
  · rw [e, two_len, two_len]
    have := int_len hi
    have := int_len hj
    exact Nat.le_trans (show _ ≤ 20000 by omega) big_line
theorem fix_lst {xs : List V} (h3 : xs.length ≠ 3) (h5 : xs.length ≠ 5) : Fix (.lst xs) := ⟨fun i j k z => by
  cases z
  exact h3 rfl, fun ys z => by
  cases z
  exact h5⟩
end
end Du

set_option Elab.async false
set_option linter.all false
set_option maxRecDepth 100000
namespace Du
open PySem L2
abbrev sRefR : Stmt := topS 38
theorem at_some {xs : List V} {r : Int} (h0 : 0 ≤ r) (h1 : r < (xs.length : Int)) : ∃ v, atI xs r = some v ∧ v ∈ xs := by
  have hl : r.toNat < xs.length := by omega
  exact ⟨xs[r.toNat], at_of (j := r.toNat) (by omega) (List.getElem?_eq_getElem hl), List.getElem_mem hl⟩
/-- things of these kinds are no doors -/
structure OddK (K : PySem.W.Frag) (CT CD : Addr) : Prop where
  n : PySem.W.kitOne K (.type "NoneType") (.ref CD) = some false
  i : PySem.W.kitOne K (.type "int") (.ref CD) = some false
  b : PySem.W.kitOne K (.type "bool") (.ref CD) = some false
  s : PySem.W.kitOne K (.type "str") (.ref CD) = some false
  t : PySem.W.kitOne K (.type "tuple") (.ref CD) = some false
  l : PySem.W.kitOne K (.type "list") (.ref CD) = some false
  d : PySem.W.kitOne K (.type "dict") (.ref CD) = some false
  c : PySem.W.kitOne K (.ref CT) (.ref CD) = some false
  di : PySem.W.kitOne K (.ref CD) (.type "int") = some false
  db : PySem.W.kitOne K (.ref CD) (.type "bool") = some false
section
variable {P : Program} {w : World} {K : PySem.W.Frag} {mg : Str → Option Value} {base : Heap} {CT CD : Addr} {H H' : Hp} {a : Addr} {x : V}
theorem ob_tup {xs : List V} (e : H a = some (.tup xs)) : Ty2 K H (.ref a) (.type "tuple") := .inr ⟨a, _, rfl, e, .tup, fun _ e => .base (.tup e)⟩
theorem ob_dict {ks : List (Key × V)} (e : H a = some (.dK ks)) : Ty2 K H (.ref a) (.type "dict") := .inr ⟨a, _, rfl, e, .dK, fun _ e => .base (.dK e)⟩
theorem ob_lst {xs : List V} (e : H a = some (.lst xs)) (n : Fix (.lst xs)) : Ty2 K H (.ref a) (.type "list") := .inr ⟨a, _, rfl, e, n, fun _ e => .base (.lst e)⟩
theorem ob_door (T : DoorC K mg CD) {n : Str} {r g : Int} (h : DoorAt CD H a n r g) : Ty2 K H (.ref a) (.ref CD) := by
  obtain ⟨dx, e⟩ := h
  exact .inr ⟨a, _, rfl, e, .ins, fun _ e => .base (.ins e T.cl T.kc T.kg T.kt T.km)⟩
theorem ob_task (T : TaskC K mg CT) {v : TaskV} {h : Addr} (d : TaskAt K CT H a v h) : Ty2 K H (.ref a) (.ref CT) := by
  obtain ⟨⟨dx, e⟩, _⟩ := d
  exact .inr ⟨a, _, rfl, e, .ins, fun _ e => .base (.ins e T.cl T.kc T.kg T.kt T.km)⟩
theorem NoDr.kp (h : NoDr K H CD x) (s : Kp H H') : NoDr K H' CD x := h.imp fun t q => ⟨q.1.kp s, q.2⟩
/-- what is no number of a stretch, with its text -/
def OddS (K : PySem.W.Frag) (CT CD : Addr) (H : Hp) (x : V) : Prop := BadL K H x 1 1000000 ∧ ∃ t, Tg K CT CD H x t ∧ t.length ≤ 10000
theorem OddS.kp (h : OddS K CT CD H x) (s : Kp H H') : OddS K CT CD H' x := ⟨h.1.kp s, h.2.imp fun t q => ⟨q.1.kp s, q.2⟩⟩
/-- repr(x) -/
def rRepr (P : Program) (w : World) (K : PySem.W.Frag) (mg : Str → Option Value) (base : Heap) : List V → Hp → VK → Prop := fun xs H Q => ∃ (v : V) (t : Str), xs = [v] ∧ Sh P w K mg base 4 H v t ∧ ∀ H', Same H H' → Q (.str t) H'
abbrev nRef : List Str := ["_law_purse_here", "_law_portal", "_law_doors", "_law_sizes_here", "_law_odd", "_law_thing", "_law_dues", "_law_by_name", "_law_one", "_law_size", "_law_term"]
theorem scRef : FnScope nRef ["_law_purse_here", "_law_portal"] (defScope sRefR) := ⟨rfl, rfl, rfl, by decide +kernel, rfl, by decide +kernel, by decide +kernel⟩
theorem wipe_setR {s : L2.St} {i : Nat} {v : Option V} : ∀ {vs : List Nat}, i ∈ vs → wipe (s.set i v) vs = wipe s vs
  | v' :: vs, h => by
    unfold wipe
    by_cases e : i ∈ vs
    · rw [wipe_setR e]
    · have e' : i = v' := by
        rcases List.mem_cons.mp h with h | h
        · exact h
        · exact absurd h e
      subst e'
      have : ∀ (vs : List Nat) (t : L2.St), i ∉ vs → wipe (t.set i v) vs = (wipe t vs).set i v := by
        intro vs
        induction vs with
        | nil => intro t _; rfl
        | cons a l ih =>
          intro t hn
          unfold wipe
          rw [ih t (fun z => hn (List.mem_cons_of_mem _ z)), List.set_comm]
          exact fun z => hn (by rw [z]; exact List.mem_cons_self)
      rw [this vs s e, List.set_set]
theorem wipe_atR {s : L2.St} {i : Nat} : ∀ {vs : List Nat}, i ∈ vs → (L2.wipe s vs).set i none = L2.wipe s vs
  | v :: r, h => by
    unfold L2.wipe
    by_cases e : i = v
    · rw [e, List.set_set]
    · rw [List.set_comm _ _ (fun z => e z.symm), wipe_atR ((List.mem_cons.mp h).resolve_left e)]
theorem wipe_idemR {s : L2.St} {vs : List Nat} : ∀ {ws : List Nat}, (∀ i ∈ ws, i ∈ vs) → L2.wipe (L2.wipe s vs) ws = L2.wipe s vs
  | [], _ => rfl
  | w :: ws, h => by
    show (L2.wipe (L2.wipe s vs) ws).set w none = _
    rw [wipe_idemR fun i hi => h i (List.mem_cons_of_mem _ hi), wipe_atR (h w List.mem_cons_self)]
theorem teR_ok {σ : L2.St} {Q : V → Hp → Prop} {y t0 z : V} {TT : Str}
    (e8 : σ[8]? = some (some x)) (e9 : σ[9]? = some (some y)) (e7 : σ[7]? = some (some z)) (e10 : σ[10]? = some (some t0))
    (h : ∀ R : V → Hp → Prop, (∀ t H9, Same H H9 → Sh P w K mg base 4 H9 (.ref t) TT → R (.ref t) H9) → spToldR K CD [x, y, z] H R E0)
    (s0 : ∀ H', Same H H' → Sh P w K mg base 4 H' t0 TT) (q : ∀ H', Same H H' → Q (.bl true) H') :
    tOp rEq (tCB (rRepr P w K mg base) (tCons (tCall (spToldR K CD) [] E0 (tCons (tVar 8) (tCons (tVar 9) (tCons (tVar 7) tNil)))) tNil)) (tCB (rRepr P w K mg base) (tCons (tVar 10) tNil)) σ H Q := by
  refine ⟨x, e8, y, e9, z, e7, ?_⟩
  show spToldR K CD [x, y, z] H (fun x1 H1 => rRepr P w K mg base [x1] H1 fun x2 H2 => tVar 10 σ H2 fun x3 H3 => rRepr P w K mg base [x3] H3 fun x4 H4 => rEq x2 x4 H4 Q) E0
  refine h _ fun t H9 s9 sh => ⟨_, _, rfl, sh, fun H10 s10 => ?_⟩
  refine ⟨t0, e10, _, _, rfl, s0 _ (s9.trans s10), fun H11 s11 => ⟨rfl, ?_⟩⟩
  rw [decide_eq_true rfl]
  exact q _ ((s9.trans s10).trans s11)
theorem told2 {y : V} {b : Bool} {R : V → Hp → Prop} {E : XK} (h : NoDr K H CD x) (q : ∀ t H', Same H H' → H t = none → H' t = some (.tup [.str "door", .non]) → R (.ref t) H') : spToldR K CD [x, y, .bl b] H R E := ⟨x, y, b, rfl, .inr (.inl ⟨h, q⟩)⟩
theorem told3 {y : V} {b : Bool} {nm : Str} {r g : Int} {R : V → Hp → Prop} {E : XK} (hd : DoorAt CD H a nm r g) (h : BadL K H y 1 1000000) (q : ∀ t H', Same H H' → H t = none → H' t = some (.tup [.str "number", y]) → R (.ref t) H') : spToldR K CD [.ref a, y, .bl b] H R E := ⟨.ref a, y, b, rfl, .inr (.inr ⟨a, nm, r, g, rfl, hd, h, q⟩)⟩
def spRef (K : PySem.W.Frag) (CD : Addr) : Sp := fun vs H Q _ => ∃ (p a : Addr) (nm : Str) (r g : Int), vs = [.ref p, .ref a] ∧ Purse H p ∧ DoorAt CD H a nm r g ∧ isNm nm = true ∧ (1 ≤ r ∧ r ≤ 99) ∧ (1 ≤ g ∧ g ≤ 600) ∧ ∀ H', Step p H H' → Q (.bl true) H'
set_option maxHeartbeats 0 in

theorem ok_ref {f e0 fi : Addr} {fd fdi : FuncData} (F : Fun K "_law_refused_right" "_law_refused_right" sRefR f fd) (T : TaskC K mg CT) (TD : DoorC K mg CD) (O : OddK K CT CD) (S : OwnS P w K mg base CT CD)
    (FI : FunI K e0 fi fdi) (MJ : Mk K CT fi) (GJ : FnOk P w K mg base CX0 6 fi fdi pInit (spInit K CT)) (hE : ∀ H : Hp, SqT K H e0 []) (mall : mg "all" = none) (mR : mg "repr" = none)
    (DT : Dn P w K mg base 3 "_law_take" ["_law_purse_here", "_law_many"] spTake) (DTo : Dn P w K mg base 5 "_law_told" pToldR (spToldR K CD)) :
    FnG P w K mg base 8 f fd ["_law_purse_here", "_law_portal"] (spRef K CD) := by
  obtain ⟨ds, vd, k0⟩ := kb0 FI
  refine fnG_of F scRef (fun vs H Q h => ?_) (fun cdv A outer s H vs Q hg hr h => ?_)
  · obtain ⟨p, a, nm, r, g, rfl, _⟩ := h
    rfl
  · obtain ⟨p, a, nm, r, g, rfl, hp, hd, hnm, hr1, hg1, q⟩ := h
    have hr3 : Room 3 _ := hr.mono (by decide)
    have hr5 : Room 5 _ := hr.mono (by decide)
    have hr7 : Room 7 _ := hr.mono (by decide)
    have hrR : Room (4 + 2) _ := hr.mono (by decide)
    refine ⟨_, (pss_cons (ps_set (i := 2) scRef.nd rfl (.inl rfl) (pe_lst (pa_cons pe_non (pa_cons pe_int (pa_cons pe_bl (pa_cons pe_str (pa_cons (pe_tup pa_nil) (pa_cons (pe_lst pa_nil) (pa_cons pe_dnewK (pa_cons (pe_make MJ GJ hr7 (by rfl) T.mg k0 vd pass0 (pa_cons pe_str (pa_cons pe_int (pa_cons pe_int pa_nil)))) (pa_cons (pe_tup (pa_cons (pv 1) pa_nil)) (pa_cons (pe_lst (pa_cons (pv 1) pa_nil)) (pa_cons (pe_tup (pa_cons (pe_lst pa_nil) pa_nil)) (pa_cons (pe_tup (pa_cons pe_str (pa_cons pe_str (pa_cons pe_int (pa_cons pe_int pa_nil))))) pa_nil)))))))))))))) (pss_cons (ps_set (i := 3) scRef.nd rfl (.inl rfl) (pe_lst (pa_cons pe_int (pa_cons (pe_op op_sub pe_int pe_int) (pa_cons (pe_op op_add (pe_op op_pow pe_int pe_int) pe_int) (pa_cons (pe_op op_pow pe_int pe_int) (pa_cons pe_bl (pa_cons pe_bl (pa_cons pe_non (pa_cons pe_str (pa_cons pe_str (pa_cons (pe_tup pa_nil) (pa_cons (pe_tup (pa_cons pe_int pa_nil)) (pa_cons (pe_lst pa_nil) (pa_cons pe_dnewK (pa_cons (pe_tup (pa_cons (pe_lst pa_nil) pa_nil)) (pa_cons (pv 1) pa_nil))))))))))))))))) (pss_cons (ps_par (i := 4) (j := 5) rfl scRef.nd rfl rfl (by decide) rfl rfl (pa_cons (pe_ix ix_list (pv 2) (pcall DT hr3 (by rfl) (pa_cons (pv 0) (pa_cons pe_int pa_nil))) (fun _ _ => rfl)) (pa_cons (pe_ix ix_list (pv 3) (pcall DT hr3 (by rfl) (pa_cons (pv 0) (pa_cons pe_int pa_nil))) (fun _ _ => rfl)) pa_nil)) (by rfl)) (pss_cons (ps_set (i := 6) scRef.nd rfl (.inl rfl) (pe_lst (pa_cons (pe_tup (pa_cons (pv 4) (pa_cons (pv 5) (pa_cons (pe_tup (pa_cons pe_str (pa_cons pe_non pa_nil))) pa_nil)))) (pa_cons (pe_tup (pa_cons (pv 4) (pa_cons pe_int (pa_cons (pe_tup (pa_cons pe_str (pa_cons pe_non pa_nil))) pa_nil)))) (pa_cons (pe_tup (pa_cons (pv 1) (pa_cons (pv 5) (pa_cons (pe_tup (pa_cons pe_str (pa_cons (pv 5) pa_nil))) pa_nil)))) pa_nil))))) (pss_cons (ps_set (i := 7) scRef.nd rfl (.inr rfl) (pe_cmpR op_eq (pcall DT hr3 (by rfl) (pa_cons (pv 0) (pa_cons pe_int pa_nil))) pe_int (by rfl))) (pss_one (ps_ret (pe_callB (cr_all rfl) (by rfl) mall (by decide +kernel) (pa_cons (pe_lc (own := [("_law_one", 8), ("_law_size", 9), ("_law_term", 10)]) (g := gTup K 3 (gCons (gName 8) (gCons (gName 9) (gCons (gName 10) gNil)))) (tt := tYes) (te := tOp rEq (tCB (rRepr P w K mg base) (tCons (tCall (spToldR K CD) [] E0 (tCons (tVar 8) (tCons (tVar 9) (tCons (tVar 7) tNil)))) tNil)) (tCB (rRepr P w K mg base) (tCons (tVar 10) tNil))) rfl scRef.nd (pi_list (pv 6)) (blkOk_by (N := nRef) (sc := defScope sRefR) (by decide +kernel))
        (fun _ _ _ _ _ => pg_tup rfl (pgs_cons (pg_name (i := 8) scRef.nd rfl (Or.inl rfl)) (pgs_cons (pg_name (i := 9) scRef.nd rfl (Or.inl rfl)) (pgs_cons (pg_name (i := 10) scRef.nd rfl (Or.inl rfl)) pgs_nil)))) (fun _ _ _ _ _ => pts_nil)
        (fun _ _ _ _ _ => pe_cmpR op_eq (pe_callB (id := "repr") (r := rRepr P w K mg base) (call_repr (n := 4) hg hrR) (by rfl) mR (by decide +kernel) (pa_cons (pcall DTo hr5 (by rfl) (pa_cons (pv 8) (pa_cons (pv 9) (pa_cons (pv 7) pa_nil)))) pa_nil)) (pe_callB (id := "repr") (r := rRepr P w K mg base) (call_repr (n := 4) hg hrR) (by rfl) mR (by decide +kernel) (pa_cons (pv 10) pa_nil)) (by rfl))) pa_nil))))))))), ?_⟩
    -- the doors
    refine ⟨Nat.zero_le _, fun d4 n4 => ⟨Nat.zero_le _, fun d5 n5 d6 n6 => ?_⟩⟩
    refine taskSp (v := ⟨"a", 1, 1, 1, []⟩) (od := none) (h := e0) ⟨[], hE _, rfl, fun i u g e1 _ => by simp at e1⟩ ⟨by decide +kernel, by decide, by decide, by decide, by decide +kernel, fun h hh => nomatch hh⟩ rfl fun x H7 s7 nx T7 => ?_
    refine ⟨_, rfl, (by show 1 ≤ sizeLine; decide), fun d8 n8 => ⟨_, rfl, (by show 1 ≤ sizeLine; decide), fun d9 n9 => ⟨Nat.zero_le _, fun d10 n10 => ⟨(by show 1 ≤ sizeLine; decide), fun d11 n11 => ⟨(by show 4 ≤ sizeLine; decide), fun d12 n12 => ⟨(by show 12 ≤ sizeLine; decide), fun D nD => ?_⟩⟩⟩⟩⟩⟩
    have wD := same_upd (o := .lst [.non, .int 0, .bl true, .str "a", .ref d4, .ref d5, .ref d6, .ref x, .ref d8, .ref d9, .ref d11, .ref d12]) nD
    have w12 := (same_upd (o := .tup [.str "door", .str "a", .int 1, .int 1]) n12).trans wD
    have w11 := (same_upd (o := .tup [.ref d10]) n11).trans w12
    have w10 := (same_upd (o := .lst []) n10).trans w11
    have w9 := (same_upd (o := .lst [.ref a]) n9).trans w10
    have w8 := (same_upd (o := .tup [.ref a]) n8).trans w9
    have w7 := s7.trans w8
    have w6 := (same_upd (o := .dK []) n6).trans w7
    have w5 := (same_upd (o := .lst []) n5).trans w6
    have w4 := (same_upd (o := .tup []) n4).trans w5
    have i4 := ob_tup (K := K) (w5 _ _ upd_same)
    have i5 := ob_lst (K := K) (w6 _ _ upd_same) (fix_lst (by decide) (by decide))
    have i6 := ob_dict (K := K) (w7 _ _ upd_same)
    have i7 := ob_task T (T7.same w8)
    have i8 := ob_tup (K := K) (w9 _ _ upd_same)
    have i9 := ob_lst (K := K) (w10 _ _ upd_same) (fix_lst (by show 1 ≠ 3; decide) (by show 1 ≠ 5; decide))
    have i11 := ob_tup (K := K) (w12 _ _ upd_same)
    have i12 := ob_tup (K := K) (wD _ _ upd_same)
    have eD := upd_same (H := upd (upd (upd (upd (upd H7 d8 (.tup [.ref a])) d9 (.lst [.ref a])) d10 (.lst [])) d11 (.tup [.ref d10])) d12 (.tup [.str "door", .str "a", .int 1, .int 1])) (a := D) (o := .lst [.non, .int 0, .bl true, .str "a", .ref d4, .ref d5, .ref d6, .ref x, .ref d8, .ref d9, .ref d11, .ref d12])
    have tD := Step.of_same hp w4
    generalize upd (upd (upd (upd (upd (upd H7 d8 (.tup [.ref a])) d9 (.lst [.ref a])) d10 (.lst [])) d11 (.tup [.ref d10])) d12 (.tup [.str "door", .str "a", .int 1, .int 1])) D (.lst [.non, .int 0, .bl true, .str "a", .ref d4, .ref d5, .ref d6, .ref x, .ref d8, .ref d9, .ref d11, .ref d12]) = H1 at *
    have aD : ∀ y ∈ [V.non, .int 0, .bl true, .str "a", .ref d4, .ref d5, .ref d6, .ref x, .ref d8, .ref d9, .ref d11, .ref d12], NoDr K H1 CD y := fun y hy => by
      simp only [List.mem_cons, List.not_mem_nil, or_false] at hy
      rcases hy with rfl | rfl | rfl | rfl | rfl | rfl | rfl | rfl | rfl | rfl | rfl | rfl
      · exact ⟨_, .inl fun _ => .base .non, O.n⟩
      · exact ⟨_, .inl fun _ => .base (.int _), O.i⟩
      · exact ⟨_, .inl fun _ => .base (.bl _), O.b⟩
      · exact ⟨_, .inl fun _ => .base (.str _), O.s⟩
      · exact ⟨_, i4, O.t⟩
      · exact ⟨_, i5, O.l⟩
      · exact ⟨_, i6, O.d⟩
      · exact ⟨_, i7, O.c⟩
      · exact ⟨_, i8, O.t⟩
      · exact ⟨_, i9, O.l⟩
      · exact ⟨_, i11, O.t⟩
      · exact ⟨_, i12, O.t⟩
    generalize hds : [V.non, .int 0, .bl true, .str "a", .ref d4, .ref d5, .ref d6, .ref x, .ref d8, .ref d9, .ref d11, .ref d12] = dl at eD aD
    have ldl : dl.length = 12 := by rw [← hds]; rfl
    have hDp : D ≠ p := by
      rintro rfl
      obtain ⟨i, j, l, ep, _⟩ := id hp
      have := (w4 _ _ ep).symm.trans eD
      cases this
      cases ldl
    have hd1 : DoorAt CD H1 a nm r g := hd.imp fun dx e => w4 _ _ e
    -- the sizes
    refine ⟨_, _, rfl, rfl, _, _, rfl, rfl, ⟨by decide, by decide, by decide⟩, _, _, rfl, rfl, _, _, rfl, rfl, ⟨by decide, by decide, by decide⟩, Nat.zero_le _, fun e9 m9 => ⟨(by show 1 ≤ sizeLine; decide), fun e10 m10 => ⟨Nat.zero_le _, fun e11 m11 e12 m12 => ⟨Nat.zero_le _, fun e13 m13 => ⟨(by show 1 ≤ sizeLine; decide), fun e14 m14 => ⟨_, rfl, (by show 15 ≤ sizeLine; decide), fun Z nZ => ?_⟩⟩⟩⟩⟩⟩
    have vZ := same_upd (o := .lst [.int 0, .int (0 - 1), .int (10 ^ (6 : Int).toNat + 1), .int (10 ^ (30 : Int).toNat), .bl true, .bl false, .non, .str "1", .str "", .ref e9, .ref e10, .ref e11, .ref e12, .ref e14, .ref a]) nZ
    have v14 := (same_upd (o := .tup [.ref e13]) m14).trans vZ
    have v13 := (same_upd (o := .lst []) m13).trans v14
    have v12 := (same_upd (o := .dK []) m12).trans v13
    have v11 := (same_upd (o := .lst []) m11).trans v12
    have v10 := (same_upd (o := .tup [.int 1]) m10).trans v11
    have v9 := (same_upd (o := .tup []) m9).trans v10
    have f9 := v10 _ _ upd_same
    have f10 := v11 _ _ upd_same
    have f11 := v12 _ _ upd_same
    have f12 := v13 _ _ upd_same
    have f13 := v14 _ _ upd_same
    have f14 := vZ _ _ upd_same
    have eZ := upd_same (H := upd (upd (upd (upd (upd (upd H1 e9 (.tup [])) e10 (.tup [.int 1])) e11 (.lst [])) e12 (.dK [])) e13 (.lst [])) e14 (.tup [.ref e13])) (a := Z) (o := .lst [.int 0, .int (0 - 1), .int (10 ^ (6 : Int).toNat + 1), .int (10 ^ (30 : Int).toNat), .bl true, .bl false, .non, .str "1", .str "", .ref e9, .ref e10, .ref e11, .ref e12, .ref e14, .ref a])
    generalize upd (upd (upd (upd (upd (upd (upd H1 e9 (.tup [])) e10 (.tup [.int 1])) e11 (.lst [])) e12 (.dK [])) e13 (.lst [])) e14 (.tup [.ref e13])) Z (.lst [.int 0, .int (0 - 1), .int (10 ^ (6 : Int).toNat + 1), .int (10 ^ (30 : Int).toNat), .bl true, .bl false, .non, .str "1", .str "", .ref e9, .ref e10, .ref e11, .ref e12, .ref e14, .ref a]) = H2 at *
    have hd2 : DoorAt CD H2 a nm r g := hd1.imp fun dx e => v9 _ _ e
    have oi : ∀ i : Int, i.natAbs < 2 ^ 200 → (decide (1 ≤ i) && decide (i ≤ 1000000)) = false → OddS K CT CD H2 (.int i) := fun i h1 h2 => ⟨.inl ⟨i, rfl, h2⟩, _, .int i (int_log h1), Nat.le_trans (int_len (int_log h1)) (by decide)⟩
    have aZ : ∀ y ∈ [V.int 0, .int (0 - 1), .int (10 ^ (6 : Int).toNat + 1), .int (10 ^ (30 : Int).toNat), .bl true, .bl false, .non, .str "1", .str "", .ref e9, .ref e10, .ref e11, .ref e12, .ref e14, .ref a], OddS K CT CD H2 y := fun y hy => by
      simp only [List.mem_cons, List.not_mem_nil, or_false] at hy
      rcases hy with rfl | rfl | rfl | rfl | rfl | rfl | rfl | rfl | rfl | rfl | rfl | rfl | rfl | rfl | rfl
      · exact oi _ (by decide +kernel) (by decide +kernel)
      · exact oi _ (by decide +kernel) (by decide +kernel)
      · exact oi _ (by decide +kernel) (by decide +kernel)
      · exact oi _ (by decide +kernel) (by decide +kernel)
      · exact ⟨.inr (.inl ⟨_, rfl⟩), _, .bl _, by decide +kernel⟩
      · exact ⟨.inr (.inl ⟨_, rfl⟩), _, .bl _, by decide +kernel⟩
      · exact ⟨.inr (.inr ⟨_, .inl fun _ => .base .non, kit_ty (by decide +kernel)⟩), _, .non, by decide +kernel⟩
      · exact ⟨.inr (.inr ⟨_, .inl fun _ => .base (.str _), kit_ty (by decide +kernel)⟩), _, .str _, by decide +kernel⟩
      · exact ⟨.inr (.inr ⟨_, .inl fun _ => .base (.str _), kit_ty (by decide +kernel)⟩), _, .str _, by decide +kernel⟩
      · exact ⟨.inr (.inr ⟨_, ob_tup f9, kit_ty (by decide +kernel)⟩), _, .dat (d := .tuple []) (fun H' k => .tup (SqT.of (k _ _ f9 .tup)) .nil) rfl rfl (by decide), by decide +kernel⟩
      · exact ⟨.inr (.inr ⟨_, ob_tup f10, kit_ty (by decide +kernel)⟩), _, .dat (d := .tuple [.int 1]) (fun H' k => .tup (SqT.of (k _ _ f10 .tup)) (.cons (.int _) .nil)) (by decide +kernel) rfl (by decide), by decide +kernel⟩
      · exact ⟨.inr (.inr ⟨_, ob_lst f11 (fix_lst (by decide) (by decide)), kit_ty (by decide +kernel)⟩), _, .dat (d := .list []) (fun H' k => .lst (SqL.of (k _ _ f11 (fix_lst (by decide) (by decide)))) .nil) rfl rfl (by decide), by decide +kernel⟩
      · exact ⟨.inr (.inr ⟨_, ob_dict f12, kit_ty (by decide +kernel)⟩), _, .emp f12, by decide +kernel⟩
      · exact ⟨.inr (.inr ⟨_, ob_tup f14, kit_ty (by decide +kernel)⟩), _, .dat (d := .tuple [.list []]) (fun H' k => .tup (SqT.of (k _ _ f14 .tup)) (.cons (.lst (SqL.of (k _ _ f13 (fix_lst (by decide) (by decide)))) .nil) .nil)) rfl rfl (by decide), by decide +kernel⟩
      · refine ⟨.inr (.inr ⟨_, ob_door TD hd2, O.di⟩), _, .door hd2 (Nat.le_trans (nm_len hnm).2 (by decide)), ?_⟩
        have h8 := (nm_len hnm).2
        unfold inText
        rw [strLen_append, strLen_append, strLen_append]
        have e1 : Str.empty.length ≤ 10 := by decide +kernel
        have e2 : ((")" : Str)).length ≤ 10 := by decide +kernel
        have e3 : (("Door(" : Str)).length ≤ 10 := by decide +kernel
        omega
    generalize hzs : [V.int 0, .int (0 - 1), .int (10 ^ (6 : Int).toNat + 1), .int (10 ^ (30 : Int).toNat), .bl true, .bl false, .non, .str "1", .str "", .ref e9, .ref e10, .ref e11, .ref e12, .ref e14, .ref a] = zl at eZ aZ
    have lzl : zl.length = 15 := by rw [← hzs]; rfl
    have tZ := Step.of_same tD.purse v9
    have hZp : Z ≠ p := by
      rintro rfl
      obtain ⟨i, j, l, ep, _⟩ := id tD.purse
      have := (v9 _ _ ep).symm.trans eZ
      cases this
      cases lzl
    have eD2 := v9 _ _ eD
    -- one of each
    refine ⟨_, rfl, _, rfl, p, 12, rfl, by decide, by decide, tZ.purse, fun k1 H3 k10 k11 s3 => ?_⟩
    obtain ⟨od, hod, hodm⟩ := at_some (xs := dl) k10 (by rw [ldl]; exact k11)
    refine ⟨D, dl, _, _, rfl, rfl, SqL.of (s3.keep _ _ hDp eD2), hod, ?_⟩
    refine ⟨_, rfl, _, rfl, p, 15, rfl, by decide, by decide, s3.purse, fun k2 H4 k20 k21 s4 => ?_⟩
    obtain ⟨th, hth, hthm⟩ := at_some (xs := zl) k20 (by rw [lzl]; exact k21)
    refine ⟨Z, zl, _, _, rfl, rfl, SqL.of (s4.keep _ _ hZp (s3.keep _ _ hZp eZ)), hth, _, _, rfl, ?_⟩
    have u4 := (tZ.trans s3).trans s4
    have hod4 : NoDr K H4 CD od := (aD od hodm).kp (.of_step tD.purse u4)
    have hth4 : OddS K CT CD H4 th := (aZ th hthm).kp (.of_step tZ.purse (s3.trans s4))
    have hd4 : DoorAt CD H4 a nm r g := hd2.imp fun dx e => (Kp.of_step tZ.purse (s3.trans s4)) _ _ e .ins
    refine ⟨_, rfl, _, rfl, (by show 2 ≤ sizeLine; decide), fun t0 m0 => ⟨(by show 3 ≤ sizeLine; decide), fun q0 l0 => ⟨_, rfl, (by show 2 ≤ sizeLine; decide), fun t1 m1 => ⟨(by show 3 ≤ sizeLine; decide), fun q1 l1 => ⟨_, rfl, _, rfl, _, rfl, (by show 2 ≤ sizeLine; decide), fun t2 m2 => ⟨(by show 3 ≤ sizeLine; decide), fun q2 l2 => ⟨(by show 3 ≤ sizeLine; decide), fun L nL => ?_⟩⟩⟩⟩⟩⟩⟩
    have x7 := same_upd (o := .lst [.ref q0, .ref q1, .ref q2]) nL
    have x6 := (same_upd (o := .tup [.ref a, th, .ref t2]) l2).trans x7
    have x5 := (same_upd (o := .tup [.str "number", th]) m2).trans x6
    have x4 := (same_upd (o := .tup [od, .int 5, .ref t1]) l1).trans x5
    have x3 := (same_upd (o := .tup [.str "door", .non]) m1).trans x4
    have x2 := (same_upd (o := .tup [od, th, .ref t0]) l0).trans x3
    have x1 := (same_upd (o := .tup [.str "door", .non]) m0).trans x2
    have y0 := x2 _ _ (show (upd H4 t0 (.tup [.str "door", .non])) t0 = some (.tup [.str "door", .non]) from upd_same)
    have z0 := x3 _ _ upd_same
    have y1 := x4 _ _ upd_same
    have z1 := x5 _ _ upd_same
    have y2 := x6 _ _ upd_same
    have z2 := x7 _ _ upd_same
    have eL := upd_same (H := upd (upd (upd (upd (upd (upd H4 t0 (.tup [.str "door", .non])) q0 (.tup [od, th, .ref t0])) t1 (.tup [.str "door", .non])) q1 (.tup [od, .int 5, .ref t1])) t2 (.tup [.str "number", th])) q2 (.tup [.ref a, th, .ref t2])) (a := L) (o := .lst [.ref q0, .ref q1, .ref q2])
    have nt2 : H4 t2 = none := ((((same_upd m0).trans (same_upd l0)).trans (same_upd m1)).trans (same_upd l1)).free m2
    generalize upd (upd (upd (upd (upd (upd (upd H4 t0 (.tup [.str "door", .non])) q0 (.tup [od, th, .ref t0])) t1 (.tup [.str "door", .non])) q1 (.tup [od, .int 5, .ref t1])) t2 (.tup [.str "number", th])) q2 (.tup [.ref a, th, .ref t2])) L (.lst [.ref q0, .ref q1, .ref q2]) = H5 at x1 x2 x3 x4 x5 x6 x7 y0 z0 y1 z1 y2 z2 eL
    have u5 := u4.trans (Step.of_same u4.purse x1)
    refine ⟨_, rfl, p, 2, rfl, by decide, by decide, u5.purse, fun kb H6 b0 b1 s6 => ⟨rfl, ?_⟩⟩
    have k6 := Kp.of_step u5.purse s6
    have k46 : Kp H4 H6 := (Kp.of_same x1).trans k6
    have hLp : L ≠ p := by
      rintro rfl
      obtain ⟨i, j, l, ep, _⟩ := id u4.purse
      have h1 := (x1 _ _ ep).symm.trans eL
      cases h1
    have eL6 := s6.keep _ _ hLp eL
    have y06 := k6 _ _ y0 .tup
    have z06 := k6 _ _ z0 .tup
    have y16 := k6 _ _ y1 .tup
    have z16 := k6 _ _ z1 .tup
    have y26 := k6 _ _ y2 .tup
    have z26 := k6 _ _ z2 .tup
    have od6 := hod4.kp k46
    have d6' : DoorAt CD H6 a nm r g := hd4.imp fun dx e => k46 _ _ e .ins
    obtain ⟨hb4, tx, tx4, htl⟩ := id hth4
    have hb6 := hb4.kp k46
    have htx := tx4.kp k46
    obtain ⟨TT, shD⟩ : ∃ TT : Str, ∀ (H' : Hp) (t : Addr), H' t = some (.tup [.str "door", .non]) → Sh P w K mg base 4 H' (.ref t) TT := ⟨(PyData.tuple [.str "door", .none]).shown, fun H' t e => .dat (.tup (SqT.of e) (.cons (.str _) (.cons .non .nil))) (by decide +kernel) (by decide +kernel) (by decide +kernel) (by decide +kernel)⟩
    obtain ⟨T2, shP⟩ : ∃ T2 : Str, ∀ (H8 H9 : Hp) (t : Addr), Kp H4 H8 → Same H8 H9 → (H8 t = none ∨ (t = t2 ∧ True)) → H9 t = some (.tup [.str "number", th]) → Sh P w K mg base 4 H9 (.ref t) T2 := ⟨_, fun H8 H9 t k s n e => n.elim (fun nt => (tx4.kp k).pair (by decide +kernel) S htl (.of_same s) nt e) (fun z => by obtain ⟨rfl, _⟩ := z; exact tx4.pair (by decide +kernel) S htl (k.trans (.of_same s)) nt2 e)⟩
    refine ⟨_, rfl, L, rfl, ⟨_, SqL.of eL6⟩, fun DD nDD => lc_it (walk_list (K := K) (a := L) (xs := [.ref q0, .ref q1, .ref q2])) (fun i H' => Same H6 H' ∧ H' DD = some (.lst ((List.replicate i true).map V.bl))) ⟨same_upd nDD, upd_same⟩ (fun i H' _ z => SqL.of (z.1 _ _ eL6)) ?_ ?_⟩
    · rintro i y H1' H8 hi ⟨s8, eDD⟩ ⟨rfl, hy⟩
      have fin : ∀ H9, Same H8 H9 → ∃ acc, H9 DD = some (.lst acc) ∧ acc.length < sizeLine ∧ (Same H6 (upd H9 DD (.lst (acc ++ [.bl true]))) ∧ (upd H9 DD (.lst (acc ++ [.bl true]))) DD = some (.lst ((List.replicate (i + 1) true).map V.bl))) := fun H9 s9 => by
        refine ⟨_, s9 _ _ eDD, ?_, same_upd2 (s8.trans s9) nDD, ?_⟩
        · rw [List.length_map, List.length_replicate]
          exact Nat.lt_of_lt_of_le hi (by show 3 ≤ sizeLine; decide)
        · rw [upd_same, List.replicate_succ', List.map_append]
          rfl
      have hi3 : i < 3 := hi
      have hc : i = 0 ∨ i = 1 ∨ i = 2 := by omega
      rcases hc with rfl | rfl | rfl
      · cases hy
        refine ⟨q0, _, rfl, SqT.of (s8 _ _ z06), rfl, ?_⟩
        refine ⟨_, _, rfl, ?_⟩
        refine ⟨_, _, rfl, ?_⟩
        refine ⟨_, _, rfl, ?_⟩
        refine ⟨rfl, ?_⟩
        refine ⟨(wipe_setR (by decide)).trans ((wipe_setR (by decide)).trans ((wipe_setR (by decide)).trans (wipe_idemR fun i h => h))), ?_⟩
        refine (show ∀ (g : Bool → Hp → Prop) (h : Hp), g true h → tYes _ h g from fun _ _ z => z) _ _ ?_
        refine (if_pos (rfl : true = true)).mpr ?_
        refine teR_ok (P := P) (w := w) (mg := mg) (base := base) (x := od) (y := th) (z := .bl (decide (V.int kb = V.int 1))) (t0 := .ref t0) (TT := TT) (by rfl) (by rfl) (by rfl) (by rfl) (fun R r => told2 (od6.kp (.of_same s8)) fun t H9 s9 _ et => r t H9 s9 (shD H9 t et)) (fun H9 s9 => shD H9 t0 (s9 _ _ (s8 _ _ y06))) ?_
        exact fin
      · cases hy
        refine ⟨q1, _, rfl, SqT.of (s8 _ _ z16), rfl, ?_⟩
        refine ⟨_, _, rfl, ?_⟩
        refine ⟨_, _, rfl, ?_⟩
        refine ⟨_, _, rfl, ?_⟩
        refine ⟨rfl, ?_⟩
        refine ⟨(wipe_setR (by decide)).trans ((wipe_setR (by decide)).trans ((wipe_setR (by decide)).trans (wipe_idemR fun i h => h))), ?_⟩
        refine (show ∀ (g : Bool → Hp → Prop) (h : Hp), g true h → tYes _ h g from fun _ _ z => z) _ _ ?_
        refine (if_pos (rfl : true = true)).mpr ?_
        refine teR_ok (P := P) (w := w) (mg := mg) (base := base) (x := od) (y := .int 5) (z := .bl (decide (V.int kb = V.int 1))) (t0 := .ref t1) (TT := TT) (by rfl) (by rfl) (by rfl) (by rfl) (fun R r => told2 (od6.kp (.of_same s8)) fun t H9 s9 _ et => r t H9 s9 (shD H9 t et)) (fun H9 s9 => shD H9 t1 (s9 _ _ (s8 _ _ y16))) ?_
        exact fin
      · cases hy
        have hd8 : DoorAt CD H8 a nm r g := d6'.imp fun dx e => s8 _ _ e
        have hb8 := hb6.kp (.of_same s8)
        refine ⟨q2, _, rfl, SqT.of (s8 _ _ z26), rfl, ?_⟩
        refine ⟨_, _, rfl, ?_⟩
        refine ⟨_, _, rfl, ?_⟩
        refine ⟨_, _, rfl, ?_⟩
        refine ⟨rfl, ?_⟩
        refine ⟨(wipe_setR (by decide)).trans ((wipe_setR (by decide)).trans ((wipe_setR (by decide)).trans (wipe_idemR fun i h => h))), ?_⟩
        refine (show ∀ (g : Bool → Hp → Prop) (h : Hp), g true h → tYes _ h g from fun _ _ z => z) _ _ ?_
        refine (if_pos (rfl : true = true)).mpr ?_
        refine teR_ok (P := P) (w := w) (mg := mg) (base := base) (x := .ref a) (y := th) (z := .bl (decide (V.int kb = V.int 1))) (t0 := .ref t2) (TT := T2) (by rfl) (by rfl) (by rfl) (by rfl) (fun R r => told3 hd8 hb8 fun t H9 s9 nt et => r t H9 s9 (shP H8 H9 t (k46.trans (.of_same s8)) s9 (.inl nt) et)) (fun H9 s9 => shP H8 H9 t2 (k46.trans (.of_same s8)) s9 (.inr ⟨rfl, trivial⟩) (s9 _ _ (s8 _ _ y26))) ?_
        exact fin
    · rintro H8 ⟨s8, eDD⟩
      refine ⟨DD, _, rfl, SqL.of eDD, ?_⟩
      show Q (.bl ((List.replicate 3 true).all id)) H8
      exact q H8 (tD.trans ((u5.trans s6).trans (Step.of_same s6.purse s8)))
end
end Du

set_option Elab.async false
set_option linter.all false
set_option maxRecDepth 100000
set_option maxHeartbeats 4000000
namespace Du
open PySem L2
abbrev sLaw : Stmt := topS 39
theorem rf_bd {r g rest first : Int} (hr : 0 ≤ r) : ∀ t : Nat, first ≤ rf r g rest first t ∧ rf r g rest first t ≤ first + (t : Int) * r
  | 0 => by simp [rf]
  | t + 1 => by
    have h := rf_bd (rest := rest) (g := g) (first := first) hr t
    have e : ((t + 1 : Nat) : Int) * r = (t : Int) * r + r := by rw [Int.natCast_add, Int.add_mul]; simp
    rw [e, rf]
    omega
theorem srv_bd {r g n : Int} (hr : 1 ≤ r ∧ r ≤ 99) (hg : 1 ≤ g ∧ g ≤ 600) (h1 : 1 ≤ n) (h2 : n ≤ 1000000) : (srv r g n).natAbs < 2 ^ 100 := by
  unfold srv
  have h := rf_bd (rest := n - min r n) (g := g) (first := min r n) (r := r) (by omega) (n / g + 2).toNat
  have h3 : n / g ≤ n := Int.ediv_le_self _ (by omega)
  have h0 : 0 ≤ n / g := Int.ediv_nonneg (by omega) (by omega)
  have h4 : (((n / g + 2).toNat : Nat) : Int) ≤ 1000002 := by omega
  have h5 : (((n / g + 2).toNat : Nat) : Int) * r ≤ 1000002 * 99 := Int.mul_le_mul h4 hr.2 (by omega) (by decide)
  generalize rf r g (n - min r n) (min r n) (n / g + 2).toNat = y at h ⊢
  have h6 : y.natAbs ≤ 200000000 := by omega
  exact Nat.lt_of_le_of_lt h6 (by decide)
theorem srv_one {r g : Int} (hr : 1 ≤ r) (hg : 1 ≤ g) : srv r g 1 = 1 := by
  unfold srv
  have e : min r 1 = 1 := by omega
  rw [e]
  have h := rf_hi (r := r) (g := g) (rest := 1 - 1) (first := 1) (N := 0) (by omega) (by simp) (1 / g + 2).toNat
  rw [Nat.zero_add] at h
  rw [h]
  rfl
section
variable {P : Program} {w : World} {K : PySem.W.Frag} {mg : Str → Option Value} {base : Heap} {CT CD : Addr}
theorem stepSame {p : Addr} {H H1 H2 : Hp} (s0 : Same H H1) (s : Step p H1 H2) (np : H p = none) : Same H H2 := fun b o e => s.keep b o (ne_of_none e np) (s0 b o e)
/-- ('told', n) as it is shown -/
theorem told_sh (S : OwnS P w K mg base CT CD) {r g n : Int} {H H' : Hp} {t : Addr} (hr : 1 ≤ r ∧ r ≤ 99) (hg : 1 ≤ g ∧ g ≤ 600) (h1 : 1 ≤ n) (h2 : n ≤ 1000000) (s : Same H H') (nt : H t = none) (et : H' t = some (.tup [.str "told", .int (srv r g n)])) : Sh P w K mg base 4 H' (.ref t) (tupleText [reprText "told", Str.ofString (toString (srv r g n))]) :=
  Tg.pair (by decide +kernel) S (.int _ (int_log (srv_bd hr hg h1 h2))) (Nat.le_trans (int_len (int_log (srv_bd hr hg h1 h2))) (by decide)) (.of_same s) nt et
theorem told1 {x : Addr} {b : Bool} {nm : Str} {r g n : Int} {H : Hp} {R : V → Hp → Prop} {E : XK} (hd : DoorAt CD H x nm r g) (hr : 1 ≤ r ∧ r ≤ 99) (hg : 1 ≤ g ∧ g ≤ 600) (h1 : 1 ≤ n) (h2 : n ≤ 1000000) (q : ∀ t H', Same H H' → H t = none → H' t = some (.tup [.str "told", .int (srv r g n)]) → R (.ref t) H') : spToldR K CD [.ref x, .int n, .bl b] H R E := ⟨.ref x, .int n, b, rfl, .inl ⟨x, nm, r, g, n, rfl, hd, hr, hg, rfl, h1, h2, q⟩⟩
abbrev nLaw : List Str := ["_law_script", "_law_k", "_law_purse_here", "_law_room", "_law_gap", "_law_portal", "_law_size", "_law_term"]
theorem scLaw : FnScope nLaw ["_law_script"] (defScope sLaw) := ⟨rfl, rfl, rfl, by decide +kernel, rfl, by decide +kernel, by decide +kernel⟩
def spLaw (K : PySem.W.Frag) : Sp := fun vs H Q _ => ∃ (a : Addr) (ns : List Int), vs = [.ref a] ∧ SqL K H a (ns.map V.int) ∧ ∀ H', Q (.bl true) H'
theorem ok_law {f fi : Addr} {fd fdi : FuncData} (F : Fun K "law" "law" sLaw f fd) (TD : DoorC K mg CD) (S : OwnS P w K mg base CT CD)
    (MI : Mk K CD fi) (GI : FnOk P w K mg base CX0 4 fi fdi pD (spDInit CD)) (kd : Binds K fdi pD [])
    (mr : mg "range" = none) (mx : mg "max" = none) (mn : mg "min" = none) (ml : mg "len" = none) (mR : mg "repr" = none)
    (DC : Dn P w K mg base 3 "_law_cell" ["_law_script", "_law_k"] (spCellL K)) (DP : Dn P w K mg base 3 "_law_purse" ["_law_cell_here"] spPurse) (DT : Dn P w K mg base 3 "_law_take" ["_law_purse_here", "_law_many"] spTake)
    (DD : Dn P w K mg base 4 "_law_drawn" ["_law_purse_here"] spDrawnR) (DS : Dn P w K mg base 4 "_law_sizes" ["_law_purse_here", "_law_room", "_law_gap"] spSizes) (DB : Dn P w K mg base 3 "_law_by_rule" ["_law_room", "_law_gap", "_law_size"] spByRule)
    (DPl : Dn P w K mg base 3 "_law_by_placings" ["_law_room", "_law_gap", "_law_size"] spPlace) (DTo : Dn P w K mg base 5 "_law_told" pToldR (spToldR K CD)) (DRf : DnG P w K mg base 8 "_law_refused_right" ["_law_purse_here", "_law_portal"] (spRef K CD)) :
    LawOk P w K mg base f fd "_law_script" (spLaw K) := by
  obtain ⟨oc, od, kV, doc, pm, an, cdv, ct, osl, rfl, lk, hcd⟩ := F.ex
  intro s H u v Q env0 hb rv hsp
  obtain ⟨a, ns, hv, hS, q⟩ := hsp
  have hr11 : Room 12 callerA := ⟨rfl, by decide, by decide⟩
  refine fn_at (k := 11) (ps := ["_law_script"]) (us := [u]) (vs := [v]) lk hcd scLaw hr11 env0 hb (.cons rv .nil) rfl ?_
  cases hv
  have hr : Room 11 (callerA.deeper (PyProof.Rows.envOfC "law" (defScope sLaw) s.heap.objs.size f cdv)) := hr11.deeper _
  have hg : (callerA.deeper (PyProof.Rows.envOfC "law" (defScope sLaw) s.heap.objs.size f cdv)).guards = some [] := rfl
  have hr3 : Room 3 _ := hr.mono (by decide)
  have hr4 : Room 4 _ := hr.mono (by decide)
  have hr5 : Room 5 _ := hr.mono (by decide)
  have hr45 : Room (4 + 1) _ := hr.mono (by decide)
  have hr8 : Room 8 _ := hr.mono (by decide)
  have hrR : Room (4 + 2) _ := hr.mono (by decide)
  refine ⟨_, (pss_cons (ps_for PassesOwn.never rfl (pi_range1 (by rfl) mr (pa_cons (pe_callB (call_max2 rfl) (by rfl) mx (by decide +kernel) (pa_cons pe_int (pa_cons (pe_callB (call_min2 rfl) (by rfl) mn (by decide +kernel) (pa_cons pe_int (pa_cons (pe_callB call_len_seq (by rfl) ml (by decide +kernel) (pa_cons (pv 0) pa_nil)) pa_nil))) pa_nil))) pa_nil)) (pg_name (i := 1) scLaw.nd rfl (.inl rfl))
      (pss_cons (ps_set (i := 2) scLaw.nd rfl (.inl rfl) (pcall DP hr3 (by rfl) (pa_cons (pcall DC hr3 (by rfl) (pa_cons (pv 0) (pa_cons (pv 1) pa_nil))) pa_nil))) (pss_cons (ps_asg (pcall DD hr4 (by rfl) (pa_cons (pv 2) pa_nil)) (pg_tup rfl (pgs_cons (pg_name (i := 3) scLaw.nd rfl (.inl rfl)) (pgs_cons (pg_name (i := 4) scLaw.nd rfl (.inl rfl)) pgs_nil)))) (pss_cons (ps_set (i := 5) scLaw.nd rfl (.inl rfl) (pe_make MI GI hr45 (by rfl) TD.mg kd .nil pass0 (pa_cons pe_str (pa_cons (pv 3) (pa_cons (pv 4) pa_nil))))) (pss_cons (ps_for PassesOwn.never rfl (pi_list (pcall DS hr4 (by rfl) (pa_cons (pv 2) (pa_cons (pv 3) (pa_cons (pv 4) pa_nil))))) (pg_name (i := 6) scLaw.nd rfl (.inl rfl))
          (pss_cons (ps_set (i := 7) scLaw.nd rfl (.inl rfl) (pcall DB hr3 (by rfl) (pa_cons (pv 3) (pa_cons (pv 4) (pa_cons (pv 6) pa_nil))))) (pss_cons (ps_if (pt_cmpR op_ne (pe_callB (id := "repr") (r := rRepr P w K mg base) (call_repr (n := 4) hg hrR) (by rfl) mR (by decide +kernel) (pa_cons (pcall DTo hr5 (by rfl) (pa_cons (pv 5) (pa_cons (pv 6) (pa_cons (pe_cmpR op_eq (pcall DT hr3 (by rfl) (pa_cons (pv 2) (pa_cons pe_int pa_nil))) pe_int (by rfl)) pa_nil)))) pa_nil)) (pe_callB (id := "repr") (r := rRepr P w K mg base) (call_repr (n := 4) hg hrR) (by rfl) mR (by decide +kernel) (pa_cons (pe_tup (pa_cons pe_str (pa_cons (pv 7) pa_nil))) pa_nil)) (nomark _)) pss_never pss_nil) (pss_one (ps_if (PW.pt (pw_and (pt_chain op_le op_lt (pv 3) (pv 4) pe_int) (pw_and (pt_cmpR op_lt (pv 6) pe_int (nomark _)) (pw_and1 (pt_cmpR op_ne (pcall DPl hr3 (by rfl) (pa_cons (pv 3) (pa_cons (pv 4) (pa_cons (pv 6) pa_nil)))) (pv 7) (nomark _)))))) pss_never pss_nil))))) (pss_one (ps_if (PW.pt (pw_or (pt_not (pt_val (pcallG DRf hg hr8 (by rfl) (pa_cons (pv 2) (pa_cons (pv 5) pa_nil))))) (pw_or1 (pt_cmpR op_ne (pe_callB (id := "repr") (r := rRepr P w K mg base) (call_repr (n := 4) hg hrR) (by rfl) mR (by decide +kernel) (pa_cons (pcall DTo hr5 (by rfl) (pa_cons (pv 5) (pa_cons pe_int (pa_cons pe_bl pa_nil)))) pa_nil)) (pe_callB (id := "repr") (r := rRepr P w K mg base) (call_repr (n := 4) hg hrR) (by rfl) mR (by decide +kernel) (pa_cons (pe_tup (pa_cons pe_str (pa_cons pe_int pa_nil))) pa_nil)) (nomark _))))) pss_never pss_nil))))))) (pss_one (ps_ret pe_bl))), ?_⟩
  obtain ⟨MX, hM, h3, h12⟩ : ∃ M : Int, (if (if (((ns.map V.int).length : Nat) : Int) < 10 then (((ns.map V.int).length : Nat) : Int) else 10) > 3 then (if (((ns.map V.int).length : Nat) : Int) < 10 then (((ns.map V.int).length : Nat) : Int) else 10) else 3) = M ∧ 3 ≤ M ∧ M ≤ 10 :=
    ⟨_, rfl, by repeat (first | omega | split), by repeat (first | omega | split)⟩
  refine ⟨_, rfl, a, _, rfl, .inl hS, 10, _, rfl, 3, _, rfl, ?_⟩
  rw [hM]
  refine ⟨MX, rfl, by omega, by omega, for_range (lo := 0) (n := MX.toNat) (fun i σ H' => ∃ v1 v2 v3 v4 v5 v6 v7 : Option V, σ = [some (.ref a), v1, v2, v3, v4, v5, v6, v7] ∧ Same H H') ⟨none, none, none, none, none, none, none, rfl, Same.refl _⟩ ?_ ?_⟩
  · rintro i σ H2 hi ⟨v1, v2, v3, v4, v5, v6, v7, rfl, s2⟩
    have hi64 : i < 64 := by omega
    refine ⟨_, rfl, _, rfl, a, ns, i, by rw [Int.zero_add]; rfl, hS.ext s2, hi64, fun n H3 s3 => ⟨n, rfl, fun p H4 s4 np hp => ?_⟩⟩
    have s24 : Same H H4 := (s2.trans s3).trans s4
    have npH : H p = none := (s2.trans s3).free np
    -- the door
    refine ⟨_, rfl, p, rfl, hp, fun t r g H5 t5 nt et hr1 hg1 => ⟨t, _, rfl, SqT.of et, rfl, _, _, rfl, _, _, rfl, rfl, ?_⟩⟩
    refine ⟨_, rfl, _, rfl, doorSp (n := "a") (by decide +kernel) hr1 hg1 fun d H6 s6 nd hd => ?_⟩
    have t6 := t5.trans (Step.of_same t5.purse s6)
    -- the sizes
    refine ⟨_, rfl, _, rfl, _, rfl, p, r, g, rfl, t6.purse, hr1, hg1, fun L ys H7 t7 nL eL hys => ?_⟩
    have hLp : L ≠ p := t6.purse.ne nL
    have dk : ∀ H', Step p H6 H' → DoorAt CD H' d "a" r g := fun H' s => hd.imp fun dx e => (Kp.of_step t6.purse s) _ _ e .ins
    refine ⟨L, rfl, ⟨_, SqL.of eL⟩, for_list (K := K) (a := L) (xs := ys) (fun j σ H' => ∃ v6 v7 : Option V, σ = [some (.ref a), some (.int (0 + (i : Int))), some (.ref p), some (.int r), some (.int g), some (.ref d), v6, v7] ∧ Step p H7 H') ⟨_, _, rfl, Step.of_same t7.purse (Same.refl _)⟩ (fun j σ H' _ z => by obtain ⟨_, _, _, z⟩ := z; exact SqL.of (z.keep _ _ hLp eL)) ?_ ?_⟩
    · rintro j y σ H8 hy ⟨v6, v7, rfl, t8⟩
      obtain ⟨z, rfl, z1, z2⟩ := hys y (List.mem_of_getElem? hy)
      refine ⟨_, rfl, _, rfl, _, rfl, r, g, z, rfl, hr1, hg1, z1, z2, fun H9 s9 => ?_⟩
      have t9 := t8.trans (Step.of_same t8.purse s9)
      refine ⟨_, rfl, _, rfl, _, rfl, p, 2, rfl, by decide, by decide, t9.purse, fun kb H10 b0 b1 t10 => ⟨rfl, ?_⟩⟩
      have t10' := t9.trans t10
      refine ⟨_, _, _, rfl, .inl ⟨d, "a", r, g, z, rfl, dk _ (t7.trans t10'), hr1, hg1, rfl, z1, z2, fun q1 H11 s11 nq1 eq1 => ⟨_, _, rfl, told_sh S hr1 hg1 z1 z2 s11 nq1 eq1, fun H12 s12 => ?_⟩⟩⟩
      refine ⟨_, rfl, (by show 2 ≤ sizeLine; decide), fun q2 nq2 => ⟨_, _, rfl, told_sh S hr1 hg1 z1 z2 (same_upd nq2) nq2 upd_same, fun H13 s13 => ⟨rfl, _, rfl, ?_⟩⟩⟩
      rw [decide_eq_true rfl]
      refine iteF ?_
      have t13 := t10'.trans (Step.of_same t10'.purse (((s11.trans s12).trans (same_upd nq2)).trans s13))
      have fin : ∀ H', Step p H13 H' → Step p H7 H' := fun H' s => t13.trans s
      have f0 := fin H13 (Step.of_same t13.purse (Same.refl _))
      refine ⟨_, rfl, _, rfl, _, _, rfl, rfl, _, rfl, ite2 (fun c1 => ?_) (fun _ => ?_)⟩
      · refine ⟨_, _, rfl, rfl, _, rfl, ite2 (fun c2 => ?_) (fun _ => ?_)⟩
        · refine ⟨_, rfl, _, _, rfl, rfl, _, rfl, ite2 (fun c3 => ?_) (fun _ => ?_)⟩
          · have k1 : r ≤ g := of_decide_eq_true c1
            have k2 : g < 12 := of_decide_eq_true c2
            have k3 : z < 80 := of_decide_eq_true c3
            have er : ((r.toNat : Nat) : Int) = r := Int.toNat_of_nonneg (by omega)
            have eg : ((g.toNat : Nat) : Int) = g := Int.toNat_of_nonneg (by omega)
            have ez : ((z.toNat : Nat) : Int) = z := Int.toNat_of_nonneg (by omega)
            refine ⟨_, rfl, _, rfl, _, rfl, r.toNat, g.toNat, z.toNat, by rw [er, eg, ez]; rfl, by omega, by omega, by omega, by omega, by omega, fun H14 s14 => ⟨_, rfl, rfl, _, rfl, ?_⟩⟩
            rw [er, eg, ez, decide_eq_true rfl]
            exact iteF ⟨_, _, rfl, fin H14 (Step.of_same t13.purse s14)⟩
          · exact iteF ⟨_, _, rfl, f0⟩
        · exact iteF ⟨_, _, rfl, f0⟩
      · exact ⟨_, rfl, iteF (iteF ⟨_, _, rfl, f0⟩)⟩
    · rintro σ H8 ⟨v6, v7, rfl, t8⟩
      have t68 := t7.trans t8
      refine ⟨_, rfl, _, rfl, p, d, "a", r, g, rfl, t68.purse, dk _ t68, by decide +kernel, hr1, hg1, fun H9 t9 => ⟨_, rfl, iteF ?_⟩⟩
      have t69 := t68.trans t9
      refine ⟨_, rfl, _, _, _, rfl, .inl ⟨d, "a", r, g, 1, rfl, dk _ t69, hr1, hg1, rfl, by decide, by decide, fun q1 H11 s11 nq1 eq1 => ⟨_, _, rfl, told_sh S hr1 hg1 (by decide) (by decide) s11 nq1 eq1, fun H12 s12 => ?_⟩⟩⟩
      have e1 := srv_one hr1.1 hg1.1
      refine ⟨(by show 2 ≤ sizeLine; decide), fun q2 nq2 => ⟨_, _, rfl, told_sh S hr1 hg1 (n := 1) (by decide) (by decide) (same_upd nq2) nq2 (by rw [e1]; exact upd_same), fun H13 s13 => ⟨rfl, _, rfl, ?_⟩⟩⟩
      rw [decide_eq_true rfl]
      refine iteF ?_
      have t13 := t69.trans (Step.of_same t69.purse (((s11.trans s12).trans (same_upd nq2)).trans s13))
      exact ⟨_, _, _, _, _, _, _, rfl, stepSame s24 (t6.trans t13) npH⟩
  · rintro σ H2 ⟨v1, v2, v3, v4, v5, v6, v7, rfl, s2⟩
    exact q H2
end
end Du

set_option Elab.async false
set_option linter.all false
set_option maxRecDepth 100000
namespace Du
open PySem L2
theorem exm_of {K : PySem.W.Frag} {C c : Addr} {b : Bool} (h1 : PySem.W.subIn K (.ref c) (.type "BaseException") = some true) (h2 : PySem.W.hasDictIn K c = true) (h3 : PySem.W.typeIn K (.ref c) = some (.type "type")) (h4 : PySem.W.subIn K (.ref C) (.ref c) = some b) : PySem.W.exmOne K (.ref C) (.ref c) = some b := by
  obtain ⟨cd, hc, _⟩ := PySem.W.any_some h2
  unfold PySem.W.exmOne PySem.W.kitCls
  rw [h1]
  show (if ((PySem.W.clsIn K c).isSome && PySem.W.typeIn K (.ref c) == some (.type "type")) = true then PySem.W.subIn K (.ref C) (.ref c) else none) = some b
  rw [hc, h3, h4]
  rfl
theorem exm2 {K : PySem.W.Frag} {t c1 c2 : Value} {b1 b2 : Bool} (h1 : PySem.W.exmOne K t c1 = some b1) (h2 : PySem.W.exmOne K t c2 = some b2) : PySem.W.exmAny K t [c1, c2] = some (b1 || b2) := by
  unfold PySem.W.exmAny PySem.W.exmAny PySem.W.exmAny
  rw [h1, h2]
  cases b1 <;> cases b2 <;> rfl
theorem exm3 {K : PySem.W.Frag} {t c1 c2 c3 : Value} {b1 b2 b3 : Bool} (h1 : PySem.W.exmOne K t c1 = some b1) (h2 : PySem.W.exmOne K t c2 = some b2) (h3 : PySem.W.exmOne K t c3 = some b3) : PySem.W.exmAny K t [c1, c2, c3] = some (b1 || b2 || b3) := by
  unfold PySem.W.exmAny PySem.W.exmAny PySem.W.exmAny PySem.W.exmAny
  rw [h1, h2, h3]
  cases b1 <;> cases b2 <;> cases b3 <;> rfl
set_option maxHeartbeats 4000000 in
theorem all_mk {l : PySem.W.OpenLaw} {w : World} {K : PySem.W.Frag} {h : Heap} {mg : Str → Option Value} {fa : Addr} (X : K.In h) (G : h.Ns mainGlobals mg) (hfa : mg "law" = some (.ref fa))
    {fNu fWh fNm fHd fAh fHs fWT fWD fMu fSv fCe fPu fTa fDr fBy fPl fSz fTo fRf fLa CT fIn DI e0 CD fId fRt fRd CN fx_ x_N x_cda x_cc CE fy_ y_N y_cda y_cc c1 c2 gB gL gF : Addr}
    {odNu anNu odWh anWh odNm anNm odHd anHd odAh anAh odHs anHs odWT anWT odWD anWD odMu anMu odSv anSv odCe anCe odPu anPu odTa anTa odDr anDr odBy anBy odPl anPl odSz anSz odTo anTo odRf anRf odLa anLa odIn anIn od0 odId anId odRt anRt odRd anRd x_dd x_od x_an_ x_cdd x_cld y_dd y_od y_an_ y_cdd y_cld : Option Addr}
    {slNu slWh slNm slHd slAh slHs slWT slWD slMu slSv slCe slPu slTa slDr slBy slPl slSz slTo slRf slLa slIn sl0 slId slRt slRd x_osl x_ccs x_csl y_osl y_ccs y_csl : Array (Option Value)}
    {ocNu dcNu pmNu cdNu ctNu kVNu ocWh dcWh pmWh cdWh ctWh kVWh ocNm dcNm pmNm cdNm ctNm kVNm ocHd dcHd pmHd cdHd ctHd kVHd ocAh dcAh pmAh cdAh ctAh kVAh ocHs dcHs pmHs cdHs ctHs kVHs ocWT dcWT pmWT cdWT ctWT kVWT ocWD dcWD pmWD cdWD ctWD kVWD ocMu dcMu pmMu cdMu ctMu kVMu ocSv dcSv pmSv cdSv ctSv kVSv ocCe dcCe pmCe cdCe ctCe kVCe ocPu dcPu pmPu cdPu ctPu kVPu ocTa dcTa pmTa cdTa ctTa kVTa ocDr dcDr pmDr cdDr ctDr kVDr ocBy dcBy pmBy cdBy ctBy kVBy ocPl dcPl pmPl cdPl ctPl kVPl ocSz dcSz pmSz cdSz ctSz kVSz ocTo dcTo pmTo cdTo ctTo kVTo ocRf dcRf pmRf cdRf ctRf kVRf ocLa dcLa pmLa cdLa ctLa kVLa ocIn dcIn pmIn cdIn ctIn ocId dcId pmId cdId ctId kVId ocRt dcRt pmRt cdRt ctRt kVRt ocRd dcRd pmRd cdRd ctRd kVRd x_oc x_doc x_pm x_ct x_ccl x_cl2 y_oc y_doc y_pm y_ct y_ccl y_cl2 : Value}
    {n0 : Nat}
    {w1 w2 w3 w4 w5 w7 x_tf y_tf : Tok}
    {x_nm x_q x_file y_nm y_q y_file : Str}
    {x_bs x_bm x_sub y_bs y_bm y_sub : List Value}
    {x_sn y_sn : List Str}
    {x_ab y_ab : Bool}
    {x_col y_col : Option Bool}
    {x_k0 x_k1 x_k2 x_k3 x_k5 y_k0 y_k1 y_k2 y_k3 y_k5 : Option Value}
    {x_vs_ y_vs_ : Array Value}
    (aNu : PySem.W.nsIn K mainGlobals "is_number" = some (some (.ref fNu)))
    (lNu : K.lookup fNu = some ⟨ocNu, odNu, .func (PySem.W.fnOf "is_number" "is_number" (defArgs sNumber) (defBody sNumber) (defScope sNumber) .none kVNu dcNu pmNu anNu cdNu ctNu), slNu⟩)
    (cNu : PySem.W.codeIn K cdNu "is_number" = true)
    (kNu : PySem.W.keepIn K (.ref fNu) = true)
    (aWh : PySem.W.nsIn K mainGlobals "is_whole" = some (some (.ref fWh)))
    (lWh : K.lookup fWh = some ⟨ocWh, odWh, .func (PySem.W.fnOf "is_whole" "is_whole" (defArgs sWhole) (defBody sWhole) (defScope sWhole) .none kVWh dcWh pmWh anWh cdWh ctWh), slWh⟩)
    (cWh : PySem.W.codeIn K cdWh "is_whole" = true)
    (kWh : PySem.W.keepIn K (.ref fWh) = true)
    (aNm : PySem.W.nsIn K mainGlobals "is_name" = some (some (.ref fNm)))
    (lNm : K.lookup fNm = some ⟨ocNm, odNm, .func (PySem.W.fnOf "is_name" "is_name" (defArgs sName) (defBody sName) (defScope sName) .none kVNm dcNm pmNm anNm cdNm ctNm), slNm⟩)
    (cNm : PySem.W.codeIn K cdNm "is_name" = true)
    (kNm : PySem.W.keepIn K (.ref fNm) = true)
    (aHd : PySem.W.nsIn K mainGlobals "is_hold" = some (some (.ref fHd)))
    (lHd : K.lookup fHd = some ⟨ocHd, odHd, .func (PySem.W.fnOf "is_hold" "is_hold" (defArgs sHold) (defBody sHold) (defScope sHold) .none kVHd dcHd pmHd anHd cdHd ctHd), slHd⟩)
    (cHd : PySem.W.codeIn K cdHd "is_hold" = true)
    (kHd : PySem.W.keepIn K (.ref fHd) = true)
    (aAh : PySem.W.nsIn K mainGlobals "goes_ahead" = some (some (.ref fAh)))
    (lAh : K.lookup fAh = some ⟨ocAh, odAh, .func (PySem.W.fnOf "goes_ahead" "goes_ahead" (defArgs sAhead) (defBody sAhead) (defScope sAhead) .none kVAh dcAh pmAh anAh cdAh ctAh), slAh⟩)
    (cAh : PySem.W.codeIn K cdAh "goes_ahead" = true)
    (kAh : PySem.W.keepIn K (.ref fAh) = true)
    (aHs : PySem.W.nsIn K mainGlobals "are_holds" = some (some (.ref fHs)))
    (lHs : K.lookup fHs = some ⟨ocHs, odHs, .func (PySem.W.fnOf "are_holds" "are_holds" (defArgs sHolds) (defBody sHolds) (defScope sHolds) .none kVHs dcHs pmHs anHs cdHs ctHs), slHs⟩)
    (cHs : PySem.W.codeIn K cdHs "are_holds" = true)
    (kHs : PySem.W.keepIn K (.ref fHs) = true)
    (aWT : PySem.W.nsIn K mainGlobals "wrong_in_task" = some (some (.ref fWT)))
    (lWT : K.lookup fWT = some ⟨ocWT, odWT, .func (PySem.W.fnOf "wrong_in_task" "wrong_in_task" (defArgs sWrongT) (defBody sWrongT) (defScope sWrongT) .none kVWT dcWT pmWT anWT cdWT ctWT), slWT⟩)
    (cWT : PySem.W.codeIn K cdWT "wrong_in_task" = true)
    (kWT : PySem.W.keepIn K (.ref fWT) = true)
    (aWD : PySem.W.nsIn K mainGlobals "wrong_in_door" = some (some (.ref fWD)))
    (lWD : K.lookup fWD = some ⟨ocWD, odWD, .func (PySem.W.fnOf "wrong_in_door" "wrong_in_door" (defArgs sWrongD) (defBody sWrongD) (defScope sWrongD) .none kVWD dcWD pmWD anWD cdWD ctWD), slWD⟩)
    (cWD : PySem.W.codeIn K cdWD "wrong_in_door" = true)
    (kWD : PySem.W.keepIn K (.ref fWD) = true)
    (aMu : PySem.W.nsIn K mainGlobals "must_be_whole" = some (some (.ref fMu)))
    (lMu : K.lookup fMu = some ⟨ocMu, odMu, .func (PySem.W.fnOf "must_be_whole" "must_be_whole" (defArgs sMust) (defBody sMust) (defScope sMust) .none kVMu dcMu pmMu anMu cdMu ctMu), slMu⟩)
    (cMu : PySem.W.codeIn K cdMu "must_be_whole" = true)
    (kMu : PySem.W.keepIn K (.ref fMu) = true)
    (aSv : PySem.W.nsIn K mainGlobals "most_served" = some (some (.ref fSv)))
    (lSv : K.lookup fSv = some ⟨ocSv, odSv, .func (PySem.W.fnOf "most_served" "most_served" (defArgs sServed) (defBody sServed) (defScope sServed) .none kVSv dcSv pmSv anSv cdSv ctSv), slSv⟩)
    (cSv : PySem.W.codeIn K cdSv "most_served" = true)
    (kSv : PySem.W.keepIn K (.ref fSv) = true)
    (aCe : PySem.W.nsIn K mainGlobals "_law_cell" = some (some (.ref fCe)))
    (lCe : K.lookup fCe = some ⟨ocCe, odCe, .func (PySem.W.fnOf "_law_cell" "_law_cell" (defArgs sCell) (defBody sCell) (defScope sCell) .none kVCe dcCe pmCe anCe cdCe ctCe), slCe⟩)
    (cCe : PySem.W.codeIn K cdCe "_law_cell" = true)
    (kCe : PySem.W.keepIn K (.ref fCe) = true)
    (aPu : PySem.W.nsIn K mainGlobals "_law_purse" = some (some (.ref fPu)))
    (lPu : K.lookup fPu = some ⟨ocPu, odPu, .func (PySem.W.fnOf "_law_purse" "_law_purse" (defArgs sPurse) (defBody sPurse) (defScope sPurse) .none kVPu dcPu pmPu anPu cdPu ctPu), slPu⟩)
    (cPu : PySem.W.codeIn K cdPu "_law_purse" = true)
    (kPu : PySem.W.keepIn K (.ref fPu) = true)
    (aTa : PySem.W.nsIn K mainGlobals "_law_take" = some (some (.ref fTa)))
    (lTa : K.lookup fTa = some ⟨ocTa, odTa, .func (PySem.W.fnOf "_law_take" "_law_take" (defArgs sTake) (defBody sTake) (defScope sTake) .none kVTa dcTa pmTa anTa cdTa ctTa), slTa⟩)
    (cTa : PySem.W.codeIn K cdTa "_law_take" = true)
    (kTa : PySem.W.keepIn K (.ref fTa) = true)
    (aDr : PySem.W.nsIn K mainGlobals "_law_drawn" = some (some (.ref fDr)))
    (lDr : K.lookup fDr = some ⟨ocDr, odDr, .func (PySem.W.fnOf "_law_drawn" "_law_drawn" (defArgs sDrawnR) (defBody sDrawnR) (defScope sDrawnR) .none kVDr dcDr pmDr anDr cdDr ctDr), slDr⟩)
    (cDr : PySem.W.codeIn K cdDr "_law_drawn" = true)
    (kDr : PySem.W.keepIn K (.ref fDr) = true)
    (aBy : PySem.W.nsIn K mainGlobals "_law_by_rule" = some (some (.ref fBy)))
    (lBy : K.lookup fBy = some ⟨ocBy, odBy, .func (PySem.W.fnOf "_law_by_rule" "_law_by_rule" (defArgs sByRule) (defBody sByRule) (defScope sByRule) .none kVBy dcBy pmBy anBy cdBy ctBy), slBy⟩)
    (cBy : PySem.W.codeIn K cdBy "_law_by_rule" = true)
    (kBy : PySem.W.keepIn K (.ref fBy) = true)
    (aPl : PySem.W.nsIn K mainGlobals "_law_by_placings" = some (some (.ref fPl)))
    (lPl : K.lookup fPl = some ⟨ocPl, odPl, .func (PySem.W.fnOf "_law_by_placings" "_law_by_placings" (defArgs sPlace) (defBody sPlace) (defScope sPlace) .none kVPl dcPl pmPl anPl cdPl ctPl), slPl⟩)
    (cPl : PySem.W.codeIn K cdPl "_law_by_placings" = true)
    (kPl : PySem.W.keepIn K (.ref fPl) = true)
    (aSz : PySem.W.nsIn K mainGlobals "_law_sizes" = some (some (.ref fSz)))
    (lSz : K.lookup fSz = some ⟨ocSz, odSz, .func (PySem.W.fnOf "_law_sizes" "_law_sizes" (defArgs sSizes) (defBody sSizes) (defScope sSizes) .none kVSz dcSz pmSz anSz cdSz ctSz), slSz⟩)
    (cSz : PySem.W.codeIn K cdSz "_law_sizes" = true)
    (kSz : PySem.W.keepIn K (.ref fSz) = true)
    (aTo : PySem.W.nsIn K mainGlobals "_law_told" = some (some (.ref fTo)))
    (lTo : K.lookup fTo = some ⟨ocTo, odTo, .func (PySem.W.fnOf "_law_told" "_law_told" (defArgs sToldR) (defBody sToldR) (defScope sToldR) .none kVTo dcTo pmTo anTo cdTo ctTo), slTo⟩)
    (cTo : PySem.W.codeIn K cdTo "_law_told" = true)
    (kTo : PySem.W.keepIn K (.ref fTo) = true)
    (aRf : PySem.W.nsIn K mainGlobals "_law_refused_right" = some (some (.ref fRf)))
    (lRf : K.lookup fRf = some ⟨ocRf, odRf, .func (PySem.W.fnOf "_law_refused_right" "_law_refused_right" (defArgs sRefR) (defBody sRefR) (defScope sRefR) .none kVRf dcRf pmRf anRf cdRf ctRf), slRf⟩)
    (cRf : PySem.W.codeIn K cdRf "_law_refused_right" = true)
    (kRf : PySem.W.keepIn K (.ref fRf) = true)
    (aLa : PySem.W.nsIn K mainGlobals "law" = some (some (.ref fLa)))
    (lLa : K.lookup fLa = some ⟨ocLa, odLa, .func (PySem.W.fnOf "law" "law" (defArgs sLaw) (defBody sLaw) (defScope sLaw) .none kVLa dcLa pmLa anLa cdLa ctLa), slLa⟩)
    (cLa : PySem.W.codeIn K cdLa "law" = true)
    (kLa : PySem.W.keepIn K (.ref fLa) = true)
    (tg : PySem.W.specialIn K (.builtin "object.__class__") "__get__" = some (some (.builtin "getset_descriptor.__get__")))
    (tt : PySem.W.takesIn K (.builtin "object.__class__") = some true)
    (at_ : PySem.W.nsIn K mainGlobals "Task" = some (some (.ref CT)))
    (t_pg : PySem.W.plainGet K CT Str.empty = true)
    (t_hd : PySem.W.hasDictIn K CT = true)
    (t_po : PySem.W.plainOver K CT = true)
    (t_sa : PySem.W.findIn K (.ref CT) "__setattr__" = some (some (.builtin "object.__setattr__")))
    (t_mk : PySem.W.makesIn K CT = true)
    (t_kc : PySem.W.keepIn K (.ref CT) = true)
    (t_nN : PySem.W.findIn K (.ref CT) "name" = some none)
    (t_nC : PySem.W.findIn K (.ref CT) "cost" = some none)
    (t_nG : PySem.W.findIn K (.ref CT) "gap" = some none)
    (t_nD : PySem.W.findIn K (.ref CT) "due" = some none)
    (t_nH : PySem.W.findIn K (.ref CT) "holds" = some none)
    (t_tc : PySem.W.findIn K (.ref CT) "__class__" = some (some (.builtin "object.__class__")))
    (t_tm : PySem.W.mroIn K CT (.type "object") = some true)
    (aIn : PySem.W.findIn K (.ref CT) "__init__" = some (some (.ref fIn)))
    (lIn : K.lookup fIn = some ⟨ocIn, odIn, .func (PySem.W.fnOf "__init__" "Task.__init__" (defArgs sInit) (defBody sInit) (defScope sInit) .none (.ref DI) dcIn pmIn anIn cdIn ctIn), slIn⟩)
    (cIn : PySem.W.codeIn K cdIn "Task.__init__" = true)
    (kIn : PySem.W.keepIn K (.ref fIn) = true)
    (iIn : PySem.W.isFn K (.ref fIn) = true)
    (q1 : PySem.W.nsIn K DI "due" = some (some .none))
    (q2 : PySem.W.nsIn K DI "holds" = some (some (.ref e0)))
    (q3 : K.lookup e0 = some ⟨.type "tuple", od0, .seq #[] n0, sl0⟩)
    (ad_ : PySem.W.nsIn K mainGlobals "Door" = some (some (.ref CD)))
    (d_pg : PySem.W.plainGet K CD Str.empty = true)
    (d_hd : PySem.W.hasDictIn K CD = true)
    (d_po : PySem.W.plainOver K CD = true)
    (d_sa : PySem.W.findIn K (.ref CD) "__setattr__" = some (some (.builtin "object.__setattr__")))
    (d_mk : PySem.W.makesIn K CD = true)
    (d_kc : PySem.W.keepIn K (.ref CD) = true)
    (d_nN : PySem.W.findIn K (.ref CD) "name" = some none)
    (d_nR : PySem.W.findIn K (.ref CD) "room" = some none)
    (d_nG : PySem.W.findIn K (.ref CD) "gap" = some none)
    (d_tc : PySem.W.findIn K (.ref CD) "__class__" = some (some (.builtin "object.__class__")))
    (d_tm : PySem.W.mroIn K CD (.type "object") = some true)
    (aId : PySem.W.findIn K (.ref CD) "__init__" = some (some (.ref fId)))
    (lId : K.lookup fId = some ⟨ocId, odId, .func (PySem.W.fnOf "__init__" "Door.__init__" (defArgs sDInit) (defBody sDInit) (defScope sDInit) .none kVId dcId pmId anId cdId ctId), slId⟩)
    (cId : PySem.W.codeIn K cdId "Door.__init__" = true)
    (kId : PySem.W.keepIn K (.ref fId) = true)
    (iId : PySem.W.isFn K (.ref fId) = true)
    (aRt : PySem.W.findIn K (.ref CT) "__repr__" = some (some (.ref fRt)))
    (lRt : K.lookup fRt = some ⟨ocRt, odRt, .func (PySem.W.fnOf "__repr__" "Task.__repr__" (defArgs sTRepr) (defBody sTRepr) (defScope sTRepr) .none kVRt dcRt pmRt anRt cdRt ctRt), slRt⟩)
    (cRt : PySem.W.codeIn K cdRt "Task.__repr__" = true)
    (kRt : PySem.W.keepIn K (.ref fRt) = true)
    (iRt : PySem.W.isFn K (.ref fRt) = true)
    (aRd : PySem.W.findIn K (.ref CD) "__repr__" = some (some (.ref fRd)))
    (lRd : K.lookup fRd = some ⟨ocRd, odRd, .func (PySem.W.fnOf "__repr__" "Door.__repr__" (defArgs sDRepr) (defBody sDRepr) (defScope sDRepr) .none kVRd dcRd pmRd anRd cdRd ctRd), slRd⟩)
    (cRd : PySem.W.codeIn K cdRd "Door.__repr__" = true)
    (kRd : PySem.W.keepIn K (.ref fRd) = true)
    (iRd : PySem.W.isFn K (.ref fRd) = true)
    (v1 : PySem.W.nsIn K mainGlobals "LETTERS" = some (some (.str "abcdefghijklmnopqrstuvwxyz" w1)))
    (v2 : PySem.W.nsIn K mainGlobals "MOST_LETTERS" = some (some (.int 8 w2)))
    (v3 : PySem.W.nsIn K mainGlobals "MOST_COST" = some (some (.int 99 w3)))
    (v4 : PySem.W.nsIn K mainGlobals "MOST_GAP" = some (some (.int 600 w4)))
    (v5 : PySem.W.nsIn K mainGlobals "MOST_HOLDS" = some (some (.int 4 w5)))
    (v7 : PySem.W.nsIn K mainGlobals "MOST_LONG" = some (some (.int 1000000 w7)))
    (ko_n : PySem.W.kitOne K (.type "NoneType") (.ref CD) = some false)
    (ko_i : PySem.W.kitOne K (.type "int") (.ref CD) = some false)
    (ko_b : PySem.W.kitOne K (.type "bool") (.ref CD) = some false)
    (ko_s : PySem.W.kitOne K (.type "str") (.ref CD) = some false)
    (ko_t : PySem.W.kitOne K (.type "tuple") (.ref CD) = some false)
    (ko_l : PySem.W.kitOne K (.type "list") (.ref CD) = some false)
    (ko_d : PySem.W.kitOne K (.type "dict") (.ref CD) = some false)
    (koT : PySem.W.kitOne K (.ref CT) (.ref CD) = some false)
    (ko_di : PySem.W.kitOne K (.ref CD) (.type "int") = some false)
    (ko_db : PySem.W.kitOne K (.ref CD) (.type "bool") = some false)
    (e_CN : PySem.W.nsIn K mainGlobals "NoNumber" = some (some (.ref CN)))
    (x_iC : PySem.W.findIn K (.ref CN) "__init__" = some (some (.ref fx_)))
    (x_cl : K.lookup CN = some (PySem.excClassObj x_nm x_q CN x_N x_bs x_bm true x_sn x_sub x_ab x_col x_dd x_k0 x_k1 x_k2 x_k3 x_k5 "ValueError.__new__"))
    (x_ve : PySem.HandSPX.refsVE x_bm = true)
    (x_sa : PySem.W.findIn K (.ref CN) "__setattr__" = some (some (.builtin "object.__setattr__")))
    (x_ga : PySem.W.findIn K (.ref CN) "__getattribute__" = some (some (.builtin "BaseException.__getattribute__")))
    (x_gg : PySem.W.findIn K (.ref CN) "__getattr__" = some none)
    (x_no : PySem.W.findIn K (.ref CN) "number" = some none)
    (x_tC : PySem.W.typeIn K (.ref fx_) = some (.type "function"))
    (x_kC : PySem.W.keepIn K (.ref CN) = true)
    (x_ex : PySem.W.subIn K (.ref CN) (.type "BaseException") = some true)
    (x_vs : PySem.W.subIn K (.ref CN) (.type "ValueError") = some true)
    (x_ty : PySem.W.typeIn K (.ref CN) = some (.type "type"))
    (x_hd : PySem.W.hasDictIn K CN = true)
    (x_mr : PySem.W.mroIn K CN (.ref CN) = some true)
    (x_su : PySem.W.ks_superIn K CN CN "__init__" = some (some (.builtin "ValueError.__init__")))
    (x_an : PySem.W.nsIn K cStatics "thirdparty.any" = some none)
    (x_tp : (l.prog.main.scope.names.lookup ("super" : Str)).isSome = false)
    (x_fn : K.lookup fx_ = some ⟨x_oc, x_od, .func (PySem.W.ksFn "__init__" "NoNumber.__init__" (defArgs sNoNumber) (defBody sNoNumber) (defScope sNoNumber) .none .none x_doc x_pm x_an_ (.ref x_cda) x_ct x_cc), x_osl⟩)
    (x_co : PySem.W.codeIn K (.ref x_cda) "NoNumber.__init__" = true)
    (x_cd : K.lookup x_cda = some ⟨x_ccl, x_cdd, .fields x_vs_, x_ccs⟩)
    (x_v2 : x_vs_[2]? = some (.str x_file x_tf))
    (x_fi : ((l.prog.main.file : Str) == x_file) = true)
    (x_ce : K.lookup x_cc = some ⟨x_cl2, x_cld, .cell (some (.ref CN)), x_csl⟩)
    (x_tc : PySem.W.findIn K (.ref CN) "__class__" = some (some (.builtin "object.__class__")))
    (x_tm : PySem.W.mroIn K CN (.type "object") = some true)
    (e_CE : PySem.W.nsIn K mainGlobals "NoDoor" = some (some (.ref CE)))
    (y_iC : PySem.W.findIn K (.ref CE) "__init__" = some (some (.ref fy_)))
    (y_cl : K.lookup CE = some (PySem.excClassObj y_nm y_q CE y_N y_bs y_bm true y_sn y_sub y_ab y_col y_dd y_k0 y_k1 y_k2 y_k3 y_k5 "ValueError.__new__"))
    (y_ve : PySem.HandSPX.refsVE y_bm = true)
    (y_sa : PySem.W.findIn K (.ref CE) "__setattr__" = some (some (.builtin "object.__setattr__")))
    (y_ga : PySem.W.findIn K (.ref CE) "__getattribute__" = some (some (.builtin "BaseException.__getattribute__")))
    (y_gg : PySem.W.findIn K (.ref CE) "__getattr__" = some none)
    (y_no : PySem.W.findIn K (.ref CE) "part" = some none)
    (y_tC : PySem.W.typeIn K (.ref fy_) = some (.type "function"))
    (y_kC : PySem.W.keepIn K (.ref CE) = true)
    (y_ex : PySem.W.subIn K (.ref CE) (.type "BaseException") = some true)
    (y_vs : PySem.W.subIn K (.ref CE) (.type "ValueError") = some true)
    (y_ty : PySem.W.typeIn K (.ref CE) = some (.type "type"))
    (y_hd : PySem.W.hasDictIn K CE = true)
    (y_mr : PySem.W.mroIn K CE (.ref CE) = some true)
    (y_su : PySem.W.ks_superIn K CE CE "__init__" = some (some (.builtin "ValueError.__init__")))
    (y_an : PySem.W.nsIn K cStatics "thirdparty.any" = some none)
    (y_tp : (l.prog.main.scope.names.lookup ("super" : Str)).isSome = false)
    (y_fn : K.lookup fy_ = some ⟨y_oc, y_od, .func (PySem.W.ksFn "__init__" "NoDoor.__init__" (defArgs sNoTask) (defBody sNoTask) (defScope sNoTask) .none .none y_doc y_pm y_an_ (.ref y_cda) y_ct y_cc), y_osl⟩)
    (y_co : PySem.W.codeIn K (.ref y_cda) "NoDoor.__init__" = true)
    (y_cd : K.lookup y_cda = some ⟨y_ccl, y_cdd, .fields y_vs_, y_ccs⟩)
    (y_v2 : y_vs_[2]? = some (.str y_file y_tf))
    (y_fi : ((l.prog.main.file : Str) == y_file) = true)
    (y_ce : K.lookup y_cc = some ⟨y_cl2, y_cld, .cell (some (.ref CE)), y_csl⟩)
    (y_tc : PySem.W.findIn K (.ref CE) "__class__" = some (some (.builtin "object.__class__")))
    (y_tm : PySem.W.mroIn K CE (.type "object") = some true)
    (e_c1 : PySem.W.nsIn K mainGlobals "NoTask" = some (some (.ref c1)))
    (e_c2 : PySem.W.nsIn K mainGlobals "NoCrew" = some (some (.ref c2)))
    (e_gB : PySem.W.nsIn K mainGlobals "TimeError" = some (some (.ref gB)))
    (e_gL : PySem.W.nsIn K mainGlobals "LostError" = some (some (.ref gL)))
    (e_gF : PySem.W.nsIn K mainGlobals "FullError" = some (some (.ref gF)))
    (s_nN : PySem.W.kitAny K (.ref CN) [.ref c1, .ref c2, .ref gL, .ref gF] = some false)
    (s_nE : PySem.W.kitAny K (.ref CE) [.ref c1, .ref c2, .ref gL, .ref gF] = some false)
    (s_NE : PySem.W.kitOne K (.ref CN) (.ref CE) = some false)
    (s_NV : PySem.W.kitOne K (.ref CN) (.type "ValueError") = some true)
    (s_EV : PySem.W.kitOne K (.ref CE) (.type "ValueError") = some true)
    (b_gB : PySem.W.subIn K (.ref gB) (.type "BaseException") = some true)
    (h_gB : PySem.W.hasDictIn K gB = true)
    (y_gB : PySem.W.typeIn K (.ref gB) = some (.type "type"))
    (u_CN_gB : PySem.W.subIn K (.ref CN) (.ref gB) = some true)
    (b_gL : PySem.W.subIn K (.ref gL) (.type "BaseException") = some true)
    (h_gL : PySem.W.hasDictIn K gL = true)
    (y_gL : PySem.W.typeIn K (.ref gL) = some (.type "type"))
    (u_CN_gL : PySem.W.subIn K (.ref CN) (.ref gL) = some false)
    (b_gF : PySem.W.subIn K (.ref gF) (.type "BaseException") = some true)
    (h_gF : PySem.W.hasDictIn K gF = true)
    (y_gF : PySem.W.typeIn K (.ref gF) = some (.type "type"))
    (u_CN_gF : PySem.W.subIn K (.ref CN) (.ref gF) = some false)
    (u_CE_gB : PySem.W.subIn K (.ref CE) (.ref gB) = some true)
    (u_CE_gL : PySem.W.subIn K (.ref CE) (.ref gL) = some false)
    (u_CE_gF : PySem.W.subIn K (.ref CE) (.ref gF) = some false)
    (z_isinstance : PySem.W.nsIn K mainGlobals "isinstance" = some none)
    (z_int : PySem.W.nsIn K mainGlobals "int" = some none)
    (z_bool : PySem.W.nsIn K mainGlobals "bool" = some none)
    (z_str : PySem.W.nsIn K mainGlobals "str" = some none)
    (z_tuple : PySem.W.nsIn K mainGlobals "tuple" = some none)
    (z_len : PySem.W.nsIn K mainGlobals "len" = some none)
    (z_all : PySem.W.nsIn K mainGlobals "all" = some none)
    (z_zip : PySem.W.nsIn K mainGlobals "zip" = some none)
    (z_range : PySem.W.nsIn K mainGlobals "range" = some none)
    (z_abs : PySem.W.nsIn K mainGlobals "abs" = some none)
    (z_max : PySem.W.nsIn K mainGlobals "max" = some none)
    (z_min : PySem.W.nsIn K mainGlobals "min" = some none)
    (z_sorted : PySem.W.nsIn K mainGlobals "sorted" = some none)
    (z_super : PySem.W.nsIn K mainGlobals "super" = some none)
    (z_ValueError : PySem.W.nsIn K mainGlobals "ValueError" = some none)
    (z_sum : PySem.W.nsIn K mainGlobals "sum" = some none)
    (z_repr : PySem.W.nsIn K mainGlobals "repr" = some none)
    : ∃ fd : FuncData, (∀ (s : Shared) (v : Value), BindsTo s fd ⟨[v], []⟩ [("_law_script", v)]) ∧ ∀ base : Heap, K.In base → base.Ns mainGlobals mg → LawOk l.prog w K mg base fa fd "_law_script" (spLaw K) := by
  have e := hfa.symm.trans (PySem.W.mg_of X G aLa)
  cases e
  have m_isinstance := PySem.W.mg_none_of X G z_isinstance
  have m_int := PySem.W.mg_none_of X G z_int
  have m_bool := PySem.W.mg_none_of X G z_bool
  have m_str := PySem.W.mg_none_of X G z_str
  have m_tuple := PySem.W.mg_none_of X G z_tuple
  have m_len := PySem.W.mg_none_of X G z_len
  have m_all := PySem.W.mg_none_of X G z_all
  have m_zip := PySem.W.mg_none_of X G z_zip
  have m_range := PySem.W.mg_none_of X G z_range
  have m_abs := PySem.W.mg_none_of X G z_abs
  have m_max := PySem.W.mg_none_of X G z_max
  have m_min := PySem.W.mg_none_of X G z_min
  have m_sorted := PySem.W.mg_none_of X G z_sorted
  have m_super := PySem.W.mg_none_of X G z_super
  have m_ValueError := PySem.W.mg_none_of X G z_ValueError
  have m_sum := PySem.W.mg_none_of X G z_sum
  have m_repr := PySem.W.mg_none_of X G z_repr
  have FNu := fun_mk (st := sNumber) lNu cNu kNu
  have bNu := FNu.binds (ps := ["thing"]) fun _ _ _ _ _ _ us hl => match us, hl with | [_], _ => rfl
  have FWh := fun_mk (st := sWhole) lWh cWh kWh
  have bWh := FWh.binds (ps := ["thing", "least", "most"]) fun _ _ _ _ _ _ us hl => match us, hl with | [_, _, _], _ => rfl
  have FNm := fun_mk (st := sName) lNm cNm kNm
  have bNm := FNm.binds (ps := ["thing"]) fun _ _ _ _ _ _ us hl => match us, hl with | [_], _ => rfl
  have FHd := fun_mk (st := sHold) lHd cHd kHd
  have bHd := FHd.binds (ps := ["thing", "cost"]) fun _ _ _ _ _ _ us hl => match us, hl with | [_, _], _ => rfl
  have FAh := fun_mk (st := sAhead) lAh cAh kAh
  have bAh := FAh.binds (ps := ["hold", "other"]) fun _ _ _ _ _ _ us hl => match us, hl with | [_, _], _ => rfl
  have FHs := fun_mk (st := sHolds) lHs cHs kHs
  have bHs := FHs.binds (ps := ["thing", "cost"]) fun _ _ _ _ _ _ us hl => match us, hl with | [_, _], _ => rfl
  have FWT := fun_mk (st := sWrongT) lWT cWT kWT
  have bWT := FWT.binds (ps := ["name", "cost", "gap", "due", "holds"]) fun _ _ _ _ _ _ us hl => match us, hl with | [_, _, _, _, _], _ => rfl
  have FWD := fun_mk (st := sWrongD) lWD cWD kWD
  have bWD := FWD.binds (ps := ["name", "room", "gap"]) fun _ _ _ _ _ _ us hl => match us, hl with | [_, _, _], _ => rfl
  have FMu := fun_mk (st := sMust) lMu cMu kMu
  have bMu := FMu.binds (ps := ["thing", "least", "most"]) fun _ _ _ _ _ _ us hl => match us, hl with | [_, _, _], _ => rfl
  have FSv := fun_mk (st := sServed) lSv cSv kSv
  have bSv := FSv.binds (ps := ["door", "long"]) fun _ _ _ _ _ _ us hl => match us, hl with | [_, _], _ => rfl
  have FCe := fun_mk (st := sCell) lCe cCe kCe
  have bCe := FCe.binds (ps := ["_law_script", "_law_k"]) fun _ _ _ _ _ _ us hl => match us, hl with | [_, _], _ => rfl
  have FPu := fun_mk (st := sPurse) lPu cPu kPu
  have bPu := FPu.binds (ps := ["_law_cell_here"]) fun _ _ _ _ _ _ us hl => match us, hl with | [_], _ => rfl
  have FTa := fun_mk (st := sTake) lTa cTa kTa
  have bTa := FTa.binds (ps := ["_law_purse_here", "_law_many"]) fun _ _ _ _ _ _ us hl => match us, hl with | [_, _], _ => rfl
  have FDr := fun_mk (st := sDrawnR) lDr cDr kDr
  have bDr := FDr.binds (ps := ["_law_purse_here"]) fun _ _ _ _ _ _ us hl => match us, hl with | [_], _ => rfl
  have FBy := fun_mk (st := sByRule) lBy cBy kBy
  have bBy := FBy.binds (ps := ["_law_room", "_law_gap", "_law_size"]) fun _ _ _ _ _ _ us hl => match us, hl with | [_, _, _], _ => rfl
  have FPl := fun_mk (st := sPlace) lPl cPl kPl
  have bPl := FPl.binds (ps := ["_law_room", "_law_gap", "_law_size"]) fun _ _ _ _ _ _ us hl => match us, hl with | [_, _, _], _ => rfl
  have FSz := fun_mk (st := sSizes) lSz cSz kSz
  have bSz := FSz.binds (ps := ["_law_purse_here", "_law_room", "_law_gap"]) fun _ _ _ _ _ _ us hl => match us, hl with | [_, _, _], _ => rfl
  have FTo := fun_mk (st := sToldR) lTo cTo kTo
  have bTo := FTo.binds (ps := ["_law_portal", "_law_size", "_law_by_name"]) fun _ _ _ _ _ _ us hl => match us, hl with | [_, _, _], _ => rfl
  have FRf := fun_mk (st := sRefR) lRf cRf kRf
  have bRf := FRf.binds (ps := ["_law_purse_here", "_law_portal"]) fun _ _ _ _ _ _ us hl => match us, hl with | [_, _], _ => rfl
  have FLa := fun_mk (st := sLaw) lLa cLa kLa
  have FId := fun_mk (st := sDInit) lId cId kId
  have bId := FId.binds (ps := ["self", "name", "room", "gap"]) fun _ _ _ _ _ _ us hl => match us, hl with | [_, _, _, _], _ => rfl
  have FRt := fun_mk (st := sTRepr) lRt cRt kRt
  have bRt := FRt.binds (ps := ["self"]) fun _ _ _ _ _ _ us hl => match us, hl with | [_], _ => rfl
  have FRd := fun_mk (st := sDRepr) lRd cRd kRd
  have bRd := FRd.binds (ps := ["self"]) fun _ _ _ _ _ _ us hl => match us, hl with | [_], _ => rfl
  have FI : FunI K e0 fIn _ := ⟨⟨_, _, _, _, _, _, _, _, _, _, rfl, lIn, cIn, .inl ⟨rfl, rfl⟩, .inr ⟨DI, rfl, fun q hq => by
    rcases List.mem_cons.mp hq with rfl | hq
    · exact ⟨_, q1, rfl⟩
    · rw [List.mem_singleton.mp hq]
      exact ⟨_, q2, rfl⟩⟩⟩, kIn⟩
  have hE : ∀ H : Hp, SqT K H e0 [] := fun H => .inr ⟨_, #[], _, q3, rfl, rfl, Nat.zero_le _, .nil⟩
  have T : TaskC K mg CT := ⟨⟨t_pg, t_hd, t_po, t_sa⟩, t_nN, t_nC, t_nG, t_nD, t_nH, PySem.W.mg_of X G at_, t_tc, tg, tt, t_tm, kit_self⟩
  have TD : DoorC K mg CD := ⟨⟨d_pg, d_hd, d_po, d_sa⟩, d_nN, d_nR, d_nG, PySem.W.mg_of X G ad_, d_tc, tg, tt, d_tm⟩
  have MT : Mk K CT fIn := ⟨t_mk, aIn, iIn, t_kc⟩
  have MD : Mk K CD fId := ⟨d_mk, aId, iId, d_kc⟩
  refine ⟨PySem.W.fnOf "law" "law" (defArgs sLaw) (defBody sLaw) (defScope sLaw) .none kVLa dcLa pmLa anLa cdLa ctLa, fun s v => .of_eq rfl, fun base _ _ => ?_⟩
  have DU : Dn l.prog w K mg base 1 "is_number" ["thing"] (spNumber K) := ⟨_, _, ok_number FNu m_isinstance m_int m_bool, PySem.W.mg_of X G aNu, kNu, bNu⟩
  have DW : Dn l.prog w K mg base 2 "is_whole" ["thing", "least", "most"] (spWhole K) := ⟨_, _, ok_whole FWh DU, PySem.W.mg_of X G aWh, kWh, bWh⟩
  have DN : Dn l.prog w K mg base 2 "is_name" ["thing"] (spName K) := ⟨_, _, ok_name FNm m_isinstance m_str m_len m_all ⟨_, PySem.W.mg_of X G v2⟩ ⟨_, PySem.W.mg_of X G v1⟩, PySem.W.mg_of X G aNm, kNm, bNm⟩
  have DHd : Dn l.prog w K mg base 3 "is_hold" ["thing", "cost"] (spHold K) := ⟨_, _, ok_hold FHd m_isinstance m_tuple m_len DN DW, PySem.W.mg_of X G aHd, kHd, bHd⟩
  have DA : Dn l.prog w K mg base 2 "goes_ahead" ["hold", "other"] (spAhead K) := ⟨_, _, ok_ahead FAh, PySem.W.mg_of X G aAh, kAh, bAh⟩
  have DHs : Dn l.prog w K mg base 4 "are_holds" ["thing", "cost"] (spHolds K) := ⟨_, _, ok_holds FHs m_isinstance m_tuple m_len m_all m_zip ⟨_, PySem.W.mg_of X G v5⟩ DHd DA, PySem.W.mg_of X G aHs, kHs, bHs⟩
  have DWT : Dn l.prog w K mg base 5 "wrong_in_task" ["name", "cost", "gap", "due", "holds"] (spWrongT K) := ⟨_, _, ok_wrongT FWT ⟨_, PySem.W.mg_of X G v3⟩ ⟨_, PySem.W.mg_of X G v4⟩ DN DW DHs, PySem.W.mg_of X G aWT, kWT, bWT⟩
  have DWD : Dn l.prog w K mg base 3 "wrong_in_door" ["name", "room", "gap"] spWrongD := ⟨_, _, ok_wrongD FWD ⟨_, PySem.W.mg_of X G v3⟩ ⟨_, PySem.W.mg_of X G v4⟩ DN DW, PySem.W.mg_of X G aWD, kWD, bWD⟩
  have DCe : Dn l.prog w K mg base 3 "_law_cell" ["_law_script", "_law_k"] (spCellL K) := ⟨_, _, ok_cell FCe m_len, PySem.W.mg_of X G aCe, kCe, bCe⟩
  have DPu : Dn l.prog w K mg base 3 "_law_purse" ["_law_cell_here"] spPurse := ⟨_, _, ok_purse FPu m_abs, PySem.W.mg_of X G aPu, kPu, bPu⟩
  have DTa : Dn l.prog w K mg base 3 "_law_take" ["_law_purse_here", "_law_many"] spTake := ⟨_, _, ok_take FTa, PySem.W.mg_of X G aTa, kTa, bTa⟩
  have EN : ErrC l.prog K mg "NoNumber" "number" "NoNumber.__init__" sNoNumber CN fx_ := ⟨PySem.W.mg_of X G e_CN, ⟨_, _, _, _, _, _, _, _, _, _, _, _, _, _, _, x_cl, x_ve⟩, x_sa, x_ga, x_gg, x_no, x_iC, x_tC, x_kC, x_ex, x_vs, x_ty, x_hd, x_mr, x_su, x_an, x_tp, m_super,
    ⟨_, _, _, _, _, _, _, _, _, _, _, _, _, _, _, _, _, _, x_fn, x_co, x_cd, x_v2, x_fi, x_ce⟩⟩
  have RN : Err l.prog w K mg "NoNumber" "number" CN := err_ofNumber EN
  have EE : ErrC l.prog K mg "NoDoor" "part" "NoDoor.__init__" sNoTask CE fy_ := ⟨PySem.W.mg_of X G e_CE, ⟨_, _, _, _, _, _, _, _, _, _, _, _, _, _, _, y_cl, y_ve⟩, y_sa, y_ga, y_gg, y_no, y_iC, y_tC, y_kC, y_ex, y_vs, y_ty, y_hd, y_mr, y_su, y_an, y_tp, m_super,
    ⟨_, _, _, _, _, _, _, _, _, _, _, _, _, _, _, _, _, _, y_fn, y_co, y_cd, y_v2, y_fi, y_ce⟩⟩
  have RE : Err l.prog w K mg "NoDoor" "part" CE := err_of EE
  have ES : ErrS K mg CN CE c1 c2 gB gL gF := ⟨PySem.W.mg_of X G e_CN, PySem.W.mg_of X G e_CE, PySem.W.mg_of X G e_c1, PySem.W.mg_of X G e_c2, PySem.W.mg_of X G e_gB, PySem.W.mg_of X G e_gL, PySem.W.mg_of X G e_gF, m_ValueError, m_isinstance, ⟨x_ga, x_gg, x_ex, x_hd, x_tc, tg, tt, x_tm⟩, ⟨y_ga, y_gg, y_ex, y_hd, y_tc, tg, tt, y_tm⟩, s_nN, s_nE, s_NE, kit_self, kit_self, s_NV, s_EV, x_no, y_no, exm3 (exm_of b_gB h_gB y_gB u_CN_gB) (exm_of b_gL h_gL y_gL u_CN_gL) (exm_of b_gF h_gF y_gF u_CN_gF), exm3 (exm_of b_gB h_gB y_gB u_CE_gB) (exm_of b_gL h_gL y_gL u_CE_gL) (exm_of b_gF h_gF y_gF u_CE_gF)⟩
  have DM : DnX l.prog w K mg base 3 "must_be_whole" ["thing", "least", "most"] (spMust K CN) := ⟨_, _, ok_must FMu RN DW, PySem.W.mg_of X G aMu, kMu, bMu⟩
  have OSv := ok_served (w := w) (base := base) FSv TD RE m_isinstance m_min m_max m_range m_sum ⟨_, PySem.W.mg_of X G v7⟩ DM
  have DDr : Dn l.prog w K mg base 4 "_law_drawn" ["_law_purse_here"] spDrawnR := ⟨_, _, ok_drawnR FDr m_min DTa, PySem.W.mg_of X G aDr, kDr, bDr⟩
  have DBy : Dn l.prog w K mg base 3 "_law_by_rule" ["_law_room", "_law_gap", "_law_size"] spByRule := ⟨_, _, ok_byRule FBy m_min m_max m_range, PySem.W.mg_of X G aBy, kBy, bBy⟩
  have DPl : Dn l.prog w K mg base 3 "_law_by_placings" ["_law_room", "_law_gap", "_law_size"] spPlace := ⟨_, _, ok_place FPl m_min m_max m_range, PySem.W.mg_of X G aPl, kPl, bPl⟩
  have DSz : Dn l.prog w K mg base 4 "_law_sizes" ["_law_purse_here", "_law_room", "_law_gap"] spSizes := ⟨_, _, ok_sizes FSz m_min m_max m_int DTa, PySem.W.mg_of X G aSz, kSz, bSz⟩
  have DTo : Dn l.prog w K mg base 5 "_law_told" ["_law_portal", "_law_size", "_law_by_name"] (spToldR K CD) := ⟨_, _, ok_toldR FTo ES FSv (PySem.W.mg_of X G aSv) kSv OSv bSv, PySem.W.mg_of X G aTo, kTo, bTo⟩
  have SO : OwnS l.prog w K mg base CT CD := ⟨⟨fRt, _, _, ok_trepr FRt T, bRt, aRt, iRt⟩, ⟨fRd, _, _, ok_drepr FRd TD, bRd, aRd, iRd⟩⟩
  have OK : OddK K CT CD := ⟨ko_n, ko_i, ko_b, ko_s, ko_t, ko_l, ko_d, koT, ko_di, ko_db⟩
  have DRf : DnG l.prog w K mg base 8 "_law_refused_right" ["_law_purse_here", "_law_portal"] (spRef K CD) := ⟨_, _, ok_ref FRf T TD OK SO FI MT (ok_init FI T DWT) hE m_all m_repr DTa DTo, PySem.W.mg_of X G aRf, kRf, bRf⟩
  exact ok_law FLa TD SO MD (ok_dinit FId TD DWD) bId m_range m_max m_min m_len m_repr DCe DPu DTa DDr DSz DBy DPl DTo DRf
end Du

set_option Elab.async false
set_option linter.all false
open PySem PySem.W PyProof.Rows
set_option maxRecDepth 100000 in
set_option maxHeartbeats 0 in
theorem PySem.Challenge.cw_duetimes_k41_rooms_by_their_rule_holds : PySem.Challenge.rw_duetimes_k41_rooms_by_their_rule.Holds := by
  w_on; o_law; k_head; (case hw => w_witness2)
  k_fill
  refine Du.walk_at (l := PySem.Challenge.rw_duetimes_k41_rooms_by_their_rule) (n := 63) (x := "_law_script") (sp := fun w => Du.spLaw _) rfl (by decide) rfl (fun w h Y => PySem.W.kIn_of Y) ?F (fun _ _ a ns hl hS => ⟨a, ns, rfl, hS, fun _ => rfl⟩)
  case F =>
    intro w mg fa h KX G hmg
    refine' Du.all_mk KX G hmg ?aNu ?lNu ?cNu ?kNu ?aWh ?lWh ?cWh ?kWh ?aNm ?lNm ?cNm ?kNm ?aHd ?lHd ?cHd ?kHd ?aAh ?lAh ?cAh ?kAh ?aHs ?lHs ?cHs ?kHs ?aWT ?lWT ?cWT ?kWT ?aWD ?lWD ?cWD ?kWD ?aMu ?lMu ?cMu ?kMu ?aSv ?lSv ?cSv ?kSv ?aCe ?lCe ?cCe ?kCe ?aPu ?lPu ?cPu ?kPu ?aTa ?lTa ?cTa ?kTa ?aDr ?lDr ?cDr ?kDr ?aBy ?lBy ?cBy ?kBy ?aPl ?lPl ?cPl ?kPl ?aSz ?lSz ?cSz ?kSz ?aTo ?lTo ?cTo ?kTo ?aRf ?lRf ?cRf ?kRf ?aLa ?lLa ?cLa ?kLa ?tg ?tt ?at_ ?t_pg ?t_hd ?t_po ?t_sa ?t_mk ?t_kc ?t_nN ?t_nC ?t_nG ?t_nD ?t_nH ?t_tc ?t_tm ?aIn ?lIn ?cIn ?kIn ?iIn ?q1 ?q2 ?q3 ?ad_ ?d_pg ?d_hd ?d_po ?d_sa ?d_mk ?d_kc ?d_nN ?d_nR ?d_nG ?d_tc ?d_tm ?aId ?lId ?cId ?kId ?iId ?aRt ?lRt ?cRt ?kRt ?iRt ?aRd ?lRd ?cRd ?kRd ?iRd ?v1 ?v2 ?v3 ?v4 ?v5 ?v7 ?ko_n ?ko_i ?ko_b ?ko_s ?ko_t ?ko_l ?ko_d ?koT ?ko_di ?ko_db ?e_CN ?x_iC ?x_cl ?x_ve ?x_sa ?x_ga ?x_gg ?x_no ?x_tC ?x_kC ?x_ex ?x_vs ?x_ty ?x_hd ?x_mr ?x_su ?x_an ?x_tp ?x_fn ?x_co ?x_cd ?x_v2 ?x_fi ?x_ce ?x_tc ?x_tm ?e_CE ?y_iC ?y_cl ?y_ve ?y_sa ?y_ga ?y_gg ?y_no ?y_tC ?y_kC ?y_ex ?y_vs ?y_ty ?y_hd ?y_mr ?y_su ?y_an ?y_tp ?y_fn ?y_co ?y_cd ?y_v2 ?y_fi ?y_ce ?y_tc ?y_tm ?e_c1 ?e_c2 ?e_gB ?e_gL ?e_gF ?s_nN ?s_nE ?s_NE ?s_NV ?s_EV ?b_gB ?h_gB ?y_gB ?u_CN_gB ?b_gL ?h_gL ?y_gL ?u_CN_gL ?b_gF ?h_gF ?y_gF ?u_CN_gF ?u_CE_gB ?u_CE_gL ?u_CE_gF ?z_isinstance ?z_int ?z_bool ?z_str ?z_tuple ?z_len ?z_all ?z_zip ?z_range ?z_abs ?z_max ?z_min ?z_sorted ?z_super ?z_ValueError ?z_sum ?z_repr
    (case aNu => k_is)
    (case lNu => k_is)
    (case cNu => k_is)
    (case kNu => k_is)
    (case aWh => k_is)
    (case lWh => k_is)
    (case cWh => k_is)
    (case kWh => k_is)
    (case aNm => k_is)
    (case lNm => k_is)
    (case cNm => k_is)
    (case kNm => k_is)
    (case aHd => k_is)
    (case lHd => k_is)
    (case cHd => k_is)
    (case kHd => k_is)
    (case aAh => k_is)
    (case lAh => k_is)
    (case cAh => k_is)
    (case kAh => k_is)
    (case aHs => k_is)
    (case lHs => k_is)
    (case cHs => k_is)
    (case kHs => k_is)
    (case aWT => k_is)
    (case lWT => k_is)
    (case cWT => k_is)
    (case kWT => k_is)
    (case aWD => k_is)
    (case lWD => k_is)
    (case cWD => k_is)
    (case kWD => k_is)
    (case aMu => k_is)
    (case lMu => k_is)
    (case cMu => k_is)
    (case kMu => k_is)
    (case aSv => k_is)
    (case lSv => k_is)
    (case cSv => k_is)
    (case kSv => k_is)
    (case aCe => k_is)
    (case lCe => k_is)
    (case cCe => k_is)
    (case kCe => k_is)
    (case aPu => k_is)
    (case lPu => k_is)
    (case cPu => k_is)
    (case kPu => k_is)
    (case aTa => k_is)
    (case lTa => k_is)
    (case cTa => k_is)
    (case kTa => k_is)
    (case aDr => k_is)
    (case lDr => k_is)
    (case cDr => k_is)
    (case kDr => k_is)
    (case aBy => k_is)
    (case lBy => k_is)
    (case cBy => k_is)
    (case kBy => k_is)
    (case aPl => k_is)
    (case lPl => k_is)
    (case cPl => k_is)
    (case kPl => k_is)
    (case aSz => k_is)
    (case lSz => k_is)
    (case cSz => k_is)
    (case kSz => k_is)
    (case aTo => k_is)
    (case lTo => k_is)
    (case cTo => k_is)
    (case kTo => k_is)
    (case aRf => k_is)
    (case lRf => k_is)
    (case cRf => k_is)
    (case kRf => k_is)
    (case aLa => k_is)
    (case lLa => k_is)
    (case cLa => k_is)
    (case kLa => k_is)
    (case tg => k_is)
    (case tt => k_is)
    (case at_ => k_is)
    (case t_pg => k_is)
    (case t_hd => k_is)
    (case t_po => k_is)
    (case t_sa => k_is)
    (case t_mk => k_is)
    (case t_kc => k_is)
    (case t_nN => k_is)
    (case t_nC => k_is)
    (case t_nG => k_is)
    (case t_nD => k_is)
    (case t_nH => k_is)
    (case t_tc => k_is)
    (case t_tm => k_is)
    (case aIn => k_is)
    (case lIn => k_is)
    (case cIn => k_is)
    (case kIn => k_is)
    (case iIn => k_is)
    (case q1 => k_is)
    (case q2 => k_is)
    (case q3 => k_is)
    (case ad_ => k_is)
    (case d_pg => k_is)
    (case d_hd => k_is)
    (case d_po => k_is)
    (case d_sa => k_is)
    (case d_mk => k_is)
    (case d_kc => k_is)
    (case d_nN => k_is)
    (case d_nR => k_is)
    (case d_nG => k_is)
    (case d_tc => k_is)
    (case d_tm => k_is)
    (case aId => k_is)
    (case lId => k_is)
    (case cId => k_is)
    (case kId => k_is)
    (case iId => k_is)
    (case aRt => k_is)
    (case lRt => k_is)
    (case cRt => k_is)
    (case kRt => k_is)
    (case iRt => k_is)
    (case aRd => k_is)
    (case lRd => k_is)
    (case cRd => k_is)
    (case kRd => k_is)
    (case iRd => k_is)
    (case v1 => k_is)
    (case v2 => k_is)
    (case v3 => k_is)
    (case v4 => k_is)
    (case v5 => k_is)
    (case v7 => k_is)
    (case ko_n => kit_is)
    (case ko_i => kit_is)
    (case ko_b => kit_is)
    (case ko_s => kit_is)
    (case ko_t => kit_is)
    (case ko_l => kit_is)
    (case ko_d => kit_is)
    (case koT => kit_is)
    (case ko_di => kit_is)
    (case ko_db => kit_is)
    (case e_CN => k_is)
    (case x_iC => k_is)
    (case x_cl => k_is)
    (case x_ve => rfl)
    (case x_sa => k_is)
    (case x_ga => k_is)
    (case x_gg => k_is)
    (case x_no => k_is)
    (case x_tC => k_is)
    (case x_kC => k_is)
    (case x_ex => k_is)
    (case x_vs => k_is)
    (case x_ty => k_is)
    (case x_hd => k_is)
    (case x_mr => k_is)
    (case x_su => ks_is)
    (case x_an => k_is)
    (case x_tp => rfl)
    (case x_fn => k_is)
    (case x_co => k_is)
    (case x_cd => k_is)
    (case x_v2 => rfl)
    (case x_fi => rfl)
    (case x_ce => k_is)
    (case x_tc => k_is)
    (case x_tm => k_is)
    (case e_CE => k_is)
    (case y_iC => k_is)
    (case y_cl => k_is)
    (case y_ve => rfl)
    (case y_sa => k_is)
    (case y_ga => k_is)
    (case y_gg => k_is)
    (case y_no => k_is)
    (case y_tC => k_is)
    (case y_kC => k_is)
    (case y_ex => k_is)
    (case y_vs => k_is)
    (case y_ty => k_is)
    (case y_hd => k_is)
    (case y_mr => k_is)
    (case y_su => ks_is)
    (case y_an => k_is)
    (case y_tp => rfl)
    (case y_fn => k_is)
    (case y_co => k_is)
    (case y_cd => k_is)
    (case y_v2 => rfl)
    (case y_fi => rfl)
    (case y_ce => k_is)
    (case y_tc => k_is)
    (case y_tm => k_is)
    (case e_c1 => k_is)
    (case e_c2 => k_is)
    (case e_gB => k_is)
    (case e_gL => k_is)
    (case e_gF => k_is)
    (case s_nN => kit_is)
    (case s_nE => kit_is)
    (case s_NE => kit_is)
    (case s_NV => kit_is)
    (case s_EV => kit_is)
    (case b_gB => k_is)
    (case h_gB => k_is)
    (case y_gB => k_is)
    (case u_CN_gB => k_is)
    (case b_gL => k_is)
    (case h_gL => k_is)
    (case y_gL => k_is)
    (case u_CN_gL => k_is)
    (case b_gF => k_is)
    (case h_gF => k_is)
    (case y_gF => k_is)
    (case u_CN_gF => k_is)
    (case u_CE_gB => k_is)
    (case u_CE_gL => k_is)
    (case u_CE_gF => k_is)
    (case z_isinstance => k_is)
    (case z_int => k_is)
    (case z_bool => k_is)
    (case z_str => k_is)
    (case z_tuple => k_is)
    (case z_len => k_is)
    (case z_all => k_is)
    (case z_zip => k_is)
    (case z_range => k_is)
    (case z_abs => k_is)
    (case z_max => k_is)
    (case z_min => k_is)
    (case z_sorted => k_is)
    (case z_super => k_is)
    (case z_ValueError => k_is)
    (case z_sum => k_is)
    (case z_repr => k_is)

