import PyProof.Rows.All
import Wide.All
import OpenK.AllK
import Wide.FinOn
import HandS.ForMost
import HandS.ForExc
import HandS.IsInst
import HandS.OwnEq
import HandS.Style
import HandS.Flow
import HandS.Walk
import HandS.Zip
import HandS.TupAny
import HandS.Conv
import HandS.MakeKwOnly
import HandS.ExcInit
import HandS.ExcSuper
import KE.KExcSuper
import HandS.ExcCtx
import KE.KTryMore
import HandS.HotCalls
import KE.KExcIs
import OpenK.KOps
import PyProof.ReprReads
import HandS.FStr
import HandS.More
import HandS.RaiseMore
import KE.KCallOwn
import HandS.TryOnly
import KE.RegKIsAll
import KE.RegKSuper
import PySem.Challenge.RW_duetimes_k05_members_alike_and_shown
set_option Elab.async false
set_option linter.all false
set_option maxRecDepth 100000
namespace Du
open PySem L2
def topS (i : Nat) : Stmt := PySem.Challenge.pw_duetimes_k05_members_alike_and_shown.main.body.getD i (.Pass ⟨0, 0, 0, 0⟩)
abbrev sNumber : Stmt := topS 11
abbrev sWhole : Stmt := topS 12
abbrev sName : Stmt := topS 13
/-- a def by its name -/
structure Dn (P : Program) (w : World) (K : PySem.W.Frag) (mg : Str → Option Value) (base : Heap) (k : Nat) (x : Str) (ps : List Str) (sp : Sp) : Prop where
  ex : ∃ (f : Addr) (fd : FuncData), FnOk P w K mg base CX0 k f fd ps sp ∧ mg x = some (.ref f) ∧ PySem.W.keepIn K (.ref f) = true ∧ Binds K fd ps []
theorem pcall {X : Cx} {k : Nat} {x : Str} {ps : List Str} {sp : Sp} {p pos : Pos} {e : Expr} {es : List Expr} {t : TA} (D : Dn X.prog X.w X.K X.mg X.base k x ps sp) (hr : Room k X.A) (hg : Gl X x) (ha : PA X (e :: es) t)
    (hdb : (x == ("__debug__" : Str)) = false := by decide) (he : starEach (e :: es) X.env = (false, eval e X.env) :: starEach es X.env := by rfl) (hpl : (backTo pos (starEach es X.env)).any (·.1) = false := by rfl) :
    PE X (.Call (.Name x p) (e :: es) [] pos) (tCall sp [] E0 t) := by
  obtain ⟨f, fd, F, hm, hk, hb⟩ := D.ex
  exact pe_call F hr hg hm hk hb .nil pass0 ha hdb he hpl
theorem Dn.mono {P : Program} {w : World} {K : PySem.W.Frag} {mg : Str → Option Value} {base : Heap} {j k : Nat} {x : Str} {ps : List Str} {sp : Sp} (D : Dn P w K mg base j x ps sp) (h : j ≤ k) : Dn P w K mg base k x ps sp := by
  obtain ⟨f, fd, F, hm, hk, hb⟩ := D.ex
  exact ⟨f, fd, F.mono h, hm, hk, hb⟩
section
variable {P : Program} {w : World} {K : PySem.W.Frag} {mg : Str → Option Value} {base : Heap}
/-! is_number -/
theorem scNumber : FnScope ["thing"] ["thing"] (defScope sNumber) := ⟨rfl, rfl, rfl, by decide +kernel, rfl, by decide +kernel, by decide +kernel⟩
def spNumber (K : PySem.W.Frag) : Sp := fun vs H Q _ => ∃ x : V, vs = [x] ∧
  ((∃ i : Int, x = .int i ∧ Q (.bl true) H) ∨ (∃ b : Bool, x = .bl b ∧ Q (.bl false) H) ∨ (∃ t, TyX K H x t ∧ PySem.W.kitOne K t (.type "int") = some false ∧ Q (.bl false) H))
theorem ok_number {f : Addr} {fd : FuncData} (F : Fun K "is_number" "is_number" sNumber f fd) (mI : mg "isinstance" = none) (mi : mg "int" = none) (mb : mg "bool" = none) :
    FnOk P w K mg base CX0 1 f fd ["thing"] (spNumber K) := by
  refine F.ok scNumber (fun vs H Q E h => ?_) (fun cdv A outer s H vs Q E hr h => ?_)
  · obtain ⟨x, rfl, _⟩ := h
    rfl
  · obtain ⟨x, rfl, h⟩ := h
    refine ⟨_, pss_one (ps_ret (pe_and (pe_callB call_isi (by rfl) mI (by decide +kernel) (pa_cons (pv 0) (pa_cons (pe_bltn (v := .ty "int") (by rfl) mi (by decide +kernel) rfl) pa_nil)))
      (pe_one (pe_not (pe_callB call_isi (by rfl) mI (by decide +kernel) (pa_cons (pv 0) (pa_cons (pe_bltn (v := .ty "bool") (by rfl) mb (by decide +kernel) rfl) pa_nil))))))), ?_⟩
    rcases h with ⟨i, rfl, q⟩ | ⟨b, rfl, q⟩ | ⟨t, ht, ht2, q⟩
    · refine ⟨_, rfl, _, _, _, _, true, rfl, .ty "int", .base (.int _), kit_ty (by decide +kernel), true, rfl, ?_⟩
      exact iteT ⟨_, rfl, _, _, _, _, false, rfl, .ty "bool", .base (.int _), kit_ty (by decide +kernel), false, rfl, q⟩
    · refine ⟨_, rfl, _, _, _, _, true, rfl, .ty "int", .base (.bl _), kit_ty (by decide +kernel), true, rfl, ?_⟩
      exact iteT ⟨_, rfl, _, _, _, _, true, rfl, .ty "bool", .base (.bl _), kit_ty (by decide +kernel), true, rfl, q⟩
    · refine ⟨_, rfl, _, _, _, _, false, rfl, .ty "int", ht, ht2, false, rfl, ?_⟩
      exact iteF q
/-! is_whole -/
theorem scWhole : FnScope ["thing", "least", "most"] ["thing", "least", "most"] (defScope sWhole) := ⟨rfl, rfl, rfl, by decide +kernel, rfl, by decide +kernel, by decide +kernel⟩
def spWhole (K : PySem.W.Frag) : Sp := fun vs H Q _ => ∃ (x : V) (lo hi : Int), vs = [x, .int lo, .int hi] ∧
  ((∃ i : Int, x = .int i ∧ Q (.bl (decide (lo ≤ i) && decide (i ≤ hi))) H) ∨ (∃ b : Bool, x = .bl b ∧ Q (.bl false) H) ∨ (∃ t, TyX K H x t ∧ PySem.W.kitOne K t (.type "int") = some false ∧ Q (.bl false) H))
theorem ok_whole {f : Addr} {fd : FuncData} (F : Fun K "is_whole" "is_whole" sWhole f fd) (DU : Dn P w K mg base 1 "is_number" ["thing"] (spNumber K)) :
    FnOk P w K mg base CX0 2 f fd ["thing", "least", "most"] (spWhole K) := by
  refine F.ok scWhole (fun vs H Q E h => ?_) (fun cdv A outer s H vs Q E hr h => ?_)
  · obtain ⟨x, lo, hi, rfl, _⟩ := h
    rfl
  · obtain ⟨x, lo, hi, rfl, h⟩ := h
    refine ⟨_, pss_one (ps_ret (pe_and (pcall DU hr (by rfl) (pa_cons (pv 0) pa_nil)) (pe_one (pe_chain op_le op_le (pv 1) (pv 0) (pv 2))))), ?_⟩
    rcases h with ⟨i, rfl, q⟩ | ⟨b, rfl, q⟩ | ⟨t, ht, ht2, q⟩
    · refine ⟨_, rfl, _, rfl, .inl ⟨i, rfl, true, rfl, ?_⟩⟩
      refine iteT ⟨_, rfl, _, rfl, _, _, rfl, rfl, _, rfl, ?_⟩
      by_cases h1 : lo ≤ i
      · rw [decide_eq_true h1] at q ⊢
        refine iteT ⟨_, rfl, _, _, rfl, rfl, ?_⟩
        simpa using q
      · rw [decide_eq_false h1] at q ⊢
        exact iteF (by simpa using q)
    · refine ⟨_, rfl, _, rfl, .inr (.inl ⟨b, rfl, false, rfl, ?_⟩)⟩
      exact iteF q
    · refine ⟨_, rfl, _, rfl, .inr (.inr ⟨t, ht, ht2, false, rfl, ?_⟩)⟩
      exact iteF q
end
end Du

set_option Elab.async false
set_option linter.all false
set_option maxRecDepth 100000
namespace Du
open PySem L2
section
variable {P : Program} {w : World} {K : PySem.W.Frag} {mg : Str → Option Value} {base : Heap}
theorem same_upd {H : Hp} {p : Addr} {o : HO} (h : H p = none) : Same H (upd H p o) := fun b x e => by
  rw [upd_ne (ne_of_none e h)]
  exact e
/-- all but one new address stays -/
theorem same_upd2 {H H1 : Hp} {p : Addr} {o : HO} (s : Same H H1) (h : H p = none) : Same H (upd H1 p o) := fun b x e => by
  rw [upd_ne (ne_of_none e h)]
  exact s _ _ e
theorem take_map1 {α β : Type} {l : List α} {i : Nat} {x : α} (f : α → β) (h : l[i]? = some x) : (l.take (i + 1)).map f = (l.take i).map f ++ [f x] := by
  rw [List.take_add_one, h, List.map_append]
  rfl
/-! is_name -/
def letters : Str := "abcdefghijklmnopqrstuvwxyz"
def isLetter (c : Nat) : Bool := decide (c ∈ letters.cps.toList)
def isNm (z : Str) : Bool := decide (1 ≤ z.length) && (decide (z.length ≤ 8) && z.cps.toList.all isLetter)
theorem scName : FnScope ["thing", "sign"] ["thing"] (defScope sName) := ⟨rfl, rfl, rfl, by decide +kernel, rfl, by decide +kernel, by decide +kernel⟩
def spName (K : PySem.W.Frag) : Sp := fun vs H Q _ => ∃ x : V, vs = [x] ∧
  ((∃ z : Str, x = .str z ∧ z.length ≤ sizeLine ∧ ∀ H', Same H H' → Q (.bl (isNm z)) H') ∨ (∃ t, TyX K H x t ∧ PySem.W.kitOne K t (.type "str") = some false ∧ Q (.bl false) H))
theorem ok_name {f : Addr} {fd : FuncData} (F : Fun K "is_name" "is_name" sName f fd) (mI : mg "isinstance" = none) (ms : mg "str" = none) (ml : mg "len" = none) (ma : mg "all" = none)
    (mM : ∃ t, mg "MOST_LETTERS" = some (.int 8 t)) (mL : ∃ t, mg "LETTERS" = some (.str letters t)) :
    FnOk P w K mg base CX0 2 f fd ["thing"] (spName K) := by
  obtain ⟨tM, mM⟩ := mM
  obtain ⟨tL, mL⟩ := mL
  refine F.ok scName (fun vs H Q E h => ?_) (fun cdv A outer s H vs Q E hr h => ?_)
  · obtain ⟨x, rfl, _⟩ := h
    rfl
  · obtain ⟨x, rfl, h⟩ := h
    refine ⟨_, pss_cons (ps_if (PW.pt (pw_or (pt_not (pt_val (pe_callB call_isi (by rfl) mI (by decide +kernel) (pa_cons (pv 0) (pa_cons (pe_bltn (v := .ty "str") (by rfl) ms (by decide +kernel) rfl) pa_nil)))))
        (pw_or1 (pt_not (pt_chain op_le op_le pe_int (pe_callB call_len_str (by rfl) ml (by decide +kernel) (pa_cons (pv 0) pa_nil)) (pe_glob (v := .int 8) rfl mM ⟨_, rfl⟩))))))
        (pss_one (ps_ret pe_bl)) pss_nil)
      (pss_one (ps_ret (pe_callB (cr_all rfl) (by rfl) ma (by decide +kernel) (pa_cons (pe_lc (own := [("sign", 1)]) (g := gName 1) (tt := tYes) rfl scName.nd (pi_str (pv 0))
        (blkOk_by (N := ["thing", "sign"]) (sc := defScope sName) (by decide +kernel)) (fun _ _ _ _ _ => pg_name (i := 1) scName.nd rfl (Or.inl rfl)) (fun _ _ _ _ _ => pts_nil)
        (fun _ _ _ _ _ => pe_cmpR op_in_sign (pv 1) (pe_glob (v := .str letters) rfl mL ⟨_, rfl⟩) (by rfl))) pa_nil)))), ?_⟩
    rcases h with ⟨z, rfl, hz, q⟩ | ⟨t, ht, ht2, q⟩
    · refine ⟨_, rfl, _, _, _, _, true, rfl, .ty "str", .base (.str _), kit_ty (by decide +kernel), true, rfl, ?_⟩
      refine iteF ⟨_, rfl, z, rfl, hz, _, _, rfl, rfl, _, rfl, ?_⟩
      by_cases h1 : 1 ≤ z.length
      · have e1 : decide ((1 : Int) ≤ ((z.length : Nat) : Int)) = true := decide_eq_true (by omega)
        rw [e1]
        refine iteT ⟨_, _, rfl, rfl, _, rfl, ?_⟩
        by_cases h2 : z.length ≤ 8
        · have e2 : decide (((z.length : Nat) : Int) ≤ 8) = true := decide_eq_true (by omega)
          rw [e2]
          refine iteF ?_
          -- the comprehension
          refine ⟨_, rfl, z, rfl, fun D nD => lc_it walk_str (fun i H' => Same H H' ∧ H' D = some (.lst ((z.cps.toList.take i).map fun c => V.bl (isLetter c)))) ⟨same_upd nD, upd_same⟩ (fun _ _ _ _ => trivial) ?_ ?_⟩
          · rintro i x H1 H2 hi ⟨s1, e⟩ ⟨rfl, c, hc, rfl⟩
            have hc' : z.cps.toList[i]? = some c := by simpa using hc
            refine ⟨rfl, _, rfl, c, letters, rfl, rfl, _, e, ?_, same_upd2 s1 nD, ?_⟩
            · rw [List.length_map, List.length_take]
              have : z.cps.toList.length = z.length := by simp [Str.length]
              have h9 : z.length < sizeLine := Nat.lt_of_le_of_lt h2 (by decide)
              omega
            · rw [upd_same, take_map1 _ hc']
              rfl
          · rintro H1 ⟨s1, e⟩
            have el : z.cps.toList.take z.cps.size = z.cps.toList := by
              rw [List.take_of_length_le]
              simp
            rw [el] at e
            refine ⟨D, z.cps.toList.map isLetter, rfl, SqL.of (by rw [e, List.map_map]; rfl), ?_⟩
            have q' := q H1 s1
            have eb : isNm z = (z.cps.toList.map isLetter).all id := by
              unfold isNm
              rw [decide_eq_true h1, decide_eq_true h2, List.all_map]
              rfl
            rw [eb] at q'
            exact q'
        · have e2 : decide (((z.length : Nat) : Int) ≤ 8) = false := decide_eq_false (by omega)
          rw [e2]
          refine iteT ?_
          have q' := q H (Same.refl _)
          unfold isNm at q'
          rw [decide_eq_false h2] at q'
          have q2 : Q (V.bl false) H := by simpa using q'
          exact q2
      · have e1 : decide ((1 : Int) ≤ ((z.length : Nat) : Int)) = false := decide_eq_false (by omega)
        rw [e1]
        refine iteF ⟨_, rfl, ?_⟩
        have q' := q H (Same.refl _)
        unfold isNm at q'
        rw [decide_eq_false h1] at q'
        have q2 : Q (V.bl false) H := by simpa using q'
        exact q2
    · refine ⟨_, rfl, _, _, _, _, false, rfl, .ty "str", ht, ht2, false, rfl, ?_⟩
      exact iteT (iteT q)
end
end Du

set_option Elab.async false
set_option linter.all false
set_option maxRecDepth 100000
namespace Du
open PySem L2
abbrev sHold : Stmt := topS 14
abbrev sAhead : Stmt := topS 15
abbrev sHolds : Stmt := topS 16
section
variable {P : Program} {w : World} {K : PySem.W.Frag} {mg : Str → Option Value} {base : Heap}
theorem tyx_tup {H : Hp} {a : Addr} {xs : List V} (h : SqT K H a xs) : TyX K H (.ref a) (.type "tuple") := by
  rcases h with (h | ⟨o, h⟩) | ⟨o, its, n, hk, hc, _⟩
  · exact .base (.tup h)
  · exact .fTuple h
  · exact .kTuple hk hc
theorem kit_tt : PySem.W.kitOne K (.type "tuple") (.type "tuple") = some true := kit_ty (by decide +kernel)
theorem walk_zipT {a b : Addr} {xs ys : List V} {n : Nat} (hn : n = min xs.length ys.length) : Walk (RZ.ItzT K a b) n (fun H => SqT K H a xs ∧ SqT K H b ys) (YPair (fun i => xs[i]?) (fun i => ys[i]?)) := by
  refine ⟨fun i H hi q => ?_, fun H q => ⟨xs, ys, q.1, q.2, by omega⟩, fun i H v H' hi q y => ?_⟩
  · exact ⟨xs, ys, xs[i]'(by omega), ys[i]'(by omega), q.1, q.2, List.getElem?_eq_getElem (by omega), List.getElem?_eq_getElem (by omega)⟩
  · obtain ⟨T, x, z, h1, h2, h3, h4, h5⟩ := y
    exact ⟨T, x, z, h1, h2, h3, h4 xs q.1, h5 ys q.2⟩
/-! is_hold -/
abbrev Hold := Str × Int × Int
def isHd (h : Hold) (cost : Int) : Bool := isNm h.1 && ((decide (0 ≤ h.2.1) && decide (h.2.1 ≤ cost)) && (decide (1 ≤ h.2.2) && decide (h.2.2 ≤ cost - h.2.1)))
def HdAt (K : PySem.W.Frag) (H : Hp) (v : V) (h : Hold) : Prop := ∃ a, v = .ref a ∧ SqT K H a [.str h.1, .int h.2.1, .int h.2.2]
theorem HdAt.same {H H' : Hp} {v : V} {h : Hold} (d : HdAt K H v h) (s : Same H H') : HdAt K H' v h := by
  obtain ⟨a, e, q⟩ := d
  exact ⟨a, e, q.ext s⟩
theorem scHold : FnScope ["thing", "cost", "tool", "start", "long"] ["thing", "cost"] (defScope sHold) := ⟨rfl, rfl, rfl, by decide +kernel, rfl, by decide +kernel, by decide +kernel⟩
def spHold (K : PySem.W.Frag) : Sp := fun vs H Q _ => ∃ (v : V) (h : Hold) (cost : Int), vs = [v, .int cost] ∧ HdAt K H v h ∧ h.1.length ≤ sizeLine ∧ ∀ H', Same H H' → Q (.bl (isHd h cost)) H'
theorem ok_hold {f : Addr} {fd : FuncData} (F : Fun K "is_hold" "is_hold" sHold f fd) (mI : mg "isinstance" = none) (mt : mg "tuple" = none) (ml : mg "len" = none)
    (DN : Dn P w K mg base 2 "is_name" ["thing"] (spName K)) (DW : Dn P w K mg base 2 "is_whole" ["thing", "least", "most"] (spWhole K)) :
    FnOk P w K mg base CX0 3 f fd ["thing", "cost"] (spHold K) := by
  refine F.ok scHold (fun vs H Q E h => ?_) (fun cdv A outer s H vs Q E hr h => ?_)
  · obtain ⟨v, h, cost, rfl, _⟩ := h
    rfl
  · obtain ⟨v, h, cost, rfl, ⟨a, rfl, hS⟩, hl, q⟩ := h
    refine ⟨_, pss_cons (ps_if (PW.pt (pw_or (pt_not (pt_val (pe_callB call_isi (by rfl) mI (by decide +kernel) (pa_cons (pv 0) (pa_cons (pe_bltn (v := .ty "tuple") (by rfl) mt (by decide +kernel) rfl) pa_nil)))))
        (pw_or1 (pt_cmpR op_ne (pe_callB call_len_seq (by rfl) ml (by decide +kernel) (pa_cons (pv 0) pa_nil)) pe_int (nomark _)))))
        (pss_one (ps_ret pe_bl)) pss_nil)
      (pss_cons (ps_asg (pv 0) (pg_tup rfl (pgs_cons (pg_name (i := 2) scHold.nd rfl (.inl rfl)) (pgs_cons (pg_name (i := 3) scHold.nd rfl (.inl rfl)) (pgs_cons (pg_name (i := 4) scHold.nd rfl (.inl rfl)) pgs_nil)))))
      (pss_one (ps_ret (pe_and (pcall DN hr (by rfl) (pa_cons (pv 2) pa_nil)) (pe_and (pcall DW hr (by rfl) (pa_cons (pv 3) (pa_cons pe_int (pa_cons (pv 1) pa_nil))))
        (pe_one (pcall DW hr (by rfl) (pa_cons (pv 4) (pa_cons pe_int (pa_cons (pe_op op_sub (pv 1) (pv 3)) pa_nil)))))))))), ?_⟩
    refine ⟨_, rfl, _, _, _, _, true, rfl, .ty "tuple", tyx_tup hS, kit_tt, true, rfl, ?_⟩
    refine ⟨_, rfl, a, _, rfl, .inr hS, rfl, _, rfl, ?_⟩
    show if (!decide ((V.int (3 : Nat)) = V.int 3)) = true then _ else _
    refine iteNS rfl ?_
    refine ⟨_, rfl, a, _, rfl, hS, rfl, _, _, rfl, _, _, rfl, _, _, rfl, rfl, ?_⟩
    -- the three questions
    refine ⟨_, rfl, _, rfl, .inl ⟨h.1, rfl, hl, fun H1 s1 => ⟨_, rfl, ?_⟩⟩⟩
    cases e1 : isNm h.1 with
    | false =>
      have q1 := q H1 s1
      unfold isHd at q1
      rw [e1] at q1
      exact q1
    | true =>
      refine ⟨_, rfl, _, rfl, _, _, _, rfl, .inl ⟨_, rfl, _, rfl, ?_⟩⟩
      cases e2 : (decide (0 ≤ h.2.1) && decide (h.2.1 ≤ cost)) with
      | false =>
        have q1 := q H1 s1
        unfold isHd at q1
        rw [e1, e2] at q1
        exact q1
      | true =>
        refine ⟨_, rfl, _, rfl, _, rfl, _, _, rfl, rfl, _, _, _, rfl, .inl ⟨_, rfl, ?_⟩⟩
        have q1 := q H1 s1
        unfold isHd at q1
        rw [e1, e2] at q1
        exact q1
/-! goes_ahead -/
def ahead (h g : Hold) : Bool := if h.1 = g.1 then decide (h.2.1 + h.2.2 ≤ g.2.1) else decide (h.1.cps.toList < g.1.cps.toList)
theorem scAhead : FnScope ["hold", "other", "tool", "start", "long"] ["hold", "other"] (defScope sAhead) := ⟨rfl, rfl, rfl, by decide +kernel, rfl, by decide +kernel, by decide +kernel⟩
def spAhead (K : PySem.W.Frag) : Sp := fun vs H Q _ => ∃ (v u : V) (h g : Hold), vs = [v, u] ∧ HdAt K H v h ∧ HdAt K H u g ∧ Q (.bl (ahead h g)) H
theorem ok_ahead {f : Addr} {fd : FuncData} (F : Fun K "goes_ahead" "goes_ahead" sAhead f fd) : FnOk P w K mg base CX0 2 f fd ["hold", "other"] (spAhead K) := by
  refine F.ok scAhead (fun vs H Q E h => ?_) (fun cdv A outer s H vs Q E hr h => ?_)
  · obtain ⟨v, u, h, g, rfl, _⟩ := h
    rfl
  · obtain ⟨v, u, h, g, rfl, ⟨a, rfl, hS⟩, ⟨b, rfl, hT⟩, q⟩ := h
    refine ⟨_, pss_cons (ps_asg (pv 0) (pg_tup rfl (pgs_cons (pg_name (i := 2) scAhead.nd rfl (.inl rfl)) (pgs_cons (pg_name (i := 3) scAhead.nd rfl (.inl rfl)) (pgs_cons (pg_name (i := 4) scAhead.nd rfl (.inl rfl)) pgs_nil)))))
      (pss_cons (ps_if (pt_cmpR op_eq (pv 2) (pe_ix ix_tup (pv 1) pe_int (fun _ _ => rfl)) (nomark _))
        (pss_one (ps_ret (pe_cmpR op_le (pe_op op_add (pv 3) (pv 4)) (pe_ix ix_tup (pv 1) pe_int (fun _ _ => rfl)) (nomark _)))) pss_nil)
      (pss_one (ps_ret (pe_cmpR op_lt_str (pv 2) (pe_ix ix_tup (pv 1) pe_int (fun _ _ => rfl)) (nomark _))))), ?_⟩
    refine ⟨_, rfl, a, _, rfl, hS, rfl, _, _, rfl, _, _, rfl, _, _, rfl, rfl, ?_⟩
    refine ⟨_, rfl, _, rfl, b, _, _, _, rfl, rfl, hT, at_of (j := 0) rfl rfl, rfl, _, rfl, ?_⟩
    by_cases hz : h.1 = g.1
    · have e1 : decide (V.str h.1 = V.str g.1) = true := decide_eq_true (by rw [hz])
      rw [e1]
      refine iteT ⟨_, rfl, _, rfl, _, _, rfl, rfl, _, rfl, b, _, _, _, rfl, rfl, hT, at_of (j := 1) rfl rfl, _, _, rfl, rfl, ?_⟩
      unfold ahead at q
      rw [if_pos hz] at q
      exact q
    · have e1 : decide (V.str h.1 = V.str g.1) = false := decide_eq_false (fun e => hz (V.str.inj e))
      rw [e1]
      refine iteF ⟨_, rfl, _, rfl, b, _, _, _, rfl, rfl, hT, at_of (j := 0) rfl rfl, _, _, rfl, rfl, ?_⟩
      unfold ahead at q
      rw [if_neg hz] at q
      exact q
end
end Du

set_option Elab.async false
set_option linter.all false
set_option maxRecDepth 100000
namespace Du
open PySem L2
section
variable {P : Program} {w : World} {K : PySem.W.Frag} {mg : Str → Option Value} {base : Heap}
/-! are_holds -/
def HdsAt (K : PySem.W.Frag) (H : Hp) (t : Addr) (hs : List Hold) : Prop := ∃ vs : List V, SqT K H t vs ∧ vs.length = hs.length ∧ ∀ (i : Nat) v h, vs[i]? = some v → hs[i]? = some h → HdAt K H v h
theorem HdsAt.same {H H' : Hp} {t : Addr} {hs : List Hold} (d : HdsAt K H t hs) (s : Same H H') : HdsAt K H' t hs := by
  obtain ⟨vs, h1, h2, h3⟩ := d
  exact ⟨vs, h1.ext s, h2, fun i v h e1 e2 => (h3 i v h e1 e2).same s⟩
def areHds (hs : List Hold) (cost : Int) : Bool := decide (hs.length ≤ 4) && (hs.all (fun h => isHd h cost) && (hs.zip (hs.drop 1)).all fun p => ahead p.1 p.2)
theorem scHolds : FnScope ["thing", "cost", "hold", "other"] ["thing", "cost"] (defScope sHolds) := ⟨rfl, rfl, rfl, by decide +kernel, rfl, by decide +kernel, by decide +kernel⟩
def spHolds (K : PySem.W.Frag) : Sp := fun vs H Q _ => ∃ (t : Addr) (hs : List Hold) (cost : Int), vs = [.ref t, .int cost] ∧ HdsAt K H t hs ∧ (∀ h ∈ hs, h.1.length ≤ sizeLine) ∧ ∀ H', Same H H' → Q (.bl (areHds hs cost)) H'
theorem cut1 (xs : List V) : cutV xs (some 1) none = xs.drop 1 := by
  unfold cutV
  rw [show HT.sIx xs.length 0 (some 1) = min 1 xs.length from HT.sIx_nat xs.length 0 1, HT.sIx_none]
  cases xs with
  | nil => rfl
  | cons x r =>
    rw [show min 1 (x :: r).length = 1 by rw [List.length_cons]; omega]
    show (List.take ((x :: r).length - 1) r) = r
    rw [List.length_cons, Nat.add_sub_cancel, List.take_length]
theorem getmem {α : Type} {l : List α} {i : Nat} {x : α} (h : l[i]? = some x) : x ∈ l := List.mem_of_getElem? h
theorem ok_holds {f : Addr} {fd : FuncData} (F : Fun K "are_holds" "are_holds" sHolds f fd) (mI : mg "isinstance" = none) (mt : mg "tuple" = none) (ml : mg "len" = none) (ma : mg "all" = none) (mz : mg "zip" = none)
    (mM : ∃ t, mg "MOST_HOLDS" = some (.int 4 t)) (DH : Dn P w K mg base 3 "is_hold" ["thing", "cost"] (spHold K)) (DA : Dn P w K mg base 2 "goes_ahead" ["hold", "other"] (spAhead K)) :
    FnOk P w K mg base CX0 4 f fd ["thing", "cost"] (spHolds K) := by
  obtain ⟨tM, mM⟩ := mM
  refine F.ok scHolds (fun vs H Q E h => ?_) (fun cdv A outer s H vs Q E hr h => ?_)
  · obtain ⟨t, hs, cost, rfl, _⟩ := h
    rfl
  · obtain ⟨t, hs, cost, rfl, ⟨vs, hS, hvl, hat⟩, hl, q⟩ := h
    have hr1 : Room 2 _ := hr.mono (by decide)
    refine ⟨_, pss_cons (ps_if (PW.pt (pw_or (pt_not (pt_val (pe_callB call_isi (by rfl) mI (by decide +kernel) (pa_cons (pv 0) (pa_cons (pe_bltn (v := .ty "tuple") (by rfl) mt (by decide +kernel) rfl) pa_nil)))))
        (pw_or1 (pt_cmpR op_gt (pe_callB call_len_seq (by rfl) ml (by decide +kernel) (pa_cons (pv 0) pa_nil)) (pe_glob (v := .int 4) rfl mM ⟨_, rfl⟩) (nomark _)))))
        (pss_one (ps_ret pe_bl)) pss_nil)
      (pss_cons (ps_if (pt_not (pt_val (pe_callB (cr_all rfl) (by rfl) ma (by decide +kernel) (pa_cons (pe_lc (own := [("hold", 2)]) (g := gName 2) (tt := tYes) rfl scHolds.nd (pi_tup (pv 0))
        (blkOk_by (N := ["thing", "cost", "hold", "other"]) (sc := defScope sHolds) (by decide +kernel)) (fun _ _ _ _ _ => pg_name (i := 2) scHolds.nd rfl (Or.inl rfl)) (fun _ _ _ _ _ => pts_nil)
        (fun _ _ _ _ _ => pcall DH hr (by rfl) (pa_cons (pv 2) (pa_cons (pv 1) pa_nil)))) pa_nil)))) (pss_one (ps_ret pe_bl)) pss_nil)
      (pss_one (ps_ret (pe_callB (cr_all rfl) (by rfl) ma (by decide +kernel) (pa_cons (pe_lc (own := [("hold", 2), ("other", 3)]) (g := gTup K 2 (gCons (gName 2) (gCons (gName 3) gNil))) (tt := tYes) rfl scHolds.nd
        (RZ.pi_zipA (by rfl) mz (pa_cons (pv 0) (pa_cons (pe_slice sl_tupA (pv 0) (po_some pe_int) po_none) pa_nil)))
        (blkOk_by (N := ["thing", "cost", "hold", "other"]) (sc := defScope sHolds) (by decide +kernel))
        (fun _ _ _ _ _ => pg_tup rfl (pgs_cons (pg_name (i := 2) scHolds.nd rfl (Or.inl rfl)) (pgs_cons (pg_name (i := 3) scHolds.nd rfl (Or.inl rfl)) pgs_nil))) (fun _ _ _ _ _ => pts_nil)
        (fun _ _ _ _ _ => pcall DA hr1 (by rfl) (pa_cons (pv 2) (pa_cons (pv 3) pa_nil)))) pa_nil))))), ?_⟩
    refine ⟨_, rfl, _, _, _, _, true, rfl, .ty "tuple", tyx_tup hS, kit_tt, true, rfl, ?_⟩
    refine ⟨_, rfl, t, _, rfl, .inr hS, _, _, rfl, rfl, _, rfl, ?_⟩
    rw [hvl]
    by_cases h4 : hs.length ≤ 4
    · have e1 : decide ((4 : Int) < ((hs.length : Nat) : Int)) = false := decide_eq_false (by omega)
      rw [e1]
      refine iteF ?_
      -- [is_hold(hold, cost) for hold in thing]
      refine ⟨_, rfl, t, rfl, ⟨vs, hS⟩, fun D nD => lc_tup (K := K) (a := t) (xs := vs) (fun i H' => Same H H' ∧ H' D = some (.lst ((hs.take i).map fun h => V.bl (isHd h cost)))) ⟨same_upd nD, upd_same⟩ (fun i H' _ z => hS.ext z.1) ?_ ?_⟩
      · rintro i x H1 hx ⟨s1, e⟩
        have hi : i < hs.length := by
          rw [← hvl]
          exact (List.getElem?_eq_some_iff.mp hx).1
        have hh : hs[i]? = some hs[i] := List.getElem?_eq_getElem hi
        refine ⟨rfl, _, rfl, _, rfl, x, hs[i], cost, rfl, (hat i x _ hx hh).same s1, hl _ (getmem hh), fun H2 s2 => ⟨_, s2 _ _ e, ?_, same_upd2 (s1.trans s2) nD, ?_⟩⟩
        · rw [List.length_map, List.length_take]
          exact Nat.lt_of_le_of_lt (Nat.min_le_right _ _) (Nat.lt_of_le_of_lt h4 (by decide))
        · rw [upd_same, take_map1 _ hh]
      · rintro H1 ⟨s1, e⟩
        rw [hvl, List.take_of_length_le (Nat.le_refl _)] at e
        refine ⟨D, hs.map (fun h => isHd h cost), rfl, SqL.of (by rw [e, List.map_map]; rfl), _, rfl, ?_⟩
        have ea : (hs.map fun h => isHd h cost).all id = hs.all fun h => isHd h cost := by
          rw [List.all_map]
          rfl
        rw [ea]
        cases eb : hs.all fun h => isHd h cost with
        | false =>
          have q1 := q H1 s1
          unfold areHds at q1
          rw [eb, decide_eq_true h4] at q1
          exact q1
        | true =>
          refine iteF ?_
          -- [goes_ahead(hold, other) for hold, other in zip(thing, thing[1:])]
          have fin : ∀ (b : Addr) (H2 : Hp), Same H H2 → SqT K H2 b (vs.drop 1) → ∀ (D : Addr), H2 D = none → ∃ W : Nat → Nat → Hp → Prop, (∃ m, W 0 m (upd H2 D (.lst []))) ∧ ∀ i m H, W i m H →
              ((RZ.ItzT K t b).stop i H ∧ rAll K [.ref D] H Q) ∨ ((RZ.ItzT K t b).go i H ∧ ∃ Nx : Hp → Prop, (∀ H', Nx H' → ∃ m', m' < m ∧ W (i + 1) m' H') ∧ ∀ x H', (RZ.ItzT K t b).yld i H x H' →
                gTup K 2 (gCons (gName 2) (gCons (gName 3) gNil)) x (wipe (L2.start ["thing", "cost", "hold", "other"] [V.ref t, V.int cost]) [2, 3]) H' fun σ2 H2 => wipe σ2 [2, 3] = wipe (L2.start ["thing", "cost", "hold", "other"] [V.ref t, V.int cost]) [2, 3] ∧ tYes σ2 H2 fun b H3 =>
                if b = true then tCall (spAhead K) [] E0 (tCons (tVar 2) (tCons (tVar 3) tNil)) σ2 H3 fun y H4 => ∃ acc, H4 D = some (.lst acc) ∧ acc.length < sizeLine ∧ Nx (upd H4 D (.lst (acc ++ [y]))) else Nx H3) := by
            intro b H2 s2 hb D2 nD2
            have hz : (hs.zip (hs.drop 1)).length = hs.length - 1 := by
              rw [List.length_zip, List.length_drop]
              omega
            refine lc_it (walk_zipT (xs := vs) (ys := vs.drop 1) (n := hs.length - 1) (by rw [List.length_drop, hvl]; omega)) (fun i H' => Same H2 H' ∧ H' D2 = some (.lst (((hs.zip (hs.drop 1)).take i).map fun p => V.bl (ahead p.1 p.2)))) ⟨same_upd nD2, upd_same⟩
              (fun i H' _ z => ⟨hS.ext (s2.trans z.1), hb.ext z.1⟩) ?_ ?_
            · rintro i x H3 H4 hi ⟨s3, e3⟩ ⟨T, x1, x2, rfl, nT, rfl, hx1, hx2⟩
              have hi1 : i < hs.length := by omega
              have hi2 : i + 1 < hs.length := by omega
              have g1 : hs[i]? = some hs[i] := List.getElem?_eq_getElem hi1
              have g2 : hs[i + 1]? = some hs[i + 1] := List.getElem?_eq_getElem hi2
              have hx2' : vs[i + 1]? = some x2 := by
                have z : (vs.drop 1)[i]? = some x2 := hx2
                rw [List.getElem?_drop, Nat.add_comm] at z
                exact z
              have sT : Same H3 (upd H3 T (.tup [x1, x2])) := same_upd nT
              have gz : (hs.zip (hs.drop 1))[i]? = some (hs[i], hs[i + 1]) := by
                rw [List.getElem?_zip_eq_some]
                refine ⟨g1, ?_⟩
                rw [List.getElem?_drop, Nat.add_comm]
                exact g2
              have s5 := (s2.trans s3).trans sT
              refine ⟨T, [x1, x2], rfl, SqT.of upd_same, rfl, x1, [x2], rfl, x2, [], rfl, rfl, rfl, _, rfl, _, rfl, x1, x2, hs[i], hs[i + 1], rfl, (hat _ _ _ hx1 g1).same s5, (hat _ _ _ hx2' g2).same s5, _, sT _ _ e3, ?_, same_upd2 (s3.trans sT) nD2, ?_⟩
              · rw [List.length_map, List.length_take]
                exact Nat.lt_of_le_of_lt (Nat.min_le_right _ _) (Nat.lt_of_le_of_lt (show _ ≤ 4 by omega) (by decide))
              · rw [upd_same, take_map1 _ gz]
            · rintro H3 ⟨s3, e3⟩
              rw [List.take_of_length_le (by omega)] at e3
              refine ⟨D2, (hs.zip (hs.drop 1)).map (fun p => ahead p.1 p.2), rfl, SqL.of (by rw [e3, List.map_map]; rfl), ?_⟩
              have q1 := q H3 (s2.trans s3)
              unfold areHds at q1
              rw [eb, decide_eq_true h4] at q1
              rw [List.all_map]
              exact q1
          refine ⟨_, rfl, _, rfl, 1, rfl, t, vs, rfl, hS.ext s1, fun hc => ?_, fun hc p np => ?_⟩
          · have e0 : vs = [] := by
              have h0 := hc.1
              rw [show HT.sIx vs.length 0 (some 1) = min 1 vs.length from HT.sIx_nat vs.length 0 1] at h0
              cases vs with
              | nil => rfl
              | cons x r =>
                rw [List.length_cons] at h0
                omega
            refine ⟨t, t, vs, vs.drop 1, rfl, .inr ⟨hS.ext s1, ?_, fin t H1 s1 ?_⟩⟩
            · rw [e0] at hS ⊢
              exact hS.ext s1
            · rw [e0] at hS ⊢
              exact hS.ext s1
          · have sp := same_upd (o := .tup (cutV vs (some 1) none)) np
            have hb : SqT K (upd H1 p (.tup (cutV vs (some 1) none))) p (vs.drop 1) := by
              rw [← cut1]
              exact SqT.of upd_same
            exact ⟨t, p, vs, vs.drop 1, rfl, .inr ⟨hS.ext (s1.trans sp), hb, fin p _ (s1.trans sp) hb⟩⟩
    · have e1 : decide ((4 : Int) < ((hs.length : Nat) : Int)) = true := decide_eq_true (by omega)
      rw [e1]
      refine iteT ?_
      have q1 := q H (Same.refl _)
      unfold areHds at q1
      rw [decide_eq_false h4] at q1
      exact q1
end
end Du

set_option Elab.async false
set_option linter.all false
set_option maxRecDepth 100000
namespace Du
open PySem L2 PyProof.Rows
section
variable {X : Cx} {CX : CXT} {k : Nat} {f C : Addr} {fd : FuncData} {ps : List Str} {sp : Sp} {pins : List (Addr × Obj)} {σ : L2.St} {H : Hp} {s : Shared}
/-- a call of an own def from somewhere below the body -/
theorem own_call {A : Around} {vs : List V} {us : List Value} {Q : VK} (F : FnOk X.prog X.w X.K X.mg X.base CX0 k f fd ps sp) (hb : Binds X.K fd ps []) (sb : Sub X k A) (I : Inv X pins σ H s) (r : Vals vs us) (h : sp vs H Q E0) :
    wpAny (model X.prog X.w) A (call (.ref f) us) (EP X pins σ Q) X.xe s := by
  have e := I.env0
  have e0 : Env0 X.prog X.w X.K X.mg X.base A X.stack s H := ⟨sb.fr.trans e.frames, e.mod, e.bs, e.bsz, e.funs, e.frf, e.hok, e.bare⟩
  have hl := F.len _ _ _ _ h
  have hu := hb s us I.kIn (by rw [List.append_nil, ← r.length, hl])
  rw [List.append_nil] at hu
  refine wpAny_call (codeAny_mono (F.run A X.stack s H ⟨us, []⟩ us vs Q E0 sb.room e0 hu r h) fun z s' hq => ?_)
  match z, hq with
  | .error _, hq => exact hq.elim
  | .ok (.ret u), hq => exact I.after hq
  | .ok .next, hq => exact hq.elim
  | .ok .brk, hq => exact hq.elim
  | .ok .cont, hq => exact hq.elim
/-- what len wants of an own __len__ -/
def rLenO (C : Addr) (sp : Sp) : List V → Hp → VK → Prop := fun xs H Q => ∃ (a dx : Addr) (fs : List (Str × V)), xs = [.ref a] ∧ H a = some (.ins C dx fs) ∧ sp [.ref a] H (fun v H' => ∃ n : Int, v = .int n ∧ 0 ≤ n ∧ n < 2 ^ 63 ∧ Q (.int n) H') E0
theorem call_lenO (F : FnOk X.prog X.w X.K X.mg X.base CX0 k f fd ps sp) (hb : Binds X.K fd ps []) (hr : Room (k + 1) X.A) (hs : PySem.W.findIn X.K (.ref C) "__len__" = some (some (.ref f))) (hf : PySem.W.isFn X.K (.ref f) = true) :
    CallR X (.builtin "len") (rLenO C sp) := by
  intro pins s σ H xs us Q I r h
  obtain ⟨a, dx, fs, rfl, ha, hsp⟩ := h
  obtain ⟨u, rfl, ru⟩ := vals1 r
  cases ru
  obtain ⟨mA, J, _⟩ := ins_get I.hok ha
  obtain ⟨od, J, _⟩ := J.look
  obtain ⟨m, hF⟩ := I.fr
  refine PySem.W.len_K hF I.ok.mod.kin J hs hf (wpAny_mono (own_call F hb ⟨hr.in1, rfl⟩ I (vs := [.ref a]) (.cons rfl .nil) hsp) (fun v s' q => ?_) fun _ _ z => z)
  obtain ⟨z, H', I', rz, n, rfl, h0, h1, q⟩ := q
  obtain ⟨t, rfl⟩ := rz
  exact ⟨⟨h0, h1⟩, .int n, H', I'.tok _, ⟨_, rfl⟩, q⟩
/-- the body of len over an own __len__ -/
theorem lenO_body {prog : Program} {w : World} {A : Around} {E : Value → Shared → Prop} {K : PySem.W.Frag} {x : Addr} {ox : Obj} {od : Option Obj} {Q : Value → Shared → Prop} (X : K.In s.heap) (I : PySem.W.InstAt s.heap x ox C od)
    (hs : PySem.W.findIn K (.ref C) "__len__" = some (some (.ref f))) (hf : PySem.W.isFn K (.ref f) = true) (h : wpAny (model prog w) A (call (.ref f) [.ref x]) (PySem.W.LenBack Q) E s) :
    wpAny (model prog w) A (Builtin.«len» ⟨[.ref x], []⟩) (fun fin s' => ∃ r, fin = .done (.ret r) ∧ Q r s') E s := by
  unfold Builtin.«len»
  refine wpAny_bind (m := oneArg "len" _) (wpAny_pure (wpAny_bind (m := callSpecial? (.ref x) (Str.ofString "__len__")) (PySem.W.special_fn X I hs (beq_iff_eq.mp hf) (wpAny_mono h (fun r s' hr => ?_) fun _ _ y => y))))
  match r, hr with
  | .int n u, ⟨⟨h0, h1⟩, hq⟩ =>
    refine wpAny_bind (wpAny_holding (wpAny_pure (wpAny_bind (wpAny_letGo ?_))))
    show wpAny _ _ (if n < 0 then _ else if n ≥ 2 ^ 63 then _ else _) _ _ _
    rw [if_neg (Int.not_lt.mpr h0), if_neg (Int.not_le.mpr h1)]; exact wpAny_bind (wpAny_mkInt (wpAny_pure ⟨_, rfl, hq⟩))
theorem truthyO {prog : Program} {w : World} {A : Around} {E : Value → Shared → Prop} {K : PySem.W.Frag} {x : Addr} {ox : Obj} {od : Option Obj} {Q : Bool → Shared → Prop} (X : K.In s.heap) (I : PySem.W.InstAt s.heap x ox C od)
    (hnb : PySem.W.findIn K (.ref C) "__bool__" = some none) (hs : PySem.W.findIn K (.ref C) "__len__" = some (some (.ref f))) (hf : PySem.W.isFn K (.ref f) = true)
    (h : wpAny (model prog w) A.in1 (call (.ref f) [.ref x]) (PySem.W.LenBack fun v s' => ∃ n t, v = .int n t ∧ Q (n != 0) s') E s) : wpAny (model prog w) A (truthy (.ref x)) Q E s := by
  have key : wpAny (model prog w) A (runValue (.builtin "len" ⟨[.ref x], []⟩)) (fun v s' => ∃ n t, v = .int n t ∧ Q (n != 0) s') E s := by
    refine wpAny_runValue (codeAny_builtin entry_len ?_)
    rw [Around.under_plainId plain_len _]
    exact wpAny_mono (lenO_body X I hs hf h) (fun fin s' h' => by obtain ⟨r, rfl, hq⟩ := h'; exact hq) fun _ _ e => e
  unfold truthy
  refine wpAny_bind (m := callSpecial? (.ref x) (Str.ofString "__bool__")) (wpAny_bind (wpAny_bind (I.type.here ((PySem.W.looks_findIn X hnb).here (wpAny_pure ?_)))))
  refine wpAny_bind (wpAny_bind (I.type.here ((PySem.W.looks_findIn X hs).here ?_)))
  refine wpAny_bind (wpAny_mono key (fun v s' q => ?_) fun _ _ e => e)
  obtain ⟨n, t, rfl, q⟩ := q
  exact wpAny_pure q
/-- the truth of an object with an own __len__, as a test -/
theorem pt_lenO {e : Expr} {te : TE} (F : FnOk X.prog X.w X.K X.mg X.base CX0 k f fd ps sp) (hb : Binds X.K fd ps []) (hr : Room (k + 1) X.A) (hnb : PySem.W.findIn X.K (.ref C) "__bool__" = some none)
    (hs : PySem.W.findIn X.K (.ref C) "__len__" = some (some (.ref f))) (hf : PySem.W.isFn X.K (.ref f) = true) (ha : PE X e te)
    (he : ∀ whole, isTrue e X.env whole = (do let v ← whole; standAt e.pos; holding [v] (truthy v)) := by intro _; rfl) :
    PT X e (fun σ H Q => te σ H fun x H' => ∃ (a dx : Addr) (fs : List (Str × V)), x = .ref a ∧ H' a = some (.ins C dx fs) ∧ sp [.ref a] H' (fun v H2 => ∃ n : Int, v = .int n ∧ 0 ≤ n ∧ n < 2 ^ 63 ∧ Q (n != 0) H2) E0) := by
  refine ⟨fun pins s σ H Q I h => isTrue_plain (thn (ha.run pins s σ H _ I h) fun v s1 ⟨x, H1, I1, r1, a, dx, fs, e1, h1, q1⟩ => ?_) (he _)⟩
  subst e1
  cases r1
  obtain ⟨mA, J, _⟩ := ins_get I1.hok h1
  obtain ⟨od, J, _⟩ := J.look
  refine truthyO I1.kIn J hnb hs hf (wpAny_mono (own_call F hb ⟨hr.in1, rfl⟩ I1 (vs := [.ref a]) (.cons rfl .nil) q1) (fun v s' q => ?_) fun _ _ z => z)
  obtain ⟨z, H', I', rz, n, rfl, h0, h2, q⟩ := q
  obtain ⟨t, rfl⟩ := rz
  exact ⟨⟨h0, h2⟩, n, _, rfl, H', I'.tok _, q⟩
/-- len(range(e)) -/
theorem pe_lenRg {e : Expr} {te : L2.St → Hp → (Int → Int → Hp → Prop) → Prop} {p pos : Pos} (hg : Gl X "len") (hm : X.mg "len" = none) (he : PRg X e te) (na : starEach [e] X.env = (false, eval e X.env) :: starEach [] X.env := by rfl) :
    PE X (.Call (.Name "len" p) [e] [] pos) (fun σ H Q => te σ H fun a b H1 => (((b - a).toNat : Nat) : Int) < 2 ^ 63 ∧ Q (.int ((b - a).toNat : Nat)) H1) := by
  refine ⟨fun pins s σ H Q I h => wpAny_Call_Name_kw (ld_blt I hg hm boot_len (callWith_builtin1 (args_cons (thn (he pins s σ H _ I h) fun x s1 ⟨r, a, b, t, u, v, H1, ex, hr, I1, ok, q⟩ => args_nil ?_) na) na))⟩
  subst ex
  exact call_len_range hr (rangeSize_nat a b) ok ⟨.int _, H1, I1.tok _, ⟨_, rfl⟩, q⟩
end
end Du

set_option Elab.async false
set_option linter.all false
set_option maxRecDepth 100000
namespace Du
open PySem L2 PyProof.Rows
section
variable {prog : Program} {w : World} {A : Around} {E : Value → Shared → Prop} {s : Shared} {K : PySem.W.Frag} {x y C f : Addr} {ox : Obj} {od : Option Obj}
/-- object's __ne__ over an own __eq__ -/
theorem neO_body {Q : Fin → Shared → Prop} (hu : A.units < cLine) (X : K.In s.heap) (I : PySem.W.InstAt s.heap x ox C od) (hs : PySem.W.findIn K (.ref C) "__eq__" = some (some (.ref f))) (hf : PySem.W.isFn K (.ref f) = true)
    (h : wpAny (model prog w) A (call (.ref f) [.ref x, .ref y]) (fun v s' => ∃ b, v = .bool b ∧ Q (.done (.ret (.bool (!b)))) s') E s) : wpAny (model prog w) A (Builtin.«object.__ne__» ⟨[.ref x, .ref y], []⟩) Q E s := by
  unfold Builtin.«object.__ne__»
  refine wpAny_bind (m := slotArgs "__ne__" 1 _) (wpAny_pure (wpAny_bind (wpAny_cRoomFor hu ?_)))
  refine wpAny_bind (m := callSpecialIfBound? (.ref x) (Str.ofString "__eq__") [.ref y]) (PySem.W.ifBound_K X I hs hf (wpAny_mono h (fun r s' hr => ?_) fun _ _ e => e))
  obtain ⟨b, rfl, hq⟩ := hr
  exact wpAny_bind (wpAny_truthy_bool (wpAny_pure hq))
theorem neO_try {Q : Option Value → Shared → Prop} (hu : A.units + 1 < cLine) (X : K.In s.heap) (I : PySem.W.InstAt s.heap x ox C od) (hn : PySem.W.findIn K (.ref C) "__ne__" = some (some (.builtin "object.__ne__")))
    (ho : PySem.W.subIn K (.ref C) (.type "object") = some true) (hs : PySem.W.findIn K (.ref C) "__eq__" = some (some (.ref f))) (hf : PySem.W.isFn K (.ref f) = true)
    (h : wpAny (model prog w) A.in1 (call (.ref f) [.ref x, .ref y]) (fun v s' => ∃ b, v = .bool b ∧ Q (some (.bool (!b))) s') E s) : wpAny (model prog w) A (tryCompare (.ref x) (Str.ofString "__ne__") (.ref y)) Q E s := by
  have S := F.cmp_object.ne
  have go : wpAny (model prog w) A (call (.builtin "object.__ne__") [.ref x, .ref y]) (fun v s' => ∃ b, v = .bool b ∧ Q (some (.bool b)) s') E s := by
    refine wpAny_call (codeAny_call_builtin S.plain F.cmpEntry_ne (PySem.W.check_slot F.cmpKind_ne F.cmpSplit_ne (I.type.andThen (PySem.W.looks_subIn X ho)) (F.cmpArgs_ne _ _) ?_))
    exact neO_body hu X I hs hf (wpAny_mono h (fun v s' z => by obtain ⟨b, rfl, q⟩ := z; exact ⟨b, rfl, !b, rfl, q⟩) fun _ _ e => e)
  have fin : wpAny (model prog w) A (call (.builtin "object.__ne__") ([.ref x] ++ [.ref y]) >>= fun v => pure (some v)) (fun r s' => ∃ b, r = some (Value.bool b) ∧ Q (some (.bool b)) s') E s :=
    wpAny_bind (wpAny_mono go (fun v s' z => by obtain ⟨b, rfl, q⟩ := z; exact wpAny_pure ⟨b, rfl, q⟩) fun _ _ e => e)
  unfold tryCompare
  refine wpAny_bind (m := callSpecialIfBound? (.ref x) (Str.ofString "__ne__") [.ref y]) ?_
  have step : wpAny (model prog w) A (callSpecialIfBound? (.ref x) (Str.ofString "__ne__") [.ref y]) (fun r s' => ∃ b, r = some (Value.bool b) ∧ Q (some (.bool b)) s') E s := by
    simp only [callSpecialIfBound?, bindSpecialIfBound?]
    refine wpAny_holding (wpAny_bind (wpAny_bind (wpAny_bind (I.type.here ((PySem.W.looks_findIn X hn).here (wpAny_bind (wpAny_askSetting (wpAny_ite ?_))))))))
    split
    · rw [S.bind]; exact wpAny_bind (wpAny_pure (wpAny_pure (by exact fin)))
    · rw [S.bind]; exact wpAny_tryCatch (wpAny_bind (wpAny_pure (wpAny_pure (by exact fin))))
  refine wpAny_mono step (fun r s' z => ?_) fun _ _ e => e
  obtain ⟨b, rfl, q⟩ := z
  exact wpAny_pure q
theorem neO_rich {Q : Value → Shared → Prop} (hu : A.units + 1 < cLine) (X : K.In s.heap) (I : PySem.W.InstAt s.heap x ox C od) (hy : PySem.W.Looks (model prog w) s.heap (typeOf (.ref y)) (.ref C)) (hn : PySem.W.findIn K (.ref C) "__ne__" = some (some (.builtin "object.__ne__")))
    (ho : PySem.W.subIn K (.ref C) (.type "object") = some true) (hs : PySem.W.findIn K (.ref C) "__eq__" = some (some (.ref f))) (hf : PySem.W.isFn K (.ref f) = true)
    (h : wpAny (model prog w) A.in1 (call (.ref f) [.ref x, .ref y]) (fun v s' => ∃ b, v = .bool b ∧ Q (.bool (!b)) s') E s) : wpAny (model prog w) A (richCompare .NotEq (.ref x) (.ref y)) Q E s := by
  have one : wpAny (model prog w) A (tryCompare (.ref x) (Str.ofString "__ne__") (.ref y)) (fun r s' => ∃ v, r = some v ∧ Q v s') E s :=
    neO_try hu X I hn ho hs hf (wpAny_mono h (fun v s' z => by obtain ⟨b, rfl, q⟩ := z; exact ⟨b, rfl, _, rfl, q⟩) fun _ _ e => e)
  unfold richCompare
  simp only [oneThing_ref, cmpInfo_NotEq]
  refine wpAny_holding (wpAny_bind (wpAny_cRoomFor (Nat.lt_of_succ_lt hu) (wpAny_bind (I.type.here (wpAny_bind (hy.here ?_))))))
  have e : (Value.ref C != Value.ref C) = false := by simp
  simp only [e, Bool.false_eq_true, if_false]
  refine wpAny_bind (wpAny_pure ?_)
  simp only [Bool.false_eq_true, if_false]
  refine wpAny_bind (wpAny_mono one (fun r s' z => ?_) fun _ _ e => e)
  obtain ⟨v, rfl, q⟩ := z
  exact wpAny_pure q
end
/-- x != y of two objects of one class with an own ==, that are equal -/
theorem op_neG {X : Cx} {n : Nat} {C f : Addr} {fd : FuncData} {ps : List Str} {R : Addr → Addr → Hp → Prop} (F : FnOk X.prog X.w X.K X.mg X.base CX0 n f fd ps (spEq R)) (hb : Binds X.K fd ps []) (hr : Room (n + 1) X.A)
    (hn : PySem.W.findIn X.K (.ref C) "__ne__" = some (some (.builtin "object.__ne__"))) (ho : PySem.W.subIn X.K (.ref C) (.type "object") = some true) (hs : PySem.W.findIn X.K (.ref C) "__eq__" = some (some (.ref f))) (hf : PySem.W.isFn X.K (.ref f) = true) :
    OpR X (compareOp .NotEq) (fun x y H Q => DIns C R x y H ∧ ∀ H', Ext H H' → Q (.bl false) H') := by
  intro pins s σ H x y v u Q I rx ry hq
  obtain ⟨⟨a, b, dx, dy, fs, gs, rfl, rfl, ha, hb', hR⟩, q⟩ := hq
  cases rx
  cases ry
  obtain ⟨mA, J, _⟩ := ins_get I.hok ha
  obtain ⟨mB, J', _⟩ := ins_get I.hok hb'
  obtain ⟨od, J, _⟩ := J.look
  obtain ⟨od', J', _⟩ := J'.look
  show wpAny _ _ (richCompare .NotEq (.ref a) (.ref b)) _ _ _
  refine neO_rich (hu_of hr) I.kIn J J'.type hn ho hs hf (wpAny_mono (own_call F hb ⟨hr.in1, rfl⟩ I (vs := [.ref a, .ref b]) (Q := fun v H' => v = .bl true ∧ Q (.bl false) H') (.cons rfl (.cons rfl .nil)) ⟨a, b, rfl, hR, fun H' e => ⟨rfl, q H' e⟩⟩) (fun r s' z => ?_) fun _ _ e => e)
  obtain ⟨v, H', I', rv, rfl, q'⟩ := z
  cases rv
  exact ⟨true, rfl, .bl false, H', I', rfl, q'⟩
/-- repr of data, where nothing is being shown -/
theorem call_reprD {X : Cx} (hg : X.A.guards = some []) (hu : X.A.units + 66 < cLine) : CallR X (.builtin "repr") (fun xs H Q => ∃ (a : Addr) (d : PyData), xs = [.ref a] ∧ Dp X.K H (.ref a) d ∧ d.showable = true ∧ d.hasDict = false ∧ d.depth ≤ 64 ∧ d.shown.length ≤ sizeLine ∧ Q (.str d.shown) H) := by
  intro pins s σ H xs us Q I r h
  obtain ⟨a, d, rfl, hd, h1, h2, h3, h4, q⟩ := h
  obtain ⟨u, rfl, ru⟩ := vals1 r
  cases ru
  obtain ⟨as, hr⟩ := Dp.reads I d _ _ hd rfl
  exact repr_of_reads' hr h1 (PyData.noDict_hsm h2) hg (by omega) (fun _ _ e => e) (fun h' u tk hk => ⟨.str d.shown, H, I.kept hk, ⟨_, rfl⟩, q⟩) h4
end Du

set_option Elab.async false
set_option linter.all false
set_option maxRecDepth 100000
namespace Du
open PySem L2
abbrev sWrongT : Stmt := topS 17
abbrev sInit : Stmt := inClass (topS 19) 0
abbrev sEq : Stmt := inClass (topS 19) 2
abbrev sLen : Stmt := inClass (topS 19) 3
def tf (n : Str) (c g d : Int) (t : Addr) : List (Str × V) := [("name", .str n), ("cost", .int c), ("gap", .int g), ("due", .int d), ("holds", .ref t)]
theorem tf_name (n : Str) (c g d : Int) (t : Addr) : (tf n c g d t).lookup ("name" : Str) = some (.str n) := rfl
theorem tf_cost (n : Str) (c g d : Int) (t : Addr) : (tf n c g d t).lookup ("cost" : Str) = some (.int c) := rfl
theorem tf_gap (n : Str) (c g d : Int) (t : Addr) : (tf n c g d t).lookup ("gap" : Str) = some (.int g) := rfl
theorem tf_due (n : Str) (c g d : Int) (t : Addr) : (tf n c g d t).lookup ("due" : Str) = some (.int d) := rfl
theorem tf_holds (n : Str) (c g d : Int) (t : Addr) : (tf n c g d t).lookup ("holds" : Str) = some (.ref t) := rfl
theorem tf_put (n : Str) (c g d : Int) (t : Addr) : putF "holds" (.ref t) (putF "due" (.int d) (putF "gap" (.int g) (putF "cost" (.int c) (putF "name" (.str n) [])))) = tf n c g d t := rfl
/-- what is asked of the class Task as the top has made it -/
structure TaskC (K : PySem.W.Frag) (mg : Str → Option Value) (C : Addr) : Prop where
  cl : Cls K C
  nN : NoAttr K C "name"
  nC : NoAttr K C "cost"
  nG : NoAttr K C "gap"
  nD : NoAttr K C "due"
  nH : NoAttr K C "holds"
  mg : mg "Task" = some (.ref C)
  kc : PySem.W.findIn K (.ref C) "__class__" = some (some (.builtin "object.__class__"))
  kg : PySem.W.specialIn K (.builtin "object.__class__") "__get__" = some (some (.builtin "getset_descriptor.__get__"))
  kt : PySem.W.takesIn K (.builtin "object.__class__") = some true
  km : PySem.W.mroIn K C (.type "object") = some true
  kk : PySem.W.kitOne K (.ref C) (.ref C) = some true
structure TaskV where
  name : Str
  cost : Int
  gap : Int
  due : Int
  holds : List Hold
/-- a good task -/
def TaskV.ok (t : TaskV) : Prop := isNm t.name = true ∧ (1 ≤ t.cost ∧ t.cost ≤ 99) ∧ (1 ≤ t.gap ∧ t.gap ≤ 600) ∧ (1 ≤ t.due ∧ t.due ≤ t.gap) ∧ areHds t.holds t.cost = true ∧ ∀ h ∈ t.holds, h.1.length ≤ sizeLine
/-- a task stands at x, its holds at h -/
def TaskAt (K : PySem.W.Frag) (C : Addr) (H : Hp) (x : Addr) (v : TaskV) (h : Addr) : Prop := (∃ dx, H x = some (.ins C dx (tf v.name v.cost v.gap v.due h))) ∧ HdsAt K H h v.holds
theorem TaskAt.same {K : PySem.W.Frag} {C : Addr} {H H' : Hp} {x h : Addr} {v : TaskV} (d : TaskAt K C H x v h) (s : Same H H') : TaskAt K C H' x v h := by
  obtain ⟨⟨dx, e⟩, q⟩ := d
  exact ⟨⟨dx, s _ _ e⟩, q.same s⟩
def dueV : Option Int → V
  | none => .non
  | some d => .int d
/-- the heap behind the five fields -/
def initH (H : Hp) (C x dx : Addr) (n : Str) (c g d : Int) (t : Addr) : Hp :=
  upd (upd (upd (upd (upd H x (.ins C dx (putF "name" (.str n) []))) x (.ins C dx (putF "cost" (.int c) (putF "name" (.str n) [])))) x (.ins C dx (putF "gap" (.int g) (putF "cost" (.int c) (putF "name" (.str n) []))))) x
    (.ins C dx (putF "due" (.int d) (putF "gap" (.int g) (putF "cost" (.int c) (putF "name" (.str n) [])))))) x (.ins C dx (putF "holds" (.ref t) (putF "due" (.int d) (putF "gap" (.int g) (putF "cost" (.int c) (putF "name" (.str n) []))))))
theorem initH_keep {H : Hp} {C x dx t b : Addr} {n : Str} {c g d : Int} (hb : b ≠ x) : initH H C x dx n c g d t b = H b := by
  unfold initH
  rw [upd_ne hb, upd_ne hb, upd_ne hb, upd_ne hb, upd_ne hb]
theorem initH_at {K : PySem.W.Frag} {H H2 : Hp} {C x dx h : Addr} {v : TaskV} (hx : H x = some (.ins C dx [])) (s : Same H H2) (hh : HdsAt K H h v.holds) :
    TaskAt K C (initH H2 C x dx v.name v.cost v.gap v.due h) x v h ∧ ∀ b o, H b = some o → b ≠ x → initH H2 C x dx v.name v.cost v.gap v.due h b = some o := by
  have keep : ∀ b o, H b = some o → b ≠ x → initH H2 C x dx v.name v.cost v.gap v.due h b = some o := fun b o e hb => by
    rw [initH_keep hb]
    exact s _ _ e
  refine ⟨⟨⟨dx, by unfold initH; rw [upd_same, tf_put]⟩, ?_⟩, keep⟩
  obtain ⟨vs, q1, q2, q3⟩ := hh
  have kT : ∀ a xs, SqT K H a xs → SqT K (initH H2 C x dx v.name v.cost v.gap v.due h) a xs := fun a xs z => by
    rcases z with (z | ⟨o, z⟩) | z
    · exact .inl (.inl (keep a _ z (ne_of z hx (by intro y; cases y))))
    · exact .inl (.inr ⟨o, keep a _ z (ne_of z hx (by intro y; cases y))⟩)
    · exact .inr z
  exact ⟨vs, kT _ _ q1, q2, fun i v h e1 e2 => by obtain ⟨a, ea, z⟩ := q3 i v h e1 e2; exact ⟨a, ea, kT _ _ z⟩⟩
section
variable {P : Program} {w : World} {K : PySem.W.Frag} {mg : Str → Option Value} {base : Heap}
/-! wrong_in_task of a good one -/
abbrev nWrongT : List Str := ["name", "cost", "gap", "due", "holds"]
theorem scWrongT : FnScope nWrongT nWrongT (defScope sWrongT) := ⟨rfl, rfl, rfl, by decide +kernel, rfl, by decide +kernel, by decide +kernel⟩
def spWrongT (K : PySem.W.Frag) : Sp := fun vs H Q _ => ∃ (h : Addr) (v : TaskV) (od : Option Int), vs = [.str v.name, .int v.cost, .int v.gap, dueV od, .ref h] ∧ v.due = od.getD v.gap ∧ v.ok ∧ HdsAt K H h v.holds ∧ ∀ H', Same H H' → Q .non H'
theorem ok_wrongT {f : Addr} {fd : FuncData} (F : Fun K "wrong_in_task" "wrong_in_task" sWrongT f fd) (mC : ∃ t, mg "MOST_COST" = some (.int 99 t)) (mG : ∃ t, mg "MOST_GAP" = some (.int 600 t))
    (DN : Dn P w K mg base 2 "is_name" ["thing"] (spName K)) (DW : Dn P w K mg base 2 "is_whole" ["thing", "least", "most"] (spWhole K)) (DH : Dn P w K mg base 4 "are_holds" ["thing", "cost"] (spHolds K)) :
    FnOk P w K mg base CX0 5 f fd nWrongT (spWrongT K) := by
  obtain ⟨uC, mC⟩ := mC
  obtain ⟨uG, mG⟩ := mG
  refine F.ok scWrongT (fun vs H Q E h => ?_) (fun cdv A outer s H vs Q E hr h => ?_)
  · obtain ⟨h, v, od, rfl, _⟩ := h
    rfl
  · obtain ⟨h, v, od, rfl, hdue, ⟨o1, o2, o3, o4, o5, o6⟩, hh, k⟩ := h
    have hr1 : Room 2 _ := hr.mono (by decide)
    refine ⟨_, (pss_cons (ps_if (pt_not (pt_val (pcall DN hr1 (by rfl) (pa_cons (pv 0) pa_nil)))) pss_never pss_nil) (pss_cons (ps_if (pt_not (pt_val (pcall DW hr1 (by rfl) (pa_cons (pv 1) (pa_cons pe_int (pa_cons (pe_glob (v := .int 99) rfl mC ⟨_, rfl⟩) pa_nil)))))) pss_never pss_nil) (pss_cons (ps_if (pt_not (pt_val (pcall DW hr1 (by rfl) (pa_cons (pv 2) (pa_cons pe_int (pa_cons (pe_glob (v := .int 600) rfl mG ⟨_, rfl⟩) pa_nil)))))) pss_never pss_nil) (pss_cons (ps_if (PW.pt (pw_and (pt_cmpR op_notN (pv 3) pe_non (nomark _)) (pw_and1 (pt_not (pt_val (pcall DW hr1 (by rfl) (pa_cons (pv 3) (pa_cons pe_int (pa_cons (pv 2) pa_nil))))))))) pss_never pss_nil) (pss_cons (ps_if (pt_not (pt_val (pcall DH hr (by rfl) (pa_cons (pv 4) (pa_cons (pv 1) pa_nil))))) pss_never pss_nil) (pss_one (ps_ret pe_non))))))), ?_⟩
    have hn8 : v.name.length ≤ sizeLine := by
      unfold isNm at o1
      simp only [Bool.and_eq_true, decide_eq_true_eq] at o1
      exact Nat.le_trans o1.2.1 (by decide)
    refine ⟨_, rfl, _, rfl, .inl ⟨_, rfl, hn8, fun H1 s1 => ⟨_, rfl, ?_⟩⟩⟩
    rw [o1]
    refine iteF ⟨_, rfl, _, _, _, rfl, .inl ⟨_, rfl, _, rfl, ?_⟩⟩
    rw [decide_eq_true o2.1, decide_eq_true o2.2]
    refine iteF ⟨_, rfl, _, _, _, rfl, .inl ⟨_, rfl, _, rfl, ?_⟩⟩
    rw [decide_eq_true o3.1, decide_eq_true o3.2]
    refine iteF ⟨_, rfl, rfl, _, rfl, ?_⟩
    cases od with
    | none =>
      refine ⟨_, rfl, _, rfl, h, v.holds, v.cost, rfl, hh.same s1, o6, fun H2 s2 => ⟨_, rfl, ?_⟩⟩
      rw [o5]
      exact iteF (k H2 (s1.trans s2))
    | some d =>
      have ed : v.due = d := hdue
      refine ⟨_, rfl, _, rfl, _, _, _, rfl, .inl ⟨_, rfl, _, rfl, ?_⟩⟩
      rw [ed] at o4
      rw [decide_eq_true o4.1, decide_eq_true o4.2]
      refine ⟨_, rfl, _, rfl, h, v.holds, v.cost, rfl, hh.same s1, o6, fun H2 s2 => ⟨_, rfl, ?_⟩⟩
      rw [o5]
      exact iteF (k H2 (s1.trans s2))
abbrev nInit : List Str := ["self", "name", "cost", "gap", "due", "holds", "part"]
theorem scInit : FnScope nInit ["self", "name", "cost", "gap", "due", "holds"] (defScope sInit) := ⟨rfl, rfl, rfl, by decide +kernel, rfl, by decide +kernel, by decide +kernel⟩
def spInit (K : PySem.W.Frag) (C : Addr) : Sp := fun vs H Q _ => ∃ (x dx h : Addr) (v : TaskV) (od : Option Int), vs = [.ref x, .str v.name, .int v.cost, .int v.gap, dueV od, .ref h] ∧ v.due = od.getD v.gap ∧ v.ok ∧ HdsAt K H h v.holds ∧ H x = some (.ins C dx []) ∧
  ∀ H', TaskAt K C H' x v h → (∀ b o, H b = some o → b ≠ x → H' b = some o) → Q .non H'
theorem ok_init {C f : Addr} {fd : FuncData} {kws : List (Str × V)} (F : FunD K "__init__" "Task.__init__" (defArgs sInit) (defBody sInit) (defScope sInit) [] kws f fd) (T : TaskC K mg C)
    (DT : Dn P w K mg base 5 "wrong_in_task" nWrongT (spWrongT K)) :
    FnOk P w K mg base CX0 6 f fd ["self", "name", "cost", "gap", "due", "holds"] (spInit K C) := by
  refine F.ok (CX := CX0) scInit (fun vs H Q E h => ?_) (fun cdv A outer s H vs Q E hr h => ?_)
  · obtain ⟨x, dx, h, v, od, rfl, _⟩ := h
    rfl
  · obtain ⟨x, dx, h, v, od, rfl, hdue, hok, hh, hx, k⟩ := h
    refine ⟨_, (pss_cons (ps_set (i := 6) scInit.nd rfl (.inl rfl) (pcall DT hr (by rfl) (pa_cons (pv 1) (pa_cons (pv 2) (pa_cons (pv 3) (pa_cons (pv 4) (pa_cons (pv 5) pa_nil))))))) (pss_cons (ps_if (pt_cmpR op_notN (pv 6) pe_non (nomark _)) pss_never pss_nil) (pss_cons (ps_fld (pv 0) (pv 1) rfl) (pss_cons (ps_fld (pv 0) (pv 2) rfl) (pss_cons (ps_fld (pv 0) (pv 3) rfl) (pss_cons (ps_fld (pv 0) (pe_ifExp (pt_cmpR op_isN (pv 4) pe_non (nomark _)) (pv 3) (pv 4)) rfl) (pss_one (ps_fld (pv 0) (pv 5) rfl)))))))), ?_⟩
    refine ⟨_, rfl, _, rfl, _, rfl, _, rfl, _, rfl, h, v, od, rfl, hdue, hok, hh, fun H2 s2 => ?_⟩
    refine ⟨_, rfl, rfl, _, rfl, ?_⟩
    refine iteF ?_
    refine ⟨_, rfl, _, rfl, x, C, dx, [], rfl, s2 _ _ hx, T.cl, T.nN, (by show 0 < 1000; decide), ?_⟩
    refine ⟨_, rfl, _, rfl, x, C, dx, _, rfl, upd_same, T.cl, T.nC, (by show 1 < 1000; decide), ?_⟩
    refine ⟨_, rfl, _, rfl, x, C, dx, _, rfl, upd_same, T.cl, T.nG, (by show 2 < 1000; decide), ?_⟩
    refine ⟨_, rfl, rfl, _, rfl, ?_⟩
    obtain ⟨z1, z2⟩ := initH_at hx s2 hh
    cases od with
    | none =>
      have ed : v.due = v.gap := hdue
      rw [ed] at z1 z2
      exact ⟨_, rfl, _, rfl, x, C, dx, _, rfl, upd_same, T.cl, T.nD, (by show 3 < 1000; decide), _, rfl, _, rfl, x, C, dx, _, rfl, upd_same, T.cl, T.nH, (by show 4 < 1000; decide), k _ z1 z2⟩
    | some d =>
      have ed : v.due = d := hdue
      rw [ed] at z1 z2
      exact ⟨_, rfl, _, rfl, x, C, dx, _, rfl, upd_same, T.cl, T.nD, (by show 3 < 1000; decide), _, rfl, _, rfl, x, C, dx, _, rfl, upd_same, T.cl, T.nH, (by show 4 < 1000; decide), k _ z1 z2⟩
end
end Du

set_option Elab.async false
set_option linter.all false
set_option maxRecDepth 100000
namespace Du
open PySem L2
section
variable {P : Program} {w : World} {K : PySem.W.Frag} {mg : Str → Option Value} {base : Heap}
def hdD (h : Hold) : PyData := .tuple [.str h.1, .int h.2.1, .int h.2.2]
theorem hd_dp {H : Hp} {v : V} {h : Hold} (d : HdAt K H v h) : Dp K H v (hdD h) := by
  obtain ⟨a, rfl, q⟩ := d
  exact .tup q (.cons (.str _) (.cons (.int _) (.cons (.int _) .nil)))
theorem hds_all {H : Hp} : ∀ {vs : List V} {hs : List Hold}, vs.length = hs.length → (∀ (i : Nat) v h, vs[i]? = some v → hs[i]? = some h → HdAt K H v h) → DpAll K H vs (hs.map hdD)
  | [], [], _, _ => .nil
  | v :: vs, h :: hs, hl, q => .cons (hd_dp (q 0 v h rfl rfl)) (hds_all (Nat.succ.inj hl) fun i a b e1 e2 => q (i + 1) a b e1 e2)
theorem hds_dp {H : Hp} {t : Addr} {hs : List Hold} (d : HdsAt K H t hs) : Dp K H (.ref t) (.tuple (hs.map hdD)) := by
  obtain ⟨vs, q1, q2, q3⟩ := d
  exact .tup q1 (hds_all q2 q3)
theorem letter_small {c : Nat} (h : isLetter c = true) : 97 ≤ c ∧ c ≤ 122 := by
  have z : ∀ c ∈ letters.cps.toList, 97 ≤ c ∧ c ≤ 122 := by decide +kernel
  exact z c (of_decide_eq_true h)
theorem nm_len {z : Str} (h : isNm z = true) : 1 ≤ z.length ∧ z.length ≤ 8 := by
  unfold isNm at h
  simp only [Bool.and_eq_true, decide_eq_true_eq] at h
  exact ⟨h.1, h.2.1⟩
theorem nm_codes {z : Str} (h : isNm z = true) : ∀ c ∈ z.cps.toList, 97 ≤ c ∧ c ≤ 122 := by
  unfold isNm at h
  simp only [Bool.and_eq_true, List.all_eq_true] at h
  exact fun c hc => letter_small (h.2.2 c hc)
theorem nm_strOk {z : Str} (h : isNm z = true) : PyData.strOk z = true := by
  unfold PyData.strOk
  rw [← Array.all_toList, List.all_eq_true]
  intro c hc
  have := nm_codes h c hc
  exact decide_eq_true (by omega)
theorem hds_lay : ∀ hs : List Hold, (∀ h ∈ hs, isNm h.1 = true) → PyData.canLayAll0 (hs.map hdD) = true
  | [], _ => rfl
  | h :: hs, q => by
    show (PyData.canLay0 (hdD h) && PyData.canLayAll0 (hs.map hdD)) = true
    rw [hds_lay hs fun g hg => q g (List.mem_cons_of_mem _ hg)]
    have e : PyData.canLay0 (hdD h) = PyData.strOk h.1 := by
      show (PyData.strOk h.1 && (true && (true && true))) = PyData.strOk h.1
      simp
    rw [e, nm_strOk (q h List.mem_cons_self)]
    rfl
theorem hds_depth : ∀ hs : List Hold, PyData.depthAll (hs.map hdD) ≤ 1
  | [] => Nat.zero_le _
  | h :: hs => by
    show max (PyData.depth (hdD h)) (PyData.depthAll (hs.map hdD)) ≤ 1
    have := hds_depth hs
    have e : PyData.depth (hdD h) = 1 := rfl
    omega
theorem hds_shaped {hs : List Hold} (q : ∀ h ∈ hs, isNm h.1 = true) : SeqAt.shaped (.tuple (hs.map hdD)) = true := by
  unfold SeqAt.shaped
  have h1 : PyData.canLay0 (.tuple (hs.map hdD)) = true := by
    simp only [PyData.canLay0]
    exact hds_lay hs q
  have h2 : PyData.depth (.tuple (hs.map hdD)) ≤ 64 := by
    have := hds_depth hs
    simp only [PyData.depth]
    omega
  rw [h1, decide_eq_true h2]
  rfl
theorem hds_eqv {hs : List Hold} (q : ∀ h ∈ hs, isNm h.1 = true) : PyData.eqv (.tuple (hs.map hdD)) (.tuple (hs.map hdD)) = true := SeqAt.eqv_refl _ (SeqAt.canLay_of_shaped (hds_shaped q))
/-! Task.__eq__ -/
theorem scEq : FnScope ["self", "other"] ["self", "other"] (defScope sEq) := ⟨rfl, rfl, rfl, by decide +kernel, rfl, by decide +kernel, by decide +kernel⟩
def TwoTasks (K : PySem.W.Frag) (C : Addr) (a b : Addr) (H : Hp) : Prop := ∃ (v : TaskV) (ha hb : Addr), TaskAt K C H a v ha ∧ TaskAt K C H b v hb ∧ ∀ h ∈ v.holds, isNm h.1 = true
theorem decV (x : V) : decide (x = x) = true := decide_eq_true rfl
theorem ok_eq {C f : Addr} {fd : FuncData} (F : Fun K "__eq__" "Task.__eq__" sEq f fd) (T : TaskC K mg C) (mI : mg "isinstance" = none) :
    FnOk P w K mg base CX0 3 f fd ["self", "other"] (spEq (TwoTasks K C)) := by
  refine F.ok scEq (fun vs H Q E h => ?_) (fun cdv A outer s H vs Q E hr h => ?_)
  · obtain ⟨a, b, rfl, _⟩ := h
    rfl
  · obtain ⟨a, b, rfl, ⟨v, ha, hb, ⟨⟨da, e1⟩, q1⟩, ⟨⟨db, e2⟩, q2⟩, hnm⟩, k⟩ := h
    refine ⟨_, pss_one (ps_ret (pe_and (pe_callB call_isi (by rfl) mI (by decide +kernel) (pa_cons (pv 1) (pa_cons (pe_glob (v := .ref C) rfl T.mg rfl) pa_nil)))
      (pe_and (pe_cmpR op_eq (pe_fld (pv 0) rfl) (pe_fld (pv 1) rfl) (nomark _)) (pe_and (pe_cmpR op_eq (pe_fld (pv 0) rfl) (pe_fld (pv 1) rfl) (nomark _)) (pe_and (pe_cmpR op_eq (pe_fld (pv 0) rfl) (pe_fld (pv 1) rfl) (nomark _))
      (pe_and (pe_cmpR op_eq (pe_fld (pv 0) rfl) (pe_fld (pv 1) rfl) (nomark _)) (pe_one (pe_cmpR (op_eqD hr.units) (pe_fld (pv 0) rfl) (pe_fld (pv 1) rfl) (nomark _))))))))), ?_⟩
    refine ⟨_, rfl, _, _, _, _, true, rfl, .own C, .base (.ins e2 T.cl T.kc T.kg T.kt T.km), T.kk, true, rfl, ?_⟩
    refine iteT ⟨_, rfl, a, C, da, _, _, rfl, e1, T.cl, T.nN, tf_name _ _ _ _ _, _, rfl, b, C, db, _, _, rfl, e2, T.cl, T.nN, tf_name _ _ _ _ _, rfl, _, rfl, ?_⟩
    rw [decV]
    refine iteT ⟨_, rfl, a, C, da, _, _, rfl, e1, T.cl, T.nC, tf_cost _ _ _ _ _, _, rfl, b, C, db, _, _, rfl, e2, T.cl, T.nC, tf_cost _ _ _ _ _, rfl, _, rfl, ?_⟩
    rw [decV]
    refine iteT ⟨_, rfl, a, C, da, _, _, rfl, e1, T.cl, T.nG, tf_gap _ _ _ _ _, _, rfl, b, C, db, _, _, rfl, e2, T.cl, T.nG, tf_gap _ _ _ _ _, rfl, _, rfl, ?_⟩
    rw [decV]
    refine iteT ⟨_, rfl, a, C, da, _, _, rfl, e1, T.cl, T.nD, tf_due _ _ _ _ _, _, rfl, b, C, db, _, _, rfl, e2, T.cl, T.nD, tf_due _ _ _ _ _, rfl, _, rfl, ?_⟩
    rw [decV]
    refine iteT ⟨_, rfl, a, C, da, _, _, rfl, e1, T.cl, T.nH, tf_holds _ _ _ _ _, _, rfl, b, C, db, _, _, rfl, e2, T.cl, T.nH, tf_holds _ _ _ _ _, _, _, hds_dp q1, hds_dp q2, hds_shaped hnm, hds_shaped hnm, ?_⟩
    rw [hds_eqv hnm]
    exact k H (Same.refl _)
/-! Task.__len__ -/
theorem scLen : FnScope ["self"] ["self"] (defScope sLen) := ⟨rfl, rfl, rfl, by decide +kernel, rfl, by decide +kernel, by decide +kernel⟩
def spLenT (K : PySem.W.Frag) (C : Addr) : Sp := fun vs H Q _ => ∃ (a h : Addr) (v : TaskV), vs = [.ref a] ∧ TaskAt K C H a v h ∧ 0 ≤ v.cost ∧ v.cost < 1000 ∧ Q (.int v.cost) H
theorem ok_len {C f : Addr} {fd : FuncData} (F : Fun K "__len__" "Task.__len__" sLen f fd) (T : TaskC K mg C) (ml : mg "len" = none) (mr : mg "range" = none) :
    FnOk P w K mg base CX0 3 f fd ["self"] (spLenT K C) := by
  refine F.ok scLen (fun vs H Q E h => ?_) (fun cdv A outer s H vs Q E hr h => ?_)
  · obtain ⟨a, h, v, rfl, _⟩ := h
    rfl
  · obtain ⟨a, h, v, rfl, ⟨⟨dx, e1⟩, _⟩, h0, h1, q⟩ := h
    refine ⟨_, pss_one (ps_ret (pe_lenRg (by rfl) ml (prg_1 (by rfl) mr (pe_fld (pv 0) rfl)))), ?_⟩
    have en : (((v.cost - 0).toNat : Nat) : Int) = v.cost := by omega
    refine ⟨_, rfl, a, C, dx, _, _, rfl, e1, T.cl, T.nC, tf_cost _ _ _ _ _, _, rfl, by omega, ?_⟩
    rw [en]
    exact q
end
end Du

set_option Elab.async false
set_option linter.all false
set_option maxRecDepth 100000
namespace Du
open PySem L2
abbrev sCell : Stmt := topS 22
abbrev sPurse : Stmt := topS 23
abbrev sTake : Stmt := topS 24
section
variable {P : Program} {w : World} {K : PySem.W.Frag} {mg : Str → Option Value} {base : Heap}
theorem cutV_mem {xs : List V} {lo hi : Option Int} {x : V} (h : x ∈ cutV xs lo hi) : x ∈ xs := List.mem_of_mem_drop (List.mem_of_mem_take h)
/-! _law_cell -/
theorem scCell : FnScope ["_law_script", "_law_k", "_law_state", "_law_cell_here"] ["_law_script", "_law_k"] (defScope sCell) := ⟨rfl, rfl, rfl, by decide +kernel, rfl, by decide +kernel, by decide +kernel⟩
def spCellL (K : PySem.W.Frag) : Sp := fun vs H Q _ => ∃ (a : Addr) (ns : List Int) (k : Nat), vs = [.ref a, .int (k : Int)] ∧ SqL K H a (ns.map V.int) ∧ k < 64 ∧ ∀ (n : Int) H', Same H H' → Q (.int n) H'
theorem ok_cell {f : Addr} {fd : FuncData} (F : Fun K "_law_cell" "_law_cell" sCell f fd) (ml : mg "len" = none) : FnOk P w K mg base CX0 3 f fd ["_law_script", "_law_k"] (spCellL K) := by
  refine F.ok scCell (fun vs H Q E h => ?_) (fun cdv A outer s H vs Q E hr h => ?_)
  · obtain ⟨a, ns, k, rfl, _⟩ := h
    rfl
  · obtain ⟨a, ns, k, rfl, hS, hk, q⟩ := h
    refine ⟨_, pss_cons (ps_if (pt_cmpR op_lt (pv 1) (pe_callB call_len_seq (by rfl) ml (by decide +kernel) (pa_cons (pv 0) pa_nil)) (nomark _)) (pss_one (ps_ret (pe_ix ix_list (pv 0) (pv 1) (fun _ _ => rfl)))) pss_nil)
      (pss_cons (ps_set (i := 2) scCell.nd rfl (.inl rfl) (pe_op op_mod (pe_op op_mul pe_int (pe_op op_add (pe_op op_add (pe_op op_mul (pv 1) (pv 1)) (pe_op op_mul pe_int (pv 1))) pe_int)) pe_int))
      (pss_cons (ps_for PassesOwn.never rfl (pi_list (pe_slice sl_list (pv 0) po_none (po_some pe_int))) (pg_name (i := 3) scCell.nd rfl (.inl rfl))
        (pss_one (ps_set (i := 2) scCell.nd rfl (.inl rfl) (pe_op op_mod (pe_op op_add (pe_op op_mul (pv 2) pe_int) (pv 3)) pe_int))))
      (pss_one (ps_ret (pv 2))))), ?_⟩
    refine ⟨_, rfl, _, rfl, a, _, rfl, .inl hS, _, _, rfl, rfl, _, rfl, ?_⟩
    by_cases hlt : k < ns.length
    · have e1 : decide ((k : Int) < (((ns.map V.int).length : Nat) : Int)) = true := decide_eq_true (by rw [List.length_map]; omega)
      rw [e1]
      have g : (ns.map V.int)[k]? = some (V.int ns[k]) := by
        rw [List.getElem?_map, List.getElem?_eq_getElem hlt]
        rfl
      exact iteT ⟨_, rfl, _, rfl, a, _, _, _, rfl, rfl, hS, at_of rfl g, q _ H (Same.refl _)⟩
    · have e1 : decide ((k : Int) < (((ns.map V.int).length : Nat) : Int)) = false := decide_eq_false (by rw [List.length_map]; omega)
      rw [e1]
      refine iteF ⟨_, rfl, _, rfl, _, _, rfl, rfl, .inl ⟨by omega, by omega⟩, _, rfl, _, _, rfl, rfl, .inl ⟨by decide, by decide⟩, _, _, rfl, rfl, _, _, rfl, rfl, _, _, rfl, rfl, .inl ⟨by decide, by decide⟩, _, _, rfl, rfl, (by show (0 : Int) < 1000000021; decide), ?_⟩
      refine ⟨_, rfl, 3, rfl, a, _, rfl, hS, fun c nc => ?_⟩
      refine ⟨c, rfl, ⟨_, SqL.of upd_same⟩, for_list (K := K) (a := c) (xs := cutV (ns.map V.int) none (some 3)) (fun i σ H' => ∃ (st : Int) (v : Option V), σ = [some (.ref a), some (.int (k : Int)), some (.int st), v] ∧ Same (upd H c (.lst (cutV (ns.map V.int) none (some 3)))) H')
        ⟨_, none, rfl, Same.refl _⟩ (fun i σ H' _ z => ?_) ?_ ?_⟩
      · obtain ⟨_, _, _, s1⟩ := z
        exact SqL.of (s1 _ _ upd_same)
      · rintro i x σ H' hi ⟨st, v, rfl, s1⟩
        obtain ⟨z, _, rfl⟩ := List.mem_map.mp (cutV_mem (List.mem_of_getElem? hi))
        refine ⟨_, rfl, _, _, rfl, rfl, .inr ⟨by decide, by decide⟩, _, rfl, _, _, rfl, rfl, _, _, rfl, rfl, (by show (0 : Int) < 1000000021; decide), ?_⟩
        exact ⟨_, _, rfl, s1⟩
      · rintro σ H' ⟨st, v, rfl, s1⟩
        exact ⟨_, rfl, q st H' ((same_upd nc).trans s1)⟩
/-! _law_purse -/
def Purse (H : Hp) (p : Addr) : Prop := ∃ a d c : Int, H p = some (.lst [.int a, .int d, .int c]) ∧ 0 ≤ a ∧ a < 1000000021 ∧ 0 ≤ d ∧ 0 ≤ c
theorem scPurse : FnScope ["_law_cell_here", "_law_digits"] ["_law_cell_here"] (defScope sPurse) := ⟨rfl, rfl, rfl, by decide +kernel, rfl, by decide +kernel, by decide +kernel⟩
def spPurse : Sp := fun vs H Q _ => ∃ n : Int, vs = [.int n] ∧ ∀ p H', Same H H' → H p = none → Purse H' p → Q (.ref p) H'
theorem ok_purse {f : Addr} {fd : FuncData} (F : Fun K "_law_purse" "_law_purse" sPurse f fd) (ma : mg "abs" = none) : FnOk P w K mg base CX0 3 f fd ["_law_cell_here"] spPurse := by
  refine F.ok scPurse (fun vs H Q E h => ?_) (fun cdv A outer s H vs Q E hr h => ?_)
  · obtain ⟨n, rfl, _⟩ := h
    rfl
  · obtain ⟨n, rfl, q⟩ := h
    refine ⟨_, pss_cons (ps_set (i := 1) scPurse.nd rfl (.inl rfl) pe_int)
      (pss_cons (ps_if (PW.pt (pw_or (pt_cmpR op_lt (pv 0) pe_int (nomark _)) (pw_or1 (pt_cmpR op_ge (pv 0) (pe_op op_pow pe_int pe_int) (nomark _)))))
        (pss_one (ps_set (i := 1) scPurse.nd rfl (.inl rfl) (pe_callB call_abs (by rfl) ma (by decide +kernel) (pa_cons (pv 0) pa_nil)))) pss_nil)
      (pss_one (ps_ret (pe_lst (pa_cons (pe_op op_mod (pv 0) pe_int) (pa_cons (pv 1) (pa_cons pe_int pa_nil))))))), ?_⟩
    have fin : ∀ d : Int, 0 ≤ d → tRet (fun σ H Q => tCons (tOp (rI (fun _ j => 0 < j) fun i j => .int (i % j)) (tVar 0) (tC (.int 1000000021))) (tCons (tVar 1) (tCons (tC (.int 0)) tNil)) σ H fun vs H1 => vs.length ≤ sizeLine ∧ ∀ p, H1 p = none → Q (.ref p) (upd H1 p (.lst vs)))
        { nx := fun _ H' => Q .non H', rt := Q } [some (.int n), some (.int d)] H := by
      intro d hd
      refine ⟨_, rfl, _, _, rfl, rfl, (by show (0 : Int) < 1000000021; decide), _, rfl, (by show 3 ≤ sizeLine; decide), fun p np => ?_⟩
      exact q p _ (same_upd np) np ⟨_, d, 0, upd_same, Int.emod_nonneg _ (by decide), Int.emod_lt_of_pos _ (by decide), hd, Int.le_refl _⟩
    refine ⟨_, rfl, _, _, rfl, rfl, _, rfl, ?_⟩
    by_cases h1 : n < 0
    · rw [decide_eq_true h1]
      refine ⟨_, rfl, n, rfl, ?_⟩
      exact fin _ (by split <;> omega)
    · rw [decide_eq_false h1]
      refine ⟨_, rfl, _, _, rfl, rfl, ⟨by decide, by decide, by decide⟩, _, _, rfl, rfl, _, rfl, ?_⟩
      by_cases h2 : (10 : Int) ^ (18 : Int).toNat ≤ n
      · rw [decide_eq_true h2]
        refine ⟨_, rfl, n, rfl, ?_⟩
        exact fin _ (by split <;> omega)
      · rw [decide_eq_false h2]
        exact fin 0 (Int.le_refl _)
/-! _law_take -/
/-- the purse goes on, all else that is tracked stays -/
structure Step (p : Addr) (H H' : Hp) : Prop where
  purse : Purse H' p
  keep : ∀ b o, b ≠ p → H b = some o → H' b = some o
theorem scTake : FnScope ["_law_purse_here", "_law_many", "_law_state", "_law_taken"] ["_law_purse_here", "_law_many"] (defScope sTake) := ⟨rfl, rfl, rfl, by decide +kernel, rfl, by decide +kernel, by decide +kernel⟩
def spTake : Sp := fun vs H Q _ => ∃ (p : Addr) (m : Int), vs = [.ref p, .int m] ∧ 0 < m ∧ m < 1073741824 ∧ Purse H p ∧ ∀ (r : Int) H', 0 ≤ r → r < m → Step p H H' → Q (.int r) H'
theorem ok_take {f : Addr} {fd : FuncData} (F : Fun K "_law_take" "_law_take" sTake f fd) : FnOk P w K mg base CX0 3 f fd ["_law_purse_here", "_law_many"] spTake := by
  refine F.ok scTake (fun vs H Q E h => ?_) (fun cdv A outer s H vs Q E hr h => ?_)
  · obtain ⟨p, m, rfl, _⟩ := h
    rfl
  · obtain ⟨p, m, rfl, hm, hm2, ⟨a, d, c, hp, a0, a1, d0, c0⟩, q⟩ := h
    refine ⟨_, pss_cons (ps_asg (pe_op op_add (pe_ix ix_list (pv 0) pe_int (fun _ _ => rfl)) pe_int) (pg_sub (pv 0) pe_int set_list))
      (pss_cons (ps_set (i := 2) scTake.nd rfl (.inl rfl) (pe_ix ix_list (pv 0) pe_int (fun _ _ => rfl)))
      (pss_cons (ps_asg (pe_op op_mod (pe_op op_add (pe_op op_add (pe_op op_mul (pv 2) (pe_op op_add (pe_op op_mod (pv 2) pe_int) pe_int)) (pe_op op_mul pe_int (pe_ix ix_list (pv 0) pe_int (fun _ _ => rfl)))) pe_int) pe_int) (pg_sub (pv 0) pe_int set_list))
      (pss_cons (ps_if (pt_cmpR op_gt (pe_ix ix_list (pv 0) pe_int (fun _ _ => rfl)) pe_int (nomark _))
        (pss_cons (ps_set (i := 3) scTake.nd rfl (.inl rfl) (pe_op op_mod (pe_ix ix_list (pv 0) pe_int (fun _ _ => rfl)) (pv 1)))
        (pss_cons (ps_asg (pe_op op_fdiv (pe_ix ix_list (pv 0) pe_int (fun _ _ => rfl)) (pv 1)) (pg_sub (pv 0) pe_int set_list)) (pss_one (ps_ret (pv 3))))) pss_nil)
      (pss_one (ps_ret (pe_op op_mod (pe_op op_fdiv (pe_ix ix_list (pv 0) pe_int (fun _ _ => rfl)) pe_int) (pv 1))))))), ?_⟩
    refine ⟨_, rfl, p, _, _, _, rfl, rfl, SqL.of hp, at_of (j := 2) rfl rfl, _, _, rfl, rfl, _, rfl, p, _, _, 2, rfl, rfl, hp, rfl, ?_⟩
    refine ⟨_, rfl, p, _, _, _, rfl, rfl, SqL.of upd_same, at_of (j := 0) rfl rfl, ?_⟩
    refine ⟨_, rfl, _, rfl, _, _, rfl, rfl, (by show (0 : Int) < 50021; decide), _, _, rfl, rfl, _, _, rfl, rfl, .inl ⟨by omega, by omega⟩, _, rfl, p, _, _, _, rfl, rfl, SqL.of upd_same, at_of (j := 2) rfl rfl, _, _, rfl, rfl, .inl ⟨by decide, by decide⟩, _, _, rfl, rfl, _, _, rfl, rfl, _, _, rfl, rfl, (by show (0 : Int) < 1000000021; decide), ?_⟩
    refine ⟨_, rfl, p, _, _, 0, rfl, rfl, upd_same, rfl, ?_⟩
    refine ⟨_, rfl, p, _, _, _, rfl, rfl, SqL.of upd_same, at_of (j := 1) rfl rfl, _, _, rfl, rfl, _, rfl, ?_⟩
    have keep : ∀ (o1 o2 : HO) b o, b ≠ p → H b = some o → upd (upd H p o1) p o2 b = some o := fun o1 o2 b o hb e => by rw [upd_ne hb, upd_ne hb]; exact e
    have n0 : ∀ z : Int, 0 ≤ z % 1000000021 := fun z => Int.emod_nonneg _ (by decide)
    have n1 : ∀ z : Int, z % 1000000021 < 1000000021 := fun z => Int.emod_lt_of_pos _ (by decide)
    by_cases hd : 0 < d
    · rw [decide_eq_true hd]
      refine ⟨_, rfl, p, _, _, _, rfl, rfl, SqL.of upd_same, at_of (j := 1) rfl rfl, _, rfl, _, _, rfl, rfl, hm, ?_⟩
      refine ⟨_, rfl, p, _, _, _, rfl, rfl, SqL.of upd_same, at_of (j := 1) rfl rfl, _, rfl, _, _, rfl, rfl, ⟨hm, hm2⟩, _, rfl, p, _, _, 1, rfl, rfl, upd_same, rfl, _, rfl, ?_⟩
      refine q _ _ (Int.emod_nonneg _ (by omega)) (Int.emod_lt_of_pos _ hm) ⟨⟨_, _, _, upd_same, n0 _, n1 _, Int.ediv_nonneg d0 (by omega), by omega⟩, fun b o hb e => ?_⟩
      rw [upd_ne hb]
      exact keep _ _ b o hb e
    · rw [decide_eq_false hd]
      refine ⟨_, rfl, p, _, _, _, rfl, rfl, SqL.of upd_same, at_of (j := 0) rfl rfl, _, _, rfl, rfl, ⟨by decide, by decide⟩, _, rfl, _, _, rfl, rfl, hm, ?_⟩
      exact q _ _ (Int.emod_nonneg _ (by omega)) (Int.emod_lt_of_pos _ hm) ⟨⟨_, _, _, upd_same, n0 _, n1 _, d0, by omega⟩, keep _ _⟩
end
end Du

set_option Elab.async false
set_option linter.all false
set_option maxRecDepth 100000
namespace Du
open PySem L2
/-- a text of these signs -/
def ofL (l : List Nat) : Str := ⟨l.toArray⟩
theorem ofL_codes (l : List Nat) : (ofL l).cps.toList = l := by simp [ofL]
theorem ofL_inj {l m : List Nat} (h : ofL l = ofL m) : l = m := by
  have := congrArg (fun z : Str => z.cps.toList) h
  simpa [ofL] using this
theorem ofL_len (l : List Nat) : (ofL l).length = l.length := by simp [ofL, Str.length]
theorem str_ofL (z : Str) : z = ofL z.cps.toList := by
  cases z
  simp [ofL]
theorem app_ofL (l m : List Nat) : ofL l ++ ofL m = ofL (l ++ m) := by
  show Str.append _ _ = _
  simp [Str.append, ofL]
def allL (l : List Nat) : Prop := ∀ c ∈ l, isLetter c = true
theorem nm_ofL {l : List Nat} (h1 : 1 ≤ l.length) (h8 : l.length ≤ 8) (h : allL l) : isNm (ofL l) = true := by
  unfold isNm
  rw [ofL_len, ofL_codes, decide_eq_true h1, decide_eq_true h8]
  show (l.all isLetter) = true
  exact List.all_eq_true.mpr h
theorem nodup_range_map {α : Type} {n : Nat} {f : Nat → α} (h : ∀ i j, i < n → j < n → i < j → f i ≠ f j) : ((List.range n).map f).Nodup := by
  unfold List.Nodup
  rw [List.pairwise_map]
  exact (List.pairwise_lt_range (n := n)).imp_of_mem fun {a b} ha hb hab => h a b (List.mem_range.mp ha) (List.mem_range.mp hb) hab
/-! the words of rows -/
def ownW : List Str := ["task", "door", "every", "let", "leave", "come", "serve", "end", "in", "soon", "none", "go"]
def ix (n : Int) (spot step : Int) (k : Nat) : Nat := ((spot + step * (k : Int)) % n).toNat
theorem ix_lt {n spot step : Int} {k : Nat} (h : 0 < n) : (ix n spot step k : Int) < n ∧ ((ix n spot step k : Nat) : Int) = (spot + step * (k : Int)) % n := by
  have h1 := Int.emod_nonneg (spot + step * (k : Int)) (show n ≠ 0 by omega)
  have h2 := Int.emod_lt_of_pos (spot + step * (k : Int)) h
  unfold ix
  omega
def Stp (step : Int) : Prop := step = 1 ∨ step = 5 ∨ step = 7 ∨ step = 11
theorem ix12 {spot step : Int} (hs : Stp step) {i j : Nat} (hj : j < 12) (hij : i < j) : ix 12 spot step i ≠ ix 12 spot step j := by
  have h1 := (ix_lt (n := 12) (spot := spot) (step := step) (k := i) (by decide)).2
  have h2 := (ix_lt (n := 12) (spot := spot) (step := step) (k := j) (by decide)).2
  rcases hs with rfl | rfl | rfl | rfl <;> omega
theorem ix26 {spot step : Int} (hs : Stp step) {i j : Nat} (hj : j < 12) (hij : i < j) : ix 26 spot step i ≠ ix 26 spot step j := by
  have h1 := (ix_lt (n := 26) (spot := spot) (step := step) (k := i) (by decide)).2
  have h2 := (ix_lt (n := 26) (spot := spot) (step := step) (k := j) (by decide)).2
  rcases hs with rfl | rfl | rfl | rfl <;> omega
def w1 (spot step : Int) (k : Nat) : Str := ownW.getD (ix 12 spot step k) ""
theorem ownW_nodup : ownW.Nodup := by decide +kernel
theorem ownW_nm : ∀ z ∈ ownW, isNm z = true := by decide +kernel
theorem w1_at (spot step : Int) (k : Nat) : ownW[ix 12 spot step k]? = some (w1 spot step k) := by
  have h := (ix_lt (n := 12) (spot := spot) (step := step) (k := k) (by decide)).1
  have hl : ix 12 spot step k < ownW.length := by
    show ix 12 spot step k < 12
    omega
  unfold w1
  rw [List.getD_eq_getElem?_getD, List.getElem?_eq_getElem hl]
  rfl
theorem w1_nm (spot step : Int) (k : Nat) : isNm (w1 spot step k) = true := ownW_nm _ (List.mem_of_getElem? (w1_at spot step k))
theorem w1_nodup {spot step : Int} (hs : Stp step) {n : Nat} (hn : n ≤ 12) : ((List.range n).map (w1 spot step)).Nodup :=
  nodup_range_map fun i j hi hj hij e => ix12 hs (by omega) hij (nd_ix ownW_nodup (w1_at spot step i) (by rw [e]; exact w1_at spot step j))
/-! words about a stem -/
def letterAt (begin step : Int) (k : Nat) : Nat := letters.cps.toList.getD (ix 26 begin step k) 0
theorem letters_nodup : letters.cps.toList.Nodup := by decide +kernel
theorem letters_len : letters.cps.toList.length = 26 := by decide +kernel
theorem letter_at (begin step : Int) (k : Nat) : letters.cps.toList[ix 26 begin step k]? = some (letterAt begin step k) := by
  have h := (ix_lt (n := 26) (spot := begin) (step := step) (k := k) (by decide)).1
  have hl : ix 26 begin step k < letters.cps.toList.length := by
    rw [letters_len]
    omega
  unfold letterAt
  rw [List.getD_eq_getElem?_getD, List.getElem?_eq_getElem hl]
  rfl
theorem letter_is {i c : Nat} (h : letters.cps.toList[i]? = some c) : isLetter c = true := decide_eq_true (List.mem_of_getElem? h)
def w2 (st : List Nat) (cut : Nat) (begin step : Int) (k : Nat) : Str := ofL (st.take cut ++ [letterAt begin step k] ++ st.drop cut)
theorem w2_nm {st : List Nat} {cut : Nat} {begin step : Int} {k : Nat} (h : allL st) (hl : st.length ≤ 7) : isNm (w2 st cut begin step k) = true := by
  refine nm_ofL ?_ ?_ ?_
  · simp
    omega
  · simp
    omega
  · intro c hc
    simp at hc
    rcases hc with hc | hc | hc
    · exact h c (List.mem_of_mem_take hc)
    · rw [hc]
      exact letter_is (letter_at begin step k)
    · exact h c (List.mem_of_mem_drop hc)
theorem w2_nodup {st : List Nat} {cut : Nat} {begin step : Int} (hs : Stp step) {n : Nat} (hn : n ≤ 12) : ((List.range n).map (w2 st cut begin step)).Nodup :=
  nodup_range_map fun i j hi hj hij e => by
    have e1 := ofL_inj e
    rw [List.append_assoc, List.append_assoc] at e1
    have e2 := List.append_cancel_left e1
    have e3 : letterAt begin step i = letterAt begin step j := by
      simpa using e2
    exact ix26 hs (by omega) hij (nd_ix letters_nodup (letter_at begin step i) (by rw [e3]; exact letter_at begin step j))
/-! cuts -/
theorem cutS_to (st : List Nat) (cut : Nat) (h : cut ≤ st.length) : cutS (ofL st) none (some (cut : Int)) = ofL (st.take cut) := by
  unfold cutS
  rw [ofL_codes, ofL_len, HT.sIx_none, HT.sIx_nat, Nat.min_eq_left h]
  rfl
theorem cutS_from (st : List Nat) (cut : Nat) (h : cut ≤ st.length) : cutS (ofL st) (some (cut : Int)) none = ofL (st.drop cut) := by
  unfold cutS
  rw [ofL_codes, ofL_len, HT.sIx_none, HT.sIx_nat, Nat.min_eq_left h, List.take_of_length_le (by rw [List.length_drop]; exact Nat.le_refl _)]
  rfl
theorem join_ones : ∀ l : List Nat, Str.join "" (l.map fun c => (⟨#[c]⟩ : Str)) = ofL l
  | [] => rfl
  | [c] => rfl
  | c :: d :: r => by
    have ih := join_ones (d :: r)
    show (⟨#[c]⟩ : Str) ++ "" ++ Str.join "" ((d :: r).map fun c => (⟨#[c]⟩ : Str)) = ofL (c :: d :: r)
    rw [ih]
    show (ofL [c] ++ ofL []) ++ ofL (d :: r) = ofL (c :: d :: r)
    rw [app_ofL, app_ofL]
    rfl
end Du

set_option Elab.async false
set_option linter.all false
set_option maxRecDepth 100000
namespace Du
open PySem L2
abbrev sWords : Stmt := topS 25
theorem Purse.ne {H : Hp} {p q : Addr} (h : Purse H p) (n : H q = none) : q ≠ p := by
  obtain ⟨_, _, _, e, _⟩ := h
  exact (ne_of_none e n).symm
theorem Step.refl {p : Addr} {H : Hp} (h : Purse H p) : Step p H H := ⟨h, fun _ _ _ e => e⟩
theorem Step.trans {p : Addr} {H H1 H2 : Hp} (a : Step p H H1) (b : Step p H1 H2) : Step p H H2 := ⟨b.purse, fun c o n e => b.keep c o n (a.keep c o n e)⟩
theorem Purse.upd {H : Hp} {p q : Addr} {o : HO} (h : Purse H p) (n : q ≠ p) : Purse (upd H q o) p := by
  obtain ⟨a, d, c, e, r⟩ := h
  exact ⟨a, d, c, by rw [upd_ne n.symm]; exact e, r⟩
theorem Step.put {p q : Addr} {H H1 : Hp} {o : HO} (s : Step p H H1) (n : H q = none) (hq : q ≠ p) : Step p H (upd H1 q o) :=
  ⟨s.purse.upd hq, fun b u nb e => by rw [upd_ne (ne_of_none e n)]; exact s.keep b u nb e⟩
theorem Step.new {p q : Addr} {H : Hp} {o : HO} (h : Purse H p) (n : H q = none) : Step p H (upd H q o) := (Step.refl h).put n (h.ne n)
theorem Step.of_same {p : Addr} {H H' : Hp} (h : Purse H p) (s : Same H H') : Step p H H' := by
  obtain ⟨a, d, c, e, r⟩ := h
  exact ⟨⟨a, d, c, s _ _ e, r⟩, fun b o _ e => s b o e⟩
theorem Step.free {p q : Addr} {H H' : Hp} (s : Step p H H') (n : H' q = none) : H q = none := by
  cases e : H q with
  | none => rfl
  | some o =>
    rw [s.keep q o (s.purse.ne n) e] at n
    cases n
section
variable {P : Program} {w : World} {K : PySem.W.Frag} {mg : Str → Option Value} {base : Heap}
abbrev nWords : List Str := ["_law_purse_here", "_law_many", "_law_own", "_law_spot", "_law_step", "_law_letters", "_law_stem", "_law_cut", "_law_begin", "_law_k"]
theorem scWords : FnScope nWords ["_law_purse_here", "_law_many"] (defScope sWords) := ⟨rfl, rfl, rfl, by decide +kernel, rfl, by decide +kernel, by decide +kernel⟩
def spWords : Sp := fun vs H Q _ => ∃ (p : Addr) (m : Nat), vs = [.ref p, .int (m : Int)] ∧ m ≤ 12 ∧ Purse H p ∧
  ∀ (l : Addr) (ws : List Str) H', Step p H H' → H l = none → H' l = some (.lst (ws.map V.str)) → ws.length = m → ws.Nodup → (∀ z ∈ ws, isNm z = true) → Q (.ref l) H'
theorem at_nat {α : Type} {xs : List α} {z : Int} {j : Nat} {v : α} (e : z = (j : Int)) (h : xs[j]? = some v) : atI xs z = some v := by
  rw [e]
  exact atI_nat h
theorem step_of {r : Int} (h0 : 0 ≤ r) (h1 : r < 4) : ∃ s : Int, Stp s ∧ atI [V.int 1, V.int 5, V.int 7, V.int 11] r = some (V.int s) := by
  have h : r = 0 ∨ r = 1 ∨ r = 2 ∨ r = 3 := by omega
  rcases h with rfl | rfl | rfl | rfl
  · exact ⟨1, .inl rfl, at_of (j := 0) rfl rfl⟩
  · exact ⟨5, .inr (.inl rfl), at_of (j := 1) rfl rfl⟩
  · exact ⟨7, .inr (.inr (.inl rfl)), at_of (j := 2) rfl rfl⟩
  · exact ⟨11, .inr (.inr (.inr rfl)), at_of (j := 3) rfl rfl⟩
theorem range_map_succ {α : Type} (f : Nat → α) (i : Nat) : (List.range (i + 1)).map f = (List.range i).map f ++ [f i] := by
  rw [List.range_succ, List.map_append]
  rfl
theorem stp_small {s : Int} (h : Stp s) : -18446744073709551616 < s ∧ s < 18446744073709551616 := by
  rcases h with rfl | rfl | rfl | rfl <;> decide
set_option maxHeartbeats 1000000 in
theorem ok_words {f : Addr} {fd : FuncData} (F : Fun K "_law_words" "_law_words" sWords f fd) (ml : mg "len" = none) (mr : mg "range" = none) (DT : Dn P w K mg base 3 "_law_take" ["_law_purse_here", "_law_many"] spTake) :
    FnOk P w K mg base CX0 4 f fd ["_law_purse_here", "_law_many"] spWords := by
  refine F.ok scWords (fun vs H Q E h => ?_) (fun cdv A outer s H vs Q E hr h => ?_)
  · obtain ⟨p, m, rfl, _⟩ := h
    rfl
  · obtain ⟨p, m, rfl, hm, hp, q⟩ := h
    refine ⟨_, pss_cons (ps_set (i := 2) scWords.nd rfl (.inr rfl) (pe_lst (pa_cons pe_str (pa_cons pe_str (pa_cons pe_str (pa_cons pe_str (pa_cons pe_str (pa_cons pe_str (pa_cons pe_str (pa_cons pe_str (pa_cons pe_str (pa_cons pe_str (pa_cons pe_str (pa_cons pe_str pa_nil))))))))))))))
      (pss_cons (ps_asg (pe_tup (pa_cons (pcall DT hr (by rfl) (pa_cons (pv 0) (pa_cons pe_int pa_nil))) (pa_cons (pe_ix ix_list (pe_lst (pa_cons pe_int (pa_cons pe_int (pa_cons pe_int (pa_cons pe_int pa_nil))))) (pcall DT hr (by rfl) (pa_cons (pv 0) (pa_cons pe_int pa_nil))) (fun _ _ => rfl)) pa_nil)))
        (pg_tup rfl (pgs_cons (pg_name (i := 3) scWords.nd rfl (.inr rfl)) (pgs_cons (pg_name (i := 4) scWords.nd rfl (.inr rfl)) pgs_nil))))
      (pss_cons (ps_if (pt_cmpR op_eq (pcall DT hr (by rfl) (pa_cons (pv 0) (pa_cons pe_int pa_nil))) pe_int (nomark _))
        (pss_one (ps_ret (pe_lc (own := [("_law_k", 9)]) (g := gName 9) (tt := tYes) rfl scWords.nd (pi_range1 (by rfl) mr (pa_cons (pv 1) pa_nil)) (blkOk_by (N := nWords) (sc := defScope sWords) (by decide +kernel))
          (fun _ _ _ _ _ => pg_name (i := 9) scWords.nd rfl (Or.inl rfl)) (fun _ _ _ _ _ => pts_nil) (fun _ _ _ _ _ => pe_ix (show IxR _ (rIxL K) from ix_list) (pv 2) (pe_op op_mod (pe_op op_add (pv 3) (pe_op op_mul (pv 4) (pv 9))) pe_int) (fun _ _ => rfl))))) pss_nil)
      (pss_cons (ps_set (i := 5) scWords.nd rfl (.inr rfl) pe_str)
      (pss_cons (ps_set (i := 6) scWords.nd rfl (.inr rfl) (pe_join pe_str (pe_lc (own := [("_law_k", 9)]) (g := gName 9) (tt := tYes) rfl scWords.nd (pi_range1 (by rfl) mr (pa_cons (pcall DT hr (by rfl) (pa_cons (pv 0) (pa_cons pe_int pa_nil))) pa_nil))
          (blkOk_by (N := nWords) (sc := defScope sWords) (by decide +kernel)) (fun _ _ _ _ _ => pg_name (i := 9) scWords.nd rfl (Or.inl rfl)) (fun _ _ _ _ _ => pts_nil)
          (fun _ _ _ _ _ => pe_ix ix_str (pv 5) (pcall DT hr (by rfl) (pa_cons (pv 0) (pa_cons pe_int pa_nil))) (fun _ _ => rfl)))))
      (pss_cons (ps_asg (pe_tup (pa_cons (pcall DT hr (by rfl) (pa_cons (pv 0) (pa_cons (pe_op op_add (pe_callB call_len_str (by rfl) ml (by decide +kernel) (pa_cons (pv 6) pa_nil)) pe_int) pa_nil))) (pa_cons (pcall DT hr (by rfl) (pa_cons (pv 0) (pa_cons pe_int pa_nil))) pa_nil)))
        (pg_tup rfl (pgs_cons (pg_name (i := 7) scWords.nd rfl (.inr rfl)) (pgs_cons (pg_name (i := 8) scWords.nd rfl (.inr rfl)) pgs_nil))))
      (pss_one (ps_ret (pe_lc (own := [("_law_k", 9)]) (g := gName 9) (tt := tYes) rfl scWords.nd (pi_range1 (by rfl) mr (pa_cons (pv 1) pa_nil)) (blkOk_by (N := nWords) (sc := defScope sWords) (by decide +kernel))
          (fun _ _ _ _ _ => pg_name (i := 9) scWords.nd rfl (Or.inl rfl)) (fun _ _ _ _ _ => pts_nil)
          (fun _ _ _ _ _ => pe_op op_add_str (pe_op op_add_str (pe_slice sl_str (pv 6) po_none (po_some (pv 7))) (pe_ix ix_str (pv 5) (pe_op op_mod (pe_op op_add (pv 8) (pe_op op_mul (pv 4) (pv 9))) pe_int) (fun _ _ => rfl))) (pe_slice sl_str (pv 6) (po_some (pv 7)) po_none)))))))))), ?_⟩
    -- the words of rows
    refine ⟨(by show 12 ≤ sizeLine; decide), fun o no => ?_⟩
    have so : Step p H (upd H o (.lst (ownW.map V.str))) := .new hp no
    -- spot, step
    refine ⟨_, rfl, p, 12, rfl, by decide, by decide, so.purse, fun spot H1 _ _ s1 => ?_⟩
    refine ⟨(by show 4 ≤ sizeLine; decide), fun l nl => ?_⟩
    have s2 := (so.trans s1).trans (Step.new (o := .lst [.int 1, .int 5, .int 7, .int 11]) s1.purse nl)
    refine ⟨_, rfl, p, 4, rfl, by decide, by decide, s2.purse, fun r H2 h0 h1 s3 => ?_⟩
    obtain ⟨step, hst, hat⟩ := step_of h0 h1
    have el : H2 l = some (.lst [.int 1, .int 5, .int 7, .int 11]) := s3.keep l _ (s1.purse.ne nl) upd_same
    refine ⟨l, _, _, _, rfl, rfl, SqL.of el, hat, ?_⟩
    refine ⟨(by show 2 ≤ sizeLine; decide), fun t nt => ?_⟩
    have s4 := (s2.trans s3).trans (Step.new (o := .tup [.int spot, .int step]) s3.purse nt)
    refine ⟨t, _, rfl, SqT.of upd_same, rfl, _, _, rfl, _, _, rfl, rfl, ?_⟩
    -- the way
    refine ⟨_, rfl, p, 4, rfl, by decide, by decide, s4.purse, fun r2 H3 _ _ s5 => ?_⟩
    have s6 := s4.trans s5
    have npo : o ≠ p := hp.ne no
    have eo : H3 o = some (.lst (ownW.map V.str)) := by
      refine s5.keep o _ npo ?_
      have e1 := s1.keep o _ npo (upd_same (H := H) (a := o) (o := .lst (ownW.map V.str)))
      rw [upd_ne (ne_of_none (s3.keep o _ npo (by rw [upd_ne (ne_of_none e1 nl)]; exact e1)) nt)]
      exact s3.keep o _ npo (by rw [upd_ne (ne_of_none e1 nl)]; exact e1)
    have hm62 : ((m : Nat) : Int).toNat = m := by omega
    refine ⟨rfl, _, rfl, ite2 (fun _ => ?_) (fun _ => ?_)⟩
    · refine ⟨_, rfl, (m : Int), rfl, by omega, by omega, fun D nD => ?_⟩
      rw [hm62]
      refine lc_range (lo := 0) (n := m) (fun i H' => Step p H3 H' ∧ H' D = some (.lst (((List.range i).map (w1 spot step)).map V.str))) ⟨.new s5.purse nD, upd_same⟩ ?_ ?_
      · rintro i H' hi ⟨s7, e7⟩
        have eo' := s7.keep o _ npo eo
        have hix := ix_lt (n := 12) (spot := spot) (step := step) (k := i) (by decide)
        refine ⟨rfl, _, rfl, _, rfl, _, rfl, _, rfl, _, _, rfl, rfl, .inl (stp_small hst), _, _, rfl, rfl, _, _, rfl, rfl, (by show (0 : Int) < 12; decide), o, _, _, V.str (w1 spot step i), rfl, rfl, SqL.of eo', at_of (j := ix 12 spot step i) (by rw [Int.zero_add]; exact hix.2.symm) (by rw [List.getElem?_map, w1_at]; rfl), _, e7, ?_, s7.put nD (s5.purse.ne nD), ?_⟩
        · rw [List.length_map, List.length_map, List.length_range]
          exact Nat.lt_of_le_of_lt (show i ≤ 12 by omega) (by decide)
        · rw [upd_same, range_map_succ, List.map_append]
          rfl
      · rintro H' ⟨s7, e7⟩
        refine q D _ H' (s6.trans s7) (s6.free nD) e7 (by rw [List.length_map, List.length_range]) (w1_nodup hst hm) fun z hz => ?_
        obtain ⟨k, _, rfl⟩ := List.mem_map.mp hz
        exact w1_nm spot step k
    · -- the stem
      refine ⟨⟨_, rfl⟩, _, rfl, p, 8, rfl, by decide, by decide, s5.purse, fun r3 H4 g0 g1 s7 => ?_⟩
      refine ⟨r3, rfl, by omega, by omega, fun D nD => ?_⟩
      refine lc_range (lo := 0) (n := r3.toNat) (fun i H' => Step p H4 H' ∧ ∃ cs : List Nat, cs.length = i ∧ allL cs ∧ H' D = some (.lst (cs.map fun c => V.str ⟨#[c]⟩))) ⟨.new s7.purse nD, [], rfl, (fun c h => absurd h (by simp)), upd_same⟩ ?_ ?_
      · rintro i H' hi ⟨s8, cs, hc, ha, e8⟩
        refine ⟨rfl, _, rfl, _, rfl, p, 26, rfl, by decide, by decide, s8.purse, fun r4 H5 k0 k1 s9 => ?_⟩
        have hk : r4.toNat < letters.cps.toList.length := by
          rw [letters_len]
          omega
        have hat2 := List.getElem?_eq_getElem hk
        have npD := s7.purse.ne nD
        refine ⟨letters, r4, _, rfl, rfl, by decide +kernel, at_nat (j := r4.toNat) (by omega) hat2, _, s9.keep D _ npD e8, ?_, (s8.trans s9).put nD npD, cs ++ [letters.cps.toList[r4.toNat]], ?_, ?_, ?_⟩
        · rw [List.length_map, hc]
          exact Nat.lt_of_le_of_lt (show i ≤ 8 by omega) (by decide)
        · rw [List.length_append, hc]
          rfl
        · intro c hcc
          rcases List.mem_append.mp hcc with z | z
          · exact ha c z
          · rw [List.mem_singleton.mp z]
            exact letter_is hat2
        · rw [upd_same, List.map_append]
          rfl
      · rintro H' ⟨s8, cs, hc, ha, e8⟩
        have s9 := (s6.trans s7).trans s8
        have hcs : cs.length ≤ 7 := by omega
        refine ⟨_, D, cs.map (fun c => (⟨#[c]⟩ : Str)), rfl, rfl, .inl (SqL.of (by rw [e8, List.map_map]; rfl)), ?_, ?_⟩
        · have hsum : ∀ l : List Nat, ((l.map fun c => (⟨#[c]⟩ : Str)).map (·.length)).sum = l.length := by
            intro l
            induction l with
            | nil => rfl
            | cons c r ih =>
              rw [List.map_cons, List.map_cons, List.sum_cons, ih, List.length_cons]
              show 1 + r.length = r.length + 1
              omega
          rw [hsum, List.length_map]
          show cs.length + cs.length * 0 ≤ 16777216
          omega
        · have ej : Txt.join "" (cs.map (fun c => (⟨#[c]⟩ : Str))) = ofL cs := (TL.join_eq _ _).trans (join_ones cs)
          rw [ej]
          -- cut, begin
          refine ⟨_, rfl, _, rfl, _, rfl, by rw [ofL_len]; exact Nat.le_trans hcs (by decide), _, _, rfl, rfl, p, _, rfl, ?_, ?_, s9.purse, fun cut H5 c0 c1 t1 => ?_⟩
          · omega
          · rw [ofL_len]
            omega
          rw [ofL_len] at c1
          refine ⟨_, rfl, p, 26, rfl, by decide, by decide, t1.purse, fun begin H6 b0 b1 t2 => ?_⟩
          refine ⟨(by show 2 ≤ sizeLine; decide), fun t2' nt2 => ?_⟩
          have t3 := ((s9.trans t1).trans t2).trans (Step.new (o := .tup [.int cut, .int begin]) t2.purse nt2)
          refine ⟨t2', _, rfl, SqT.of upd_same, rfl, _, _, rfl, _, _, rfl, rfl, ?_⟩
          refine ⟨_, rfl, (m : Int), rfl, by omega, by omega, fun D2 nD2 => ?_⟩
          rw [hm62]
          obtain ⟨cu, rfl⟩ : ∃ cu : Nat, cut = (cu : Int) := ⟨cut.toNat, by omega⟩
          have hcu : cu ≤ cs.length := by omega
          refine lc_range (lo := 0) (n := m) (fun i H' => Step p _ H' ∧ H' D2 = some (.lst (((List.range i).map (w2 cs cu begin step)).map V.str))) ⟨.new t3.purse nD2, upd_same⟩ ?_ ?_
          · rintro i H' hi ⟨u1, e7⟩
            have hix := ix_lt (n := 26) (spot := begin) (step := step) (k := i) (by decide)
            have hz : (ofL cs).length ≤ sizeLine := by rw [ofL_len]; exact Nat.le_trans hcs (by decide)
            refine ⟨rfl, _, rfl, _, rfl, (cu : Int), rfl, ofL cs, rfl, hz, _, rfl, _, rfl, _, rfl, _, rfl, _, _, rfl, rfl, .inl (stp_small hst), _, _, rfl, rfl, _, _, rfl, rfl, (by show (0 : Int) < 26; decide), letters, _, letterAt begin step i, rfl, rfl, by decide +kernel,
              at_nat (j := ix 26 begin step i) (by rw [Int.zero_add]; exact hix.2.symm) (letter_at begin step i), _, _, rfl, rfl, ?_, _, rfl, _, rfl, (cu : Int), rfl, ofL cs, rfl, hz, _, _, rfl, rfl, ?_, _, e7, ?_, u1.put nD2 (t3.purse.ne nD2), ?_⟩
            · rw [cutS_to cs cu hcu, ofL_len, List.length_take]
              show min cu cs.length + 1 ≤ sizeLine
              exact Nat.le_trans (show _ ≤ 8 by omega) (by decide)
            · rw [cutS_to cs cu hcu, cutS_from cs cu hcu, show (⟨#[letterAt begin step i]⟩ : Str) = ofL [letterAt begin step i] from rfl, app_ofL, ofL_len, ofL_len, List.length_append, List.length_take, List.length_drop]
              show min cu cs.length + 1 + (cs.length - cu) ≤ sizeLine
              exact Nat.le_trans (show _ ≤ 16 by omega) (by decide)
            · rw [List.length_map, List.length_map, List.length_range]
              exact Nat.lt_of_le_of_lt (show i ≤ 12 by omega) (by decide)
            · rw [upd_same, range_map_succ, List.map_append, cutS_to cs cu hcu, cutS_from cs cu hcu, show (⟨#[letterAt begin step i]⟩ : Str) = ofL [letterAt begin step i] from rfl, app_ofL, app_ofL]
              rfl
          · rintro H' ⟨u1, e7⟩
            refine q D2 _ H' (t3.trans u1) (t3.free nD2) e7 (by rw [List.length_map, List.length_range]) (w2_nodup hst hm) fun z hz => ?_
            obtain ⟨k, _, rfl⟩ := List.mem_map.mp hz
            exact w2_nm ha hcs
end
end Du

set_option Elab.async false
set_option linter.all false
set_option maxRecDepth 100000
namespace Du
open PySem L2
open PySem.Spec (ltCps)
theorem lt_tri : ∀ a b : List Nat, ltCps a b = false → a ≠ b → ltCps b a = true
  | [], [], _, h => absurd rfl h
  | [], _ :: _, h, _ => by simp [ltCps] at h
  | _ :: _, [], _, _ => rfl
  | a :: r, b :: t, h, hn => by
    simp only [ltCps, Bool.or_eq_false_iff, decide_eq_false_iff_not, Bool.and_eq_false_iff] at h
    simp only [ltCps, Bool.or_eq_true, decide_eq_true_eq, Bool.and_eq_true]
    by_cases e : a = b
    · subst e
      rcases h.2 with z | z
      · simp at z
      · exact .inr ⟨by simp, lt_tri r t z fun q => hn (by rw [q])⟩
    · exact .inl (by omega)
theorem lt_tra : ∀ a b c : List Nat, ltCps a b = true → ltCps b c = true → ltCps a c = true
  | [], [], _, h, _ => by simp [ltCps] at h
  | [], _ :: _, [], _, h => by simp [ltCps] at h
  | [], _ :: _, _ :: _, _, _ => rfl
  | _ :: _, [], _, h, _ => by simp [ltCps] at h
  | _ :: _, _ :: _, [], _, h => by simp [ltCps] at h
  | a :: r, b :: t, c :: u, h1, h2 => by
    simp only [ltCps, Bool.or_eq_true, decide_eq_true_eq, Bool.and_eq_true, beq_iff_eq] at h1 h2 ⊢
    rcases h1 with h1 | ⟨rfl, h1⟩ <;> rcases h2 with h2 | ⟨rfl, h2⟩
    · exact .inl (by omega)
    · exact .inl h1
    · exact .inl h2
    · exact .inr ⟨rfl, lt_tra r t u h1 h2⟩
theorem cps_inj {a b : Str} (h : a.cps.toList = b.cps.toList) : a = b := by
  rw [str_ofL a, str_ofL b, h]
theorem rising_pw : ∀ (p : Str) (r : List Str), PyProof.Rows.risingS p r = true → (p :: r).Nodup → (p :: r).Pairwise fun a b => ltCps a.cps.toList b.cps.toList = true
  | p, [], _, _ => by simp
  | p, x :: r, h, hn => by
    simp only [PyProof.Rows.risingS, Bool.and_eq_true, Bool.not_eq_true'] at h
    have hn' := List.nodup_cons.mp hn
    have ih := rising_pw x r h.2 hn'.2
    have hpx : ltCps p.cps.toList x.cps.toList = true := lt_tri _ _ h.1 fun e => hn'.1 (by rw [cps_inj e.symm]; exact List.mem_cons_self)
    refine List.pairwise_cons.mpr ⟨fun y hy => ?_, ih⟩
    rcases List.mem_cons.mp hy with rfl | hy
    · exact hpx
    · exact lt_tra _ _ _ hpx ((List.pairwise_cons.mp ih).1 y hy)
theorem sorted_pw {ys : List Str} (h : PyProof.Rows.sortedS ys = true) (hn : ys.Nodup) : ys.Pairwise fun a b => ltCps a.cps.toList b.cps.toList = true := by
  cases ys with
  | nil => simp
  | cons p r => exact rising_pw p r h hn
theorem pw_take {ys : List Str} (h : ys.Pairwise fun a b => ltCps a.cps.toList b.cps.toList = true) {i : Nat} {x y : Str} (hx : x ∈ ys.take i) (hy : ys[i]? = some y) : ltCps x.cps.toList y.cps.toList = true := by
  obtain ⟨j, hj⟩ := List.getElem?_of_mem hx
  obtain ⟨hl, e⟩ := List.getElem?_eq_some_iff.mp hj
  rw [List.getElem_take] at e
  rw [List.length_take] at hl
  obtain ⟨hi, e2⟩ := List.getElem?_eq_some_iff.mp hy
  rw [← e, ← e2]
  exact List.pairwise_iff_getElem.mp h j i (by omega) hi (by omega)
theorem ahead_lt {h g : Hold} (hn : ltCps h.1.cps.toList g.1.cps.toList = true) : ahead h g = true := by
  unfold ahead
  have ne : ¬ h.1 = g.1 := fun e => by
    rw [e] at hn
    rw [PyProof.Rows.ltCps_eq] at hn
    exact absurd (of_decide_eq_true hn) (by simp)
  rw [if_neg ne, ← PyProof.Rows.ltCps_eq]
  exact hn
theorem ahead_same {h g : Hold} (e : h.1 = g.1) (hl : h.2.1 + h.2.2 ≤ g.2.1) : ahead h g = true := by
  unfold ahead
  rw [if_pos e]
  exact decide_eq_true hl
def chain (hs : List Hold) : Bool := (hs.zip (hs.drop 1)).all fun p => ahead p.1 p.2
theorem chain_add : ∀ (hs : List Hold) (h : Hold), chain hs = true → (∀ g, hs.getLast? = some g → ahead g h = true) → chain (hs ++ [h]) = true
  | [], h, _, _ => rfl
  | [g], h, _, q => by
    show (ahead g h && true) = true
    rw [q g rfl]
    rfl
  | g :: k :: r, h, c, q => by
    have c' : (ahead g k && chain (k :: r)) = true := c
    rw [Bool.and_eq_true] at c'
    show (ahead g k && chain ((k :: r) ++ [h])) = true
    rw [c'.1, chain_add (k :: r) h c'.2 fun g hg => q g (by rw [List.getLast?_cons_cons]; exact hg)]
    rfl
/-- holds that are good, in the making -/
structure Good (hs : List Hold) (c : Int) : Prop where
  len : hs.length ≤ 4
  all : ∀ h ∈ hs, isHd h c = true
  ch : chain hs = true
theorem Good.ok {hs : List Hold} {c : Int} (g : Good hs c) : areHds hs c = true := by
  unfold areHds
  rw [decide_eq_true g.len]
  have e : (hs.all fun h => isHd h c) = true := List.all_eq_true.mpr g.all
  rw [e]
  exact g.ch
theorem Good.nm {hs : List Hold} {c : Int} (g : Good hs c) : ∀ h ∈ hs, isNm h.1 = true := fun h hh => by
  have z := g.all h hh
  unfold isHd at z
  exact (Bool.and_eq_true_iff.mp z).1
theorem Good.nil (c : Int) : Good [] c := ⟨by simp, by simp, rfl⟩
theorem Good.add {hs : List Hold} {c : Int} {h : Hold} (g : Good hs c) (hl : hs.length < 4) (hh : isHd h c = true) (q : ∀ g, hs.getLast? = some g → ahead g h = true) : Good (hs ++ [h]) c :=
  ⟨by rw [List.length_append]; show hs.length + 1 ≤ 4; omega, fun k hk => by
    rcases List.mem_append.mp hk with z | z
    · exact g.all k z
    · rw [List.mem_singleton.mp z]
      exact hh, chain_add hs h g.ch q⟩
theorem hd_of {z : Str} {s l c : Int} (hz : isNm z = true) (h0 : 0 ≤ s) (h1 : 1 ≤ l) (h2 : s + l ≤ c) : isHd (z, s, l) c = true := by
  unfold isHd
  rw [hz]
  simp
  omega
/-! under a step of the purse -/
theorem sqT_step {K : PySem.W.Frag} {p a : Addr} {H H' : Hp} {xs : List V} (hp : Purse H p) (s : Step p H H') (h : SqT K H a xs) : SqT K H' a xs := by
  obtain ⟨x, d, c, e, _⟩ := hp
  rcases h with (h | ⟨o, h⟩) | h
  · exact .inl (.inl (s.keep a _ (ne_of h e (by intro z; cases z)) h))
  · exact .inl (.inr ⟨o, s.keep a _ (ne_of h e (by intro z; cases z)) h⟩)
  · exact .inr h
theorem HdAt.step {K : PySem.W.Frag} {p : Addr} {H H' : Hp} {v : V} {h : Hold} (d : HdAt K H v h) (hp : Purse H p) (s : Step p H H') : HdAt K H' v h := by
  obtain ⟨a, e, q⟩ := d
  exact ⟨a, e, sqT_step hp s q⟩
theorem HdsAt.step {K : PySem.W.Frag} {p t : Addr} {H H' : Hp} {hs : List Hold} (d : HdsAt K H t hs) (hp : Purse H p) (s : Step p H H') : HdsAt K H' t hs := by
  obtain ⟨vs, h1, h2, h3⟩ := d
  exact ⟨vs, sqT_step hp s h1, h2, fun i v h e1 e2 => (h3 i v h e1 e2).step hp s⟩
end Du

set_option Elab.async false
set_option linter.all false
set_option maxRecDepth 100000
namespace Du
open PySem L2
abbrev sHoldsL : Stmt := topS 26
/-- found so far -/
structure Fnd (K : PySem.W.Frag) (p F S : Addr) (ys : List Str) (H H1 : Hp) (hs : List Hold) (vs : List V) : Prop where
  st : Step p H H1
  eS : H1 S = some (.lst (ys.map V.str))
  eF : H1 F = some (.lst vs)
  ln : vs.length = hs.length
  at_ : ∀ (i : Nat) v h, vs[i]? = some v → hs[i]? = some h → HdAt K H1 v h
theorem Fnd.step {K : PySem.W.Frag} {p F S : Addr} {ys : List Str} {H H1 H2 : Hp} {hs : List Hold} {vs : List V} (f : Fnd K p F S ys H H1 hs vs) (hF : F ≠ p) (hS : S ≠ p) (s : Step p H1 H2) : Fnd K p F S ys H H2 hs vs :=
  ⟨f.st.trans s, s.keep _ _ hS f.eS, s.keep _ _ hF f.eF, f.ln, fun i v h e1 e2 => (f.at_ i v h e1 e2).step f.st.purse s⟩
theorem Fnd.add {K : PySem.W.Frag} {p F S T : Addr} {ys : List Str} {H H1 : Hp} {hs : List Hold} {vs : List V} (f : Fnd K p F S ys H H1 hs vs) (hF : F ≠ p) (hSF : S ≠ F) (nF : H F = none) (h : Hold) (nT : H1 T = none) :
    Fnd K p F S ys H (upd (upd H1 T (.tup [.str h.1, .int h.2.1, .int h.2.2])) F (.lst (vs ++ [.ref T]))) (hs ++ [h]) (vs ++ [.ref T]) := by
  have nTF : F ≠ T := ne_of_none f.eF nT
  have nTS : S ≠ T := ne_of_none f.eS nT
  have nTp : T ≠ p := f.st.purse.ne nT
  have kT : ∀ a xs, SqT K H1 a xs → SqT K (upd (upd H1 T (.tup [.str h.1, .int h.2.1, .int h.2.2])) F (.lst (vs ++ [.ref T]))) a xs := fun a xs z => by
    rcases z with (z | ⟨o, z⟩) | z
    · exact .inl (.inl (by rw [upd_ne (ne_of z f.eF (by intro y; cases y)), upd_ne (ne_of_none z nT)]; exact z))
    · exact .inl (.inr ⟨o, by rw [upd_ne (ne_of z f.eF (by intro y; cases y)), upd_ne (ne_of_none z nT)]; exact z⟩)
    · exact .inr z
  refine ⟨(f.st.put (f.st.free nT) nTp).put nF hF, by rw [upd_ne hSF, upd_ne nTS]; exact f.eS, upd_same, by rw [List.length_append, List.length_append, f.ln]; rfl, fun i v g e1 e2 => ?_⟩
  by_cases hi : i < vs.length
  · rw [List.getElem?_append_left hi] at e1
    rw [List.getElem?_append_left (by rw [← f.ln]; exact hi)] at e2
    obtain ⟨a, ea, z⟩ := f.at_ i v g e1 e2
    exact ⟨a, ea, kT a _ z⟩
  · have hi' : vs.length ≤ i := Nat.le_of_not_lt hi
    rw [List.getElem?_append_right hi'] at e1
    rw [List.getElem?_append_right (by rw [← f.ln]; exact hi'), ← f.ln] at e2
    cases hk : i - vs.length with
    | zero =>
      rw [hk] at e1 e2
      cases e1
      cases e2
      exact ⟨T, rfl, SqT.of (by rw [upd_ne nTF.symm, upd_same])⟩
    | succ k =>
      rw [hk] at e1
      simp at e1
section
variable {P : Program} {w : World} {K : PySem.W.Frag} {mg : Str → Option Value} {base : Heap}
abbrev nHoldsL : List Str := ["_law_purse_here", "_law_cost", "_law_tools", "_law_found", "_law_tool", "_law_begin", "_law_size", "_law_rest"]
theorem scHoldsL : FnScope nHoldsL ["_law_purse_here", "_law_cost", "_law_tools"] (defScope sHoldsL) := ⟨rfl, rfl, rfl, by decide +kernel, rfl, by decide +kernel, by decide +kernel⟩
def spHoldsL (K : PySem.W.Frag) : Sp := fun vs H Q _ => ∃ (p l : Addr) (c : Int) (ws : List Str), vs = [.ref p, .int c, .ref l] ∧ 1 ≤ c ∧ c ≤ 99 ∧ Purse H p ∧ SqL K H l (ws.map V.str) ∧ ws.length < 64 ∧ ws.Nodup ∧ (∀ z ∈ ws, isNm z = true) ∧
  ∀ (t : Addr) (hs : List Hold) H', Step p H H' → HdsAt K H' t hs → Good hs c → (∀ g ∈ hs, g.1 ∈ ws) → Q (.ref t) H'
set_option maxHeartbeats 1000000 in
theorem ok_holdsL {f : Addr} {fd : FuncData} (F : Fun K "_law_holds" "_law_holds" sHoldsL f fd) (ml : mg "len" = none) (ms : mg "sorted" = none) (mt : mg "tuple" = none) (DT : Dn P w K mg base 3 "_law_take" ["_law_purse_here", "_law_many"] spTake) :
    FnOk P w K mg base CX0 4 f fd ["_law_purse_here", "_law_cost", "_law_tools"] (spHoldsL K) := by
  refine F.ok scHoldsL (fun vs H Q E h => ?_) (fun cdv A outer s H vs Q E hr h => ?_)
  · obtain ⟨p, l, c, ws, rfl, _⟩ := h
    rfl
  · obtain ⟨p, l, c, ws, rfl, hc1, hc99, hp, hL, hwl, hnd, hnm, q⟩ := h
    refine ⟨_, pss_cons (ps_set (i := 3) scHoldsL.nd rfl (.inl rfl) (pe_lst pa_nil))
      (pss_cons (ps_for PassesOwn.never rfl (pi_list (pe_callB cr_sortedS (by rfl) ms (by decide +kernel) (pa_cons (pv 2) pa_nil))) (pg_name (i := 4) scHoldsL.nd rfl (.inl rfl))
        (pss_one (ps_if (PW.pt (pw_and (pt_cmpR op_lt (pe_callB call_len_seq (by rfl) ml (by decide +kernel) (pa_cons (pv 3) pa_nil)) pe_int (nomark _)) (pw_and1 (pt_cmpR op_gt (pcall DT hr (by rfl) (pa_cons (pv 0) (pa_cons pe_int pa_nil))) pe_int (nomark _)))))
          (pss_cons (ps_set (i := 5) scHoldsL.nd rfl (.inl rfl) (pcall DT hr (by rfl) (pa_cons (pv 0) (pa_cons (pv 1) pa_nil))))
          (pss_cons (ps_set (i := 6) scHoldsL.nd rfl (.inl rfl) (pe_op op_add pe_int (pcall DT hr (by rfl) (pa_cons (pv 0) (pa_cons (pe_op op_sub (pv 1) (pv 5)) pa_nil)))))
          (pss_cons (ps_expr (pe_bm PySem.F.plainAttrs_list PySem.F.slot_list_append PySem.F.type_list_append mt_append (pv 3) (pa_cons (pe_tup (pa_cons (pv 4) (pa_cons (pv 5) (pa_cons (pv 6) pa_nil)))) pa_nil)))
          (pss_cons (ps_set (i := 7) scHoldsL.nd rfl (.inl rfl) (pe_op op_add (pv 5) (pv 6)))
          (pss_one (ps_if (PW.pt (pw_and (pt_cmpR op_lt (pe_callB call_len_seq (by rfl) ml (by decide +kernel) (pa_cons (pv 3) pa_nil)) pe_int (nomark _)) (pw_and (pt_cmpR op_lt (pv 7) (pv 1) (nomark _)) (pw_and1 (pt_cmpR op_eq (pcall DT hr (by rfl) (pa_cons (pv 0) (pa_cons pe_int pa_nil))) pe_int (nomark _))))))
            (pss_cons (ps_set (i := 5) scHoldsL.nd rfl (.inl rfl) (pe_op op_add (pv 7) (pe_ix ix_list (pe_lst (pa_cons pe_int (pa_cons (pcall DT hr (by rfl) (pa_cons (pv 0) (pa_cons (pe_op op_sub (pv 1) (pv 7)) pa_nil))) pa_nil))) (pcall DT hr (by rfl) (pa_cons (pv 0) (pa_cons pe_int pa_nil))) (fun _ _ => rfl))))
            (pss_one (ps_expr (pe_bm PySem.F.plainAttrs_list PySem.F.slot_list_append PySem.F.type_list_append mt_append (pv 3) (pa_cons (pe_tup (pa_cons (pv 4) (pa_cons (pv 5) (pa_cons (pe_op op_add pe_int (pcall DT hr (by rfl) (pa_cons (pv 0) (pa_cons (pe_op op_sub (pv 1) (pv 5)) pa_nil)))) pa_nil)))) pa_nil)))))
            pss_nil)))))) pss_nil)))
      (pss_one (ps_ret (pe_callTy call_tuple_of (by rfl) mt (by decide +kernel) (pa_cons (pv 3) pa_nil))))), ?_⟩
    refine ⟨Nat.zero_le _, fun F0 nF => ?_⟩
    have hF : F0 ≠ p := hp.ne nF
    have s0 : Same H (upd H F0 (.lst [])) := same_upd nF
    refine ⟨_, rfl, l, ws, rfl, hL.ext s0, hwl, fun ys S hperm hsort nS => ?_⟩
    have nS' : H S = none := s0.free nS
    have hSF : S ≠ F0 := fun e => by rw [e, upd_same] at nS; cases nS
    have hS : S ≠ p := hp.ne nS'
    have hys : ∀ z ∈ ys, z ∈ ws := fun z hz => hperm.mem_iff.mp hz
    have pw := sorted_pw hsort (hperm.nodup_iff.mpr hnd)
    refine ⟨S, rfl, ⟨_, SqL.of upd_same⟩, for_list (K := K) (a := S) (xs := ys.map V.str) (fun i σ H1 => ∃ (hs : List Hold) (vs : List V) (v4 v5 v6 v7 : Option V), σ = [some (.ref p), some (.int c), some (.ref l), some (.ref F0), v4, v5, v6, v7] ∧ Fnd K p F0 S ys H H1 hs vs ∧ Good hs c ∧ ∀ g ∈ hs, g.1 ∈ ys.take i)
      ⟨[], [], none, none, none, none, rfl, ⟨(Step.new hp nF).put nS' hS, upd_same, by rw [upd_ne hSF.symm, upd_same], rfl, fun i v h e _ => by simp at e⟩, Good.nil c, by simp⟩ (fun i σ H1 _ z => ?_) ?_ ?_⟩
    · obtain ⟨_, _, _, _, _, _, _, f, _⟩ := z
      exact SqL.of f.eS
    · rintro i x σ H1 hi ⟨hs, vs, v4, v5, v6, v7, rfl, fd0, gd, hin⟩
      obtain ⟨tool, hty, rfl⟩ : ∃ z, ys[i]? = some z ∧ x = V.str z := by
        rw [List.getElem?_map] at hi
        cases e : ys[i]? with
        | none => rw [e] at hi; cases hi
        | some z => rw [e] at hi; exact ⟨z, rfl, (Option.some.inj hi).symm⟩
      have htn : isNm tool = true := hnm _ (hys _ (List.mem_of_getElem? hty))
      have hmono : ∀ g ∈ hs, g.1 ∈ ys.take (i + 1) := fun g hg => by
        rw [List.take_add_one]
        exact List.mem_append_left _ (hin g hg)
      have hself : tool ∈ ys.take (i + 1) := by
        rw [List.take_add_one, hty]
        exact List.mem_append_right _ (by simp)
      refine ⟨_, rfl, F0, _, rfl, .inl (SqL.of fd0.eF), _, _, rfl, rfl, _, rfl, ?_⟩
      by_cases h4 : vs.length < 4
      · have e1 : decide (((vs.length : Nat) : Int) < 4) = true := decide_eq_true (by omega)
        rw [e1]
        refine ⟨_, rfl, p, 3, rfl, by decide, by decide, fd0.st.purse, fun r1 H2 _ _ s1 => ⟨_, _, rfl, rfl, _, rfl, ?_⟩⟩
        have fd1 := fd0.step hF hS s1
        refine ite2 (fun _ => ?_) (fun _ => ⟨hs, vs, _, _, _, _, rfl, fd1, gd, hmono⟩)
        -- begin, size
        refine ⟨_, rfl, _, rfl, p, c, rfl, by omega, by omega, fd1.st.purse, fun b H3 b0 b1 s2 => ?_⟩
        have fd2 := fd1.step hF hS s2
        refine ⟨_, rfl, _, rfl, _, rfl, _, _, rfl, rfl, p, _, rfl, by omega, by omega, fd2.st.purse, fun z H4 z0 z1 s3 => ⟨_, _, rfl, rfl, ?_⟩⟩
        have fd3 := fd2.step hF hS s3
        refine ⟨_, rfl, .inl ⟨rfl, _, SqL.of fd3.eF⟩, _, rfl, _, rfl, _, rfl, (by show 3 ≤ sizeLine; decide), fun T nT => ?_⟩
        have eFT : (upd H4 T (.tup [.str tool, .int b, .int (1 + z)])) F0 = some (.lst vs) := by
          rw [upd_ne (ne_of_none fd3.eF nT)]
          exact fd3.eF
        refine ⟨F0, _, _, rfl, rfl, eFT, Nat.lt_of_lt_of_le h4 (by decide), ?_⟩
        have fd4 := fd3.add hF hSF nF (tool, b, 1 + z) nT
        have gd4 : Good (hs ++ [(tool, b, 1 + z)]) c := gd.add (by rw [← fd0.ln]; exact h4) (hd_of htn b0 (by omega) (by omega)) fun g hg => ahead_lt (pw_take pw (hin g (List.mem_of_getLast? hg)) hty)
        have hin4 : ∀ g ∈ hs ++ [(tool, b, 1 + z)], g.1 ∈ ys.take (i + 1) := fun g hg => by
          rcases List.mem_append.mp hg with y | y
          · exact hmono g y
          · rw [List.mem_singleton.mp y]
            exact hself
        refine ⟨_, rfl, _, rfl, _, _, rfl, rfl, ?_⟩
        refine ⟨_, rfl, F0, _, rfl, .inl (SqL.of fd4.eF), _, _, rfl, rfl, _, rfl, ?_⟩
        by_cases h5 : (vs ++ [V.ref T]).length < 4
        · have e2 : decide ((((vs ++ [V.ref T]).length : Nat) : Int) < 4) = true := decide_eq_true (by omega)
          rw [e2]
          refine ⟨_, rfl, _, rfl, _, _, rfl, rfl, _, rfl, ?_⟩
          by_cases h6 : b + (1 + z) < c
          · rw [decide_eq_true h6]
            refine ⟨_, rfl, p, 3, rfl, by decide, by decide, fd4.st.purse, fun r2 H5 _ _ s5 => ⟨rfl, _, rfl, ?_⟩⟩
            have fd5 := fd4.step hF hS s5
            refine ite2 (fun _ => ?_) (fun _ => ⟨_, _, _, _, _, _, rfl, fd5, gd4, hin4⟩)
            -- the second hold
            refine ⟨_, rfl, _, rfl, _, rfl, _, rfl, _, _, rfl, rfl, p, _, rfl, by omega, by omega, fd5.st.purse, fun d H6 d0 d1 s6 => ?_⟩
            have fd6 := fd5.step hF hS s6
            refine ⟨(by show 2 ≤ sizeLine; decide), fun L nL => ?_⟩
            have s7 : Step p H6 (upd H6 L (.lst [.int 0, .int d])) := .new fd6.st.purse nL
            have fd7 := fd6.step hF hS s7
            refine ⟨_, rfl, p, 2, rfl, by decide, by decide, fd7.st.purse, fun r3 H8 t0 t1 s8 => ?_⟩
            have fd8 := fd7.step hF hS s8
            have eL : H8 L = some (.lst [.int 0, .int d]) := s8.keep L _ (fd6.st.purse.ne nL) upd_same
            obtain ⟨e, he, he0, he1⟩ : ∃ e : Int, atI [V.int 0, V.int d] r3 = some (V.int e) ∧ 0 ≤ e ∧ b + (1 + z) + e < c := by
              have hr3 : r3 = 0 ∨ r3 = 1 := by omega
              rcases hr3 with rfl | rfl
              · exact ⟨0, at_of (j := 0) rfl rfl, Int.le_refl _, by omega⟩
              · exact ⟨d, at_of (j := 1) rfl rfl, d0, by omega⟩
            refine ⟨L, _, _, _, rfl, rfl, SqL.of eL, he, _, _, rfl, rfl, ?_⟩
            refine ⟨_, rfl, .inl ⟨rfl, _, SqL.of fd8.eF⟩, _, rfl, _, rfl, _, rfl, _, rfl, _, rfl, _, _, rfl, rfl, p, _, rfl, by omega, by omega, fd8.st.purse, fun y H9 y0 y1 s9 => ⟨_, _, rfl, rfl, ?_⟩⟩
            have fd9 := fd8.step hF hS s9
            refine ⟨(by show 3 ≤ sizeLine; decide), fun T2 nT2 => ?_⟩
            have eFT2 : (upd H9 T2 (.tup [.str tool, .int (b + (1 + z) + e), .int (1 + y)])) F0 = some (.lst (vs ++ [V.ref T])) := by
              rw [upd_ne (ne_of_none fd9.eF nT2)]
              exact fd9.eF
            refine ⟨F0, _, _, rfl, rfl, eFT2, Nat.lt_of_lt_of_le h5 (by decide), ?_⟩
            refine ⟨_, _, _, _, _, _, rfl, fd9.add hF hSF nF (tool, b + (1 + z) + e, 1 + y) nT2, gd4.add (by rw [← fd4.ln]; exact h5) (hd_of htn (by omega) (by omega) (by omega)) fun g hg => ?_, fun g hg => ?_⟩
            · rw [List.getLast?_append] at hg
              have eg : g = (tool, b, 1 + z) := by simpa using hg.symm
              rw [eg]
              exact ahead_same rfl (by show b + (1 + z) ≤ b + (1 + z) + e; omega)
            · rcases List.mem_append.mp hg with y | y
              · exact hin4 g y
              · rw [List.mem_singleton.mp y]
                exact hself
          · rw [decide_eq_false h6]
            exact ⟨_, _, _, _, _, _, rfl, fd4, gd4, hin4⟩
        · have e2 : decide ((((vs ++ [V.ref T]).length : Nat) : Int) < 4) = false := decide_eq_false (by omega)
          rw [e2]
          exact ⟨_, _, _, _, _, _, rfl, fd4, gd4, hin4⟩
      · have e1 : decide (((vs.length : Nat) : Int) < 4) = false := decide_eq_false (by omega)
        rw [e1]
        exact ⟨hs, vs, _, _, _, _, rfl, fd0, gd, hmono⟩
    · rintro σ H1 ⟨hs, vs, v4, v5, v6, v7, rfl, fd0, gd, hin⟩
      refine ⟨_, rfl, F0, vs, rfl, .inl ⟨SqL.of fd0.eF, fun t nt => ?_⟩⟩
      have sT := Step.new (o := .tup vs) fd0.st.purse nt
      exact q t hs _ (fd0.st.trans sT) ⟨vs, SqT.of upd_same, fd0.ln, fun i v h e1 e2 => (fd0.at_ i v h e1 e2).step fd0.st.purse sT⟩ gd fun g hg => hys _ (List.mem_of_mem_take (hin g hg))
end
end Du

set_option Elab.async false
set_option linter.all false
set_option maxRecDepth 100000
namespace Du
open PySem L2
abbrev pInit : List Str := ["self", "name", "cost", "gap", "due", "holds"]
abbrev FunI (K : PySem.W.Frag) (e0 f : Addr) (fd : FuncData) : Prop := FunD K "__init__" "Task.__init__" (defArgs sInit) (defBody sInit) (defScope sInit) [] [("due", .non), ("holds", .ref e0)] f fd
section
variable {K : PySem.W.Frag} {e0 f : Addr} {fd : FuncData}
def one {α : Type} (l : List α) (i : Nat) : List α := (l.drop i).take 1
theorem one_rel {vs : List V} {us : List Value} (r : Vals vs us) (i : Nat) : Vals (one vs i) (one us i) := (r.drop i).take 1
/-- all five by name -/
theorem kb5 (F : FunI K e0 f fd) : ∃ mv : List Value, KBn K fd pInit 1 ["holds", "gap", "name", "due", "cost"] (fun us ws => us ++ (one ws 2 ++ (one ws 4 ++ (one ws 1 ++ (one ws 3 ++ one ws 0))))) (fun us ws => us ++ (one ws 2 ++ (one ws 4 ++ (one ws 1 ++ (one ws 3 ++ one ws 0))))) :=
  F.kbinds0 1 _ [] (fun us _ ws => us ++ (one ws 2 ++ (one ws 4 ++ (one ws 1 ++ (one ws 3 ++ one ws 0))))) (by simp) (by simp)
    (fun r1 _ r3 => r1.append ((one_rel r3 2).append ((one_rel r3 4).append ((one_rel r3 1).append ((one_rel r3 3).append (one_rel r3 0))))))
    (fun D doc pm an cdv ct us mv ws h1 h2 h3 => match us, mv, ws, h1, h2, h3 with | [_], [], [_, _, _, _, _], _, _, _ => rfl)
/-- four by name -/
theorem kb4 (F : FunI K e0 f fd) : ∃ mv : List Value, KBn K fd pInit 2 ["gap", "due", "cost", "holds"] (fun us ws => us ++ (one ws 2 ++ (one ws 0 ++ (one ws 1 ++ one ws 3)))) (fun us ws => us ++ (one ws 2 ++ (one ws 0 ++ (one ws 1 ++ one ws 3)))) :=
  F.kbinds0 2 _ [] (fun us _ ws => us ++ (one ws 2 ++ (one ws 0 ++ (one ws 1 ++ one ws 3)))) (by simp) (by simp)
    (fun r1 _ r3 => r1.append ((one_rel r3 2).append ((one_rel r3 0).append ((one_rel r3 1).append (one_rel r3 3)))))
    (fun D doc pm an cdv ct us mv ws h1 h2 h3 => match us, mv, ws, h1, h2, h3 with | [_, _], [], [_, _, _, _], _, _, _ => rfl)
theorem kb3 (F : FunI K e0 f fd) : ∃ mv : List Value, KBn K fd pInit 3 ["holds", "due", "gap"] (fun us ws => us ++ (one ws 2 ++ (one ws 1 ++ one ws 0))) (fun us ws => us ++ (one ws 2 ++ (one ws 1 ++ one ws 0))) :=
  F.kbinds0 3 _ [] (fun us _ ws => us ++ (one ws 2 ++ (one ws 1 ++ one ws 0))) (by simp) (by simp)
    (fun r1 _ r3 => r1.append ((one_rel r3 2).append ((one_rel r3 1).append (one_rel r3 0))))
    (fun D doc pm an cdv ct us mv ws h1 h2 h3 => match us, mv, ws, h1, h2, h3 with | [_, _, _], [], [_, _, _], _, _, _ => rfl)
theorem kb2 (F : FunI K e0 f fd) : ∃ mv : List Value, KBn K fd pInit 4 ["due", "holds"] (fun us ws => us ++ ws) (fun us ws => us ++ ws) :=
  F.kbinds0 4 _ [] (fun us _ ws => us ++ ws) (by simp) (by simp) (fun r1 _ r3 => r1.append r3)
    (fun D doc pm an cdv ct us mv ws h1 h2 h3 => match us, mv, ws, h1, h2, h3 with | [_, _, _, _], [], [_, _], _, _, _ => rfl)
theorem kbD (F : FunI K e0 f fd) : ∃ mv : List Value, KBn K fd pInit 4 ["due"] (fun us ws => us ++ (ws ++ mv)) (fun us ws => us ++ (ws ++ [V.ref e0])) :=
  F.kbinds0 4 _ [("holds", V.ref e0)] (fun us mv ws => us ++ (ws ++ mv)) (by simp) (by simp) (fun r1 r2 r3 => r1.append (r3.append r2))
    (fun D doc pm an cdv ct us mv ws h1 h2 h3 => match us, mv, ws, h1, h2, h3 with | [_, _, _, _], [_], [_], _, _, _ => ⟨_, _, _, _, _, _, rfl, rfl, rfl⟩)
theorem kbH (F : FunI K e0 f fd) : ∃ mv : List Value, KBn K fd pInit 4 ["holds"] (fun us ws => us ++ (mv ++ ws)) (fun us ws => us ++ ([V.non] ++ ws)) :=
  F.kbinds0 4 _ [("due", V.non)] (fun us mv ws => us ++ (mv ++ ws)) (by simp) (by simp) (fun r1 r2 r3 => r1.append (r2.append r3))
    (fun D doc pm an cdv ct us mv ws h1 h2 h3 => match us, mv, ws, h1, h2, h3 with | [_, _, _, _], [_], [_], _, _, _ => ⟨_, _, _, _, _, _, rfl, rfl, rfl⟩)
theorem kb0 (F : FunI K e0 f fd) : ∃ ds, Vals [V.non, V.ref e0] ds ∧ Binds K fd pInit ds :=
  F.binds0 4 (by simp) rfl (fun D doc pm an cdv ct us ks h1 h2 => match us, ks, h1, h2 with | [_, _, _, _], [_, _], _, _ => ⟨_, _, _, _, _, _, rfl, rfl, _, _, _, _, _, _, rfl, rfl, rfl⟩)
end
end Du

set_option Elab.async false
set_option linter.all false
set_option maxRecDepth 100000
namespace Du
open PySem L2 PyProof.Rows
section
variable {P : Program} {w : World} {K : PySem.W.Frag} {mg : Str → Option Value} {base : Heap} {k : Nat} {f : Addr} {N ps : List Str} {A : Around} {outer : List Env} {s : Shared} {H : Hp} {args : Args} {us : List Value} {vs : List V} {Q : VK}
/-- a def's call where one stands, by its body there -/
theorem fn_at {name qual : Str} {params : Arguments} {body : List Stmt} {scope : Scope} {dV kV doc pm cdv ct oc : Value} {an od : Option Addr} {osl : Array (Option Value)}
    (lk : K.lookup f = some ⟨oc, od, .func (PySem.W.fnOf name qual params body scope dV kV doc pm an cdv ct), osl⟩) (hcd : PySem.W.codeIn K cdv qual = true) (S : FnScope N ps scope) (hr : Room (k + 1) A) (e0 : Env0 P w K mg base A outer s H)
    (hb : BindsTo s (PySem.W.fnOf name qual params body scope dV kV doc pm an cdv ct) args (ps.zip us)) (r : Vals vs us) (hl : vs.length = ps.length)
    (go : ∃ t, PSs (cxOf CX0 P w K mg base N qual scope f cdv A outer s H E0).nox body t ∧ t { nx := fun _ H' => Q .non H', rt := Q } (L2.start N vs) H) : codeAny (model P w) A (.call (.ref f) args) (CR CX0 outer P w H s Q E0) s := by
  have kept := fun b o e => (e0.bs b o e).1
  have KX : K.In s.heap := e0.mod.kin.keeps kept
  refine codeAny_call_function hr.depth (KX _ _ lk) rfl S.co S.gen rfl (PySem.W.codeRec_of KX hcd) (hb _ _ _ _ (wpAny_newFunctionEnv_cells S.kind (fun y hy => (S.par y.1 (List.of_mem_zip hy).1).imp id fun q => ⟨q, PySem.W.cellsFrom_some _ _ _ (.inl q)⟩) fun env he s1 x => ?_))
  subst he
  obtain ⟨t, ht, hq⟩ := go
  have I := inv_start (CX := CX0) (E := E0) S hr.hd e0 hl r x
  refine ⟨(e0.mod.nolimit.keeps kept).keeps x.toInCall.keep, codeAny_func (wpAny_mono (ht.nox.run [] s1 _ H _ I hq) (fun fl s' hs => ?_) fun _ _ z => z)⟩
  match fl, hs with
  | .ret u, ⟨v, σ', H', J, rv, q⟩ => exact ⟨v, H', J.os, J.bare, J.base, J.hok, rv, q⟩
  | .next, ⟨σ', H', J, q⟩ => exact ⟨V.non, H', J.os, J.bare, J.base, J.hok, rfl, q⟩
  | .brk, ⟨_, _, _, q⟩ => exact q.elim
  | .cont, ⟨_, _, _, q⟩ => exact q.elim
end
/-- the law's def, called by the claim's own caller -/
def LawOk (P : Program) (w : World) (K : PySem.W.Frag) (mg : Str → Option Value) (base : Heap) (fa : Addr) (fd : FuncData) (x : Str) (sp : Sp) : Prop :=
  ∀ (s : Shared) (H : Hp) (u : Value) (v : V) (Q : VK), Env0 P w K mg base callerA [] s H → BindsTo s fd ⟨[u], []⟩ [(x, u)] → RelV v u → sp [v] H Q E0 → codeAny (model P w) callerA (.call (.ref fa) ⟨[u], []⟩) (CR CX0 [] P w H s Q E0) s
theorem law_at {P : Program} {w : World} {K : PySem.W.Frag} {mg mb : Str → Option Value} {fa a : Addr} {fd : FuncData} {x : Str} {sp : Sp} {s1 : Shared} {vs : List Value} {ns : List Int}
    (KX : K.In s1.heap) (hns : s1.heap.Ns mainGlobals mg) (hb : s1.heap.Ns builtinsNs mb) (hbb : ∀ y : Str, y ≠ "__name__" → mb y = bootBuiltins y) (hlim : s1.heap.NoLimit) (hg : s1.gens = #[])
    (ha : s1.heap.get? a = some { cls := .type "list", data := .seq vs.toArray }) (hi : IntsAre vs ns) (hl : ns.length ≤ sizeLine)
    (F : ∀ base : Heap, K.In base → base.Ns mainGlobals mg → LawOk P w K mg base fa fd x sp) (hbind : ∀ (s : Shared) (u : Value), BindsTo s fd ⟨[u], []⟩ [(x, u)])
    (hsp : ∀ H : Hp, SqL K H a (ns.map V.int) → sp [.ref a] H (fun v _ => v = .bl true) E0) :
    codeAny (model P w) callerA (.call (.ref fa) ⟨[.ref a], []⟩) (fun r s' => r = .ok (.ret (.bool true)) ∧ OldK s1.heap s'.heap ∧ s'.os = s1.os ∧ AllBare s'.gens) s1 := by
  have rv := vals_ints hi
  let H : Hp := fun b => if b = a ∧ K.lookup a = none then some (.frz { cls := .type "list", data := .seq vs.toArray } (.lst (ns.map V.int))) else none
  have hH : ∀ b u, H b = some u → b = a ∧ K.lookup a = none ∧ u = .frz { cls := .type "list", data := .seq vs.toArray } (.lst (ns.map V.int)) := fun b u e => by
    by_cases hc : b = a ∧ K.lookup a = none
    · have e' := (if_pos hc).symm.trans e
      exact ⟨hc.1, hc.2, (Option.some.inj e').symm⟩
    · have e' := (if_neg hc).symm.trans e
      cases e'
  have hS : SqL K H a (ns.map V.int) := by
    cases hk : K.lookup a with
    | none => exact .inl (.inr ⟨_, if_pos ⟨rfl, hk⟩⟩)
    | some o =>
      have eo := (KX a o hk).symm.trans ha
      cases eo
      exact .inr ⟨_, vs.toArray, _, hk, rfl, rfl, rfl, by rw [List.size_toArray, hi.length]; exact hl, by simpa using rv⟩
  have hok : HOk P w H s1.heap := fun b u e => by
    obtain ⟨rfl, _, rfl⟩ := hH b u e
    exact ⟨ha, by rw [List.length_map]; exact hl, vs, _, rv, ha⟩
  have noD : ∀ {b : Addr} {o : Obj} {es : Array DictEntry} {ep : Nat}, s1.heap.get? b = some o → o.data = .dict es ep → H b = none := fun {b o es ep} e d => by
    cases q : H b with
    | none => rfl
    | some u =>
      obtain ⟨rfl, _⟩ := hH b u q
      cases ha.symm.trans e
      cases (show Data.seq vs.toArray _ = Data.dict es ep from d)
  have ns' : ∀ {b : Addr} {m : Str → Option Value}, s1.heap.Ns b m → (hidT s1.heap H).Ns b m := fun ⟨o, es, ep, e, d, z⟩ => ⟨o, es, ep, hidT_get e (noD e d), d, z⟩
  have hKb : K.In (hidT s1.heap H) := fun b o e => hidT_get (KX b o e) (by
    cases q : H b with
    | none => rfl
    | some u =>
      obtain ⟨rfl, hk, _⟩ := hH b u q
      rw [hk] at e
      cases e)
  obtain ⟨mc, l1, l2⟩ := hlim
  have e0 : Env0 P w K mg (hidT s1.heap H) callerA [] s1 H := ⟨rfl, ⟨hKb, ns' hns, ⟨mb, ns' hb, hbb⟩, ⟨mc, ns' l1, l2⟩⟩, fun b o e => of_hidT e, Nat.le_of_eq (hidT_size _ _), trivial, (fun b z => nomatch z), hok, .of_eq hg⟩
  refine codeAny_mono (F _ hKb (ns' hns) s1 H (.ref a) (.ref a) _ e0 (hbind s1 (.ref a)) rfl (hsp H hS)) fun r s' h => ?_
  match r, h with
  | .error _, h => exact h.elim
  | .ok .next, h => exact h.elim
  | .ok .brk, h => exact h.elim
  | .ok .cont, h => exact h.elim
  | .ok (.ret u), ⟨v, H', os, bare, un, hok', rvu, q⟩ =>
    have q' : v = .bl true := q
    subst q'
    obtain rfl : u = Value.bool true := rvu
    refine ⟨rfl, OldK.of_keep fun b o e => ?_, os, bare⟩
    cases z : H b with
    | none => exact un.keep b o e z (fun y => nomatch y) (fun y => nomatch y)
    | some y =>
      obtain ⟨rfl, hk, rfl⟩ := hH b y z
      have e2 := (hok' _ _ (un.frzs _ _ _ z)).1
      rw [← Option.some.inj (ha.symm.trans e)]
      exact e2
theorem walk_at {l : PySem.W.OpenLaw} {n : Nat} {q : Program} {loose : List Str} {XP : (Str → Option Value) → Heap → Prop} {YP : World → Heap → Prop} {d : DefRec} {K : Params → PySem.W.Frag} {sp : World → Sp} {x : Str} (hn : l.most = some n) (hn2 : n ≤ sizeLine) (hdf : d.params.defaults = [])
    (hY : ∀ (w : World) (h : Heap), YP w h → (K w.params).In h)
    (F : ∀ (w : World) (mg : Str → Option Value) (fa : Addr) (h : Heap), (K w.params).In h → h.Ns mainGlobals mg → mg d.name = some (.ref fa) →
      ∃ fd : FuncData, (∀ (s : Shared) (u : Value), BindsTo s fd ⟨[u], []⟩ [(x, u)]) ∧ ∀ base : Heap, (K w.params).In base → base.Ns mainGlobals mg → LawOk l.prog w (K w.params) mg base fa fd x (sp w))
    (hsp : ∀ (w : World) (H : Hp) (a : Addr) (ns : List Int), ns.length ≤ n → SqL (K w.params) H a (ns.map V.int) → sp w [.ref a] H (fun v _ => v = .bl true) E0) :
    PySem.W.WalkO q loose XP YP l.row.toRowW d [] (fun f vs => PySem.call f vs) := by
  refine Att.attach_call hn hdf fun w s0 s1 mg mb fa o pm cd doc a vs ns G Y ho hd hcd hmg hobj hints hlen hg => ?_
  obtain ⟨fd, hb, hF⟩ := F w mg fa _ (hY w _ Y) G.T.g hmg
  exact law_at (hY w _ Y) G.T.g G.T.b G.T.builtins G.T.nolimit hg hobj hints (Nat.le_trans hlen hn2) hF hb fun H hS => hsp w H a ns hlen hS
end Du

set_option Elab.async false
set_option linter.all false
set_option maxRecDepth 100000
set_option maxHeartbeats 1000000
namespace Du
open PySem PySem.W PySem.Calls PyProof.Rows PySem.HandSPX
open L2 (defArgs defBody defScope inClass)
/-- what the written part says of an error class over ValueError with one field -/
structure ErrC (P : Program) (K : Frag) (mg : Str → Option Value) (x fld qual : Str) (st : Stmt) (C fI : Addr) : Prop where
  gC : mg x = some (.ref C)
  cls : ∃ nm q N bs bm sn sub ab col dd k0 k1 k2 k3 k5, K.lookup C = some (excClassObj nm q C N bs bm true sn sub ab col dd k0 k1 k2 k3 k5 "ValueError.__new__") ∧ refsVE bm = true
  sa : findIn K (.ref C) "__setattr__" = some (some (.builtin "object.__setattr__"))
  ga : findIn K (.ref C) "__getattribute__" = some (some (.builtin "BaseException.__getattribute__"))
  gg : findIn K (.ref C) "__getattr__" = some none
  noN : findIn K (.ref C) fld = some none
  iC : findIn K (.ref C) "__init__" = some (some (.ref fI))
  tC : typeIn K (.ref fI) = some (.type "function")
  kC : keepIn K (.ref C) = true
  exC : subIn K (.ref C) (.type "BaseException") = some true
  veC : subIn K (.ref C) (.type "ValueError") = some true
  tyC : typeIn K (.ref C) = some (.type "type")
  hdC : hasDictIn K C = true
  mro : mroIn K C (.ref C) = some true
  sup : ks_superIn K C C "__init__" = some (some (.builtin "ValueError.__init__"))
  any : nsIn K cStatics "thirdparty.any" = some none
  top : (P.main.scope.names.lookup ("super" : Str)).isSome = false
  mS : mg "super" = none
  fn : ∃ (oc : Value) (od : Option Addr) (doc pm : Value) (an : Option Addr) (cda cc : Addr) (ct : Value) (osl : Array (Option Value)) (ccl cl : Value) (cdd cld : Option Addr) (ccs csl : Array (Option Value)) (vs : Array Value) (file : Str) (tf : Tok),
    K.lookup fI = some ⟨oc, od, .func (ksFn "__init__" qual (defArgs st) (defBody st) (defScope st) .none .none doc pm an (.ref cda) ct cc), osl⟩ ∧ codeIn K (.ref cda) qual = true ∧
    K.lookup cda = some ⟨ccl, cdd, .fields vs, ccs⟩ ∧ vs[2]? = some (.str file tf) ∧ ((P.main.file : Str) == file) = true ∧ K.lookup cc = some ⟨cl, cld, .cell (some (.ref C)), csl⟩
/-- what __init__ leaves of a fresh exception at x -/
structure ErrEnd (h h' : Heap) (x C dx : Addr) (fld : Str) (v : Value) : Prop where
  keep : ∀ b o, b ≠ x → h.get? b = some o → h'.get? b = some o
  obj : ∃ t1 : Addr, h'.get? x = some { cls := .ref C, dict := some dx, data := .fields #[.ref t1, .none, .none, .none, .bool false, .none] }
  dbig : h.objs.size ≤ dx
  dne : dx ≠ x
  ns : h'.Ns1 dx (fun y => if y = fld then some v else none)
section
variable {prog : Program} {w : World} {A : Around} {E : Value → Shared → Prop} {h : Heap} {g : Array GenState} {d : Drawn} {t : Nat} {os : OsState}
variable {nm q : Str} {C N : Addr} {bs bm : List Value} {hdct : Bool} {sn : List Str} {sub : List Value} {ab : Bool} {col : Option Bool} {dd : Option Addr} {k0 k1 k2 k3 k5 : Option Value} {B newId i : String} {bmB : List Value}
/-- the bound __init__ of the built-in base, called -/
theorem call_mw (FB : ExcBaseFacts B newId i bmB) {u e t0 : Addr} {rest : List Value} {Q : Value → Shared → Prop} (hC : h.get? C = some (excClassObj nm q C N bs bm hdct sn sub ab col dd k0 k1 k2 k3 k5 newId)) (he : h.get? e = some (excO C t0)) (hu : h.get? u = some (kxs_mw i e))
    (hrest : rest.length ≤ sizeLine) (hq : ∀ h' t1, (∀ b o, b ≠ e → h.get? b = some o → h'.get? b = some o) → h'.get? e = some (excO C t1) → Q .none ⟨h', g, d, t, os⟩) : wpAny (model prog w) A (call (.ref u) rest) Q E ⟨h, g, d, t, os⟩ := by
  refine wpAny_call (codeAny_of_tree ?_)
  show wpAny _ A.in1 (callAny (.ref u) ⟨rest, []⟩) _ _ _
  simp only [callAny]
  refine wpAny_bind (wpAny_load hu (KFB.if_so (show (Value.type "method-wrapper" == Value.type "method" || Value.type "method-wrapper" == Value.type "builtin_function_or_method" || Value.type "method-wrapper" == Value.type "method-wrapper") = true by decide) (wpAny_bind (check_bound_init FB.toExcCallFacts hC he rfl (wpAny_bind (wpAny_pure (wpAny_pure ⟨plainId_quiet FB.init.plain _, codeAny_builtin FB.initEntry ?_⟩)))))))
  exact exc_init_tree (cls := .ref C) (t0 := t0) (dv := none) (c2 := .none) (c3 := .none) (b4 := .bool false) he hrest fun h' k e' _ => hq h' _ k e'
end
abbrev sNoTask : Stmt := inClass (topS 3) 0
section
variable {prog : Program} {w : World} {A : Around} {E : Value → Shared → Prop} {R : Result → Shared → Prop} {s : Shared} {K : Frag} {mg mb : Str → Option Value} {C fI : Addr} {nm qual : Str}
theorem init_NoTask (T : ErrC prog K mg nm "part" qual sNoTask C fI) {x t0 : Addr} {v : Value} (X : K.In s.heap) (hlim : s.heap.NoLimit) (G : s.heap.Ns mainGlobals mg) (Bn : s.heap.Ns builtinsNs mb) (hbb : ∀ y : Str, y ≠ "__name__" → mb y = bootBuiltins y)
    (hx : s.heap.get? x = some (excO C t0)) (hnx : K.lookup x = none) (hroom : A.depth < recursionLimit) (hq : ∀ h' tk dx, ErrEnd s.heap h' x C dx "part" v → R (.ok (.ret .none)) { s with heap := h', toks := tk }) : codeAny (model prog w) A (.call (.ref fI) ⟨[.ref x, v], []⟩) R s := by
  obtain ⟨oc, od, doc, pm, an, cda, cc, ct, osl, ccl, cl, cdd, cld, ccs, csl, vs, file, tf, lk, hcd, hcode, hvs, hfile, hcell⟩ := T.fn
  obtain ⟨nm', q', N', bs, bm, sn, sub, ab, col, dd, k0, k1, k2, k3, k5, hC, hbm⟩ := T.cls
  have hcl : clsIn K C = some { name := nm', bases := bs, mro := .ref C :: bm, ns := N', qualname := q', hasDict := true, slotNames := sn, subclasses := sub, abstract := ab, collection := col, hasDel := false } := by unfold clsIn; rw [hC] <;> rfl
  have nocell : ∀ y ∈ (defScope sNoTask).names, y.2 ≠ .cell := by decide +kernel
  refine ks_codeAny_call_defAt (binds := [(("self" : Str), Value.ref x), ("part", v)]) hroom (X _ _ lk) rfl hlim (codeRec_of X hcd) rfl (BindsTo.of_eq rfl) nocell (fun y hy => ?_) (fun h1 hn k => ?_)
  · rcases List.mem_cons.mp hy with rfl | hy
    · rfl
    · rw [List.mem_singleton.mp hy]
      rfl
  have X1 : K.In h1 := X.keeps k
  have hx1 := k _ _ hx
  have I1 : InstAt h1 x (excO C t0) C none := ⟨hx1, rfl, rfl, trivial⟩
  obtain ⟨oD, hD1, cdD, hD2⟩ : ∃ oD, h1.get? C = some oD ∧ ∃ cd, oD.data = .cls cd := ⟨_, X1 _ _ hC, _, rfl⟩
  refine ks_wpAt_execs_cons (ks_wpAt_Expr_any (ks_wpAt_MethodCall ?_))
  refine ks_wpAt_super_base rfl rfl (by decide) rfl (X1 _ _ lk) rfl rfl rfl (X1 _ _ hcode) rfl hvs hfile T.top ?_
  refine ks_loadName_global rfl rfl (loadGlobal_builtin (G.keeps k) T.mS (Bn.keeps k) ((hbb _ (by decide)).trans PyProof.Rows.Boot.«super») ⟨rfl, ?_⟩)
  refine wpAny_loadName_free rfl rfl rfl ⟨_, X1 _ _ hcell, rfl⟩ ?_
  refine wpAny_loadName_local rfl rfl hn rfl ?_
  refine ks_wpAny_isType_cls hD1 hD2 ⟨rfl, ?_⟩
  refine ks_wpAny_call_super hD1 hD2 hx1 rfl (fun c e => by cases e) (looks_mroIn X1 T.mro) (fun h2 hso k2 => ?_)
  have X2 : K.In h2 := X1.keeps k2
  have hx2 := k2 _ _ hx1
  have I2 : InstAt h2 x (excO C t0) C none := ⟨hx2, rfl, rfl, trivial⟩
  have hm := T.sup
  unfold ks_superIn at hm
  rw [hcl] at hm
  have hmro : W.Looks (model prog w) h2 (mroOf (.ref C)) (.ref C :: bm) := (looks_clsIn X2 hcl).andThen .now
  refine kxs_getMethod kxs_ValueError hso (looks_opaque X2 T.any) hmro rfl X2 hm (I2.type.andThen (looks_subIn X2 T.veC)) (ks_ne X2 I2 hcl) (by decide) ?_
  have k3 : ∀ b o, h2.get? b = some o → (h2.push (kxs_mw "ValueError.__init__" x)).get? b = some o := fun b o e => Heap.get?_push_of_some _ e
  refine kxs_callWith (i := "ValueError.__init__") (x := x) rfl (evalArgs_plain (args_cons (Calls.Constant_str (args_nil ⟨Heap.get?_push_at rfl rfl, ?_⟩))))
  refine call_mw F.excBase_ValueError (k3 _ _ (X2 _ _ hC)) (k3 _ _ hx2) (Heap.get?_push_at rfl rfl) (by show 1 ≤ sizeLine; decide) fun h4 t1 k4 hx4 => ?_
  -- the field
  have kx : ∀ b o, b ≠ x → h1.get? b = some o → h4.get? b = some o := fun b o hb e => k4 b o hb (k3 b o (k2 b o e))
  have X4 : K.In h4 := fun b o e => kx b o (fun z => by rw [z, hnx] at e; cases e) (X1 b o e)
  have hL : s.heap.objs.size ≠ x := Nat.ne_of_gt (Heap.lt_size hx)
  obtain ⟨oL, esL, epL, eL, rL⟩ := id hn
  have hn4 : h4.Ns s.heap.objs.size _ := ⟨oL, esL, epL, kx _ _ hL eL, rL⟩
  refine ks_wpAt_execs_cons (ks_wpAt_Assign_Attr (wpAt_of_wpAny (wpAny_Name (wpAny_loadName_local rfl rfl hn4 rfl (wpAny_Name (wpAny_loadName_local rfl rfl hn4 rfl ?_) (by decide))) (by decide))))
  refine set_plain X4 (ox := excO C t1) (od := none) ⟨hx4, rfl, rfl, trivial⟩ T.sa ?_
  refine exc_osa X4 hx4 hcl (show refsVE (.ref C :: bm) = true from hbm) rfl T.noN (fun h5 tk5 dx k5 dn dne hx5 hn5 => ?_)
  refine wpAt_of_wpAny (wpAny_execs_nil (hq h5 tk5 dx ⟨fun b o hb e => k5 b o hb (kx b o hb (k b o e)), ⟨t1, hx5⟩, ?_, dne, hn5⟩))
  have z : s.heap.objs.size < h4.objs.size := hn4.lt
  have dn' : h4.objs.size ≤ dx := dn
  omega
/-- the error made -/
structure ErrMade (h h' : Heap) (e C d : Addr) (fld : Str) (v : Value) : Prop where
  keep : ∀ b o, h.get? b = some o → h'.get? b = some o
  new : h.objs.size ≤ e
  obj : ∃ oe vs, h'.get? e = some oe ∧ oe.cls = .ref C ∧ oe.dict = some d ∧ oe.data = .fields vs ∧ vs[1]? = some .none ∧ vs[2]? = some .none
  dbig : h.objs.size ≤ d
  dne : d ≠ e
  ns : h'.Ns1 d (fun y => if y = fld then some v else none)
theorem made_NoTask (T : ErrC prog K mg nm "part" qual sNoTask C fI) {v : Value} (X : K.In s.heap) (hlim : s.heap.NoLimit) (G : s.heap.Ns mainGlobals mg) (Bn : s.heap.Ns builtinsNs mb) (hbb : ∀ y : Str, y ≠ "__name__" → mb y = bootBuiltins y) (hroom : A.depth + 1 < recursionLimit)
    (hq : ∀ h' tk e d, ErrMade s.heap h' e C d "part" v → R (.ok (.ret (.ref e))) { s with heap := h', toks := tk }) : codeAny (model prog w) A (.call (.ref C) ⟨[v], []⟩) R s := by
  obtain ⟨nm', q', N', bs, bm, sn, sub, ab, col, dd, k0, k1, k2, k3, k5, hC, hbm⟩ := T.cls
  obtain ⟨hp, g, dr, tk, os⟩ := s
  have k : ∀ b o, hp.get? b = some o → ((hp.push (kdv_tup [v])).push (excO C hp.objs.size)).get? b = some o := fun b o e => Heap.get?_push_of_some _ (Heap.get?_push_of_some _ e)
  have hget : ((hp.push (kdv_tup [v])).push (excO C hp.objs.size)).get? (hp.objs.size + 1) = some (excO C hp.objs.size) := by heap_get
  have hnx : K.lookup (hp.objs.size + 1) = none := by
    cases e : K.lookup (hp.objs.size + 1) with
    | none => rfl
    | some o => exact absurd (Nat.lt_of_succ_lt (Heap.lt_size (show hp.get? (hp.objs.size + 1) = some o from X _ _ e))) (Nat.lt_irrefl _)
  refine call_own F.excBase_ValueError (fun X => refsVE_contains X bm hbm) (X _ _ hC) (looks_findIn X T.iC) (fun self => bind_fn X self T.tC) (by show 1 ≤ sizeLine; decide) ?_
  refine init_NoTask (s := ⟨(hp.push (kdv_tup [v])).push (excO C hp.objs.size), g, dr, tk, os⟩) T (X.keeps k) (hlim.keeps k) (G.keeps k) (Bn.keeps k) hbb hget hnx hroom fun h' tk' dx m => ?_
  obtain ⟨k', ⟨t1, hx⟩, dn, dne, hns⟩ := m
  have z : hp.objs.size + 1 + 1 ≤ dx := by
    have q := dn
    rw [Heap.size_push, Heap.size_push] at q
    exact q
  exact ⟨rfl, hq h' tk' (hp.objs.size + 1) dx ⟨fun b o e => k' b o (Nat.ne_of_lt (Nat.lt_succ_of_lt (Heap.lt_size e))) (k b o e), Nat.le_succ _, ⟨_, _, hx, rfl, rfl, rfl, rfl, rfl⟩, Nat.le_trans (Nat.le_trans (Nat.le_succ _) (Nat.le_succ _)) z, dne, hns⟩⟩
end
end Du

set_option Elab.async false
set_option linter.all false
set_option maxRecDepth 100000
set_option maxHeartbeats 1000000
namespace Du
open PySem PySem.Spec PyProof.Rows L2
open L2N (Zn)
/-- an object's classes as a tuple: how a clause's match is seen -/
def Mat (K : PySem.W.Frag) (cs : List Value) : Prop := ∀ {M : Model} {h : Heap} {cls : Value} {tp e : Addr}, K.In h → PySem.W.Looks M h (typeOf (.ref e)) cls → h.get? tp = some { cls := .type "tuple", data := .seq cs.toArray } → PySem.W.exmAny K cls cs = some true → PySem.W.Looks M h (excMatches (.ref e) (.ref tp)) true
theorem mat2 {K : PySem.W.Frag} {c1 c2 : Value} : Mat K [c1, c2] := fun X L hp hx => PySem.W.exm_tup2 X L hp hx
theorem mat3 {K : PySem.W.Frag} {c1 c2 c3 : Value} : Mat K [c1, c2, c3] := fun X L hp hx => PySem.W.exm_tup3 X L hp hx
/-- the clause's tuple, laid where the error is handled -/
def Lays (X : Cx) (te : Expr) (cs : List Value) : Prop := ∀ (a : Addr) (oe : Obj) (pn : List (Addr × Obj)) (σ : L2.St) (H : Hp) (s : Shared) (Q : Value → Shared → Prop) (E : Value → Shared → Prop), Inv (X.suite a ((a, oe) :: pn)) [] σ H s →
  (∀ tp h', h'.get? tp = some { cls := .type "tuple", data := .seq cs.toArray } → (∀ b o, s.heap.get? b = some o → h'.get? b = some o) → Q (.ref tp) { s with heap := h' }) → wpAny (model X.prog X.w) (X.A.mark (some (.ref a))) (eval te X.env) Q E s
theorem name_at {X : Cx} {x : Str} {c : Value} {np : Pos} (hc : Names X x c) {a : Addr} {oe : Obj} {pn : List (Addr × Obj)} {σ : L2.St} {H : Hp} {s : Shared} {Q : Value → Shared → Prop} {E : Value → Shared → Prop} (S : Inv (X.suite a ((a, oe) :: pn)) [] σ H s) (q : Q c s) :
    wpAny (model X.prog X.w) (X.A.mark (some (.ref a))) (eval (.Name x np) X.env) Q E s := by
  obtain ⟨hg, hd, hm | ⟨hm, hv, hn⟩⟩ := hc
  · exact ld_glob (X := X.suite a ((a, oe) :: pn)) S hg hm q hd
  · exact ld_blt (X := X.suite a ((a, oe) :: pn)) S hg hm hv q hn hd
theorem lays2 {X : Cx} {x1 x2 : Str} {c1 c2 : Value} {n1 n2 tp : Pos} {kk : Nat} (h1 : Names X x1 c1) (h2 : Names X x2 c2) : Lays X (.Tuple [.Name x1 n1, .Name x2 n2] kk tp) [c1, c2] := fun a oe pn σ H s Q E S q =>
  wpAny_Tuple_spliced (args_cons (name_at h1 S (args_cons (name_at h2 S (args_nil ⟨by show 2 ≤ sizeLine; decide, q _ _ (Heap.get?_push_size _ rfl) fun b o e => Heap.get?_push_of_some _ e⟩)))))
theorem lays3 {X : Cx} {x1 x2 x3 : Str} {c1 c2 c3 : Value} {n1 n2 n3 tp : Pos} {kk : Nat} (h1 : Names X x1 c1) (h2 : Names X x2 c2) (h3 : Names X x3 c3) : Lays X (.Tuple [.Name x1 n1, .Name x2 n2, .Name x3 n3] kk tp) [c1, c2, c3] := fun a oe pn σ H s Q E S q =>
  wpAny_Tuple_spliced (args_cons (name_at h1 S (args_cons (name_at h2 S (args_cons (name_at h3 S (args_nil ⟨by show 3 ≤ sizeLine; decide, q _ _ (Heap.get?_push_size _ rfl) fun b o e => Heap.get?_push_of_some _ e⟩)))))))
theorem flying_push {B h h' : Heap} {l : List Env} {a : Addr} {Z : Obj → Prop} (k : ∀ b o, h.get? b = some o → h'.get? b = some o) (f : HandSPX.FlyingZ B l a Z h) : HandSPX.FlyingZ B l a Z h' := by
  obtain ⟨f1, f2, f3, oe, vs, T, oT, ts, t1, t2, t3, t4, t5, t6, t7, t8, t9⟩ := f
  exact ⟨fun b o e => k b o (f1 b o e), f2, Heap.FunFrames.of_keeps (fun b o e _ => ⟨o, k b o e, rfl⟩) f3, oe, vs, T, oT, ts, k _ _ t1, t2, t3, t4, t5, t6, k _ _ t7, t8, t9⟩
/-- what 'except (..) as n' wishes of an exception of the body, each of which it takes -/
def wTup (K : PySem.W.Frag) (cs : List Value) (i : Nat) (ts : Addr → Value → Option Addr → TS) (D : Ends) : WX := fun cls d σ H =>
  PySem.W.exmAny K cls cs = some true ∧ ∀ a, H a = none → ts a cls d { nx := fun σ' H' => D.nx (σ'.set i none) H', rt := D.rt, bk := fun σ' H' => D.bk (σ'.set i none) H', ct := fun σ' H' => D.ct (σ'.set i none) H' } (σ.set i (some (.ref a))) H
theorem ps_try_tup {X : Cx} {n : Str} {i : Nat} {te : Expr} {cs : List Value} {body suite : List Stmt} {b0 : Stmt} {pos pos' : Pos} {tb : WX → TS} {ts : Addr → Value → Option Addr → TS} (hs : X.stack = X.env :: X.outer) (hf : X.env.frame = some X.env.locals) (hN : X.N.Nodup) (hi : X.N[i]? = some n)
    (hln : X.env.kindOf n = some .local) (hl : Lays X te cs) (hm : Mat X.K cs)
    (hb : ∀ (W : WX) (pn : List (Addr × Obj)) (xe : Value → Shared → Prop), L2N.Takes (X.tr pn xe) W → PassesOwn (model X.prog X.w) X.A X.env xe → PSs (X.tr pn xe) body (tb W))
    (hsu : ∀ (a : Addr) (oe : Obj) (cls : Value) (d : Option Addr) (pn : List (Addr × Obj)), Zn cls d oe → (∃ vs, oe.data = .fields vs) → PSs (X.suite a ((a, oe) :: pn)) (b0 :: suite) (ts a cls d)) :
    PS X (.Try body [.ExceptHandler (some te) (some n) (b0 :: suite) pos'] [] [] pos) (fun D σ H => tb (wTup X.K cs i ts D) D σ H) := by
  refine ⟨fun pins s σ H D I h => ?_⟩
  have ok := I.ok
  refine wpAny_Try_except (wpAny_mono ((hb (wTup X.K cs i ts D) (X.pn ++ pins) (fun e s1 => wpAny (model X.prog X.w) X.A (noteFrame e X.env) (fun _ s2 => wpAny (model X.prog X.w) X.A (setFlight e none) (fun _ s3 =>
    wpAny (model X.prog X.w) X.A (handleBy e X.env [.ExceptHandler (some te) (some n) (b0 :: suite) pos']) (SP X pins D) X.xe s3) X.xe s2) X.xe s1) (fun u s' xx => ?_) PassesOwn.looking).run [] s σ H D (I.toTry _) h) (fun f s1 hsp => ?_) (fun _ _ he => he))
  · obtain ⟨a, B, sI, pins', σ', H', cls, d, rfl, J', nb, up, sky, na, os, ag, hyes, go⟩ := xx
    have J : Inv X pins σ' H' sI := J'.ofTry ok
    have hfr : X.A.frames = some (X.env :: X.outer) := by rw [ok.frames, hs]
    show wpAny (model X.prog X.w) X.A (noteFrame (.ref a) X.env) _ _ _
    refine L2N.Sky.land Zn.steady hfr hf (by rw [← hs]; exact sky) fun h3 fl3 up3 => ?_
    obtain ⟨oe3, vs3, he3, hz3, hd3⟩ := fl3.there
    have nfr : a ∉ frs (X.env :: X.outer) := fun m => by
      obtain ⟨_, o', e', hnf⟩ := fl3.2.2.1.mem m
      cases he3.symm.trans e'
      exact hnf _ hd3
    have nL : a ≠ X.env.locals := fun z => nfr (List.mem_filterMap.mpr ⟨X.env, List.mem_cons_self, by rw [hf, z]⟩)
    have nF : a ∉ X.fs := fun m => by
      obtain ⟨e, he, q⟩ := List.mem_filterMap.mp m
      exact nfr (List.mem_filterMap.mpr ⟨e, List.mem_cons_of_mem _ he, q⟩)
    have J3 : Inv X pins σ' H' { s' with heap := h3 } := J.landed nb fl3.1 (up.trans up3) os ag
    refine wpAny_handleBy_cons (codeAny_handlers_test ?_) (by intro q; cases q)
    refine hl a oe3 (X.pn ++ pins) σ' H' _ _ _ (J3.suite he3 hd3 na nL nF) fun tp h4 ht k4 => ?_
    have fl4 := flying_push k4 fl3
    have up4 : h3.UpToSlots h4 := Heap.UpToSlots.of_keeps k4
    have LT : PySem.W.Looks (model X.prog X.w) h4 (typeOf (.ref a)) cls := fun A Q E s k q => wpAny_typeOf_ref (k _ _ (k4 _ _ he3)) (by rw [hz3.1]; exact q)
    refine (hm (J3.kIn.keeps k4) LT ht hyes).here ?_
    show codeAny (model X.prog X.w) (X.A.mark (some (.ref a))) (.handlers (.ref a) [.ExceptHandler none (some n) (b0 :: suite) pos'] X.env) _ _
    refine codeAny_handlers_suite_as (HandSPX.lands_againZ (s := { s' with heap := h4 }) fl4 fun h5 fl5 up5 => ?_)
    have J5 : Inv X pins σ' H' { s' with heap := h5 } := J.landed nb fl5.1 (((up.trans up3).trans up4).trans up5) os ag
    obtain ⟨oe5, vs5, he5, hz5, hd5⟩ := fl5.there
    refine store_ok (X := X.suite a ((a, oe5) :: (X.pn ++ pins))) (v := .ref a) (J5.suite he5 hd5 na nL nF) hN hi (.inl hln) rfl (fun s6 S6 => ?_) (.inr hln)
    refine wpAny_mono ((hsu a oe5 cls d (X.pn ++ pins) hz5 ⟨_, hd5⟩).run [] s6 _ H' _ S6 (go a na)) (fun f s7 hsp => ?_) (fun _ _ z => False.elim z)
    match f, hsp with
    | .next, ⟨σ6, H6, S7, q6⟩ => exact gone_ok (S7.unsuite ok) hN hi hln fun s8 J8 => ⟨_, _, J8, q6⟩
    | .brk, ⟨σ6, H6, S7, q6⟩ => exact gone_ok (S7.unsuite ok) hN hi hln fun s8 J8 => ⟨_, _, J8, q6⟩
    | .cont, ⟨σ6, H6, S7, q6⟩ => exact gone_ok (S7.unsuite ok) hN hi hln fun s8 J8 => ⟨_, _, J8, q6⟩
    | .ret u, ⟨v6, σ6, H6, S7, r6, q6⟩ => exact gone_ok (S7.unsuite ok) hN hi hln fun s8 J8 => ⟨_, _, _, J8, r6, q6⟩
  · match f, hsp with
    | .next, ⟨σ', H', J', q⟩ => exact wpAny_execs_nil ⟨σ', H', J'.ofTry ok, q⟩
    | .brk, ⟨σ', H', J', q⟩ => exact ⟨σ', H', J'.ofTry ok, q⟩
    | .cont, ⟨σ', H', J', q⟩ => exact ⟨σ', H', J'.ofTry ok, q⟩
    | .ret u, ⟨v, σ', H', J', r, q⟩ => exact ⟨v, σ', H', J'.ofTry ok, r, q⟩
end Du

set_option Elab.async false
set_option linter.all false
set_option maxRecDepth 100000
set_option maxHeartbeats 1000000
namespace Du
open PySem PySem.Spec PyProof.Rows L2
open L2N (Zn)
/-- an error class with one field, by its making -/
structure Err (P : Program) (w : World) (K : PySem.W.Frag) (mg : Str → Option Value) (x fld : Str) (C : Addr) : Prop where
  gC : mg x = some (.ref C)
  kC : PySem.W.keepIn K (.ref C) = true
  exC : PySem.W.subIn K (.ref C) (.type "BaseException") = some true
  tyC : PySem.W.typeIn K (.ref C) = some (.type "type")
  ga : PySem.W.findIn K (.ref C) "__getattribute__" = some (some (.builtin "BaseException.__getattribute__"))
  gg : PySem.W.findIn K (.ref C) "__getattr__" = some none
  noN : PySem.W.findIn K (.ref C) fld = some none
  hdC : PySem.W.hasDictIn K C = true
  made : ∀ {A : Around} {R : Result → Shared → Prop} {s : Shared} {mb : Str → Option Value} {v : Value}, K.In s.heap → s.heap.NoLimit → s.heap.Ns mainGlobals mg → s.heap.Ns builtinsNs mb → (∀ y : Str, y ≠ "__name__" → mb y = bootBuiltins y) → A.depth + 1 < recursionLimit →
    (∀ h' tk e d, ErrMade s.heap h' e C d fld v → R (.ok (.ret (.ref e))) { s with heap := h', toks := tk }) → codeAny (model P w) A (.call (.ref C) ⟨[v], []⟩) R s
theorem relO_fld {v : V} {u : Value} {fld : Str} (r : RelV v u) (f : Str) : RelO (List.lookup f [(fld, v)]) (if f = fld then some u else none) := by
  by_cases h : f = fld
  · subst h
    rw [if_pos rfl, show List.lookup f [(f, v)] = some v by simp [List.lookup]]
    exact r
  · have e : (f == fld) = false := by simpa using h
    rw [if_neg h, show List.lookup f [(fld, v)] = none by simp [List.lookup, e]]
    trivial
def tMkErr (C : Addr) (fld : Str) (ta : TA) : L2.St → Hp → XK → Prop := fun σ H Q => ta σ H fun vs H1 => ∃ v, vs = [v] ∧ ∀ d, H1 d = none → Q (.ref C) (some d) (upd H1 d (.xd [(fld, v)]))
theorem pmk_err {X : Cx} {C : Addr} {x fld : Str} {a : Expr} {ta : TA} {p pos : Pos} {k : Nat} (T : Err X.prog X.w X.K X.mg x fld C) (hr : Room k X.A) (hg : Gl X x) (ha : PA X [a] ta) (hdb : (x == ("__debug__" : Str)) = false := by decide)
    (he : starEach (a :: []) X.env = (false, eval a X.env) :: starEach [] X.env := by rfl) (hpl : (backTo pos (starEach [] X.env)).any (·.1) = false := by rfl) : L2N.PMk X (.Call (.Name x p) [a] [] pos) (tMkErr C fld ta) := by
  intro pins s σ H Q I h
  refine wpAny_Call_Name_kw (ld_glob I hg T.gC (PySem.W.callWith_K (h₀ := X.base) I.ok.mod.kin T.kC (thn (ha.run pos pins s σ H _ I h) fun us s1 hh => ?_) he hpl) hdb)
  obtain ⟨vs, H1, I1, r1, v, rfl, q1⟩ := hh
  obtain ⟨v', rfl, rv⟩ := vals1 r1
  refine ⟨I1.kIn, ?_⟩
  obtain ⟨mb, hb, hbb⟩ := I1.ok.mod.blt
  have hlim := I1.nolimit
  have G := I1.ok.mod.glob.keeps I1.bk
  have B := hb.keeps I1.bk
  show wpAny _ _ (call (.ref C) [v']) _ _ _
  refine wpAny_call (T.made I1.kIn hlim G B hbb (by have := hr.dp; omega) fun h' tk' e d M => ?_)
  obtain ⟨hp, g, dr, tk, os⟩ := s1
  show L2N.MkP X pins σ Q (.ref e) ⟨h', g, dr, tk', os⟩
  obtain ⟨oe, fv, hoe, hc, hd, hdat, h1, h2⟩ := M.obj
  obtain ⟨G', g1, g2⟩ := restrict h' fun b => decide (b ≠ e)
  have gk : ∀ b, b ≠ e → G'.get? b = h'.get? b := fun b hb => g1 b (decide_eq_true hb)
  have ge : G'.get? e = none := g2 e (by simp)
  have old : ∀ b o, hp.get? b = some o → G'.get? b = some o := fun b o q => (gk b (Nat.ne_of_lt (Nat.lt_of_lt_of_le (Heap.lt_size q) M.new))).trans (M.keep b o q)
  have J : Inv X pins σ (upd H1 d (.xd [(fld, v)])) ⟨G', g, dr, tk', os⟩ := I1.laid (t' := tk') old M.dbig ⟨_, M.ns.at (fun o q => (gk d M.dne).trans q), fun f => relO_fld rv f⟩
  refine ⟨e, oe, fv, ⟨G', g, dr, tk', os⟩, _, .ref C, some d, rfl, J, fun b o q => ?_, ge, hoe, ⟨hc, hd, fun vs ev => ?_⟩, hdat, h1, ?_, rfl, I1.bare, raises_own T.exC T.tyC, q1 d (I1.hok.fresh M.dbig)⟩
  · by_cases hb : b = e
    · rw [hb] at q
      cases ge.symm.trans q
    · exact (gk b hb).symm.trans q
  · cases hdat.symm.trans ev
    exact h2
  · rw [upd_ne (Ne.symm M.dne)]
    exact I1.hok.fresh M.new
/-- raise X(e) -/
theorem ps_raiseErr {X : Cx} {C : Addr} {x fld : Str} {a : Expr} {ta : TA} {W : WX} {p pos pos2 : Pos} {k : Nat} (hc : X.calm = true) (T : Err X.prog X.w X.K X.mg x fld C) (hr : Room k X.A) (tk : L2N.Takes X W) (hg : Gl X x) (ha : PA X [a] ta) (hdb : (x == ("__debug__" : Str)) = false := by decide)
    (he : starEach (a :: []) X.env = (false, eval a X.env) :: starEach [] X.env := by rfl) (hpl : (backTo pos (starEach [] X.env)).any (·.1) = false := by rfl) :
    PS X (.Raise (some (.Call (.Name x p) [a] [] pos)) none pos2) (fun _ σ H => tMkErr C fld ta σ H fun cls d H' => W cls d σ H') := L2N.ps_raise hc tk (pmk_err T hr hg ha hdb he hpl)
theorem err_of {P : Program} {w : World} {K : PySem.W.Frag} {mg : Str → Option Value} {x qual : Str} {C fI : Addr} (T : ErrC P K mg x "part" qual sNoTask C fI) : Err P w K mg x "part" C :=
  ⟨T.gC, T.kC, T.exC, T.tyC, T.ga, T.gg, T.noN, T.hdC, fun X l G B hb hr q => made_NoTask T X l G B hb hr q⟩
end Du

set_option Elab.async false
set_option linter.all false
set_option maxRecDepth 100000
set_option maxHeartbeats 1000000
namespace Du
open PySem PySem.Spec PyProof.Rows L2
open L2N (Zn)
open L2H (RoomH Hot1 PinOk cxH inv_startH roomH_of)
/-- what isinstance asks of an error's class -/
structure ErrI (K : PySem.W.Frag) (C : Addr) : Prop where
  ga : PySem.W.findIn K (.ref C) "__getattribute__" = some (some (.builtin "BaseException.__getattribute__"))
  gg : PySem.W.findIn K (.ref C) "__getattr__" = some none
  exC : PySem.W.subIn K (.ref C) (.type "BaseException") = some true
  hdC : PySem.W.hasDictIn K C = true
  ha : PySem.W.findIn K (.ref C) "__class__" = some (some (.builtin "object.__class__"))
  hn : PySem.W.specialIn K (.builtin "object.__class__") "__get__" = some (some (.builtin "getset_descriptor.__get__"))
  ht : PySem.W.takesIn K (.builtin "object.__class__") = some true
  hm : PySem.W.mroIn K C (.type "object") = some true
/-- a pinned error with its dict -/
theorem err_at {X : Cx} {pins : List (Addr × Obj)} {σ : L2.St} {H : Hp} {s : Shared} {a C dd : Addr} {oe : Obj} {fs : List (Str × V)} (hp : (a, oe) ∈ X.pn) (hz : Zn (.ref C) (some dd) oe) (hf : ∃ vs, oe.data = .fields vs) (I : Inv X pins σ H s) (hd : H dd = some (.xd fs)) :
    ∃ (od : Obj) (mA : Str → Option Value), PySem.W.InstAt s.heap a oe C (some od) ∧ (∀ f, RelO (fs.lookup f) (mA f)) ∧ ∀ f, PySem.W.lookIn f od = some (mA f) := by
  obtain ⟨ha, _⟩ := I.pin (a, oe) (List.mem_append_left _ hp)
  obtain ⟨vs, hv⟩ := hf
  obtain ⟨mA, hns, hr⟩ := (show ObjOk X.prog X.w H s.heap dd (.xd fs) from I.hok dd _ hd)
  obtain ⟨od, ho, hl⟩ := lookIn_ns hns
  exact ⟨od, mA, ⟨ha, hz.1, by unfold PySem.W.notCls; rw [hv] <;> rfl, by rw [hz.2.1]; exact ho⟩, hr, hl⟩
/-- isinstance(e, c), isinstance(e, (c, ..)), e a pinned error -/
def rIsX (K : PySem.W.Frag) (C a dd : Addr) : List V → Hp → VK → Prop := fun xs H Q => ∃ fs : List (Str × V), H dd = some (.xd fs) ∧
  ((∃ (c : V) (cv : Value) (b : Bool), xs = [.ref a, c] ∧ ClsV c cv ∧ PySem.W.kitOne K (.ref C) cv = some b ∧ Q (.bl b) H) ∨ (∃ (tp : Addr) (cs : List V) (us : List Value) (b : Bool), xs = [.ref a, .ref tp] ∧ H tp = some (.tup cs) ∧ Paired ClsV cs us ∧ PySem.W.kitAny K (.ref C) us = some b ∧ Q (.bl b) H))
theorem call_isX {X : Cx} {a C dd : Addr} {oe : Obj} (T : ErrI X.K C) (hp : (a, oe) ∈ X.pn) (hz : Zn (.ref C) (some dd) oe) (hf : ∃ vs, oe.data = .fields vs) : CallR X (.builtin "isinstance") (rIsX X.K C a dd) := by
  intro pins s σ H xs us Q I r h
  obtain ⟨fs, hd, h⟩ := h
  obtain ⟨od, mA, J, _, _⟩ := err_at hp hz hf I hd
  have Z := PySem.W.kitx_exc (x := a) (ox := oe) (od := some od) (by obtain ⟨cd, hc, _⟩ := PySem.W.any_some T.hdC; rw [hc]; rfl) T.ga T.gg T.exC T.ha T.hn T.ht T.hm
  rcases h with ⟨c, cv, b, rfl, k, e, q⟩ | ⟨tp, cs, ws, b, rfl, hT, k, e, q⟩
  · obtain ⟨u1, u2, rfl, r1, r2⟩ := vals2 r
    cases (show u1 = Value.ref a from r1)
    cases k.eq r2
    exact PySem.W.kia_one Z I.kIn J e (fun z => nomatch z) fun tk => ⟨.bl b, H, I.tok tk, rfl, q⟩
  · obtain ⟨u1, u2, rfl, r1, r2⟩ := vals2 r
    cases (show u1 = Value.ref a from r1)
    cases (show u2 = Value.ref tp from r2)
    obtain ⟨_, its, rv, ⟨oc, odd, dt, sl⟩, h1, h2, n, h3⟩ := (show ObjOk X.prog X.w H s.heap tp (.tup cs) from I.hok tp _ hT)
    cases ClsV.all k rv
    simp only at h2 h3
    subst h2 h3
    exact PySem.W.kia_tup Z I.kIn J h1 e (fun z => nomatch z) fun tk => ⟨.bl b, H, I.tok tk, rfl, q⟩
/-- e.fld, e a pinned error -/
theorem pe_fldX {X : Cx} {a C dd : Addr} {oe : Obj} {fld : Str} {e : Expr} {te : TE} {pos : Pos} (T : ErrI X.K C) (hno : PySem.W.findIn X.K (.ref C) fld = some none) (hp : (a, oe) ∈ X.pn) (hz : Zn (.ref C) (some dd) oe) (hf : ∃ vs, oe.data = .fields vs) (he : PE X e te)
    (hb : attributeBase e fld X.env (eval e X.env) = eval e X.env := by rfl) : PE X (.Attribute e fld pos) (fun σ H Q => te σ H fun x H1 => x = .ref a ∧ ∃ (fs : List (Str × V)) (v : V), H1 dd = some (.xd fs) ∧ fs.lookup fld = some v ∧ Q v H1) := by
  refine ⟨fun pins s σ H Q I h => attr_of hb (thn (he.run pins s σ H _ I h) fun u s1 hh => ?_)⟩
  obtain ⟨x, H1, I1, rx, rfl, fs, v, hd, hl, q⟩ := hh
  cases (show u = Value.ref a from rx)
  obtain ⟨od, mA, J, hr, hlk⟩ := err_at hp hz hf I1 hd
  obtain ⟨u, hu, ru⟩ := RelO.some_of (v := v) (o := mA fld) (by rw [← hl]; exact hr fld)
  exact HandSPX.exc_get I1.kIn J T.ga T.gg T.exC (PySem.W.findObj_own T.hdC hno rfl (by rw [hlk, hu])) (handed_of ru) ⟨v, H1, I1.tok _, ru, q⟩
/-! a def that is handed the error that is being handled -/
structure FnE (P : Program) (w : World) (K : PySem.W.Frag) (mg : Str → Option Value) (base : Heap) (k : Nat) (f : Addr) (fd : FuncData) (ps : List Str) (sp : Addr × Obj → Sp) : Prop where
  len : ∀ p vs H Q, sp p vs H Q E0 → vs.length = ps.length
  run : ∀ (A : Around) (outer : List Env) (s : Shared) (H : Hp) (args : Args) (us : List Value) (vs : List V) (Q : VK) (p : Addr × Obj), RoomH k A → Hot1 A p → PinOk outer H s p → Env0 P w K mg base A outer s H → BindsTo s fd args (ps.zip us) → Vals vs us → sp p vs H Q E0 →
    codeAny (model P w) A (.call (.ref f) args) (CR CX0 outer P w H s Q E0) s
theorem fnE_of {P : Program} {w : World} {K : PySem.W.Frag} {mg : Str → Option Value} {base : Heap} {k : Nat} {x qual : Str} {st : Stmt} {f : Addr} {fd : FuncData} {N ps : List Str} {sp : Addr × Obj → Sp} (F : Fun K x qual st f fd) (S : FnScope N ps (defScope st)) (len : ∀ p vs H Q, sp p vs H Q E0 → vs.length = ps.length)
    (hbody : ∀ (cdv : Value) (A : Around) (outer : List Env) (s : Shared) (H : Hp) (vs : List V) (Q : VK) (p : Addr × Obj), Hot1 A p → RoomH k (A.deeper (envOfC qual (defScope st) s.heap.objs.size f cdv)) → sp p vs H Q E0 →
      ∃ t, PSs (cxH CX0 P w K mg base N qual (defScope st) f cdv A outer s H E0 p).nox (defBody st) t ∧ t { nx := fun _ H' => Q .non H', rt := Q } (L2.start N vs) H) : FnE P w K mg base (k + 1) f fd ps sp := by
  obtain ⟨oc, od, kV, doc, pm, an, cdv, ct, osl, rfl, lk, hcd⟩ := F.ex
  refine ⟨len, fun A outer s H args us vs Q p hr hot hpin e0 hb r hsp => ?_⟩
  have kept := fun b o e => (e0.bs b o e).1
  have KX : K.In s.heap := e0.mod.kin.keeps kept
  refine codeAny_call_function hr.depth (KX _ _ lk) rfl S.co S.gen rfl (PySem.W.codeRec_of KX hcd) (hb _ _ _ _ (wpAny_newFunctionEnv_cells S.kind (fun y hy => (S.par y.1 (List.of_mem_zip hy).1).imp id fun q => ⟨q, PySem.W.cellsFrom_some _ _ _ (.inl q)⟩) fun env he s1 x => ?_))
  subst he
  obtain ⟨t, ht, hq⟩ := hbody cdv A outer s H vs Q p hot (hr.deeper _) hsp
  have I := inv_startH (CX := CX0) (E := E0) S hpin e0 (len p vs H Q hsp) r x
  refine ⟨(e0.mod.nolimit.keeps kept).keeps x.toInCall.keep, codeAny_func (wpAny_mono (ht.nox.run [] s1 _ H _ I hq) (fun fl s' hs => ?_) fun _ _ z => z)⟩
  match fl, hs with
  | .ret u, ⟨v, σ', H', J, rv, q⟩ => exact ⟨v, H', J.os, J.bare, J.base, J.hok, rv, q⟩
  | .next, ⟨σ', H', J, q⟩ => exact ⟨V.non, H', J.os, J.bare, J.base, J.hok, rfl, q⟩
  | .brk, ⟨_, _, _, q⟩ => exact q.elim
  | .cont, ⟨_, _, _, q⟩ => exact q.elim
/-- f(e), e the error that is being handled -/
theorem pe_callE {X : Cx} {k : Nat} {f : Addr} {fd : FuncData} {ps : List Str} {sp : Addr × Obj → Sp} {x : Str} {q pos : Pos} {e : Expr} {es : List Expr} {t : TA} {p : Addr × Obj} (F : FnE X.prog X.w X.K X.mg X.base k f fd ps sp) (hr : RoomH k X.A) (hot : Hot1 X.A p) (hp : p ∈ X.pn) (hg : Gl X x) (hm : X.mg x = some (.ref f))
    (hk : PySem.W.keepIn X.K (.ref f) = true) (hb : Binds X.K fd ps []) (ha : PA X (e :: es) t) (hdb : (x == ("__debug__" : Str)) = false := by decide) (he : starEach (e :: es) X.env = (false, eval e X.env) :: starEach es X.env := by rfl) (hpl : (backTo pos (starEach es X.env)).any (·.1) = false := by rfl) :
    PE X (.Call (.Name x q) (e :: es) [] pos) (fun σ H Q => t σ H fun vs H1 => sp p vs H1 Q E0) := by
  refine ⟨fun pins s σ H Q I h => wpAny_Call_Name_kw (ld_glob I hg hm (PySem.W.callWith_K (h₀ := X.base) I.ok.mod.kin hk (thn (ha.run pos pins s σ H _ I h) fun us s1 ⟨vs, H1, I1, r, q⟩ => ⟨I1.kIn, ?_⟩) he hpl) hdb)⟩
  have b := hb s1 us I1.kIn (by rw [List.append_nil, ← r.length]; exact F.len _ _ _ _ q)
  rw [List.append_nil] at b
  have P1 := I1.pin p (List.mem_append_left _ hp)
  refine wpAny_call (codeAny_mono (F.run X.A X.stack s1 H1 ⟨us, []⟩ us vs Q p hr hot ⟨P1.1, P1.2.1, fun m => (List.mem_cons.mp (I1.stkSub p.1 m)).elim P1.2.2.1 P1.2.2.2.1, P1.2.2.2.2⟩ I1.env0 b r q) fun z s' hq => ?_)
  match z, hq with
  | .error _, hq => exact hq.elim
  | .ok (.ret u), hq => exact I1.after hq
  | .ok .next, hq => exact hq.elim
  | .ok .brk, hq => exact hq.elim
  | .ok .cont, hq => exact hq.elim
end Du

set_option Elab.async false
set_option linter.all false
set_option maxRecDepth 100000
set_option maxHeartbeats 1000000
namespace Du
open PySem L2 PyProof.Rows
section
variable {X : Cx} {k : Nat} {f C : Addr} {fd : FuncData} {ps : List Str} {sp : Sp}
/-- what an own __repr__ promises of the object at a: the text t -/
def ReprSp (sp : Sp) (H0 : Hp) (a : Addr) (t : Str) : Prop := ∀ H, Same H0 H → ∀ Q : VK, (∀ H', Same H H' → Q (.str t) H') → sp [.ref a] H Q E0
/-- a class with an own __repr__ -/
structure OwnR (P : Program) (w : World) (K : PySem.W.Frag) (mg : Str → Option Value) (base : Heap) (k : Nat) (C : Addr) (sp : Sp) : Prop where
  ex : ∃ (f : Addr) (fd : FuncData) (ps : List Str), FnOk P w K mg base CX0 k f fd ps sp ∧ Binds K fd ps [] ∧ PySem.W.findIn K (.ref C) "__repr__" = some (some (.ref f)) ∧ PySem.W.isFn K (.ref f) = true
/-- repr(x), x of an own class -/
theorem call_reprO (R : OwnR X.prog X.w X.K X.mg X.base k C sp) (hr : Room (k + 1) X.A) : CallR X (.builtin "repr") (fun xs H Q => ∃ (a dx : Addr) (fs : List (Str × V)) (t : Str), xs = [.ref a] ∧ H a = some (.ins C dx fs) ∧ ReprSp sp H a t ∧ ∀ H', Same H H' → Q (.str t) H') := by
  obtain ⟨f, fd, ps, F, hb, hs, hf⟩ := R.ex
  intro pins s σ H xs us Q I r h
  obtain ⟨a, dx, fs, t, rfl, ha, hsp, q⟩ := h
  obtain ⟨u, rfl, ru⟩ := vals1 r
  cases ru
  obtain ⟨mA, J, _⟩ := ins_get I.hok ha
  obtain ⟨od, J, _⟩ := J.look
  obtain ⟨m, hF⟩ := I.fr
  refine PySem.W.repr_K (by have := hr.un; show X.A.units + 1 < cLine; omega) hF I.ok.mod.kin J hs hf (wpAny_mono (own_call F hb ⟨hr.in1, rfl⟩ I (vs := [.ref a]) (Q := fun v H' => v = .str t ∧ Q (.str t) H') (.cons rfl .nil) (hsp H (Same.refl _) _ fun H' s' => ⟨rfl, q H' s'⟩)) (fun v s' q => ?_) fun _ _ z => z)
  obtain ⟨z, H', I', rz, rfl, q⟩ := q
  obtain ⟨tk, rfl⟩ := rz
  exact ⟨.str t, H', I', ⟨_, rfl⟩, q⟩
/-- v is shown as t by repr, whatever else is being shown -/
def SItem (X : Cx) (n : Nat) (H0 : Hp) (v : V) (t : Str) : Prop := ∀ (A : Around) (g : List Code) (pins : List (Addr × Obj)) (σ : L2.St) (s : Shared) (H : Hp) (u : Value) (Q : Str → Shared → Prop) (base : Nat), A.guards = some g → (∀ b, v = .ref b → Clear g b) → Same H0 H → base + t.length ≤ sizeLine → Sub X n A → Inv X pins σ H s → RelV v u →
  (∀ s' H', Same H H' → Inv X pins σ H' s' → Q t s') → wpAny (model X.prog X.w) A (pyReprUnder base u) Q X.xe s
theorem SItem.of_is {n : Nat} {H0 : Hp} {v : V} {t : Str} (h : ∀ u, RelV v u → ReprIs X.prog X.w u t) : SItem X n H0 v t := fun A g pins σ s H u Q base _ _ _ hb _ I r q => h u r base hb A X.xe s Q fun tk => q _ H (Same.refl _) (I.tok tk)
theorem SItem.int {n : Nat} {H0 : Hp} {i : Int} (h : i.natAbs.log2 < 1920) : SItem X n H0 (.int i) (toString i) := .of_is fun u r => by
  obtain ⟨t, rfl⟩ := r
  exact ReprIs.int t h
theorem SItem.str {n : Nat} {H0 : Hp} {z : Str} (h : (reprText z).length ≤ sizeLine) : SItem X n H0 (.str z) (reprText z) := .of_is fun u r => by
  obtain ⟨t, rfl⟩ := r
  exact ReprIs.str z t h
theorem SItem.bl {n : Nat} {H0 : Hp} {b : Bool} : SItem X n H0 (.bl b) (if b then "True" else "False") := .of_is fun u r => by
  cases r
  exact ReprIs.bool b
theorem SItem.non {n : Nat} {H0 : Hp} : SItem X n H0 .non "None" := .of_is fun u r => by
  cases r
  exact ReprIs.none
theorem SItem.own {H0 : Hp} {a dx : Addr} {fs : List (Str × V)} {t : Str} (R : OwnR X.prog X.w X.K X.mg X.base k C sp) (ha : H0 a = some (.ins C dx fs)) (hsp : ReprSp sp H0 a t) : SItem X k H0 (.ref a) t := by
  obtain ⟨f, fd, ps, F, hb, hs, hf⟩ := R.ex
  intro A g pins σ s H u Q base _ _ s0 hbase sb I r q
  cases (show u = Value.ref a from r)
  obtain ⟨mA, J, _⟩ := ins_get I.hok (s0 _ _ ha)
  obtain ⟨od, J, _⟩ := J.look
  have hu : A.units < cLine := by have := sb.room.un; omega
  refine wpAny_pyReprUnder_ref (by omega) ?_
  unfold pyReprObjUnder pyReprObjBy
  refine wpAny_bind (wpAny_cRoomFor hu (wpAny_bind (wpAny_bind (J.type.here ((PySem.W.looks_findIn I.kIn hs).here ?_)))))
  show wpAny _ _ (if (some (Value.ref f)).isNone = true then _ else _) _ _ _
  rw [if_neg (by simp)]
  have go : wpAny (model X.prog X.w) A (call (.ref f) [.ref a]) (fun v s' => ∃ tk, v = .str t tk ∧ Q t s') X.xe s := wpAny_mono (own_call F hb sb I (vs := [.ref a]) (Q := fun v H' => v = .str t ∧ Same H H') (.cons rfl .nil) (hsp H s0 _ fun H' s' => ⟨rfl, s'⟩)) (fun v s' z => by
    obtain ⟨z, H', I', rz, rfl, sm⟩ := z
    obtain ⟨tk, rfl⟩ := rz
    exact ⟨tk, rfl, q s' H' sm I'⟩) fun _ _ z => z
  refine wpAny_bind (m := callSpecialIfBoundBy? _ (.ref a) (Str.ofString "__repr__")) ?_
  simp only [callSpecialIfBoundBy?, bindSpecialIfBound?]
  refine wpAny_holding (wpAny_bind (wpAny_bind (wpAny_bind (J.type.here ((PySem.W.looks_findIn I.kIn hs).here (wpAny_bind (wpAny_askSetting (wpAny_ite ?_))))))))
  have fin : wpAny (model X.prog X.w) A (call (.ref f) ([.ref a] ++ []) >>= fun v => pure (some v)) (fun r s' => wpAny (model X.prog X.w) A (match r with
      | some r => do
        if ← isInstance r (.type "str") then pure r else raiseError "TypeError" s!"__repr__ returned non-string (type {← typeNameOf r})"
      | none => unsupported "repr:special-get-raises") (fun v s' => ∃ x u, v = .str x u ∧ Q x s') X.xe s') X.xe s := by
    refine wpAny_bind (wpAny_mono go (fun v s' z => ?_) fun _ _ z => z)
    obtain ⟨tk, rfl, q'⟩ := z
    exact wpAny_pure (wpAny_bind (wpAny_isInstance (T := "str") (b := true) rfl isSubtype_str_str (wpAny_pure ⟨t, tk, rfl, q'⟩)))
  split
  · exact wpAny_bind ((PySem.W.bind_fn I.kIn _ (beq_iff_eq.mp hf)).here (wpAny_pure (by exact fin)))
  · exact wpAny_tryCatch (wpAny_bind ((PySem.W.bind_fn I.kIn _ (beq_iff_eq.mp hf)).here (wpAny_pure (by exact fin))))
/-- item by item -/
inductive SItems (X : Cx) (n : Nat) (H : Hp) : List V → List Str → Prop
  | nil : SItems X n H [] []
  | cons {v : V} {t : Str} {vs : List V} {ts : List Str} : SItem X n H v t → SItems X n H vs ts → SItems X n H (v :: vs) (t :: ts)
theorem SItems.len {n : Nat} {H : Hp} {vs : List V} {ts : List Str} (h : SItems X n H vs ts) : ts.length = vs.length := by
  induction h with
  | nil => rfl
  | cons _ _ ih => simp [ih]
theorem tupFoldJ {n : Nat} {H0 : Hp} {A : Around} {g : List Code} {pins : List (Addr × Obj)} {σ : L2.St} (sb : Sub X n A) (hg : A.guards = some g) : ∀ (vs : List V) (ts : List Str) (us : List Value) (acc : Array Str) (m : Nat) (s : Shared) (H : Hp) (Q : (Array Str × Nat) → Shared → Prop), SItems X n H0 vs ts → (∀ v ∈ vs, ∀ b, v = .ref b → Clear g b) → Vals vs us → Same H0 H → Inv X pins σ H s → m + piled ts ≤ sizeLine →
    (∀ s' H', Same H H' → Inv X pins σ H' s' → Q ⟨acc ++ ts.toArray, m + piled ts⟩ s') → wpAny (model X.prog X.w) A (forIn us (⟨acc, m⟩ : (Array Str × Nat)) tupBody) Q X.xe s := by
  intro vs
  induction vs with
  | nil =>
    intro ts us acc m s H Q hT _ hv _ I hn q
    cases hT
    cases hv
    rw [List.forIn_nil]
    exact wpAny_pure (by simpa [piled] using q s H (Same.refl _) I)
  | cons v vs ih =>
    intro ts us acc m s H Q hT hc hv s0 I hn q
    cases hT with
    | cons hx hl =>
      rename_i t ts'
      cases hv with
      | cons r rs =>
        rw [piled_cons] at hn
        rw [List.forIn_cons]
        refine wpAny_bind (wpAny_bind (hx A g pins σ s H _ _ (m + 1) hg (hc v List.mem_cons_self) s0 (by omega) sb I r fun s' H' sm I' => wpAny_pure ?_))
        refine ih ts' _ (acc.push t) (m + (t.length + 2)) s' H' Q hl (fun v hv => hc v (List.mem_cons_of_mem _ hv)) rs (s0.trans sm) I' (by omega) fun s2 H2 sm2 I2 => ?_
        have e : m + piled (t :: ts') = m + (t.length + 2) + piled ts' := by
          rw [piled_cons]
          omega
        have q' := q s2 H2 (sm.trans sm2) I2
        rw [e] at q'
        simpa using q'
/-- repr of a tuple, shown item by item, where nothing is being shown -/
theorem call_reprT {n : Nat} (hg : X.A.guards = some []) (hr : Room (n + 2) X.A) : CallR X (.builtin "repr") (fun xs H Q => ∃ (a : Addr) (vs : List V) (ts : List Str), xs = [.ref a] ∧ H a = some (.tup vs) ∧ SItems X n H vs ts ∧ (∀ v ∈ vs, v ≠ .ref a) ∧ (tupleText ts).length ≤ sizeLine ∧ ∀ H', Same H H' → Q (.str (tupleText ts)) H') := by
  intro pins s σ H xs us Q I r h
  obtain ⟨a, vs, ts, rfl, ha, hT, hne, hz, q⟩ := h
  obtain ⟨u, rfl, ru⟩ := vals1 r
  cases ru
  obtain ⟨_, its, rv, ⟨oc, odd, dt, sl⟩, h1, h2, m, h3⟩ := (show ObjOk X.prog X.w H s.heap a (.tup vs) from I.hok a _ ha)
  simp only at h2 h3
  subst h2 h3
  have hTy : s.TypeIs (.ref a) "tuple" := ⟨_, h1, rfl⟩
  have hun := hr.un
  have hp := piled_le_tupleText ts
  have hlen : ts.length = its.length := hT.len.trans rv.length
  refine call_repr_slot (by omega) hTy F.slot_tuple_repr ?_
  refine wpAny_call (codeAny_call_builtin_own (Code.quiet_builtin _ (by decide +kernel)) F.entry_tuple_repr (F.slot_tuple_repr.check _ _ _ _ _ _ _ _ hTy (F.args_tuple_repr_1 _) ?_))
  show wpOwn _ _ _ (Builtin.tupleReprAt 0 ⟨[.ref a], []⟩) _ _ _
  rw [tuple_repr_tree, tupleReprUnderWay_eq]
  refine wpOwn_bind (wpOwn_stackTailAny (A := X.A.in1) hg (tupGuardF_off _) (tupGuardF_pos _) (wpOwn_of_wpAny ?_))
  show wpAny _ _ (tupleReprRest 0 (.ref a)) _ _ s
  unfold tupleReprRest Builtin.Tuple.tupleItemsOf
  refine wpAny_bind (wpAny_bind (wpAny_seqItems h1 rfl (wpAny_pure ?_)))
  rw [← Array.forIn_toList]
  have sb : Sub X n (X.A.in1.under (.builtin "tuple.__repr__" ⟨[.ref a], []⟩)) := by
    refine ⟨⟨hr.hd, ?_, ?_⟩, rfl⟩
    · have := hr.dp
      have hw : (Code.builtin "tuple.__repr__" ⟨[.ref a], []⟩).weight = 1 := by first | rfl | (show 0 + 0 + (if (Code.builtin "tuple.__repr__" ⟨[.ref a], []⟩).isGuard then 1 else 0) + 0 = 1; rw [isGuard_tuple_repr]; rfl)
      show X.A.depth + (Code.builtin "tuple.__repr__" ⟨[.ref a], []⟩).weight + 3 * n + 5 < _
      omega
    · rw [units_under_tuple_repr]
      show X.A.units + 1 + 1 + 16 * n + 200 < _
      omega
  refine wpAny_bind (tupFoldJ sb (guards_under_guard (isGuard_tuple_repr _) hg) vs ts _ _ _ s H _ hT (fun v hv b e => (Clear.nil b).cons (a := a) fun z => hne v hv (by rw [e, z])) rv (Same.refl _) I (by omega) fun s' H' sm I' => ?_)
  refine wpAny_bind (wpAny_mkStr (wpAny_pure ?_) (by simpa [tupleText, hlen] using hz))
  have q' := q H' sm
  refine ⟨_, _, rfl, .str (tupleText ts), H', I'.tok _, ⟨s'.toks, ?_⟩, q'⟩
  simp [tupleText, hlen]
end
end Du

set_option Elab.async false
set_option linter.all false
set_option maxRecDepth 100000
set_option maxHeartbeats 1000000
namespace Du
open PySem L2 PyProof.Rows
/-- what is shown whatever else is being shown: as t -/
inductive It (P : Program) (w : World) (K : PySem.W.Frag) (mg : Str → Option Value) (base : Heap) (n : Nat) (H : Hp) : V → Str → Prop
  | non : It P w K mg base n H .non "None"
  | bl (b : Bool) : It P w K mg base n H (.bl b) (if b then "True" else "False")
  | int (i : Int) : i.natAbs.log2 < 1920 → It P w K mg base n H (.int i) (toString i)
  | str (z : Str) : (reprText z).length ≤ sizeLine → It P w K mg base n H (.str z) (reprText z)
  | own {C a dx : Addr} {k : Nat} {sp : Sp} {fs : List (Str × V)} {t : Str} : OwnR P w K mg base k C sp → k ≤ n → H a = some (.ins C dx fs) → ReprSp sp H a t → It P w K mg base n H (.ref a) t
  | emp {a : Addr} : H a = some (.dK []) → It P w K mg base n H (.ref a) "{}"
inductive Its (P : Program) (w : World) (K : PySem.W.Frag) (mg : Str → Option Value) (base : Heap) (n : Nat) (H : Hp) : List V → List Str → Prop
  | nil : Its P w K mg base n H [] []
  | cons {v : V} {t : Str} {vs : List V} {ts : List Str} : It P w K mg base n H v t → Its P w K mg base n H vs ts → Its P w K mg base n H (v :: vs) (t :: ts)
/-- v is shown as t by repr -/
inductive Sh (P : Program) (w : World) (K : PySem.W.Frag) (mg : Str → Option Value) (base : Heap) (n : Nat) (H : Hp) : V → Str → Prop
  | it {v : V} {t : Str} : It P w K mg base n H v t → Sh P w K mg base n H v t
  | dat {a : Addr} {d : PyData} : Dp K H (.ref a) d → d.showable = true → d.hasDict = false → d.depth ≤ 64 → d.shown.length ≤ sizeLine → Sh P w K mg base n H (.ref a) d.shown
  | tup {a : Addr} {vs : List V} {ts : List Str} : H a = some (.tup vs) → Its P w K mg base n H vs ts → (∀ v ∈ vs, v ≠ .ref a) → (tupleText ts).length ≤ sizeLine → Sh P w K mg base n H (.ref a) (tupleText ts)
section
variable {P : Program} {w : World} {K : PySem.W.Frag} {mg : Str → Option Value} {base : Heap} {n : Nat} {H H' : Hp} {v : V} {t : Str}
theorem ReprSp.same {sp : Sp} {a : Addr} (h : ReprSp sp H a t) (s : Same H H') : ReprSp sp H' a t := fun H2 s2 => h H2 (s.trans s2)
theorem It.same (h : It P w K mg base n H v t) (s : Same H H') : It P w K mg base n H' v t := by
  cases h with
  | non => exact .non
  | bl b => exact .bl b
  | int i h => exact .int i h
  | str z h => exact .str z h
  | own R hk ha hs => exact .own R hk (s _ _ ha) (hs.same s)
  | emp h => exact .emp (s _ _ h)
theorem Its.same {vs : List V} {ts : List Str} (h : Its P w K mg base n H vs ts) (s : Same H H') : Its P w K mg base n H' vs ts := by
  induction h with
  | nil => exact .nil
  | cons h _ ih => exact .cons (h.same s) ih
mutual
theorem dp_same (s : Same H H') : ∀ (d : PyData) (v : V), Dp K H v d → Dp K H' v d
  | .none, _, h => by cases h; exact .non
  | .bool _, _, h => by cases h; exact .bl _
  | .int _, _, h => by cases h; exact .int _
  | .str _, _, h => by cases h; exact .str _
  | .list ds, _, h => by
    cases h with
    | lst q a => exact .lst (q.ext s) (dps_same s ds _ a)
  | .tuple ds, _, h => by
    cases h with
    | tup q a => exact .tup (q.ext s) (dps_same s ds _ a)
  | .dict _, _, h => nomatch h
theorem dps_same (s : Same H H') : ∀ (ds : List PyData) (vs : List V), DpAll K H vs ds → DpAll K H' vs ds
  | [], _, h => by cases h; exact .nil
  | d :: ds, _, h => by
    cases h with
    | cons h1 h2 => exact .cons (dp_same s d _ h1) (dps_same s ds _ h2)
end
theorem Sh.same (h : Sh P w K mg base n H v t) (s : Same H H') : Sh P w K mg base n H' v t := by
  cases h with
  | it h => exact .it (h.same s)
  | dat h a b c d => exact .dat (dp_same s _ _ h) a b c d
  | tup h i a b => exact .tup (s _ _ h) (i.same s) a b
end
section
variable {X : Cx} {n : Nat} {H : Hp} {v : V} {t : Str}
theorem emp_reprK {pins : List (Addr × Obj)} {σ : L2.St} {s : Shared} {a : Addr} (I : Inv X pins σ H s) (h : H a = some (.dK [])) : ReprK X.prog X.w [a] s.heap 1 (.ref a) "{}" := by
  obtain ⟨_, hsm, vs, hkv, o, es, ep, ho, hx, hd, _, hp, _⟩ := dk_of I.hok h
  cases hkv
  have e : es.toList = [] := by
    generalize es.toList = l at hp
    cases hp
    rfl
  have z : dictText [] = ("{}" : Str) := by decide +kernel
  rw [← z]
  exact ReprK.dict ho hx.1 hd hsm (fun q => nomatch q) (by rw [e]; exact .nil)
theorem It.item (h : It X.prog X.w X.K X.mg X.base n H v t) : SItem X n H v t := by
  cases h with
  | non => exact .non
  | bl b => exact .bl
  | int i h => exact .int h
  | str z h => exact .str h
  | own R hk ha hs => exact fun A g pins σ s H2 u Q base hg hc s0 hb sb I r q => SItem.own R ha hs A g pins σ s H2 u Q base hg hc s0 hb (sb.mono hk) I r q
  | emp h =>
    intro A g pins σ s H2 u Q base hg hc s0 hb sb I r q
    cases (show u = Value.ref _ from r)
    have hun := sb.room.un
    exact emp_reprK I (s0 _ _ h) base hb A g X.xe s Q hg (fun b hb => by rw [List.mem_singleton.mp hb]; exact hc _ rfl) (by omega) (fun _ _ e => e) fun h' tk k => q _ H2 (Same.refl _) (I.kept k)
theorem Its.items {vs : List V} {ts : List Str} (h : Its X.prog X.w X.K X.mg X.base n H vs ts) : SItems X n H vs ts := by
  induction h with
  | nil => exact .nil
  | cons h _ ih => exact .cons h.item ih
/-- repr(v) -/
theorem call_repr (hg : X.A.guards = some []) (hr : Room (n + 2) X.A) : CallR X (.builtin "repr") (fun xs H Q => ∃ (v : V) (t : Str), xs = [v] ∧ Sh X.prog X.w X.K X.mg X.base n H v t ∧ ∀ H', Same H H' → Q (.str t) H') := by
  intro pins s σ H xs us Q I r h
  obtain ⟨v, t, rfl, hs, q⟩ := h
  have hun := hr.un
  cases hs with
  | it h =>
    cases h with
    | non =>
      obtain ⟨u, rfl, ru⟩ := vals1 r
      cases ru
      exact P.repr_of_none ⟨.str "None", H, I.tok _, ⟨_, rfl⟩, q H (Same.refl _)⟩
    | bl b =>
      obtain ⟨u, rfl, ru⟩ := vals1 r
      cases ru
      exact P.repr_of_bool ⟨.str _, H, I.tok _, ⟨_, rfl⟩, q H (Same.refl _)⟩
    | int i h =>
      obtain ⟨u, rfl, ru⟩ := vals1 r
      obtain ⟨tk, rfl⟩ := ru
      exact P.repr_of_int h ⟨.str _, H, I.tok _, ⟨_, rfl⟩, q H (Same.refl _)⟩
    | str z h =>
      obtain ⟨u, rfl, ru⟩ := vals1 r
      obtain ⟨tk, rfl⟩ := ru
      exact P.repr_of_str ⟨.str _, H, I.tok _, ⟨_, rfl⟩, q H (Same.refl _)⟩ h
    | own R hk ha hs => exact call_reprO R (hr.mono (by omega)) pins s σ H _ us Q I r ⟨_, _, _, _, rfl, ha, hs, q⟩
    | emp h =>
      obtain ⟨u, rfl, ru⟩ := vals1 r
      cases ru
      obtain ⟨_, hsm, vs, hkv, o, es, ep, ho, hx, hd, _, hp, _⟩ := dk_of I.hok h
      cases hkv
      have e : es.toList = [] := by
        generalize es.toList = l at hp
        cases hp
        rfl
      have rd : Reads s.heap (.ref _) (.dict []) _ := .dict (kvs := []) ho hx.1 hd (by rw [e]; exact .nil) (by rw [e]; exact .nil)
      have z : PyData.shown (.dict []) = ("{}" : Str) := by decide +kernel
      refine repr_of_reads' rd rfl (fun _ hm => ?_) hg (by show X.A.units + (0 + 1 + 1) < cLine; omega) (fun _ _ e => e) (fun h' u tk hk => ⟨.str "{}", H, I.kept hk, ⟨u, by rw [z]⟩, q H (Same.refl _)⟩) (by rw [z]; decide +kernel)
      simp only [List.append_nil, List.mem_singleton] at hm
      rw [← hm] at hsm
      simp at hsm
  | dat h a b c d => exact call_reprD hg (by omega) pins s σ H _ us Q I r ⟨_, _, rfl, h, a, b, c, d, q H (Same.refl _)⟩
  | tup h i a b => exact call_reprT hg hr pins s σ H _ us Q I r ⟨_, _, _, rfl, h, i.items, a, b, q⟩
end
end Du

set_option Elab.async false
set_option linter.all false
set_option maxRecDepth 100000
set_option maxHeartbeats 1000000
namespace Du
open PySem L2 PyProof.Rows
open L2N (Zn)
open L2H (RoomH Hot1 PinOk cxH roomH_of)
/-- o.m(k = v, ..) -/
def tMethK (C : Addr) (m : Str) (n : Nat) (sp : Sp) (gV : List V → List V → List V) (E : XK) (ta : TE) (tk : TA) : TE := fun σ H Q => ta σ H fun x H1 => ∃ a dx fs, x = .ref a ∧ H1 a = some (.ins C dx fs) ∧ fs.lookup m = none ∧ tk σ H1 fun zs H2 => zs.length = n ∧ sp (gV [.ref a] zs) H2 Q E
theorem pe_methK0 {X : Cx} {CX : CXT} {k : Nat} {f C : Addr} {fd : FuncData} {ps ks : List Str} {sp : Sp} {E : XK} {m : Str} {o : Expr} {kws : List Keyword} {ta : TE} {tk : TA} {apos pos : Pos} {g : List Value → List Value → List Value} {gV : List V → List V → List V} {pl : Sem Bool}
    (he : PE X o ta) (c : Cls X.K C) (hm : Meth X.K C m f) (F : FnOk X.prog X.w X.K X.mg X.base CX k f fd ps sp) (hr : Room k X.A) (hb : KBn X.K fd ps 1 ks g gV) (hx : Passes CX X E) (hkw : PK X kws tk)
    (hall : (backToKw pos (keywordEach kws X.env)).all (·.1.isSome) = true := by rfl) (hks : (backToKw pos (keywordEach kws X.env)).filterMap (·.1) = ks := by rfl)
    (hpl : ((backTo pos (starEach [] X.env)).any (·.1) || (backToKw pos (keywordEach kws X.env)).any (·.1.isNone)) = false := by rfl)
    (ht : eval (.Call (.Attribute o m apos) [] kws pos) X.env = (do
      let ov ← eval o X.env
      standAt apos.atName
      let (f, first) ← holding [ov] (getMethod ov m pl)
      callWith pos f first (backTo pos (starEach [] X.env)) (backToKw pos (keywordEach kws X.env))) := by rfl) : PE X (.Call (.Attribute o m apos) [] kws pos) (tMethK C m ks.length sp gV E ta tk) := by
  refine ⟨fun pins s σ H Q I h => PySem.W.methodCall_KW (pl := pl) (thn (he.run pins s σ H _ I h) fun u s1 ⟨x, H1, I1, rx, a, dx, fs, ex, ea, l, q⟩ => ?_) ht⟩
  subst ex
  obtain rfl : u = Value.ref a := rx
  refine getmeth_ok I1 ea c hm l (PySem.W.callWith_KW0 (first := [.ref a]) (h₀ := X.base) I.ok.mod.kin hm.kp hall ?_ hpl)
  refine thn (hkw.run pos pins s1 σ H1 _ I1 q) fun ws s2 ⟨zs, H2, I2, rz, l2, q2⟩ => ⟨I2.kIn, ?_⟩
  rw [hks]
  have r1 : Vals [V.ref a] [Value.ref a] := .cons rfl .nil
  refine wpAny_call (codeAny_mono (F.run X.A X.stack s2 H2 ⟨[Value.ref a], ks.zip ws⟩ (g [Value.ref a] ws) (gV [.ref a] zs) Q E hr I2.env0 (hb.to s2 [Value.ref a] ws I2.kIn rfl (rz.length.symm.trans l2)) (hb.rel r1 rz) q2) fun r s' hq => ?_)
  match r, hq with
  | .error e, hq => exact hx pins σ H2 s2 e s' I2 hq
  | .ok (.ret u), hq => exact I2.after hq
  | .ok .next, hq => exact hq.elim
  | .ok .brk, hq => exact hq.elim
  | .ok .cont, hq => exact hq.elim
/-- o.m(k = v, ..) in a try: what is raised may be seen with the slots as they are -/
def tMethKT (C : Addr) (m : Str) (n : Nat) (sp : Sp) (gV : List V → List V → List V) (E : L2.St → XK) (ta : TE) (tk : TA) : TE := fun σ H Q => ta σ H fun x H1 => ∃ a dx fs, x = .ref a ∧ H1 a = some (.ins C dx fs) ∧ fs.lookup m = none ∧ tk σ H1 fun zs H2 => zs.length = n ∧ sp (gV [.ref a] zs) H2 Q (E σ)
theorem pe_methKT0 {X : Cx} {CX : CXT} {k : Nat} {f C : Addr} {fd : FuncData} {ps ks : List Str} {sp : Sp} {E : L2.St → XK} {m : Str} {o : Expr} {kws : List Keyword} {ta : TE} {tk : TA} {apos pos : Pos} {g : List Value → List Value → List Value} {gV : List V → List V → List V} {pl : Sem Bool}
    (he : PE X o ta) (c : Cls X.K C) (hm : Meth X.K C m f) (F : FnOk X.prog X.w X.K X.mg X.base CX k f fd ps sp) (hr : Room k X.A) (hb : KBn X.K fd ps 1 ks g gV) (hx : ∀ σ, PassesAt CX X σ (E σ)) (hkw : PK X kws tk)
    (hall : (backToKw pos (keywordEach kws X.env)).all (·.1.isSome) = true := by rfl) (hks : (backToKw pos (keywordEach kws X.env)).filterMap (·.1) = ks := by rfl)
    (hpl : ((backTo pos (starEach [] X.env)).any (·.1) || (backToKw pos (keywordEach kws X.env)).any (·.1.isNone)) = false := by rfl)
    (ht : eval (.Call (.Attribute o m apos) [] kws pos) X.env = (do
      let ov ← eval o X.env
      standAt apos.atName
      let (f, first) ← holding [ov] (getMethod ov m pl)
      callWith pos f first (backTo pos (starEach [] X.env)) (backToKw pos (keywordEach kws X.env))) := by rfl) : PE X (.Call (.Attribute o m apos) [] kws pos) (tMethKT C m ks.length sp gV E ta tk) := by
  refine ⟨fun pins s σ H Q I h => PySem.W.methodCall_KW (pl := pl) (thn (he.run pins s σ H _ I h) fun u s1 ⟨x, H1, I1, rx, a, dx, fs, ex, ea, l, q⟩ => ?_) ht⟩
  subst ex
  obtain rfl : u = Value.ref a := rx
  refine getmeth_ok I1 ea c hm l (PySem.W.callWith_KW0 (first := [.ref a]) (h₀ := X.base) I.ok.mod.kin hm.kp hall ?_ hpl)
  refine thn (hkw.run pos pins s1 σ H1 _ I1 q) fun ws s2 ⟨zs, H2, I2, rz, l2, q2⟩ => ⟨I2.kIn, ?_⟩
  rw [hks]
  have r1 : Vals [V.ref a] [Value.ref a] := .cons rfl .nil
  refine wpAny_call (codeAny_mono (F.run X.A X.stack s2 H2 ⟨[Value.ref a], ks.zip ws⟩ (g [Value.ref a] ws) (gV [.ref a] zs) Q (E σ) hr I2.env0 (hb.to s2 [Value.ref a] ws I2.kIn rfl (rz.length.symm.trans l2)) (hb.rel r1 rz) q2) fun r s' hq => ?_)
  match r, hq with
  | .error e, hq => exact hx σ pins H2 s2 e s' I2 hq
  | .ok (.ret u), hq => exact I2.after hq
  | .ok .next, hq => exact hq.elim
  | .ok .brk, hq => exact hq.elim
  | .ok .cont, hq => exact hq.elim
/-- o.m(e, ..) in a try -/
def tMethT (C : Addr) (m : Str) (sp : Sp) (E : L2.St → XK) (ta : TE) (t : TA) : TE := fun σ H Q => ta σ H fun x H1 => ∃ a dx fs, x = .ref a ∧ H1 a = some (.ins C dx fs) ∧ fs.lookup m = none ∧ t σ H1 fun vs H2 => sp (.ref a :: vs) H2 Q (E σ)
theorem pe_methT {X : Cx} {CX : CXT} {k : Nat} {f C : Addr} {fd : FuncData} {ps : List Str} {sp : Sp} {E : L2.St → XK} {m : Str} {o e : Expr} {es : List Expr} {ta : TE} {t : TA} {apos pos : Pos} {pl : Sem Bool}
    (he : PE X o ta) (c : Cls X.K C) (hm : Meth X.K C m f) (F : FnOk X.prog X.w X.K X.mg X.base CX k f fd ps sp) (hr : Room k X.A) (hb : Binds X.K fd ps []) (hx : ∀ σ, PassesAt CX X σ (E σ)) (ha : PA X (e :: es) t)
    (hst : starEach (e :: es) X.env = (false, eval e X.env) :: starEach es X.env := by rfl) (hpl : (backTo pos (starEach es X.env)).any (·.1) = false := by rfl)
    (ht : eval (.Call (.Attribute o m apos) (e :: es) [] pos) X.env = (do
      let ov ← eval o X.env
      standAt apos.atName
      let (f, first) ← holding [ov] (getMethod ov m pl)
      callWith pos f first (backTo pos (starEach (e :: es) X.env)) (backToKw pos (keywordEach [] X.env))) := by rfl) : PE X (.Call (.Attribute o m apos) (e :: es) [] pos) (tMethT C m sp E ta t) := by
  refine ⟨fun pins s σ H Q I h => PySem.W.methodCall_KW (pl := pl) (thn (he.run pins s σ H _ I h) fun u s1 ⟨x, H1, I1, rx, a, dx, fs, ex, ea, l, q⟩ => ?_) ht⟩
  subst ex
  obtain rfl : u = Value.ref a := rx
  refine getmeth_ok I1 ea c hm l (PySem.W.callWith_K (first := [.ref a]) (h₀ := X.base) I.ok.mod.kin hm.kp (thn (ha.run pos pins s1 σ H1 _ I1 q) fun us s2 ⟨vs, H2, I2, r, q2⟩ => ⟨I2.kIn, ?_⟩) hst hpl)
  exact run_fnS (us := .ref a :: us) (vs := .ref a :: vs) F hr hb (hx σ) I2 (.cons rfl r) q2
/-- o.m() in a try -/
theorem pe_methT0 {X : Cx} {CX : CXT} {k : Nat} {f C : Addr} {fd : FuncData} {ps : List Str} {sp : Sp} {E : L2.St → XK} {m : Str} {o : Expr} {ta : TE} {apos pos : Pos} {pl : Sem Bool}
    (he : PE X o ta) (c : Cls X.K C) (hm : Meth X.K C m f) (F : FnOk X.prog X.w X.K X.mg X.base CX k f fd ps sp) (hr : Room k X.A) (hb : Binds X.K fd ps []) (hx : ∀ σ, PassesAt CX X σ (E σ))
    (ht : eval (.Call (.Attribute o m apos) [] [] pos) X.env = (do
      let ov ← eval o X.env
      standAt apos.atName
      let (f, first) ← holding [ov] (getMethod ov m pl)
      callWith pos f first (backTo pos (starEach [] X.env)) (backToKw pos (keywordEach [] X.env))) := by rfl) : PE X (.Call (.Attribute o m apos) [] [] pos) (tMethT C m sp E ta tNil) := by
  refine ⟨fun pins s σ H Q I h => PySem.W.methodCall_KW (pl := pl) (thn (he.run pins s σ H _ I h) fun u s1 ⟨x, H1, I1, rx, a, dx, fs, ex, ea, l, q⟩ => ?_) ht⟩
  subst ex
  obtain rfl : u = Value.ref a := rx
  exact getmeth_ok I1 ea c hm l (PySem.W.callWith_K0 (first := [.ref a]) I1.kIn hm.kp (run_fnS (us := [.ref a]) (vs := [.ref a]) F hr hb (hx σ) I1 (.cons rfl .nil) q))
/-- a block by what it is seen to do -/
theorem pss_of {X : Cx} {st : List Stmt} {t' : TS} (h : ∀ (pins : List (Addr × Obj)) (s : Shared) (σ : L2.St) (H : Hp) (D : Ends), Inv X pins σ H s → t' D σ H → ∃ t, PSs X st t ∧ t D σ H) : PSs X st t' := ⟨fun pins s σ H D I q => by
  obtain ⟨t, ht, q'⟩ := h pins s σ H D I q
  exact ht.run pins s σ H D I q'⟩
/-! a def that must know that nothing is being shown -/
structure FnG (P : Program) (w : World) (K : PySem.W.Frag) (mg : Str → Option Value) (base : Heap) (k : Nat) (f : Addr) (fd : FuncData) (ps : List Str) (sp : Sp) : Prop where
  len : ∀ vs H Q, sp vs H Q E0 → vs.length = ps.length
  run : ∀ (A : Around) (outer : List Env) (s : Shared) (H : Hp) (args : Args) (us : List Value) (vs : List V) (Q : VK), A.guards = some [] → Room k A → Env0 P w K mg base A outer s H → BindsTo s fd args (ps.zip us) → Vals vs us → sp vs H Q E0 →
    codeAny (model P w) A (.call (.ref f) args) (CR CX0 outer P w H s Q E0) s
theorem fnG_of {P : Program} {w : World} {K : PySem.W.Frag} {mg : Str → Option Value} {base : Heap} {k : Nat} {x qual : Str} {st : Stmt} {f : Addr} {fd : FuncData} {N ps : List Str} {sp : Sp} (F : Fun K x qual st f fd) (S : FnScope N ps (defScope st)) (len : ∀ vs H Q, sp vs H Q E0 → vs.length = ps.length)
    (hbody : ∀ (cdv : Value) (A : Around) (outer : List Env) (s : Shared) (H : Hp) (vs : List V) (Q : VK), (A.deeper (envOfC qual (defScope st) s.heap.objs.size f cdv)).guards = some [] → Room k (A.deeper (envOfC qual (defScope st) s.heap.objs.size f cdv)) → sp vs H Q E0 →
      ∃ t, PSs (cxOf CX0 P w K mg base N qual (defScope st) f cdv A outer s H E0).nox (defBody st) t ∧ t { nx := fun _ H' => Q .non H', rt := Q } (L2.start N vs) H) : FnG P w K mg base (k + 1) f fd ps sp := by
  obtain ⟨oc, od, kV, doc, pm, an, cdv, ct, osl, rfl, lk, hcd⟩ := F.ex
  exact ⟨len, fun A outer s H args us vs Q hg hr e0 hb r hsp => fn_at lk hcd S hr e0 hb r (len vs H Q hsp) (hbody cdv A outer s H vs Q hg (hr.deeper _) hsp)⟩
structure DnG (P : Program) (w : World) (K : PySem.W.Frag) (mg : Str → Option Value) (base : Heap) (k : Nat) (x : Str) (ps : List Str) (sp : Sp) : Prop where
  ex : ∃ (f : Addr) (fd : FuncData), FnG P w K mg base k f fd ps sp ∧ mg x = some (.ref f) ∧ PySem.W.keepIn K (.ref f) = true ∧ Binds K fd ps []
theorem pcallG {X : Cx} {k : Nat} {x : Str} {ps : List Str} {sp : Sp} {p pos : Pos} {e : Expr} {es : List Expr} {t : TA} (D : DnG X.prog X.w X.K X.mg X.base k x ps sp) (hG : X.A.guards = some []) (hr : Room k X.A) (hg : Gl X x) (ha : PA X (e :: es) t)
    (hdb : (x == ("__debug__" : Str)) = false := by decide) (he : starEach (e :: es) X.env = (false, eval e X.env) :: starEach es X.env := by rfl) (hpl : (backTo pos (starEach es X.env)).any (·.1) = false := by rfl) :
    PE X (.Call (.Name x p) (e :: es) [] pos) (tCall sp [] E0 t) := by
  obtain ⟨f, fd, F, hm, hk, hb⟩ := D.ex
  refine ⟨fun pins s σ H Q I h => wpAny_Call_Name_kw (ld_glob I hg hm (PySem.W.callWith_K (h₀ := X.base) I.ok.mod.kin hk (thn (ha.run pos pins s σ H _ I h) fun us s1 ⟨vs, H1, I1, r, q⟩ => ⟨I1.kIn, ?_⟩) he hpl) hdb)⟩
  have q : sp vs H1 Q E0 := by
    have z : sp (vs ++ []) H1 Q E0 := q
    rwa [List.append_nil] at z
  have b := hb s1 us I1.kIn (by rw [List.append_nil, ← r.length]; exact F.len _ _ _ q)
  rw [List.append_nil] at b
  refine wpAny_call (codeAny_mono (F.run X.A X.stack s1 H1 ⟨us, []⟩ us vs Q hG hr I1.env0 b r q) fun z s' hq => ?_)
  match z, hq with
  | .error _, hq => exact hq.elim
  | .ok (.ret u), hq => exact I1.after hq
  | .ok .next, hq => exact hq.elim
  | .ok .brk, hq => exact hq.elim
  | .ok .cont, hq => exact hq.elim
/-- repr(x), x of an own class, while an error is being handled -/
theorem call_reprOE {X : Cx} {k : Nat} {f C : Addr} {fd : FuncData} {sp : Sp} {p : Addr × Obj} (F : FnE X.prog X.w X.K X.mg X.base k f fd ["self"] (fun _ => sp)) (hb : Binds X.K fd ["self"] []) (hs : PySem.W.findIn X.K (.ref C) "__repr__" = some (some (.ref f))) (hf : PySem.W.isFn X.K (.ref f) = true)
    (hr : RoomH (k + 1) X.A) (hot : Hot1 X.A p) (hp : p ∈ X.pn) : CallR X (.builtin "repr") (fun xs H Q => ∃ (a dx : Addr) (fs : List (Str × V)) (t : Str), xs = [.ref a] ∧ H a = some (.ins C dx fs) ∧ ReprSp sp H a t ∧ ∀ H', Same H H' → Q (.str t) H') := by
  intro pins s σ H xs us Q I r h
  obtain ⟨a, dx, fs, t, rfl, ha, hsp, q⟩ := h
  obtain ⟨u, rfl, ru⟩ := vals1 r
  cases ru
  obtain ⟨mA, J, _⟩ := ins_get I.hok ha
  obtain ⟨od, J, _⟩ := J.look
  obtain ⟨m, hF⟩ := I.fr
  have hu := hr.un
  have hd := hr.dp
  refine PySem.W.repr_K (by show X.A.units + 1 < cLine; omega) hF I.ok.mod.kin J hs hf ?_
  have e := I.env0
  have e0 : Env0 X.prog X.w X.K X.mg X.base X.A.in1 X.stack s H := ⟨e.frames, e.mod, e.bs, e.bsz, e.funs, e.frf, e.hok, e.bare⟩
  have b := hb s [Value.ref a] I.kIn (by rfl)
  rw [List.append_nil] at b
  have P1 := I.pin p (List.mem_append_left _ hp)
  refine wpAny_call (codeAny_mono (F.run X.A.in1 X.stack s H ⟨[Value.ref a], []⟩ [Value.ref a] [V.ref a] (fun v H' => v = .str t ∧ Q (.str t) H') p ⟨by show X.A.depth + 3 * k + 5 < _; omega, by show X.A.units + 1 + 16 * k + 200 < _; omega⟩ hot
    ⟨P1.1, P1.2.1, fun m => (List.mem_cons.mp (I.stkSub p.1 m)).elim P1.2.2.1 P1.2.2.2.1, P1.2.2.2.2⟩ e0 b (.cons rfl .nil) (hsp H (Same.refl _) _ fun H' s' => ⟨rfl, q H' s'⟩)) fun z s' hq => ?_)
  match z, hq with
  | .error _, hq => exact hq.elim
  | .ok .next, hq => exact hq.elim
  | .ok .brk, hq => exact hq.elim
  | .ok .cont, hq => exact hq.elim
  | .ok (.ret u), hq =>
    obtain ⟨v, H', I', rv, rfl, q'⟩ := I.after hq
    obtain ⟨tk, rfl⟩ := rv
    exact ⟨.str t, H', I', ⟨_, rfl⟩, q'⟩
/-- repr of plain things, while an error is being handled too -/
theorem call_reprP {X : Cx} (hg : X.A.guards = some []) (hu : X.A.units + 66 < cLine) : CallR X (.builtin "repr") (fun xs H Q => ∃ (v : V) (t : Str), xs = [v] ∧ (v = .non ∧ t = "None" ∨ (∃ b : Bool, v = .bl b ∧ t = (if b then ("True" : Str) else ("False" : Str))) ∨ (∃ i : Int, v = .int i ∧ i.natAbs.log2 < 1920 ∧ t = toString i) ∨ (∃ z : Str, v = .str z ∧ (reprText z).length ≤ sizeLine ∧ t = reprText z) ∨
    (∃ a, v = .ref a ∧ H a = some (.dK []) ∧ t = "{}") ∨ (∃ a d, v = .ref a ∧ Dp X.K H (.ref a) d ∧ d.showable = true ∧ d.hasDict = false ∧ d.depth ≤ 64 ∧ d.shown.length ≤ sizeLine ∧ t = d.shown)) ∧ Q (.str t) H) := by
  intro pins s σ H xs us Q I r h
  obtain ⟨v, t, rfl, hs, q⟩ := h
  obtain ⟨u, rfl, ru⟩ := vals1 r
  rcases hs with ⟨rfl, rfl⟩ | ⟨b, rfl, rfl⟩ | ⟨i, rfl, hi, rfl⟩ | ⟨z, rfl, hz, rfl⟩ | ⟨a, rfl, h, rfl⟩ | ⟨a, d, rfl, hd, h1, h2, h3, h4, rfl⟩
  · cases ru
    exact P.repr_of_none ⟨.str "None", H, I.tok _, ⟨_, rfl⟩, q⟩
  · cases ru
    exact P.repr_of_bool ⟨.str _, H, I.tok _, ⟨_, rfl⟩, q⟩
  · obtain ⟨tk, rfl⟩ := ru
    exact P.repr_of_int hi ⟨.str _, H, I.tok _, ⟨_, rfl⟩, q⟩
  · obtain ⟨tk, rfl⟩ := ru
    exact P.repr_of_str ⟨.str _, H, I.tok _, ⟨_, rfl⟩, q⟩ hz
  · cases ru
    obtain ⟨_, hsm, vs, hkv, o, es, ep, ho, hx, hd, _, hp, _⟩ := dk_of I.hok h
    cases hkv
    have e : es.toList = [] := by
      generalize es.toList = l at hp
      cases hp
      rfl
    have rd : Reads s.heap (.ref _) (.dict []) _ := .dict (kvs := []) ho hx.1 hd (by rw [e]; exact .nil) (by rw [e]; exact .nil)
    have z : PyData.shown (.dict []) = ("{}" : Str) := by decide +kernel
    refine repr_of_reads' rd rfl (fun _ hm => ?_) hg (by show X.A.units + (0 + 1 + 1) < cLine; omega) (fun _ _ e => e) (fun h' u tk hk => ⟨.str "{}", H, I.kept hk, ⟨u, by rw [z]⟩, q⟩) (by rw [z]; decide +kernel)
    simp only [List.append_nil, List.mem_singleton] at hm
    rw [← hm] at hsm
    simp at hsm
  · exact call_reprD hg (by omega) pins s σ H _ [u] Q I (.cons ru .nil) ⟨_, _, rfl, hd, h1, h2, h3, h4, q⟩
end Du

set_option Elab.async false
set_option linter.all false
set_option maxRecDepth 100000
namespace Du
open PySem L2
/-! things of any kind, known for good -/
/-- neither a purse nor a list of five -/
def Fix (o : HO) : Prop := (∀ i j k : Int, o ≠ .lst [.int i, .int j, .int k]) ∧ ∀ ys : List V, o = .lst ys → ys.length ≠ 5
def Kp (H H' : Hp) : Prop := ∀ a o, H a = some o → Fix o → H' a = some o
def ObT (K : PySem.W.Frag) (H : Hp) (x : V) (t : Value) : Prop := ∃ (a : Addr) (o : HO), x = .ref a ∧ H a = some o ∧ Fix o ∧ ∀ H' : Hp, H' a = some o → TyX K H' (.ref a) t
def Ty2 (K : PySem.W.Frag) (H : Hp) (x : V) (t : Value) : Prop := (∀ H' : Hp, TyX K H' x t) ∨ ObT K H x t
section
variable {K : PySem.W.Frag} {H H' : Hp} {x : V} {t : Value} {p a : Addr} {lo hi : Int} {b : Bool} {xs : List V}
theorem Kp.trans {H H1 H2 : Hp} (a : Kp H H1) (b : Kp H1 H2) : Kp H H2 := fun x o e n => b x o (a x o e n) n
theorem Kp.of_same (s : Same H H') : Kp H H' := fun a o e _ => s a o e
theorem Kp.of_step (hp : Purse H p) (s : Step p H H') : Kp H H' := fun a o e n => by
  obtain ⟨i, j, l, ep, _⟩ := id hp
  exact s.keep a o (ne_of e ep (n.1 i j l)) e
theorem Kp.upd {T : Addr} {ys : List V} {o' : HO} (h : H T = some (.lst ys)) (h5 : ys.length = 5) : Kp H (upd H T o') := fun a o e n => by
  rw [upd_ne (ne_of e h (fun z => n.2 _ z h5))]
  exact e
theorem Fix.tup : Fix (.tup xs) := ⟨(fun _ _ _ z => nomatch z), (fun _ z => nomatch z)⟩
theorem Fix.frz {o : Obj} {u : HO} : Fix (.frz o u) := ⟨(fun _ _ _ z => nomatch z), (fun _ z => nomatch z)⟩
theorem Fix.dK {ks : List (Key × V)} : Fix (.dK ks) := ⟨(fun _ _ _ z => nomatch z), (fun _ z => nomatch z)⟩
theorem Fix.ins {C dx : Addr} {fs : List (Str × V)} : Fix (.ins C dx fs) := ⟨(fun _ _ _ z => nomatch z), (fun _ z => nomatch z)⟩
theorem Ty2.ty (h : Ty2 K H x t) : TyX K H x t := by
  rcases h with h | ⟨a, o, rfl, e, _, k⟩
  · exact h H
  · exact k H e
theorem Ty2.kp (h : Ty2 K H x t) (s : Kp H H') : Ty2 K H' x t := by
  rcases h with h | ⟨a, o, rfl, e, n, k⟩
  · exact .inl h
  · exact .inr ⟨a, o, rfl, s _ _ e n, n, k⟩
theorem sqT_kp (h : SqT K H a xs) (s : Kp H H') : SqT K H' a xs := by
  rcases h with (z | ⟨o, z⟩) | z
  · exact .inl (.inl (s _ _ z .tup))
  · exact .inl (.inr ⟨o, s _ _ z .frz⟩)
  · exact .inr z
theorem HdAt.kp {v : V} {h : Hold} (d : HdAt K H v h) (s : Kp H H') : HdAt K H' v h := by
  obtain ⟨a, e, q⟩ := d
  exact ⟨a, e, sqT_kp q s⟩
theorem HdsAt.kp {t : Addr} {hs : List Hold} (d : HdsAt K H t hs) (s : Kp H H') : HdsAt K H' t hs := by
  obtain ⟨vs, h1, h2, h3⟩ := d
  exact ⟨vs, sqT_kp h1 s, h2, fun i v h e1 e2 => (h3 i v h e1 e2).kp s⟩
def BadN (K : PySem.W.Frag) (H : Hp) (x : V) : Prop := (∃ z : Str, x = .str z ∧ z.length ≤ sizeLine ∧ isNm z = false) ∨ (∃ t, Ty2 K H x t ∧ PySem.W.kitOne K t (.type "str") = some false)
def BadL (K : PySem.W.Frag) (H : Hp) (x : V) (lo hi : Int) : Prop := (∃ i : Int, x = .int i ∧ (decide (lo ≤ i) && decide (i ≤ hi)) = false) ∨ (∃ b : Bool, x = .bl b) ∨ (∃ t, Ty2 K H x t ∧ PySem.W.kitOne K t (.type "int") = some false)
def GoodN (x : V) : Prop := ∃ z : Str, x = .str z ∧ isNm z = true
def GoodL (x : V) (lo hi : Int) : Prop := ∃ i : Int, x = .int i ∧ lo ≤ i ∧ i ≤ hi
def NmV (K : PySem.W.Frag) (H : Hp) (x : V) (b : Bool) : Prop := (b = false ∧ GoodN x) ∨ (b = true ∧ BadN K H x)
def WhV (K : PySem.W.Frag) (H : Hp) (x : V) (lo hi : Int) (b : Bool) : Prop := (b = false ∧ GoodL x lo hi) ∨ (b = true ∧ BadL K H x lo hi)
theorem BadN.kp (h : BadN K H x) (s : Kp H H') : BadN K H' x := h.imp id fun ⟨t, a, b⟩ => ⟨t, a.kp s, b⟩
theorem BadL.kp (h : BadL K H x lo hi) (s : Kp H H') : BadL K H' x lo hi := h.imp id fun h => h.imp id fun ⟨t, a, b⟩ => ⟨t, a.kp s, b⟩
theorem NmV.kp (h : NmV K H x b) (s : Kp H H') : NmV K H' x b := h.imp id fun h => ⟨h.1, h.2.kp s⟩
theorem WhV.kp (h : WhV K H x lo hi b) (s : Kp H H') : WhV K H' x lo hi b := h.imp id fun h => ⟨h.1, h.2.kp s⟩
theorem NmV.good (h : NmV K H x false) : GoodN x := by
  rcases h with h | h
  · exact h.2
  · cases h.1
theorem WhV.good (h : WhV K H x lo hi false) : GoodL x lo hi := by
  rcases h with h | h
  · exact h.2
  · cases h.1
/-- is_name, asked -/
theorem ask_name {Q : VK} {E : XK} (h : NmV K H x b) (q : ∀ H', Same H H' → Q (.bl (!b)) H') : spName K [x] H Q E := by
  refine ⟨x, rfl, ?_⟩
  rcases h with ⟨rfl, z, rfl, hz⟩ | ⟨rfl, ⟨z, rfl, hl, hz⟩ | ⟨t, ht, hk⟩⟩
  · refine .inl ⟨z, rfl, Nat.le_trans (nm_len hz).2 (by decide), fun H' s => ?_⟩
    rw [hz]
    exact q H' s
  · refine .inl ⟨z, rfl, hl, fun H' s => ?_⟩
    rw [hz]
    exact q H' s
  · exact .inr ⟨t, ht.ty, hk, q H (Same.refl _)⟩
theorem ask_whole {Q : VK} {E : XK} (h : WhV K H x lo hi b) (q : Q (.bl (!b)) H) : spWhole K [x, .int lo, .int hi] H Q E := by
  refine ⟨x, lo, hi, rfl, ?_⟩
  rcases h with ⟨rfl, i, rfl, h1, h2⟩ | ⟨rfl, ⟨i, rfl, hz⟩ | ⟨c, rfl⟩ | ⟨t, ht, hk⟩⟩
  · refine .inl ⟨i, rfl, ?_⟩
    rw [decide_eq_true h1, decide_eq_true h2]
    exact q
  · refine .inl ⟨i, rfl, ?_⟩
    rw [hz]
    exact q
  · exact .inr (.inl ⟨c, rfl, q⟩)
  · exact .inr (.inr ⟨t, ht.ty, hk, q⟩)
/-- no hold -/
def BadH (K : PySem.W.Frag) (H : Hp) (v : V) (cost : Int) : Prop := (∃ t, Ty2 K H v t ∧ PySem.W.kitOne K t (.type "tuple") = some false) ∨ (∃ a xs, v = .ref a ∧ SqT K H a xs ∧ xs.length ≠ 3) ∨
  (∃ a x0 x1 x2, v = .ref a ∧ SqT K H a [x0, x1, x2] ∧ (BadN K H x0 ∨ (GoodN x0 ∧ BadL K H x1 0 cost) ∨ (GoodN x0 ∧ ∃ s : Int, x1 = .int s ∧ 0 ≤ s ∧ s ≤ cost ∧ BadL K H x2 1 (cost - s))))
theorem BadH.kp {v : V} {cost : Int} (h : BadH K H v cost) (s : Kp H H') : BadH K H' v cost := by
  rcases h with ⟨t, a, b⟩ | ⟨a, xs, e, q, n⟩ | ⟨a, x0, x1, x2, e, q, h⟩
  · exact .inl ⟨t, a.kp s, b⟩
  · exact .inr (.inl ⟨a, xs, e, sqT_kp q s, n⟩)
  · refine .inr (.inr ⟨a, x0, x1, x2, e, sqT_kp q s, ?_⟩)
    rcases h with h | ⟨g, h⟩ | ⟨g, n, e, h1, h2, h⟩
    · exact .inl (h.kp s)
    · exact .inr (.inl ⟨g, h.kp s⟩)
    · exact .inr (.inr ⟨g, n, e, h1, h2, h.kp s⟩)
/-- a hold or none -/
def ElV (K : PySem.W.Frag) (H : Hp) (cost : Int) (v : V) (r : Bool) : Prop := (∃ h : Hold, HdAt K H v h ∧ h.1.length ≤ sizeLine ∧ r = isHd h cost) ∨ (r = false ∧ BadH K H v cost)
theorem ElV.kp {v : V} {r : Bool} {cost : Int} (h : ElV K H cost v r) (s : Kp H H') : ElV K H' cost v r := by
  rcases h with ⟨h, a, b, c⟩ | ⟨a, b⟩
  · exact .inl ⟨h, a.kp s, b, c⟩
  · exact .inr ⟨a, b.kp s⟩
/-- no row of holds -/
def BadHs (K : PySem.W.Frag) (H : Hp) (x : V) (cost : Int) : Prop := (∃ t, Ty2 K H x t ∧ PySem.W.kitOne K t (.type "tuple") = some false) ∨ (∃ a xs, x = .ref a ∧ SqT K H a xs ∧ 4 < xs.length) ∨
  (∃ (a : Addr) (xs : List V) (rs : List Bool), x = .ref a ∧ SqT K H a xs ∧ xs.length ≤ 4 ∧ rs.length = xs.length ∧ (∀ (i : Nat) v r, xs[i]? = some v → rs[i]? = some r → ElV K H cost v r) ∧ false ∈ rs) ∨
  (∃ (t : Addr) (hs : List Hold), x = .ref t ∧ HdsAt K H t hs ∧ (∀ h ∈ hs, h.1.length ≤ sizeLine) ∧ areHds hs cost = false)
theorem BadHs.kp {cost : Int} (h : BadHs K H x cost) (s : Kp H H') : BadHs K H' x cost := by
  rcases h with ⟨t, a, b⟩ | ⟨a, xs, e, q, n⟩ | ⟨a, xs, rs, e, q, n, l, h, m⟩ | ⟨t, hs, e, q, l, h⟩
  · exact .inl ⟨t, a.kp s, b⟩
  · exact .inr (.inl ⟨a, xs, e, sqT_kp q s, n⟩)
  · exact .inr (.inr (.inl ⟨a, xs, rs, e, sqT_kp q s, n, l, fun i v r e1 e2 => (h i v r e1 e2).kp s, m⟩))
  · exact .inr (.inr (.inr ⟨t, hs, e, q.kp s, l, h⟩))
def GoodHs (K : PySem.W.Frag) (H : Hp) (x : V) (cost : Int) : Prop := ∃ (t : Addr) (hs : List Hold), x = .ref t ∧ HdsAt K H t hs ∧ (∀ h ∈ hs, h.1.length ≤ sizeLine) ∧ areHds hs cost = true
def HoV (K : PySem.W.Frag) (H : Hp) (x : V) (cost : Int) (b : Bool) : Prop := (b = false ∧ GoodHs K H x cost) ∨ (b = true ∧ BadHs K H x cost)
theorem HoV.kp {cost : Int} (h : HoV K H x cost b) (s : Kp H H') : HoV K H' x cost b := h.imp (fun ⟨e, t, hs, e1, q, l, h⟩ => ⟨e, t, hs, e1, q.kp s, l, h⟩) fun h => ⟨h.1, h.2.kp s⟩
/-- a due: None or a number -/
def DuV (K : PySem.W.Frag) (H : Hp) (x : V) (g : Int) (b : Bool) : Prop := (x = .non ∧ b = false) ∨ (x ≠ .non ∧ WhV K H x 1 g b)
theorem DuV.kp {g : Int} (h : DuV K H x g b) (s : Kp H H') : DuV K H' x g b := h.imp id fun h => ⟨h.1, h.2.kp s⟩
end
section
variable {P : Program} {w : World} {K : PySem.W.Frag} {mg : Str → Option Value} {base : Heap}
def spOr (a b : Sp) : Sp := fun vs H Q E => a vs H Q E ∨ b vs H Q E
theorem fnOr {CX : CXT} {k : Nat} {f : Addr} {fd : FuncData} {ps : List Str} {a b : Sp} (x : FnOk P w K mg base CX k f fd ps a) (y : FnOk P w K mg base CX k f fd ps b) : FnOk P w K mg base CX k f fd ps (spOr a b) :=
  ⟨fun vs H Q E h => h.elim (x.len vs H Q E) (y.len vs H Q E), fun A outer s H args us vs Q E hr e0 hb r h => h.elim (x.run A outer s H args us vs Q E hr e0 hb r) (y.run A outer s H args us vs Q E hr e0 hb r)⟩
/-! is_hold of what is none -/
def spHoldB (K : PySem.W.Frag) : Sp := fun vs H Q _ => ∃ (v : V) (cost : Int), vs = [v, .int cost] ∧ BadH K H v cost ∧ ∀ H', Same H H' → Q (.bl false) H'
theorem ok_holdB {f : Addr} {fd : FuncData} (F : Fun K "is_hold" "is_hold" sHold f fd) (mI : mg "isinstance" = none) (mt : mg "tuple" = none) (ml : mg "len" = none)
    (DN : Dn P w K mg base 3 "is_name" ["thing"] (spName K)) (DW : Dn P w K mg base 3 "is_whole" ["thing", "least", "most"] (spWhole K)) :
    FnOk P w K mg base CX0 4 f fd ["thing", "cost"] (spHoldB K) := by
  refine F.ok scHold (fun vs H Q E h => ?_) (fun cdv A outer s H vs Q E hr h => ?_)
  · obtain ⟨v, cost, rfl, _⟩ := h
    rfl
  · obtain ⟨v, cost, rfl, hb, q⟩ := h
    refine ⟨_, (pss_cons (ps_if (PW.pt (pw_or (pt_not (pt_val (pe_callB call_isi (by rfl) mI (by decide +kernel) (pa_cons (pv 0) (pa_cons (pe_bltn (v := .ty "tuple") (by rfl) mt (by decide +kernel) rfl) pa_nil))))) (pw_or1 (pt_cmpR op_ne (pe_callB call_len_seq (by rfl) ml (by decide +kernel) (pa_cons (pv 0) pa_nil)) pe_int (nomark _))))) (pss_one (ps_ret pe_bl)) pss_nil) (pss_cons (ps_asg (pv 0) (pg_tup rfl (pgs_cons (pg_name (i := 2) scHold.nd rfl (.inl rfl)) (pgs_cons (pg_name (i := 3) scHold.nd rfl (.inl rfl)) (pgs_cons (pg_name (i := 4) scHold.nd rfl (.inl rfl)) pgs_nil))))) (pss_one (ps_ret (pe_and (pcall DN hr (by rfl) (pa_cons (pv 2) pa_nil)) (pe_and (pcall DW hr (by rfl) (pa_cons (pv 3) (pa_cons pe_int (pa_cons (pv 1) pa_nil)))) (pe_one (pcall DW hr (by rfl) (pa_cons (pv 4) (pa_cons pe_int (pa_cons (pe_op op_sub (pv 1) (pv 3)) pa_nil))))))))))), ?_⟩
    rcases hb with ⟨t, ht, hk⟩ | ⟨a, xs, rfl, hS, hn⟩ | ⟨a, x0, x1, x2, rfl, hS, h⟩
    · exact ⟨_, rfl, _, _, _, _, false, rfl, .ty "tuple", ht.ty, hk, false, rfl, iteT (q H (Same.refl _))⟩
    · refine ⟨_, rfl, _, _, _, _, true, rfl, .ty "tuple", tyx_tup hS, kit_tt, true, rfl, ?_⟩
      refine ⟨_, rfl, a, _, rfl, .inr hS, rfl, _, rfl, ?_⟩
      have e : (!decide (V.int (xs.length : Nat) = V.int 3)) = true := by
        have : ¬ (V.int (xs.length : Nat) = V.int 3) := fun z => hn (by have := V.int.inj z; omega)
        rw [decide_eq_false this]
        rfl
      rw [e]
      exact iteT (q H (Same.refl _))
    · refine ⟨_, rfl, _, _, _, _, true, rfl, .ty "tuple", tyx_tup hS, kit_tt, true, rfl, ?_⟩
      refine ⟨_, rfl, a, _, rfl, .inr hS, rfl, _, rfl, ?_⟩
      show if (!decide ((V.int (3 : Nat)) = V.int 3)) = true then _ else _
      refine iteNS rfl ?_
      refine ⟨_, rfl, a, _, rfl, hS, rfl, _, _, rfl, _, _, rfl, _, _, rfl, rfl, ?_⟩
      refine ⟨_, rfl, ?_⟩
      unfold tNil
      rcases h with h | ⟨g, h⟩ | ⟨g, n, rfl, h1, h2, h⟩
      · refine ask_name (.inr ⟨rfl, h⟩) fun H1 s1 => ⟨_, rfl, ?_⟩
        exact iteF (q H1 s1)
      · refine ask_name (.inl ⟨rfl, g⟩) fun H1 s1 => ⟨_, rfl, iteT ⟨_, rfl, ?_⟩⟩
        unfold tCons tC
        refine ⟨_, rfl, ?_⟩
        refine ask_whole (.inr ⟨rfl, h.kp (.of_same s1)⟩) ?_
        exact ⟨_, rfl, iteF (q H1 s1)⟩
      · refine ask_name (.inl ⟨rfl, g⟩) fun H1 s1 => ⟨_, rfl, iteT ⟨_, rfl, ?_⟩⟩
        unfold tCons tC
        refine ⟨_, rfl, ?_⟩
        refine ask_whole (.inl ⟨rfl, n, rfl, h1, h2⟩) ?_
        refine ⟨_, rfl, iteT ⟨_, rfl, _, rfl, _, rfl, _, _, rfl, rfl, ?_⟩⟩
        refine ask_whole (.inr ⟨rfl, h.kp (.of_same s1)⟩) ?_
        exact q H1 s1
end
end Du

set_option Elab.async false
set_option linter.all false
set_option maxRecDepth 100000
namespace Du
open PySem L2
abbrev sWrongD : Stmt := topS 18
abbrev sDInit : Stmt := inClass (topS 20) 0
abbrev sTRepr : Stmt := inClass (topS 19) 5
abbrev sDRepr : Stmt := inClass (topS 20) 4
/-! all but lists stay -/
def Kt (H H' : Hp) : Prop := ∀ a o, H a = some o → (∀ ys : List V, o ≠ .lst ys) → H' a = some o
section
variable {K : PySem.W.Frag} {H H1 H2 H' : Hp} {p a : Addr} {xs : List V}
theorem Kt.refl : Kt H H := fun _ _ e _ => e
theorem Kt.trans (a : Kt H H1) (b : Kt H1 H2) : Kt H H2 := fun x o e n => b x o (a x o e n) n
theorem Kt.of_same (s : Same H H') : Kt H H' := fun a o e _ => s a o e
theorem Kt.of_step (hp : Purse H p) (s : Step p H H') : Kt H H' := fun a o e n => by
  obtain ⟨i, j, l, ep, _⟩ := id hp
  exact s.keep a o (ne_of e ep (n _)) e
theorem Kt.put {ys zs : List V} (h : H a = some (.lst ys)) : Kt H (upd H a (.lst zs)) := fun b o e n => by
  rw [upd_ne (ne_of e h (n _))]
  exact e
theorem Kt.lst {a : Addr} {zs : List V} (s : Kt H H') (n : H a = none) : Kt H (upd H' a (.lst zs)) := fun b o e h => by
  rw [upd_ne (ne_of_none e n)]
  exact s b o e h
theorem sqT_kt (h : SqT K H a xs) (s : Kt H H') : SqT K H' a xs := by
  rcases h with (z | ⟨o, z⟩) | z
  · exact .inl (.inl (s _ _ z (fun _ q => nomatch q)))
  · exact .inl (.inr ⟨o, s _ _ z (fun _ q => nomatch q)⟩)
  · exact .inr z
theorem HdAt.kt {v : V} {h : Hold} (d : HdAt K H v h) (s : Kt H H') : HdAt K H' v h := by
  obtain ⟨a, e, q⟩ := d
  exact ⟨a, e, sqT_kt q s⟩
theorem HdsAt.kt {t : Addr} {hs : List Hold} (d : HdsAt K H t hs) (s : Kt H H') : HdsAt K H' t hs := by
  obtain ⟨vs, h1, h2, h3⟩ := d
  exact ⟨vs, sqT_kt h1 s, h2, fun i v h e1 e2 => (h3 i v h e1 e2).kt s⟩
theorem TaskAt.kt {C x h : Addr} {v : TaskV} (d : TaskAt K C H x v h) (s : Kt H H') : TaskAt K C H' x v h := by
  obtain ⟨⟨dx, e⟩, q⟩ := d
  exact ⟨⟨dx, s _ _ e (fun _ q => nomatch q)⟩, q.kt s⟩
end
/-! doors -/
def df (n : Str) (r g : Int) : List (Str × V) := [("name", .str n), ("room", .int r), ("gap", .int g)]
theorem df_name (n : Str) (r g : Int) : (df n r g).lookup ("name" : Str) = some (.str n) := rfl
theorem df_room (n : Str) (r g : Int) : (df n r g).lookup ("room" : Str) = some (.int r) := rfl
theorem df_gap (n : Str) (r g : Int) : (df n r g).lookup ("gap" : Str) = some (.int g) := rfl
structure DoorC (K : PySem.W.Frag) (mg : Str → Option Value) (C : Addr) : Prop where
  cl : Cls K C
  nN : NoAttr K C "name"
  nR : NoAttr K C "room"
  nG : NoAttr K C "gap"
  mg : mg "Door" = some (.ref C)
  kc : PySem.W.findIn K (.ref C) "__class__" = some (some (.builtin "object.__class__"))
  kg : PySem.W.specialIn K (.builtin "object.__class__") "__get__" = some (some (.builtin "getset_descriptor.__get__"))
  kt : PySem.W.takesIn K (.builtin "object.__class__") = some true
  km : PySem.W.mroIn K C (.type "object") = some true
abbrev pD : List Str := ["self", "name", "room", "gap"]
def DoorAt (C : Addr) (H : Hp) (x : Addr) (n : Str) (r g : Int) : Prop := ∃ dx, H x = some (.ins C dx (df n r g))
section
variable {P : Program} {w : World} {K : PySem.W.Frag} {mg : Str → Option Value} {base : Heap}
/-! wrong_in_door of a good one -/
abbrev nWrongD : List Str := ["name", "room", "gap"]
theorem scWrongD : FnScope nWrongD nWrongD (defScope sWrongD) := ⟨rfl, rfl, rfl, by decide +kernel, rfl, by decide +kernel, by decide +kernel⟩
def spWrongD : Sp := fun vs H Q _ => ∃ (n : Str) (r g : Int), vs = [.str n, .int r, .int g] ∧ isNm n = true ∧ (1 ≤ r ∧ r ≤ 99) ∧ (1 ≤ g ∧ g ≤ 600) ∧ ∀ H', Same H H' → Q .non H'
theorem ok_wrongD {f : Addr} {fd : FuncData} (F : Fun K "wrong_in_door" "wrong_in_door" sWrongD f fd) (mC : ∃ t, mg "MOST_COST" = some (.int 99 t)) (mG : ∃ t, mg "MOST_GAP" = some (.int 600 t))
    (DN : Dn P w K mg base 2 "is_name" ["thing"] (spName K)) (DW : Dn P w K mg base 2 "is_whole" ["thing", "least", "most"] (spWhole K)) : FnOk P w K mg base CX0 3 f fd nWrongD spWrongD := by
  obtain ⟨uC, mC⟩ := mC
  obtain ⟨uG, mG⟩ := mG
  refine F.ok scWrongD (fun vs H Q E h => ?_) (fun cdv A outer s H vs Q E hr h => ?_)
  · obtain ⟨n, r, g, rfl, _⟩ := h
    rfl
  · obtain ⟨n, r, g, rfl, hn, hr1, hg1, k⟩ := h
    refine ⟨_, (pss_cons (ps_if (pt_not (pt_val (pcall DN hr (by rfl) (pa_cons (pv 0) pa_nil)))) pss_never pss_nil) (pss_cons (ps_if (pt_not (pt_val (pcall DW hr (by rfl) (pa_cons (pv 1) (pa_cons pe_int (pa_cons (pe_glob (v := .int 99) rfl mC ⟨_, rfl⟩) pa_nil)))))) pss_never pss_nil) (pss_cons (ps_if (pt_not (pt_val (pcall DW hr (by rfl) (pa_cons (pv 2) (pa_cons pe_int (pa_cons (pe_glob (v := .int 600) rfl mG ⟨_, rfl⟩) pa_nil)))))) pss_never pss_nil) (pss_one (ps_ret pe_non))))), ?_⟩
    refine ⟨_, rfl, ?_⟩
    unfold tNil
    refine ask_name (.inl ⟨rfl, n, rfl, hn⟩) fun H1 s1 => ⟨_, rfl, iteF ⟨_, rfl, ?_⟩⟩
    unfold tCons tC
    refine ask_whole (.inl ⟨rfl, r, rfl, hr1.1, hr1.2⟩) ?_
    refine ⟨_, rfl, iteF ⟨_, rfl, ?_⟩⟩
    refine ask_whole (.inl ⟨rfl, g, rfl, hg1.1, hg1.2⟩) ?_
    exact ⟨_, rfl, iteF (k H1 s1)⟩
abbrev nDInit : List Str := ["self", "name", "room", "gap", "part"]
theorem scDInit : FnScope nDInit pD (defScope sDInit) := ⟨rfl, rfl, rfl, by decide +kernel, rfl, by decide +kernel, by decide +kernel⟩
/-- a good door's __init__ -/
def spDInit (C : Addr) : Sp := fun vs H Q _ => ∃ (x dx : Addr) (n : Str) (r g : Int), vs = [.ref x, .str n, .int r, .int g] ∧ isNm n = true ∧ (1 ≤ r ∧ r ≤ 99) ∧ (1 ≤ g ∧ g ≤ 600) ∧ H x = some (.ins C dx []) ∧
  ∀ H', DoorAt C H' x n r g → (∀ b o, H b = some o → b ≠ x → H' b = some o) → Q .non H'
theorem ok_dinit {C f : Addr} {fd : FuncData} (F : Fun K "__init__" "Door.__init__" sDInit f fd) (T : DoorC K mg C) (DD : Dn P w K mg base 3 "wrong_in_door" nWrongD spWrongD) : FnOk P w K mg base CX0 4 f fd pD (spDInit C) := by
  refine F.ok scDInit (fun vs H Q E h => ?_) (fun cdv A outer s H vs Q E hr h => ?_)
  · obtain ⟨x, dx, n, r, g, rfl, _⟩ := h
    rfl
  · obtain ⟨x, dx, n, r, g, rfl, hn, hr1, hg1, hx, k⟩ := h
    refine ⟨_, (pss_cons (ps_set (i := 4) scDInit.nd rfl (.inl rfl) (pcall DD hr (by rfl) (pa_cons (pv 1) (pa_cons (pv 2) (pa_cons (pv 3) pa_nil))))) (pss_cons (ps_if (pt_cmpR op_notN (pv 4) pe_non (nomark _)) pss_never pss_nil) (pss_cons (ps_fld (pv 0) (pv 1) rfl) (pss_cons (ps_fld (pv 0) (pv 2) rfl) (pss_one (ps_fld (pv 0) (pv 3) rfl)))))), ?_⟩
    refine ⟨_, rfl, _, rfl, _, rfl, n, r, g, rfl, hn, hr1, hg1, fun H1 s1 => ?_⟩
    refine ⟨_, rfl, rfl, _, rfl, ?_⟩
    refine iteF ?_
    refine ⟨_, rfl, _, rfl, x, C, dx, [], rfl, s1 _ _ hx, T.cl, T.nN, (by show 0 < 1000; decide), ?_⟩
    refine ⟨_, rfl, _, rfl, x, C, dx, _, rfl, upd_same, T.cl, T.nR, (by show 1 < 1000; decide), ?_⟩
    refine ⟨_, rfl, _, rfl, x, C, dx, _, rfl, upd_same, T.cl, T.nG, (by show 2 < 1000; decide), ?_⟩
    refine k _ ⟨dx, upd_same⟩ fun b o eb hb => ?_
    rw [upd_ne hb, upd_ne hb, upd_ne hb]
    exact s1 _ _ eb
theorem doorSp {C : Addr} {H : Hp} {n : Str} {r g : Int} {Q : Addr → Hp → Prop} (hn : isNm n = true) (hr : 1 ≤ r ∧ r ≤ 99) (hg : 1 ≤ g ∧ g ≤ 600) (k : ∀ x H', Same H H' → H x = none → DoorAt C H' x n r g → Q x H') :
    ∀ x dx, H x = none → H dx = none → dx ≠ x → spDInit C [.ref x, .str n, .int r, .int g] (upd (upd H dx (.own x)) x (.ins C dx [])) (fun u H3 => u = .non ∧ Q x H3) E0 := by
  intro x dx nx ndx hne
  have s1 : Same H (upd (upd H dx (.own x)) x (.ins C dx [])) := same_upd2 (same_upd ndx) nx
  exact ⟨x, dx, n, r, g, rfl, hn, hr, hg, upd_same, fun H' hi keep => ⟨rfl, k x H' (fun b o e => keep b o (s1 b o e) (ne_of_none e nx)) nx hi⟩⟩
theorem taskSp {C h : Addr} {H : Hp} {v : TaskV} {od : Option Int} {Q : Addr → Hp → Prop} (hh : HdsAt K H h v.holds) (ho : v.ok) (hd : v.due = od.getD v.gap) (q : ∀ x H', Same H H' → H x = none → TaskAt K C H' x v h → Q x H') :
    ∀ x dx, H x = none → H dx = none → dx ≠ x → spInit K C [.ref x, .str v.name, .int v.cost, .int v.gap, dueV od, .ref h] (upd (upd H dx (.own x)) x (.ins C dx [])) (fun u H3 => u = .non ∧ Q x H3) E0 := by
  intro x dx nx ndx hne
  have s1 : Same H (upd (upd H dx (.own x)) x (.ins C dx [])) := same_upd2 (same_upd ndx) nx
  exact ⟨x, dx, h, v, od, rfl, hd, ho, hh.same s1, upd_same, fun H' tk keep => ⟨rfl, q x H' (fun b o e => keep b o (s1 b o e) (ne_of_none e nx)) nx tk⟩⟩
/-! repr of tasks and doors -/
def inText (a n : Str) : Str := Str.empty ++ a ++ n ++ ")"
theorem inText_len (a n : Str) (ha : a.length ≤ 10) (h : n.length ≤ 1000) : (inText a n).length ≤ sizeLine := by
  unfold inText
  rw [strLen_append, strLen_append, strLen_append]
  have e1 : Str.empty.length ≤ 10 := by decide +kernel
  have e2 : ((")" : Str)).length ≤ 10 := by decide +kernel
  exact Nat.le_trans (show _ ≤ 1100 by omega) (by decide)
theorem inText_len2 (a n : Str) (ha : a.length ≤ 10) (h : n.length ≤ 1000) : (Str.empty ++ a ++ n).length ≤ sizeLine := by
  have z := inText_len a n ha h
  unfold inText at z
  rw [strLen_append] at z
  omega
theorem scTRepr : FnScope ["self"] ["self"] (defScope sTRepr) := ⟨rfl, rfl, rfl, by decide +kernel, rfl, by decide +kernel, by decide +kernel⟩
theorem scDRepr : FnScope ["self"] ["self"] (defScope sDRepr) := ⟨rfl, rfl, rfl, by decide +kernel, rfl, by decide +kernel, by decide +kernel⟩
def spTRepr (K : PySem.W.Frag) (C : Addr) : Sp := fun vs H Q _ => ∃ (x h : Addr) (v : TaskV), vs = [.ref x] ∧ TaskAt K C H x v h ∧ v.name.length ≤ 1000 ∧ Q (.str (inText "Task(" v.name)) H
def spDRepr (C : Addr) : Sp := fun vs H Q _ => ∃ (x : Addr) (n : Str) (r g : Int), vs = [.ref x] ∧ DoorAt C H x n r g ∧ n.length ≤ 1000 ∧ Q (.str (inText "Door(" n)) H
theorem ok_trepr {C f : Addr} {fd : FuncData} (F : Fun K "__repr__" "Task.__repr__" sTRepr f fd) (T : TaskC K mg C) : FnOk P w K mg base CX0 3 f fd ["self"] (spTRepr K C) := by
  refine F.ok scTRepr (fun vs H Q E h => ?_) (fun cdv A outer s H vs Q E hr h => ?_)
  · obtain ⟨x, h, v, rfl, _⟩ := h
    rfl
  · obtain ⟨x, h, v, rfl, ⟨⟨dx, hx⟩, hh⟩, hn, q⟩ := h
    refine ⟨_, (pss_one (ps_ret (pe_joined (.cons pe_str (.cons (pe_fmt (pe_fld (pv 0) rfl)) (.cons pe_str .nil)))))), ?_⟩
    refine ⟨_, rfl, by decide +kernel, ?_⟩
    exact ⟨_, rfl, x, C, dx, _, _, rfl, hx, T.cl, T.nN, tf_name _ _ _ _ _, .inl ⟨v.name, rfl, Nat.le_trans hn (by decide), v.name, rfl, inText_len2 _ _ (by decide +kernel) hn, _, rfl, inText_len _ _ (by decide +kernel) hn, q⟩⟩
theorem ok_drepr {C f : Addr} {fd : FuncData} (F : Fun K "__repr__" "Door.__repr__" sDRepr f fd) (T : DoorC K mg C) : FnOk P w K mg base CX0 3 f fd ["self"] (spDRepr C) := by
  refine F.ok scDRepr (fun vs H Q E h => ?_) (fun cdv A outer s H vs Q E hr h => ?_)
  · obtain ⟨x, n, r, g, rfl, _⟩ := h
    rfl
  · obtain ⟨x, n, r, g, rfl, ⟨dx, hx⟩, hn, q⟩ := h
    refine ⟨_, (pss_one (ps_ret (pe_joined (.cons pe_str (.cons (pe_fmt (pe_fld (pv 0) rfl)) (.cons pe_str .nil)))))), ?_⟩
    refine ⟨_, rfl, by decide +kernel, ?_⟩
    exact ⟨_, rfl, x, C, dx, _, _, rfl, hx, T.cl, T.nN, df_name _ _ _, .inl ⟨n, rfl, Nat.le_trans hn (by decide), n, rfl, inText_len2 _ _ (by decide +kernel) hn, _, rfl, inText_len _ _ (by decide +kernel) hn, q⟩⟩
end
/-! members -/
inductive Mem
  | task (v : TaskV)
  | door (n : Str) (r g : Int)
def Mem.name : Mem → Str
  | .task v => v.name
  | .door n _ _ => n
def Mem.ok : Mem → Prop
  | .task v => v.ok
  | .door n r g => isNm n = true ∧ (1 ≤ r ∧ r ≤ 99) ∧ (1 ≤ g ∧ g ≤ 600)
theorem Mem.nm {m : Mem} (h : m.ok) : isNm m.name = true := by
  cases m with
  | task v => exact h.1
  | door n r g => exact h.1
def MemAt (K : PySem.W.Frag) (CT CD : Addr) (H : Hp) (x : Addr) : Mem → Prop
  | .task v => ∃ h, TaskAt K CT H x v h
  | .door n r g => DoorAt CD H x n r g
/-- members in a row: the things of a list or tuple -/
def Mems (K : PySem.W.Frag) (CT CD : Addr) (H : Hp) (vs : List V) (ms : List Mem) : Prop := vs.length = ms.length ∧ ∀ (i : Nat) v m, vs[i]? = some v → ms[i]? = some m → ∃ x, v = .ref x ∧ MemAt K CT CD H x m
def MemsAt (K : PySem.W.Frag) (CT CD : Addr) (H : Hp) (t : Addr) (ms : List Mem) : Prop := ∃ vs : List V, SqT K H t vs ∧ Mems K CT CD H vs ms
def crewF (t : Addr) : List (Str × V) := [("members", .ref t)]
def CrewAt (K : PySem.W.Frag) (CT CD CC : Addr) (H : Hp) (c : Addr) (ms : List Mem) : Prop := ∃ dx t, H c = some (.ins CC dx (crewF t)) ∧ MemsAt K CT CD H t ms
structure CrewOk (ms : List Mem) : Prop where
  len : ms.length ≤ 8
  nd : (ms.map Mem.name).Nodup
  all : ∀ m ∈ ms, m.ok
section
variable {K : PySem.W.Frag} {CT CD CC : Addr} {H H' : Hp} {x t c : Addr} {m : Mem} {ms : List Mem} {vs : List V}
theorem MemAt.kt (h : MemAt K CT CD H x m) (s : Kt H H') : MemAt K CT CD H' x m := by
  cases m with
  | task v => exact h.imp fun a q => q.kt s
  | door n r g => exact h.imp fun a q => s _ _ q (fun _ q => nomatch q)
theorem Mems.kt (h : Mems K CT CD H vs ms) (s : Kt H H') : Mems K CT CD H' vs ms := ⟨h.1, fun i v m e1 e2 => (h.2 i v m e1 e2).imp fun x q => ⟨q.1, q.2.kt s⟩⟩
theorem MemsAt.kt (h : MemsAt K CT CD H t ms) (s : Kt H H') : MemsAt K CT CD H' t ms := h.imp fun vs q => ⟨sqT_kt q.1 s, q.2.kt s⟩
theorem CrewAt.kt (h : CrewAt K CT CD CC H c ms) (s : Kt H H') : CrewAt K CT CD CC H' c ms := by
  obtain ⟨dx, t, e, q⟩ := h
  exact ⟨dx, t, s _ _ e (fun _ q => nomatch q), q.kt s⟩
theorem Mems.nil : Mems K CT CD H [] [] := ⟨rfl, fun i v m e _ => by simp at e⟩
theorem Mems.add (h : Mems K CT CD H vs ms) (q : MemAt K CT CD H x m) : Mems K CT CD H (vs ++ [.ref x]) (ms ++ [m]) := by
  refine ⟨by rw [List.length_append, List.length_append, h.1]; rfl, fun i v n e1 e2 => ?_⟩
  by_cases hi : i < vs.length
  · rw [List.getElem?_append_left hi] at e1
    rw [List.getElem?_append_left (h.1 ▸ hi)] at e2
    exact h.2 i v n e1 e2
  · rw [List.getElem?_append_right (by omega)] at e1
    rw [List.getElem?_append_right (by rw [← h.1]; omega), ← h.1] at e2
    have z : i - vs.length = 0 := by
      have := (List.getElem?_eq_some_iff.mp e1).1
      simp at this
      omega
    rw [z] at e1 e2
    cases e1
    cases e2
    exact ⟨x, rfl, q⟩
theorem Mems.at (h : Mems K CT CD H vs ms) {i : Nat} {v : V} (e : vs[i]? = some v) : ∃ (x : Addr) (m : Mem), v = .ref x ∧ ms[i]? = some m ∧ MemAt K CT CD H x m := by
  have hi : i < ms.length := by
    rw [← h.1]
    exact (List.getElem?_eq_some_iff.mp e).1
  have e2 : ms[i]? = some ms[i] := List.getElem?_eq_getElem hi
  obtain ⟨x, ex, q⟩ := h.2 i v _ e e2
  exact ⟨x, _, ex, e2, q⟩
end
end Du

set_option Elab.async false
set_option linter.all false
set_option maxRecDepth 100000
namespace Du
open PySem L2
/-- the classes of members -/
structure MemC (K : PySem.W.Frag) (mg : Str → Option Value) (CT CD : Addr) : Prop where
  T : TaskC K mg CT
  D : DoorC K mg CD
  aT : PySem.W.kitAny K (.ref CT) [.ref CT, .ref CD] = some true
  aD : PySem.W.kitAny K (.ref CD) [.ref CT, .ref CD] = some true
  oT : PySem.W.kitOne K (.ref CT) (.ref CT) = some true
  oD : PySem.W.kitOne K (.ref CD) (.ref CT) = some false
end Du

set_option Elab.async false
set_option linter.all false
set_option maxRecDepth 100000
namespace Du
open PySem L2
theorem at_some {xs : List V} {r : Int} (h0 : 0 ≤ r) (h1 : r < (xs.length : Int)) : ∃ v, atI xs r = some v ∧ v ∈ xs := by
  have hl : r.toNat < xs.length := by omega
  exact ⟨xs[r.toNat], at_of (j := r.toNat) (by omega) (List.getElem?_eq_getElem hl), List.getElem_mem hl⟩
theorem sqL_step {K : PySem.W.Frag} {p a : Addr} {H H' : Hp} {xs : List V} (s : Step p H H') (ha : a ≠ p) (h : H a = some (.lst xs)) : SqL K H' a xs := SqL.of (s.keep a _ ha h)
/-- a member's row -/
def RowAt (K : PySem.W.Frag) (H : Hp) (r : Addr) : Mem → Prop
  | .task v => ∃ t, H r = some (.tup [.str "task", .str v.name, .int v.cost, .int v.gap, .int v.due, .ref t]) ∧ HdsAt K H t v.holds
  | .door n rm g => H r = some (.tup [.str "door", .str n, .int rm, .int g])
def Rows (K : PySem.W.Frag) (H : Hp) (vs : List V) (ms : List Mem) : Prop := vs.length = ms.length ∧ ∀ (i : Nat) v m, vs[i]? = some v → ms[i]? = some m → ∃ r, v = .ref r ∧ RowAt K H r m
section
variable {K : PySem.W.Frag} {H H' : Hp} {r : Addr} {m : Mem} {ms : List Mem} {vs : List V}
theorem RowAt.kt (h : RowAt K H r m) (s : Kt H H') : RowAt K H' r m := by
  cases m with
  | task v => exact h.imp fun t q => ⟨s _ _ q.1 (fun _ q => nomatch q), q.2.kt s⟩
  | door n rm g => exact s _ _ h (fun _ q => nomatch q)
theorem Rows.kt (h : Rows K H vs ms) (s : Kt H H') : Rows K H' vs ms := ⟨h.1, fun i v m e1 e2 => (h.2 i v m e1 e2).imp fun x q => ⟨q.1, q.2.kt s⟩⟩
theorem Rows.nil : Rows K H [] [] := ⟨rfl, fun i v m e _ => by simp at e⟩
theorem Rows.append {ws : List V} {ns : List Mem} (h : Rows K H vs ms) (q : Rows K H ws ns) : Rows K H (vs ++ ws) (ms ++ ns) := by
  refine ⟨by rw [List.length_append, List.length_append, h.1, q.1], fun i v n e1 e2 => ?_⟩
  by_cases hi : i < vs.length
  · rw [List.getElem?_append_left hi] at e1
    rw [List.getElem?_append_left (h.1 ▸ hi)] at e2
    exact h.2 i v n e1 e2
  · rw [List.getElem?_append_right (by omega)] at e1
    rw [List.getElem?_append_right (by rw [← h.1]; omega), ← h.1] at e2
    exact q.2 _ v n e1 e2
theorem Rows.one (q : RowAt K H r m) : Rows K H [.ref r] [m] := ⟨rfl, fun i v n e1 e2 => by
  match i, e1, e2 with
  | 0, e1, e2 => cases e1; cases e2; exact ⟨r, rfl, q⟩
  | i + 1, e1, e2 => simp at e1⟩
theorem Rows.at (h : Rows K H vs ms) {i : Nat} {v : V} (e : vs[i]? = some v) : ∃ (r : Addr) (m : Mem), v = .ref r ∧ ms[i]? = some m ∧ RowAt K H r m := by
  have hi : i < ms.length := by
    rw [← h.1]
    exact (List.getElem?_eq_some_iff.mp e).1
  have e2 : ms[i]? = some ms[i] := List.getElem?_eq_getElem hi
  obtain ⟨x, ex, q⟩ := h.2 i v _ e e2
  exact ⟨x, _, ex, e2, q⟩
theorem Rows.sub {a b : Nat} (h : Rows K H vs ms) : Rows K H ((vs.drop a).take b) ((ms.drop a).take b) := by
  refine ⟨by rw [List.length_take, List.length_take, List.length_drop, List.length_drop, h.1], fun i v m e1 e2 => ?_⟩
  rw [List.getElem?_take] at e1 e2
  by_cases hi : i < b
  · rw [if_pos hi, List.getElem?_drop] at e1 e2
    exact h.2 _ v m e1 e2
  · rw [if_neg hi] at e1
    cases e1
end
end Du

set_option Elab.async false
set_option linter.all false
set_option maxRecDepth 100000
namespace Du
open PySem L2
abbrev sMember : Stmt := topS 27
structure MemM (P : Program) (w : World) (K : PySem.W.Frag) (mg : Str → Option Value) (base : Heap) (CT CD : Addr) : Prop where
  M : MemC K mg CT CD
  T : ∃ (e0 f : Addr) (fd : FuncData), FunI K e0 f fd ∧ Mk K CT f ∧ FnOk P w K mg base CX0 6 f fd pInit (spInit K CT) ∧ ∀ H : Hp, SqT K H e0 []
  D : ∃ (f : Addr) (fd : FuncData), Binds K fd pD [] ∧ Mk K CD f ∧ FnOk P w K mg base CX0 4 f fd pD (spDInit CD)
section
variable {P : Program} {w : World} {K : PySem.W.Frag} {mg : Str → Option Value} {base : Heap} {CT CD CC : Addr}
theorem scMember : FnScope ["_law_row"] ["_law_row"] (defScope sMember) := ⟨rfl, rfl, rfl, by decide +kernel, rfl, by decide +kernel, by decide +kernel⟩
def spMember (K : PySem.W.Frag) (CT CD : Addr) : Sp := fun vs H Q _ => ∃ (r : Addr) (m : Mem), vs = [.ref r] ∧ RowAt K H r m ∧ m.ok ∧ ∀ x H', Same H H' → H x = none → MemAt K CT CD H' x m → Q (.ref x) H'
theorem ok_member {f : Addr} {fd : FuncData} (F : Fun K "_law_member" "_law_member" sMember f fd) (MM : MemM P w K mg base CT CD) : FnOk P w K mg base CX0 8 f fd ["_law_row"] (spMember K CT CD) := by
  obtain ⟨M, ⟨e0, fj, fdj, FJ, MJ, GJ, hE⟩, ⟨fi, fdi, kd, MI, GI⟩⟩ := MM
  obtain ⟨mv2, kB⟩ := kb2 FJ
  refine F.ok scMember (fun vs H Q E h => ?_) (fun cdv A outer s H vs Q E hr h => ?_)
  · obtain ⟨r, m, rfl, _⟩ := h
    rfl
  · obtain ⟨r, m, rfl, hrow, hok, q⟩ := h
    have hr3 : Room 5 _ := hr.mono (by decide)
    refine ⟨_, (pss_cons (ps_if (pt_cmpR op_eq (pe_ix ix_tup (pv 0) pe_int (fun _ _ => rfl)) pe_str (nomark _)) (pss_one (ps_ret (pe_make MI GI hr3 (by rfl) M.D.mg kd .nil pass0 (pa_cons (pe_ix ix_tup (pv 0) pe_int (fun _ _ => rfl)) (pa_cons (pe_ix ix_tup (pv 0) pe_int (fun _ _ => rfl)) (pa_cons (pe_ix ix_tup (pv 0) pe_int (fun _ _ => rfl)) pa_nil)))))) pss_nil) (pss_one (ps_ret (pe_makeK MJ GJ hr (by rfl) M.T.mg kB pass0 (pa_cons (pe_ix ix_tup (pv 0) pe_int (fun _ _ => rfl)) (pa_cons (pe_ix ix_tup (pv 0) pe_int (fun _ _ => rfl)) (pa_cons (pe_ix ix_tup (pv 0) pe_int (fun _ _ => rfl)) pa_nil))) (pk_cons (pe_ix ix_tup (pv 0) pe_int (fun _ _ => rfl)) (pk_cons (pe_ix ix_tup (pv 0) pe_int (fun _ _ => rfl)) pk_nil)))))), ?_⟩
    cases m with
    | door n rm g =>
      have e : SqT K H r _ := SqT.of hrow
      obtain ⟨o1, o2, o3⟩ := hok
      refine ⟨_, rfl, r, _, _, _, rfl, rfl, e, at_of (j := 0) rfl rfl, rfl, _, rfl, ?_⟩
      rw [decide_eq_true rfl]
      refine iteT ⟨_, rfl, r, _, _, _, rfl, rfl, e, at_of (j := 1) rfl rfl, _, rfl, r, _, _, _, rfl, rfl, e, at_of (j := 2) rfl rfl, _, rfl, r, _, _, _, rfl, rfl, e, at_of (j := 3) rfl rfl, ?_⟩
      exact doorSp o1 o2 o3 fun x H' s nx hd => q x H' s nx hd
    | task v =>
      obtain ⟨t, er, hh⟩ := hrow
      have e : SqT K H r _ := SqT.of er
      refine ⟨_, rfl, r, _, _, _, rfl, rfl, e, at_of (j := 0) rfl rfl, rfl, _, rfl, ?_⟩
      have z : decide (V.str "task" = V.str "door") = false := by decide +kernel
      rw [z]
      refine iteF ⟨_, rfl, r, _, _, _, rfl, rfl, e, at_of (j := 1) rfl rfl, _, rfl, r, _, _, _, rfl, rfl, e, at_of (j := 2) rfl rfl, _, rfl, r, _, _, _, rfl, rfl, e, at_of (j := 3) rfl rfl, _, rfl, r, _, _, _, rfl, rfl, e, at_of (j := 4) rfl rfl, _, rfl, r, _, _, _, rfl, rfl, e, at_of (j := 5) rfl rfl, rfl, rfl, ?_⟩
      exact taskSp (od := some v.due) hh hok rfl fun x H' s nx hd => q x H' s nx ⟨t, hd⟩
end
end Du

set_option Elab.async false
set_option linter.all false
set_option maxRecDepth 100000
namespace Du
open PySem L2
def rowD : Mem → PyData
  | .task v => .tuple [.str "task", .str v.name, .int v.cost, .int v.gap, .int v.due, .tuple (v.holds.map hdD)]
  | .door n r g => .tuple [.str "door", .str n, .int r, .int g]
section
variable {P : Program} {w : World} {K : PySem.W.Frag} {mg : Str → Option Value} {base : Heap} {CT CD CC : Addr} {H H' : Hp}
theorem row_dp {r : Addr} {m : Mem} (h : RowAt K H r m) : Dp K H (.ref r) (rowD m) := by
  cases m with
  | task v =>
    obtain ⟨t, e, q⟩ := h
    exact .tup (SqT.of e) (.cons (.str _) (.cons (.str _) (.cons (.int _) (.cons (.int _) (.cons (.int _) (.cons (hds_dp q) .nil))))))
  | door n r g => exact .tup (SqT.of h) (.cons (.str _) (.cons (.str _) (.cons (.int _) (.cons (.int _) .nil))))
theorem rows_dp : ∀ {vs : List V} {ms : List Mem}, Rows K H vs ms → DpAll K H vs (ms.map rowD)
  | [], [], _ => .nil
  | v :: vs, m :: ms, h => by
    obtain ⟨r, rfl, q⟩ := h.2 0 v m rfl rfl
    exact .cons (row_dp q) (rows_dp ⟨Nat.succ.inj h.1, fun i a b e1 e2 => h.2 (i + 1) a b e1 e2⟩)
  | [], _ :: _, h => nomatch h.1
  | _ :: _, [], h => nomatch h.1
theorem hds_nm {v : TaskV} (h : v.ok) : ∀ g ∈ v.holds, isNm g.1 = true := fun g hg => by
  have z := h.2.2.2.2.1
  unfold areHds at z
  simp only [Bool.and_eq_true, List.all_eq_true] at z
  have := z.2.1 g hg
  unfold isHd at this
  rw [Bool.and_eq_true] at this
  exact this.1
theorem row_can {m : Mem} (h : m.ok) : PyData.canLay0 (rowD m) = true := by
  cases m with
  | task v =>
    have e : PyData.canLay0 (rowD (.task v)) = (PyData.strOk "task" && (PyData.strOk v.name && (true && (true && (true && (PyData.canLayAll0 (v.holds.map hdD) && true)))))) := rfl
    rw [e, nm_strOk h.1, hds_lay _ (hds_nm h)]
    decide +kernel
  | door n r g =>
    have e : PyData.canLay0 (rowD (.door n r g)) = (PyData.strOk "door" && (PyData.strOk n && (true && (true && true)))) := rfl
    rw [e, nm_strOk h.1]
    decide +kernel
theorem row_depth (m : Mem) : PyData.depth (rowD m) ≤ 3 := by
  cases m with
  | task v =>
    have := hds_depth v.holds
    simp only [rowD, PyData.depth, PyData.depthAll]
    omega
  | door n r g =>
    simp only [rowD, PyData.depth, PyData.depthAll]
    omega
theorem row_shaped {m : Mem} (h : m.ok) : SeqAt.shaped (rowD m) = true := by
  unfold SeqAt.shaped
  have := row_depth m
  rw [row_can h, decide_eq_true (show PyData.depth (rowD m) ≤ 64 by omega)]
  cases m <;> rfl
end
/-- two members alike -/
def alike : Mem → Mem → Bool
  | .task v, .task u => decide (v.name = u.name) && (decide (v.cost = u.cost) && (decide (v.gap = u.gap) && (decide (v.due = u.due) && decide (v.holds = u.holds))))
  | .door n r g, .door n' r' g' => decide (n = n') && (decide (r = r') && decide (g = g'))
  | _, _ => false
theorem alike_tt (v u : TaskV) : alike (.task v) (.task u) = (decide (v.name = u.name) && (decide (v.cost = u.cost) && (decide (v.gap = u.gap) && (decide (v.due = u.due) && decide (v.holds = u.holds))))) := rfl
theorem alike_dd (n : Str) (r g : Int) (n' : Str) (r' g' : Int) : alike (.door n r g) (.door n' r' g') = (decide (n = n') && (decide (r = r') && decide (g = g'))) := rfl
theorem eqv_hd (h g : Hold) : PyData.eqv (hdD h) (hdD g) = decide (h = g) := by
  obtain ⟨a, b, c⟩ := h
  obtain ⟨a', b', c'⟩ := g
  show ((a == a') && ((b == b') && ((c == c') && true))) = decide ((a, b, c) = (a', b', c'))
  by_cases h1 : a = a' <;> by_cases h2 : b = b' <;> by_cases h3 : c = c' <;> simp [h1, h2, h3]
theorem eqv_hds : ∀ hs gs : List Hold, PyData.eqvAll (hs.map hdD) (gs.map hdD) = decide (hs = gs)
  | [], [] => rfl
  | [], _ :: _ => rfl
  | _ :: _, [] => rfl
  | h :: hs, g :: gs => by
    show (PyData.eqv (hdD h) (hdD g) && PyData.eqvAll (hs.map hdD) (gs.map hdD)) = _
    rw [eqv_hd, eqv_hds hs gs]
    by_cases h1 : h = g <;> by_cases h2 : hs = gs <;> simp [h1, h2]
theorem eqv_row (m k : Mem) : PyData.eqv (rowD m) (rowD k) = alike m k := by
  cases m with
  | task v =>
    cases k with
    | task u =>
      show ((("task" : Str) == ("task" : Str)) && ((v.name == u.name) && ((v.cost == u.cost) && ((v.gap == u.gap) && ((v.due == u.due) && (PyData.eqvAll (v.holds.map hdD) (u.holds.map hdD) && true)))))) = _
      rw [eqv_hds]
      unfold alike
      by_cases h1 : v.name = u.name <;> by_cases h2 : v.cost = u.cost <;> by_cases h3 : v.gap = u.gap <;> by_cases h4 : v.due = u.due <;> simp [h1, h2, h3, h4]
    | door n r g => rfl
  | door n r g =>
    cases k with
    | task u => rfl
    | door n' r' g' =>
      show ((("door" : Str) == ("door" : Str)) && ((n == n') && ((r == r') && ((g == g') && true)))) = _
      unfold alike
      by_cases h1 : n = n' <;> by_cases h2 : r = r' <;> by_cases h3 : g = g' <;> simp [h1, h2, h3]
theorem alike_comm (m k : Mem) : alike m k = alike k m := by
  cases m <;> cases k <;> simp [alike, eq_comm]
theorem alike_refl (m : Mem) : alike m m = true := by
  cases m <;> simp [alike]
end Du

set_option Elab.async false
set_option linter.all false
set_option maxRecDepth 100000
set_option maxHeartbeats 1000000
namespace Du
open PySem L2 PyProof.Rows PySem.SeqAt
open AutoSeq1 (wpAny_loadPart')
section
variable {prog : Program} {w : World} {A : Around} {E : Value → Shared → Prop} {s : Shared} {K : PySem.W.Frag} {x C f : Addr} {ox : Obj} {od : Option Obj}
theorem sub_int : PySem.W.subIn K (.type "int") (.ref C) = some false := by
  have e : fastBuiltinMro "int" = some [.type "int", .type "object"] := by decide +kernel
  show (fastBuiltinMro "int").map (·.contains (.ref C)) = some false
  rw [e]; simp
theorem sub_bool : PySem.W.subIn K (.type "bool") (.ref C) = some false := by
  have e : fastBuiltinMro "bool" = some [.type "bool", .type "int", .type "object"] := by decide +kernel
  show (fastBuiltinMro "bool").map (·.contains (.ref C)) = some false
  rw [e]; simp
theorem sub_str : PySem.W.subIn K (.type "str") (.ref C) = some false := by
  have e : fastBuiltinMro "str" = some [.type "str", .type "object"] := by decide +kernel
  show (fastBuiltinMro "str").map (·.contains (.ref C)) = some false
  rw [e]; simp
theorem sub_tuple : PySem.W.subIn K (.type "tuple") (.ref C) = some false := by
  have e : fastBuiltinMro "tuple" = some [.type "tuple", .type "object"] := by decide +kernel
  show (fastBuiltinMro "tuple").map (·.contains (.ref C)) = some false
  rw [e]; simp
theorem sub_list : PySem.W.subIn K (.type "list") (.ref C) = some false := by
  have e : fastBuiltinMro "list" = some [.type "list", .type "object"] := by decide +kernel
  show (fastBuiltinMro "list").map (·.contains (.ref C)) = some false
  rw [e]; simp
theorem sub_dict : PySem.W.subIn K (.type "dict") (.ref C) = some false := by
  have e : fastBuiltinMro "dict" = some [.type "dict", .type "object"] := by decide +kernel
  show (fastBuiltinMro "dict").map (·.contains (.ref C)) = some false
  rw [e]; simp
theorem inst_no {M : Model} {T : String} {Q : Bool → Shared → Prop} (X : K.In s.heap) (I : PySem.W.InstAt s.heap x ox C od) (h : PySem.W.subIn K (.ref C) (.type T) = some false) (q : Q false s) : wpAny M A (isInstance (.ref x) (.type T)) Q E s := by
  unfold isInstance
  exact wpAny_bind (I.type.here ((PySem.W.looks_subIn X h).here q))
/-! what builtin things say of an own object: nothing -/
/-- a value of a builtin type that says nothing of the object at x -/
structure Dec (prog : Program) (w : World) (s : Shared) (x : Addr) (u : Value) (T : String) : Prop where
  ty : s.TypeIs u T
  one : ∀ op, oneThing? op u (.ref x) = none
  eq : ∀ (A : Around) (E : Value → Shared → Prop) (Q : Option Value → Shared → Prop), Q none s → wpAny (model prog w) A (tryCompare u (cmpInfo .Eq).2.1 (.ref x)) Q E s
  ne : ∀ (A : Around) (E : Value → Shared → Prop) (Q : Option Value → Shared → Prop), Q none s → wpAny (model prog w) A (tryCompare u (cmpInfo .NotEq).2.1 (.ref x)) Q E s
theorem none_eq0 {dx : Addr} {Q : Fin → Shared → Prop} (X : K.In s.heap) (J : PySem.W.InstAt s.heap x (PySem.W.instObj C dx) C od) (q : Q (.done (.ret .notImplemented)) s) : wpAny (model prog w) A (Builtin.«NoneType.__eq__» ⟨[.none, .ref x], []⟩) Q E s := by
  obtain ⟨hp, g, d, tk, os⟩ := s
  wp_walk
  exact q
theorem none_ne0 {dx : Addr} {Q : Fin → Shared → Prop} (X : K.In s.heap) (J : PySem.W.InstAt s.heap x (PySem.W.instObj C dx) C od) (q : Q (.done (.ret .notImplemented)) s) : wpAny (model prog w) A (Builtin.«NoneType.__ne__» ⟨[.none, .ref x], []⟩) Q E s := by
  obtain ⟨hp, g, d, tk, os⟩ := s
  wp_walk
  exact q
theorem dec_none {dx : Addr} (X : K.In s.heap) (J : PySem.W.InstAt s.heap x (PySem.W.instObj C dx) C od) : Dec prog w s x .none "NoneType" := by
  refine ⟨rfl, fun op => by cases op <;> rfl, fun A E Q q => ?_, fun A E Q q => ?_⟩
  · exact wpAny_tryCompare_declines (T := "NoneType") rfl F.slot_NoneType_eq (GQ.call_here F.slot_NoneType_eq rfl F.entry_NoneType_eq (F.args_NoneType_eq_2 _ _) (none_eq0 X J ⟨rfl, q⟩))
  · exact wpAny_tryCompare_declines (T := "NoneType") rfl F.slot_NoneType_ne (GQ.call_here F.slot_NoneType_ne rfl F.entry_NoneType_ne (F.args_NoneType_ne_2 _ _) (none_ne0 X J ⟨rfl, q⟩))
theorem int_eq0 {dx : Addr} {Q : Fin → Shared → Prop} (X : K.In s.heap) (J : PySem.W.InstAt s.heap x (PySem.W.instObj C dx) C od) (i : Int) (t : Tok) (q : Q (.done (.ret .notImplemented)) s) : wpAny (model prog w) A (Builtin.«int.__eq__» ⟨[(.int i t), .ref x], []⟩) Q E s := by
  obtain ⟨hp, g, d, tk, os⟩ := s
  wp_walk using wpAny_load J.at_
  exact q
theorem int_ne0 {dx : Addr} {Q : Fin → Shared → Prop} (X : K.In s.heap) (J : PySem.W.InstAt s.heap x (PySem.W.instObj C dx) C od) (i : Int) (t : Tok) (q : Q (.done (.ret .notImplemented)) s) : wpAny (model prog w) A (Builtin.«int.__ne__» ⟨[(.int i t), .ref x], []⟩) Q E s := by
  obtain ⟨hp, g, d, tk, os⟩ := s
  wp_walk using wpAny_load J.at_
  exact q
theorem dec_int {dx : Addr} (X : K.In s.heap) (J : PySem.W.InstAt s.heap x (PySem.W.instObj C dx) C od) (i : Int) (t : Tok) : Dec prog w s x (.int i t) "int" := by
  refine ⟨rfl, fun op => by cases op <;> rfl, fun A E Q q => ?_, fun A E Q q => ?_⟩
  · exact wpAny_tryCompare_declines (T := "int") rfl F.slot_int_eq (GQ.call_here F.slot_int_eq rfl F.entry_int_eq (F.args_int_eq_2 _ _) (int_eq0 X J i t ⟨rfl, q⟩))
  · exact wpAny_tryCompare_declines (T := "int") rfl F.slot_int_ne (GQ.call_here F.slot_int_ne rfl F.entry_int_ne (F.args_int_ne_2 _ _) (int_ne0 X J i t ⟨rfl, q⟩))
theorem bool_eq0 {dx : Addr} {Q : Fin → Shared → Prop} (X : K.In s.heap) (J : PySem.W.InstAt s.heap x (PySem.W.instObj C dx) C od) (b : Bool) (q : Q (.done (.ret .notImplemented)) s) : wpAny (model prog w) A (Builtin.«int.__eq__» ⟨[(.bool b), .ref x], []⟩) Q E s := by
  obtain ⟨hp, g, d, tk, os⟩ := s
  wp_walk using wpAny_load J.at_
  exact q
theorem bool_ne0 {dx : Addr} {Q : Fin → Shared → Prop} (X : K.In s.heap) (J : PySem.W.InstAt s.heap x (PySem.W.instObj C dx) C od) (b : Bool) (q : Q (.done (.ret .notImplemented)) s) : wpAny (model prog w) A (Builtin.«int.__ne__» ⟨[(.bool b), .ref x], []⟩) Q E s := by
  obtain ⟨hp, g, d, tk, os⟩ := s
  wp_walk using wpAny_load J.at_
  exact q
theorem dec_bool {dx : Addr} (X : K.In s.heap) (J : PySem.W.InstAt s.heap x (PySem.W.instObj C dx) C od) (b : Bool) : Dec prog w s x (.bool b) "bool" := by
  refine ⟨rfl, fun op => by cases op <;> rfl, fun A E Q q => ?_, fun A E Q q => ?_⟩
  · exact wpAny_tryCompare_declines (T := "bool") rfl F.slot_bool_eq (GQ.call_here F.slot_bool_eq rfl F.entry_int_eq (F.args_int_eq_2 _ _) (bool_eq0 X J b ⟨rfl, q⟩))
  · exact wpAny_tryCompare_declines (T := "bool") rfl F.slot_bool_ne (GQ.call_here F.slot_bool_ne rfl F.entry_int_ne (F.args_int_ne_2 _ _) (bool_ne0 X J b ⟨rfl, q⟩))
theorem str_eq0 {dx : Addr} {Q : Fin → Shared → Prop} (X : K.In s.heap) (J : PySem.W.InstAt s.heap x (PySem.W.instObj C dx) C od) (z : Str) (t : Tok) (q : Q (.done (.ret .notImplemented)) s) : wpAny (model prog w) A (Builtin.«str.__eq__» ⟨[(.str z t), .ref x], []⟩) Q E s := by
  obtain ⟨hp, g, d, tk, os⟩ := s
  wp_walk using wpAny_load J.at_
  exact q
theorem str_ne0 {dx : Addr} {Q : Fin → Shared → Prop} (X : K.In s.heap) (J : PySem.W.InstAt s.heap x (PySem.W.instObj C dx) C od) (z : Str) (t : Tok) (q : Q (.done (.ret .notImplemented)) s) : wpAny (model prog w) A (Builtin.«str.__ne__» ⟨[(.str z t), .ref x], []⟩) Q E s := by
  obtain ⟨hp, g, d, tk, os⟩ := s
  wp_walk using wpAny_load J.at_
  exact q
theorem dec_str {dx : Addr} (X : K.In s.heap) (J : PySem.W.InstAt s.heap x (PySem.W.instObj C dx) C od) (z : Str) (t : Tok) : Dec prog w s x (.str z t) "str" := by
  refine ⟨rfl, fun op => by cases op <;> rfl, fun A E Q q => ?_, fun A E Q q => ?_⟩
  · exact wpAny_tryCompare_declines (T := "str") rfl F.slot_str_eq (GQ.call_here F.slot_str_eq rfl F.entry_str_eq (F.args_str_eq_2 _ _) (str_eq0 X J z t ⟨rfl, q⟩))
  · exact wpAny_tryCompare_declines (T := "str") rfl F.slot_str_ne (GQ.call_here F.slot_str_ne rfl F.entry_str_ne (F.args_str_ne_2 _ _) (str_ne0 X J z t ⟨rfl, q⟩))
theorem tuple_eq0 {dx : Addr} {Q : Fin → Shared → Prop} (X : K.In s.heap) (J : PySem.W.InstAt s.heap x (PySem.W.instObj C dx) C od) (h : PySem.W.subIn K (.ref C) (.type "tuple") = some false) {l : Addr} (q : Q (.done (.ret .notImplemented)) s) : wpAny (model prog w) A (Builtin.«tuple.__eq__» ⟨[(.ref l), .ref x], []⟩) Q E s := by
  obtain ⟨hp, g, d, tk, os⟩ := s
  wp_walk using inst_no X J h
  exact q
theorem tuple_ne0 {dx : Addr} {Q : Fin → Shared → Prop} (X : K.In s.heap) (J : PySem.W.InstAt s.heap x (PySem.W.instObj C dx) C od) (h : PySem.W.subIn K (.ref C) (.type "tuple") = some false) {l : Addr} (q : Q (.done (.ret .notImplemented)) s) : wpAny (model prog w) A (Builtin.«tuple.__ne__» ⟨[(.ref l), .ref x], []⟩) Q E s := by
  obtain ⟨hp, g, d, tk, os⟩ := s
  wp_walk using inst_no X J h
  exact q
theorem dec_tuple {dx : Addr} (X : K.In s.heap) (J : PySem.W.InstAt s.heap x (PySem.W.instObj C dx) C od) (h : PySem.W.subIn K (.ref C) (.type "tuple") = some false) {l : Addr} (hT : s.TypeIs (.ref l) "tuple") : Dec prog w s x (.ref l) "tuple" := by
  refine ⟨hT, fun op => by cases op <;> rfl, fun A E Q q => ?_, fun A E Q q => ?_⟩
  · exact wpAny_tryCompare_declines (T := "tuple") hT F.slot_tuple_eq (GQ.call_here F.slot_tuple_eq hT F.entry_tuple_eq (F.args_tuple_eq_2 _ _) (tuple_eq0 X J h ⟨rfl, q⟩))
  · exact wpAny_tryCompare_declines (T := "tuple") hT F.slot_tuple_ne (GQ.call_here F.slot_tuple_ne hT F.entry_tuple_ne (F.args_tuple_ne_2 _ _) (tuple_ne0 X J h ⟨rfl, q⟩))
theorem list_eq0 {dx : Addr} {Q : Fin → Shared → Prop} (X : K.In s.heap) (J : PySem.W.InstAt s.heap x (PySem.W.instObj C dx) C od) (h : PySem.W.subIn K (.ref C) (.type "list") = some false) {l : Addr} (q : Q (.done (.ret .notImplemented)) s) : wpAny (model prog w) A (Builtin.«list.__eq__» ⟨[(.ref l), .ref x], []⟩) Q E s := by
  obtain ⟨hp, g, d, tk, os⟩ := s
  wp_walk using inst_no X J h
  exact q
theorem list_ne0 {dx : Addr} {Q : Fin → Shared → Prop} (X : K.In s.heap) (J : PySem.W.InstAt s.heap x (PySem.W.instObj C dx) C od) (h : PySem.W.subIn K (.ref C) (.type "list") = some false) {l : Addr} (q : Q (.done (.ret .notImplemented)) s) : wpAny (model prog w) A (Builtin.«list.__ne__» ⟨[(.ref l), .ref x], []⟩) Q E s := by
  obtain ⟨hp, g, d, tk, os⟩ := s
  wp_walk using inst_no X J h
  exact q
theorem dec_list {dx : Addr} (X : K.In s.heap) (J : PySem.W.InstAt s.heap x (PySem.W.instObj C dx) C od) (h : PySem.W.subIn K (.ref C) (.type "list") = some false) {l : Addr} (hT : s.TypeIs (.ref l) "list") : Dec prog w s x (.ref l) "list" := by
  refine ⟨hT, fun op => by cases op <;> rfl, fun A E Q q => ?_, fun A E Q q => ?_⟩
  · exact wpAny_tryCompare_declines (T := "list") hT F.slot_list_eq (GQ.call_here F.slot_list_eq hT F.entry_list_eq (F.args_list_eq_2 _ _) (list_eq0 X J h ⟨rfl, q⟩))
  · exact wpAny_tryCompare_declines (T := "list") hT F.slot_list_ne (GQ.call_here F.slot_list_ne hT F.entry_list_ne (F.args_list_ne_2 _ _) (list_ne0 X J h ⟨rfl, q⟩))
theorem dict_eq0 {dx : Addr} {Q : Fin → Shared → Prop} (X : K.In s.heap) (J : PySem.W.InstAt s.heap x (PySem.W.instObj C dx) C od) (h : PySem.W.subIn K (.ref C) (.type "dict") = some false) {l : Addr} (q : Q (.done (.ret .notImplemented)) s) : wpAny (model prog w) A (Builtin.«dict.__eq__» ⟨[(.ref l), .ref x], []⟩) Q E s := by
  obtain ⟨hp, g, d, tk, os⟩ := s
  wp_walk using inst_no X J h
  exact q
theorem dict_ne0 {dx : Addr} {Q : Fin → Shared → Prop} (X : K.In s.heap) (J : PySem.W.InstAt s.heap x (PySem.W.instObj C dx) C od) (h : PySem.W.subIn K (.ref C) (.type "dict") = some false) {l : Addr} (q : Q (.done (.ret .notImplemented)) s) : wpAny (model prog w) A (Builtin.«dict.__ne__» ⟨[(.ref l), .ref x], []⟩) Q E s := by
  obtain ⟨hp, g, d, tk, os⟩ := s
  wp_walk using inst_no X J h
  exact q
theorem dec_dict {dx : Addr} (X : K.In s.heap) (J : PySem.W.InstAt s.heap x (PySem.W.instObj C dx) C od) (h : PySem.W.subIn K (.ref C) (.type "dict") = some false) {l : Addr} (hT : s.TypeIs (.ref l) "dict") : Dec prog w s x (.ref l) "dict" := by
  refine ⟨hT, fun op => by cases op <;> rfl, fun A E Q q => ?_, fun A E Q q => ?_⟩
  · exact wpAny_tryCompare_declines (T := "dict") hT F.slot_dict_eq (GQ.call_here F.slot_dict_eq hT F.entry_dict_eq (F.args_dict_eq_2 _ _) (dict_eq0 X J h ⟨rfl, q⟩))
  · exact wpAny_tryCompare_declines (T := "dict") hT F.slot_dict_ne (GQ.call_here F.slot_dict_ne hT F.entry_dict_ne (F.args_dict_ne_2 _ _) (dict_ne0 X J h ⟨rfl, q⟩))
end
end Du

set_option Elab.async false
set_option linter.all false
set_option maxRecDepth 100000
set_option maxHeartbeats 1000000
namespace Du
open PySem L2 PyProof.Rows PySem.SeqAt
open AutoSeq1 (wpAny_loadPart')
open MeetsSeq
section
variable {prog : Program} {w : World} {A : Around} {E : Value → Shared → Prop} {s : Shared} {K : PySem.W.Frag} {x dx C f : Addr} {od : Option Obj} {u : Value}
/-! object's __ne__ over an own ==, whatever is beside it -/
theorem neU_body {Q : Fin → Shared → Prop} (hu : A.units < cLine) (X : K.In s.heap) (I : PySem.W.InstAt s.heap x (PySem.W.instObj C dx) C od) (hs : PySem.W.findIn K (.ref C) "__eq__" = some (some (.ref f))) (hf : PySem.W.isFn K (.ref f) = true)
    (h : wpAny (model prog w) A (call (.ref f) [.ref x, u]) (fun v s' => ∃ b, v = .bool b ∧ Q (.done (.ret (.bool (!b)))) s') E s) : wpAny (model prog w) A (Builtin.«object.__ne__» ⟨[.ref x, u], []⟩) Q E s := by
  unfold Builtin.«object.__ne__»
  refine wpAny_bind (m := slotArgs "__ne__" 1 _) (wpAny_pure (wpAny_bind (wpAny_cRoomFor hu ?_)))
  refine wpAny_bind (m := callSpecialIfBound? (.ref x) (Str.ofString "__eq__") [u]) (PySem.W.ifBound_K X I hs hf (wpAny_mono h (fun r s' hr => ?_) fun _ _ e => e))
  obtain ⟨b, rfl, hq⟩ := hr
  exact wpAny_bind (wpAny_truthy_bool (wpAny_pure hq))
theorem neU_try {Q : Option Value → Shared → Prop} (hu : A.units + 1 < cLine) (X : K.In s.heap) (I : PySem.W.InstAt s.heap x (PySem.W.instObj C dx) C od) (hn : PySem.W.findIn K (.ref C) "__ne__" = some (some (.builtin "object.__ne__")))
    (ho : PySem.W.subIn K (.ref C) (.type "object") = some true) (hs : PySem.W.findIn K (.ref C) "__eq__" = some (some (.ref f))) (hf : PySem.W.isFn K (.ref f) = true)
    (h : wpAny (model prog w) A.in1 (call (.ref f) [.ref x, u]) (fun v s' => ∃ b, v = .bool b ∧ Q (some (.bool (!b))) s') E s) : wpAny (model prog w) A (tryCompare (.ref x) (Str.ofString "__ne__") u) Q E s := by
  have S := F.cmp_object.ne
  have go : wpAny (model prog w) A (call (.builtin "object.__ne__") [.ref x, u]) (fun v s' => ∃ b, v = .bool b ∧ Q (some (.bool b)) s') E s := by
    refine wpAny_call (codeAny_call_builtin S.plain F.cmpEntry_ne (PySem.W.check_slot F.cmpKind_ne F.cmpSplit_ne (I.type.andThen (PySem.W.looks_subIn X ho)) (F.cmpArgs_ne _ _) ?_))
    exact neU_body hu X I hs hf (wpAny_mono h (fun v s' z => by obtain ⟨b, rfl, q⟩ := z; exact ⟨b, rfl, !b, rfl, q⟩) fun _ _ e => e)
  have fin : wpAny (model prog w) A (call (.builtin "object.__ne__") ([.ref x] ++ [u]) >>= fun v => pure (some v)) (fun r s' => ∃ b, r = some (Value.bool b) ∧ Q (some (.bool b)) s') E s :=
    wpAny_bind (wpAny_mono go (fun v s' z => by obtain ⟨b, rfl, q⟩ := z; exact wpAny_pure ⟨b, rfl, q⟩) fun _ _ e => e)
  unfold tryCompare
  refine wpAny_bind (m := callSpecialIfBound? (.ref x) (Str.ofString "__ne__") [u]) ?_
  have step : wpAny (model prog w) A (callSpecialIfBound? (.ref x) (Str.ofString "__ne__") [u]) (fun r s' => ∃ b, r = some (Value.bool b) ∧ Q (some (.bool b)) s') E s := by
    simp only [callSpecialIfBound?, bindSpecialIfBound?]
    refine wpAny_holding (wpAny_bind (wpAny_bind (wpAny_bind (I.type.here ((PySem.W.looks_findIn X hn).here (wpAny_bind (wpAny_askSetting (wpAny_ite ?_))))))))
    split
    · rw [S.bind]; exact wpAny_bind (wpAny_pure (wpAny_pure (by exact fin)))
    · rw [S.bind]; exact wpAny_tryCatch (wpAny_bind (wpAny_pure (wpAny_pure (by exact fin))))
  refine wpAny_mono step (fun r s' z => ?_) fun _ _ e => e
  obtain ⟨b, rfl, q⟩ := z
  exact wpAny_pure q
/-- x != y, x of an own class -/
theorem neU_rich {Q : Value → Shared → Prop} {tb : Value} (hu : A.units + 1 < cLine) (X : K.In s.heap) (I : PySem.W.InstAt s.heap x (PySem.W.instObj C dx) C od) (hy : PySem.W.Looks (model prog w) s.heap (typeOf u) tb) (hnf : PySem.W.notFirst K C tb = true) (hn : PySem.W.findIn K (.ref C) "__ne__" = some (some (.builtin "object.__ne__")))
    (ho : PySem.W.subIn K (.ref C) (.type "object") = some true) (hs : PySem.W.findIn K (.ref C) "__eq__" = some (some (.ref f))) (hf : PySem.W.isFn K (.ref f) = true)
    (h : wpAny (model prog w) A.in1 (call (.ref f) [.ref x, u]) (fun v s' => ∃ b, v = .bool b ∧ Q (.bool (!b)) s') E s) : wpAny (model prog w) A (richCompare .NotEq (.ref x) u) Q E s := by
  have one : wpAny (model prog w) A (tryCompare (.ref x) (Str.ofString "__ne__") u) (fun r s' => ∃ v, r = some v ∧ Q v s') E s :=
    neU_try hu X I hn ho hs hf (wpAny_mono h (fun v s' z => by obtain ⟨b, rfl, q⟩ := z; exact ⟨b, rfl, _, rfl, q⟩) fun _ _ e => e)
  unfold richCompare
  simp only [oneThing_ref, cmpInfo_NotEq]
  refine wpAny_holding (wpAny_bind (wpAny_cRoomFor (Nat.lt_of_succ_lt hu) (wpAny_bind (I.type.here (wpAny_bind (hy.here ?_))))))
  split
  · rename_i q
    have e : PySem.W.subIn K tb (.ref C) = some false := by
      rcases Bool.or_eq_true_iff.mp hnf with e | e
      · rw [beq_iff_eq.mp e] at q; simp at q
      · exact beq_iff_eq.mp e
    refine wpAny_bind ((PySem.W.looks_subIn X e).here ?_)
    simp only [Bool.false_eq_true, if_false]
    refine wpAny_bind (wpAny_mono one (fun r s' z => ?_) fun _ _ e => e)
    obtain ⟨v, rfl, q⟩ := z
    exact wpAny_pure q
  · refine wpAny_bind (wpAny_pure ?_)
    simp only [Bool.false_eq_true, if_false]
    refine wpAny_bind (wpAny_mono one (fun r s' z => ?_) fun _ _ e => e)
    obtain ⟨v, rfl, q⟩ := z
    exact wpAny_pure q
/-- y == x, y builtin, x of an own class -/
theorem rc_ownR {T : String} {Q : Value → Shared → Prop} (hu : A.units < cLine) (X : K.In s.heap) (I : PySem.W.InstAt s.heap x (PySem.W.instObj C dx) C od) (D : Dec prog w s x u T) (hT : PySem.W.subIn K (.ref C) (.type T) = some false)
    (hs : PySem.W.findIn K (.ref C) "__eq__" = some (some (.ref f))) (hf : PySem.W.isFn K (.ref f) = true)
    (h : wpAny (model prog w) A (call (.ref f) [.ref x, u]) (fun v s' => ∃ b, v = .bool b ∧ Q (.bool b) s') E s) : wpAny (model prog w) A (richCompare .Eq u (.ref x)) Q E s := by
  have two : wpAny (model prog w) A (tryCompare (.ref x) (Str.ofString "__eq__") u) (fun r s' => ∃ v, r = some v ∧ Q v s') E s := by
    unfold tryCompare
    refine wpAny_bind (PySem.W.ifBound_K X I hs hf (wpAny_mono h (fun v s' hv => ?_) fun _ _ e => e))
    obtain ⟨b, rfl, q⟩ := hv
    exact wpAny_pure ⟨_, rfl, q⟩
  unfold richCompare
  simp only [D.one, cmpInfo_Eq]
  refine wpAny_holding (wpAny_bind (wpAny_cRoomFor hu (wpAny_bind (wpAny_typeOf D.ty (wpAny_bind (I.type.here ?_))))))
  have e : (Value.type T != Value.ref C) = true := by simp
  simp only [e, if_true]
  refine wpAny_bind ((PySem.W.looks_subIn X hT).here ?_)
  simp only [Bool.false_eq_true, if_false, Bool.not_false, if_true]
  refine wpAny_bind (m := tryCompare u _ (.ref x)) (D.eq _ _ _ ?_)
  refine wpAny_bind (m := tryCompare (.ref x) _ u) (wpAny_mono two (fun r s1 z => ?_) fun _ _ e => e)
  obtain ⟨v, rfl, q⟩ := z
  exact wpAny_pure q
/-- y != x, y builtin, x of an own class -/
theorem ne_ownR {T : String} {Q : Value → Shared → Prop} (hu : A.units + 1 < cLine) (X : K.In s.heap) (I : PySem.W.InstAt s.heap x (PySem.W.instObj C dx) C od) (D : Dec prog w s x u T) (hT : PySem.W.subIn K (.ref C) (.type T) = some false)
    (hn : PySem.W.findIn K (.ref C) "__ne__" = some (some (.builtin "object.__ne__"))) (ho : PySem.W.subIn K (.ref C) (.type "object") = some true) (hs : PySem.W.findIn K (.ref C) "__eq__" = some (some (.ref f))) (hf : PySem.W.isFn K (.ref f) = true)
    (h : wpAny (model prog w) A.in1 (call (.ref f) [.ref x, u]) (fun v s' => ∃ b, v = .bool b ∧ Q (.bool (!b)) s') E s) : wpAny (model prog w) A (richCompare .NotEq u (.ref x)) Q E s := by
  have two : wpAny (model prog w) A (tryCompare (.ref x) (Str.ofString "__ne__") u) (fun r s' => ∃ v, r = some v ∧ Q v s') E s :=
    neU_try hu X I hn ho hs hf (wpAny_mono h (fun v s' z => by obtain ⟨b, rfl, q⟩ := z; exact ⟨b, rfl, _, rfl, q⟩) fun _ _ e => e)
  unfold richCompare
  simp only [D.one, cmpInfo_NotEq]
  refine wpAny_holding (wpAny_bind (wpAny_cRoomFor (Nat.lt_of_succ_lt hu) (wpAny_bind (wpAny_typeOf D.ty (wpAny_bind (I.type.here ?_))))))
  have e : (Value.type T != Value.ref C) = true := by simp
  simp only [e, if_true]
  refine wpAny_bind ((PySem.W.looks_subIn X hT).here ?_)
  simp only [Bool.false_eq_true, if_false, Bool.not_false, if_true]
  refine wpAny_bind (m := tryCompare u _ (.ref x)) (D.ne _ _ _ ?_)
  refine wpAny_bind (m := tryCompare (.ref x) _ u) (wpAny_mono two (fun r s1 z => ?_) fun _ _ e => e)
  obtain ⟨v, rfl, q⟩ := z
  exact wpAny_pure q
end
/-! on the abstract heap -/
/-- a class with an own == -/
structure OwnE (P : Program) (w : World) (K : PySem.W.Frag) (mg : Str → Option Value) (base : Heap) (k : Nat) (C : Addr) (sp : Sp) : Prop where
  ex : ∃ (f : Addr) (fd : FuncData) (ps : List Str), FnOk P w K mg base CX0 k f fd ps sp ∧ Binds K fd ps [] ∧ PySem.W.findIn K (.ref C) "__eq__" = some (some (.ref f)) ∧ PySem.W.isFn K (.ref f) = true
  ne : PySem.W.findIn K (.ref C) "__ne__" = some (some (.builtin "object.__ne__"))
  ob : PySem.W.subIn K (.ref C) (.type "object") = some true
  nN : PySem.W.subIn K (.ref C) (.type "NoneType") = some false
  nI : PySem.W.subIn K (.ref C) (.type "int") = some false
  nB : PySem.W.subIn K (.ref C) (.type "bool") = some false
  nS : PySem.W.subIn K (.ref C) (.type "str") = some false
  nT : PySem.W.subIn K (.ref C) (.type "tuple") = some false
  nL : PySem.W.subIn K (.ref C) (.type "list") = some false
  nD : PySem.W.subIn K (.ref C) (.type "dict") = some false
/-- what the own == says of the object at a and y: b -/
def EqSp (sp : Sp) (H0 : Hp) (a : Addr) (y : V) (b : Bool) : Prop := ∀ H, Same H0 H → ∀ Q : VK, (∀ H', Same H H' → Q (.bl b) H') → sp [.ref a, y] H Q E0
theorem EqSp.same {sp : Sp} {H H' : Hp} {a : Addr} {y : V} {b : Bool} (h : EqSp sp H a y b) (s : Same H H') : EqSp sp H' a y b := fun H2 s2 => h H2 (s.trans s2)
/-- a plain thing, by its type's name -/
inductive Pl (K : PySem.W.Frag) (H : Hp) : V → String → Prop
  | non : Pl K H .non "NoneType"
  | bl (b : Bool) : Pl K H (.bl b) "bool"
  | int (i : Int) : Pl K H (.int i) "int"
  | str (z : Str) : Pl K H (.str z) "str"
  | tup {a : Addr} {xs : List V} : SqT K H a xs → Pl K H (.ref a) "tuple"
  | lst {a : Addr} {xs : List V} : SqL K H a xs → Pl K H (.ref a) "list"
  | dic {a : Addr} {kvs : List (Key × V)} : H a = some (.dK kvs) → Pl K H (.ref a) "dict"
section
variable {X : Cx} {pins : List (Addr × Obj)} {σ : L2.St} {H H' : Hp} {s : Shared} {k n : Nat} {C a : Addr} {sp : Sp} {y : V} {T : String} {b : Bool}
theorem Pl.same {K : PySem.W.Frag} (p : Pl K H y T) (s : Same H H') : Pl K H' y T := by
  cases p with
  | non => exact .non
  | bl b => exact .bl b
  | int i => exact .int i
  | str z => exact .str z
  | tup h => exact .tup (h.ext s)
  | lst h => exact .lst (h.ext s)
  | dic h => exact .dic (s _ _ h)
theorem Pl.ty (I : Inv X pins σ H s) (p : Pl X.K H y T) {u : Value} (r : RelV y u) : s.TypeIs u T := by
  cases p with
  | non => cases r; rfl
  | bl b => cases r; rfl
  | int i => obtain ⟨t, rfl⟩ := r; rfl
  | str z => obtain ⟨t, rfl⟩ := r; rfl
  | tup h =>
    cases (show u = Value.ref _ from r)
    obtain ⟨its, _, ⟨o, ho, hc, _⟩, _⟩ := I.tuple h
    exact ⟨o, ho, hc⟩
  | lst h =>
    cases (show u = Value.ref _ from r)
    obtain ⟨its, _, ⟨o, n, ho, hc, _⟩, _⟩ := I.list h
    exact ⟨o, ho, hc⟩
  | dic h =>
    cases (show u = Value.ref _ from r)
    obtain ⟨_, _, vs, _, o, es, ep, ho, hx, _⟩ := dk_of I.hok h
    exact ⟨o, ho, hx.1⟩
theorem Pl.sub {K : PySem.W.Frag} (p : Pl K H y T) : PySem.W.subIn K (.type T) (.ref C) = some false := by
  cases p with
  | non => exact HN.sub_none
  | bl b => exact sub_bool
  | int i => exact sub_int
  | str z => exact sub_str
  | tup h => exact sub_tuple
  | lst h => exact sub_list
  | dic h => exact sub_dict
theorem Pl.nsub {P : Program} {w : World} {K : PySem.W.Frag} {mg : Str → Option Value} {base : Heap} (O : OwnE P w K mg base k C sp) (p : Pl K H y T) : PySem.W.subIn K (.ref C) (.type T) = some false := by
  cases p with
  | non => exact O.nN
  | bl b => exact O.nB
  | int i => exact O.nI
  | str z => exact O.nS
  | tup h => exact O.nT
  | lst h => exact O.nL
  | dic h => exact O.nD
theorem Pl.dec (O : OwnE X.prog X.w X.K X.mg X.base k C sp) (I : Inv X pins σ H s) (p : Pl X.K H y T) {u : Value} (r : RelV y u) {dx : Addr} {od : Option Obj} (J : PySem.W.InstAt s.heap a (PySem.W.instObj C dx) C od) : Dec X.prog X.w s a u T := by
  have t := p.ty I r
  cases p with
  | non => cases r; exact dec_none I.kIn J
  | bl b => cases r; exact dec_bool I.kIn J b
  | int i => obtain ⟨t1, rfl⟩ := r; exact dec_int I.kIn J i t1
  | str z => obtain ⟨t1, rfl⟩ := r; exact dec_str I.kIn J z t1
  | tup h => cases (show u = Value.ref _ from r); exact dec_tuple I.kIn J O.nT t
  | lst h => cases (show u = Value.ref _ from r); exact dec_list I.kIn J O.nL t
  | dic h => cases (show u = Value.ref _ from r); exact dec_dict I.kIn J O.nD t
/-- what may stand beside an object of the class C: a plain thing, or an object whose class does not go first -/
inductive Yt (K : PySem.W.Frag) (C : Addr) (H : Hp) : V → Prop
  | pl {y : V} {T : String} : Pl K H y T → Yt K C H y
  | own {c C' dx : Addr} {fs : List (Str × V)} : H c = some (.ins C' dx fs) → PySem.W.notFirst K C (.ref C') = true → Yt K C H (.ref c)
theorem Yt.same {K : PySem.W.Frag} (p : Yt K C H y) (s : Same H H') : Yt K C H' y := by
  cases p with
  | pl p => exact .pl (p.same s)
  | own e n => exact .own (s _ _ e) n
theorem looks_ty {M : Model} {u : Value} (t : s.TypeIs u T) : PySem.W.Looks M s.heap (typeOf u) (.type T) := by
  intro A Q E s' hk q
  refine wpAny_typeOf (T := T) ?_ q
  cases u <;> first | exact t | (obtain ⟨o, h1, h2⟩ := t; exact ⟨o, hk _ _ h1, h2⟩)
theorem Yt.looks (I : Inv X pins σ H s) (p : Yt X.K C H y) {u : Value} (r : RelV y u) : ∃ tb, PySem.W.Looks (model X.prog X.w) s.heap (typeOf u) tb ∧ PySem.W.notFirst X.K C tb = true := by
  cases p with
  | pl p => exact ⟨_, looks_ty (p.ty I r), by unfold PySem.W.notFirst; rw [p.sub]; simp⟩
  | own e n =>
    cases (show u = Value.ref _ from r)
    obtain ⟨mB, J', _⟩ := ins_get I.hok e
    obtain ⟨od', J', _⟩ := J'.look
    exact ⟨_, J'.type, n⟩
/-- x op y answers b, whatever stands around -/
def RcB (X : Cx) (n : Nat) (op : CmpOp) (H0 : Hp) (x y : V) (b : Bool) : Prop := ∀ (A : Around) (pins : List (Addr × Obj)) (s : Shared) (σ : L2.St) (H : Hp) (u v : Value), Sub X n A → Inv X pins σ H s → Same H0 H → RelV x u → RelV y v →
  wpAny (model X.prog X.w) A (richCompare op u v) (fun r s' => r = .bool b ∧ ∃ H', Inv X pins σ H' s' ∧ Same H H') X.xe s
def EqB (X : Cx) (n : Nat) (H0 : Hp) (x y : V) (b : Bool) : Prop := ∀ (A : Around) (pins : List (Addr × Obj)) (s : Shared) (σ : L2.St) (H : Hp) (u v : Value), Sub X n A → Inv X pins σ H s → Same H0 H → RelV x u → RelV y v →
  wpAny (model X.prog X.w) A (eqBool u v) (fun r s' => r = b ∧ ∃ H', Inv X pins σ H' s' ∧ Same H H') X.xe s
theorem RcB.same {op : CmpOp} {x : V} (h : RcB X n op H x y b) (s : Same H H') : RcB X n op H' x y b := fun A pins sh σ H2 u v sb I s2 => h A pins sh σ H2 u v sb I (s.trans s2)
theorem EqB.same {x : V} (h : EqB X n H x y b) (s : Same H H') : EqB X n H' x y b := fun A pins sh σ H2 u v sb I s2 => h A pins sh σ H2 u v sb I (s.trans s2)
theorem EqB.mono {m : Nat} {x : V} (h : EqB X n H x y b) (hn : n ≤ m) : EqB X m H x y b := fun A pins sh σ H2 u v sb => h A pins sh σ H2 u v (sb.mono hn)
theorem RcB.mono {m : Nat} {op : CmpOp} {x : V} (h : RcB X n op H x y b) (hn : n ≤ m) : RcB X m op H x y b := fun A pins sh σ H2 u v sb => h A pins sh σ H2 u v (sb.mono hn)
theorem EqSp.call {f : Addr} {fd : FuncData} {ps : List Str} (F : FnOk X.prog X.w X.K X.mg X.base CX0 k f fd ps sp) (hb : Binds X.K fd ps []) {A : Around} (sb : Sub X k A) (I : Inv X pins σ H s) {u : Value} (r : RelV y u) (e : EqSp sp H a y b) :
    wpAny (model X.prog X.w) A (call (.ref f) [.ref a, u]) (fun v s' => v = .bool b ∧ ∃ H', Inv X pins σ H' s' ∧ Same H H') X.xe s := by
  refine wpAny_mono (own_call F hb sb I (vs := [.ref a, y]) (us := [.ref a, u]) (Q := fun v H' => v = .bl b ∧ Same H H') (.cons rfl (.cons r .nil)) (e H (Same.refl _) _ fun H' s' => ⟨rfl, s'⟩)) (fun v s' z => ?_) fun _ _ e => e
  obtain ⟨z, H', I', rz, rfl, sm⟩ := z
  cases rz
  exact ⟨rfl, H', I', sm⟩
theorem rcb_own (O : OwnE X.prog X.w X.K X.mg X.base k C sp) {dx : Addr} {fs : List (Str × V)} (ha : H a = some (.ins C dx fs)) (hy : Yt X.K C H y) (e : EqSp sp H a y b) : RcB X k .Eq H (.ref a) y b := by
  intro A pins s σ H1 u v sb I s1 rx ry
  obtain ⟨f, fd, ps, F, hb, hs, hf⟩ := O.ex
  cases (show u = Value.ref _ from rx)
  obtain ⟨mA, J, _⟩ := ins_get I.hok (s1 _ _ ha)
  obtain ⟨od, J, _⟩ := J.look
  obtain ⟨tb, lk, nf⟩ := (hy.same s1).looks I ry
  obtain ⟨m, hF⟩ := I.fr
  refine PySem.W.cmp_K (op := .Eq) sb.room.units0 hF I.ok.mod.kin J lk nf hs hf (wpAny_mono ((e.same s1).call F hb sb I ry) (fun v s' z => ?_) fun _ _ e => e)
  obtain ⟨rfl, z⟩ := z
  exact ⟨rfl, z⟩
theorem rcb_ownNe (O : OwnE X.prog X.w X.K X.mg X.base k C sp) {dx : Addr} {fs : List (Str × V)} (ha : H a = some (.ins C dx fs)) (hy : Yt X.K C H y) (e : EqSp sp H a y b) : RcB X (k + 1) .NotEq H (.ref a) y (!b) := by
  intro A pins s σ H1 u v sb I s1 rx ry
  obtain ⟨f, fd, ps, F, hb, hs, hf⟩ := O.ex
  cases (show u = Value.ref _ from rx)
  obtain ⟨mA, J, _⟩ := ins_get I.hok (s1 _ _ ha)
  obtain ⟨od, J, _⟩ := J.look
  obtain ⟨tb, lk, nf⟩ := (hy.same s1).looks I ry
  have hu : A.units + 1 < cLine := by have := sb.room.un; omega
  refine neU_rich hu I.kIn J lk nf O.ne O.ob hs hf (wpAny_mono ((e.same s1).call F hb sb.in1 I ry) (fun v s' z => ?_) fun _ _ e => e)
  obtain ⟨rfl, z⟩ := z
  exact ⟨b, rfl, rfl, z⟩
theorem rcb_refl (O : OwnE X.prog X.w X.K X.mg X.base k C sp) {dx : Addr} {fs : List (Str × V)} (ha : H a = some (.ins C dx fs)) (hy : Pl X.K H y T) (e : EqSp sp H a y b) : RcB X k .Eq H y (.ref a) b := by
  intro A pins s σ H1 u v sb I s1 rx ry
  obtain ⟨f, fd, ps, F, hb, hs, hf⟩ := O.ex
  cases (show v = Value.ref _ from ry)
  obtain ⟨mA, J, _⟩ := ins_get I.hok (s1 _ _ ha)
  obtain ⟨od, J, _⟩ := J.look
  refine rc_ownR sb.room.units0 I.kIn J ((hy.same s1).dec O I rx J) (hy.nsub O) hs hf (wpAny_mono ((e.same s1).call F hb sb I rx) (fun v s' z => ?_) fun _ _ e => e)
  obtain ⟨rfl, z⟩ := z
  exact ⟨b, rfl, rfl, z⟩
theorem rcb_reflNe (O : OwnE X.prog X.w X.K X.mg X.base k C sp) {dx : Addr} {fs : List (Str × V)} (ha : H a = some (.ins C dx fs)) (hy : Pl X.K H y T) (e : EqSp sp H a y b) : RcB X (k + 1) .NotEq H y (.ref a) (!b) := by
  intro A pins s σ H1 u v sb I s1 rx ry
  obtain ⟨f, fd, ps, F, hb, hs, hf⟩ := O.ex
  cases (show v = Value.ref _ from ry)
  obtain ⟨mA, J, _⟩ := ins_get I.hok (s1 _ _ ha)
  obtain ⟨od, J, _⟩ := J.look
  have hu : A.units + 1 < cLine := by have := sb.room.un; omega
  refine ne_ownR hu I.kIn J ((hy.same s1).dec O I rx J) (hy.nsub O) O.ne O.ob hs hf (wpAny_mono ((e.same s1).call F hb sb.in1 I rx) (fun v s' z => ?_) fun _ _ e => e)
  obtain ⟨rfl, z⟩ := z
  exact ⟨b, rfl, rfl, z⟩
/-- == within lists and tuples: the same object is equal to itself -/
theorem RcB.eqB {x : V} (h : RcB X n .Eq H x y b) (hs : x = y → b = true) (hr : (∃ a, x = .ref a) ∨ ∃ a, y = .ref a) : EqB X n H x y b := by
  intro A pins s σ H1 u v sb I s1 rx ry
  have hne : (u == v) = true → x = y := fun e => by
    have e := eq_of_beq e
    subst e
    rcases hr with ⟨a, rfl⟩ | ⟨a, rfl⟩
    · cases (show u = Value.ref _ from rx)
      cases y <;> first | (obtain ⟨_, z⟩ := (show ∃ t, _ from ry); cases z; done) | (cases ry; done) | (cases (show Value.ref a = Value.ref _ from ry); rfl)
    · cases (show u = Value.ref _ from ry)
      cases x <;> first | (obtain ⟨_, z⟩ := (show ∃ t, _ from rx); cases z; done) | (cases rx; done) | (cases (show Value.ref a = Value.ref _ from rx); rfl)
  unfold eqBool
  refine wpAny_holding ?_
  refine wpAny_ite_split (fun hab => ?_) (fun _ => ?_)
  · exact wpAny_bind (wpAny_rule (wpAny_pure ⟨(hs (hne hab)).symm, H1, I, Same.refl _⟩))
  · have go : wpAny (model X.prog X.w) A (richCompare .Eq u v >>= fun r => truthOfDropped r) (fun r s' => r = b ∧ ∃ H', Inv X pins σ H' s' ∧ Same H1 H') X.xe s := by
      refine wpAny_bind (wpAny_mono (h A pins s σ H1 u v sb I s1 rx ry) (fun r s' z => ?_) fun _ _ e => e)
      obtain ⟨rfl, z⟩ := z
      exact wpAny_truthy_bool ⟨rfl, z⟩
    rcases hr with ⟨a, rfl⟩ | ⟨a, rfl⟩
    · cases (show u = Value.ref _ from rx)
      exact go
    · cases (show v = Value.ref _ from ry)
      cases u <;> exact go
/-- as expressions -/
theorem op_eqB (hr : Room n X.A) : OpR X (compareOp .Eq) (fun x y H Q => ∃ b, RcB X n .Eq H x y b ∧ ∀ H', Same H H' → Q (.bl b) H') := by
  intro pins s σ H x y v u Q I rx ry hq
  obtain ⟨b, d, q⟩ := hq
  show wpAny (model X.prog X.w) X.A (richCompare .Eq v u) (EP X pins σ Q) X.xe s
  refine wpAny_mono (d X.A pins s σ H v u ⟨hr, rfl⟩ I (Same.refl _) rx ry) (fun r s' z => ?_) fun _ _ x => x
  obtain ⟨rfl, H', I', e⟩ := z
  exact ⟨.bl b, H', I', rfl, q H' e⟩
theorem op_neB (hr : Room n X.A) : OpR X (compareOp .NotEq) (fun x y H Q => ∃ b, RcB X n .NotEq H x y b ∧ ∀ H', Same H H' → Q (.bl b) H') := by
  intro pins s σ H x y v u Q I rx ry hq
  obtain ⟨b, d, q⟩ := hq
  show wpAny (model X.prog X.w) X.A (richCompare .NotEq v u) (EP X pins σ Q) X.xe s
  refine wpAny_mono (d X.A pins s σ H v u ⟨hr, rfl⟩ I (Same.refl _) rx ry) (fun r s' z => ?_) fun _ _ x => x
  obtain ⟨rfl, H', I', e⟩ := z
  exact ⟨.bl b, H', I', rfl, q H' e⟩
end
end Du

set_option Elab.async false
set_option linter.all false
set_option maxRecDepth 100000
set_option maxHeartbeats 1000000
namespace Du
open PySem L2 PyProof.Rows PySem.SeqAt
open AutoSeq1 (wpAny_loadPart')
open MeetsSeq
/-! x in [..], by any == -/
section
variable {prog : Program} {w : World} {A : Around} {R : Result → Shared → Prop}
/-- the list is read anew at each turn: N items, the i-th of which is equal to x, or not, as bs says -/
def ListB (prog : Program) (w : World) (A : Around) (E : Value → Shared → Prop) (l : Addr) (x : Value) (N : Nat) (bs : Nat → Bool) (I : Shared → Prop) : Prop :=
  ∀ s, I s → ∃ (items : Array Value) (n : Nat) (dd : Option Addr) (sl : Array (Option Value)), s.heap.get? l = some { cls := .type "list", dict := dd, data := .seq items n, slots := sl } ∧ items.size = N ∧
    ∀ i (h1 : i < items.size), wpAny (model prog w) A.in1 (eqBool items[i] x) (fun r s' => r = bs i ∧ I s') E s
theorem contains_loopB (l : Addr) (x : Value) (N : Nat) (bs : Nat → Bool) (I : Shared → Prop) (hl : ListB prog w A (fun e s' => R (.error e) s') l x N bs I) (k : Nat) :
    ∀ i : Nat, N - i = k → i ≤ N → ∀ s, I s → (∀ s', I s' → R (.ok (.ret (.bool ((List.range' i (N - i)).any bs)))) s') →
      wpAny (model prog w) A.in1 (Builtin.«list.__contains__.loop» ⟨[.ref l, x, rawInt i], []⟩) (GQ.FinOf prog w A R) (fun e s' => R (.error e) s') s := by
  induction k with
  | zero =>
    intro i hk hi s h q
    obtain ⟨items, n, dd, sl, hl1, hN, _⟩ := hl s h
    have q1 := q s h
    have e0 : N - i = 0 := hk
    rw [e0] at q1
    obtain ⟨hp, g, d, tk, os⟩ := s
    wp_walk using wpAny_loadPart' hl1
    have hi1 : items[((i : Nat) : Int).toNat]? = none := by simp; omega
    rw [hi1]
    wp_walk
    exact q1
  | succ k ih =>
    intro i hk hi s h q
    obtain ⟨items, n, dd, sl, hl1, hN, turn⟩ := hl s h
    have hlt : i < items.size := by omega
    have ht := turn i hlt
    obtain ⟨hp, g, d, tk, os⟩ := s
    wp_walk using wpAny_loadPart' hl1
    have hi1 : items[((i : Nat) : Int).toNat]? = some items[i] := by simp [hlt]
    have hc : ((i : Int) + 1) = ((i + 1 : Nat) : Int) := by omega
    have er : List.range' i (N - i) = i :: List.range' (i + 1) (N - (i + 1)) := by
      have e : N - i = (N - (i + 1)) + 1 := by omega
      rw [e, List.range'_succ]
    rw [hi1]
    refine wpAny_bind (wpAny_mono ht (fun r s2 h2 => ?_) fun _ _ x => x)
    obtain ⟨hr, h2⟩ := h2
    subst hr
    cases hb : bs i with
    | true =>
      have q1 := q s2 h2
      rw [er, List.any_cons, hb] at q1
      obtain ⟨hp2, g2, d2, tk2, os2⟩ := s2
      wp_walk
      exact q1
    | false =>
      have hrec := ih (i + 1) (by omega) (by omega) s2 h2 fun s' h' => by
        have q1 := q s' h'
        rw [er, List.any_cons, hb] at q1
        exact q1
      obtain ⟨hp2, g2, d2, tk2, os2⟩ := s2
      wp_walk
      rw [hc]
      exact ⟨plainId_quiet plain_contains_loop _, codeAny_builtin entry_contains_loop (by
        rw [Around.under_plainId plain_contains_loop _]
        exact hrec)⟩
theorem list_containsB (l : Addr) (x : Value) (N : Nat) (bs : Nat → Bool) (I : Shared → Prop) (hl : ListB prog w A (fun e s' => R (.error e) s') l x N bs I)
    {s : Shared} (h : I s) (q : ∀ s', I s' → R (.ok (.ret (.bool ((List.range N).any bs)))) s') :
    wpAny (model prog w) A.in1 (Builtin.«list.__contains__» ⟨[.ref l, x], []⟩) (GQ.FinOf prog w A R) (fun e s' => R (.error e) s') s := by
  have hrec := contains_loopB (A := A) (R := R) l x N bs I hl _ 0 rfl (Nat.zero_le _) s h fun s' h' => by
    have q1 := q s' h'
    rw [List.range_eq_range'] at q1
    simpa using q1
  obtain ⟨hp, g, d, tk, os⟩ := s
  wp_walk
  exact ⟨plainId_quiet plain_contains_loop _, codeAny_builtin entry_contains_loop (by
    rw [Around.under_plainId plain_contains_loop _]
    exact hrec)⟩
end
theorem any_range : ∀ (bs : List Bool), (List.range bs.length).any (fun i => bs.getD i false) = bs.any id := by
  intro bs
  have e : bs = (List.range bs.length).map (fun i => bs.getD i false) := by
    apply List.ext_getElem?
    intro i
    rw [List.getElem?_map]
    by_cases h : i < bs.length
    · rw [List.getElem?_range h, List.getElem?_eq_getElem h]
      simp [List.getElem?_eq_getElem h]
    · rw [List.getElem?_eq_none (by omega), List.getElem?_eq_none (by simp; omega)]
      rfl
  conv => rhs; rw [e]
  rw [List.any_map]
  rfl
section
variable {X : Cx} {n : Nat}
/-- item by item against x: bs -/
def InB (X : Cx) (n : Nat) (H : Hp) (zs : List V) (x : V) (bs : List Bool) : Prop := zs.length = bs.length ∧ ∀ (i : Nat) z b, zs[i]? = some z → bs[i]? = some b → EqB X n H z x b
theorem InB.nil {H : Hp} {x : V} : InB X n H [] x [] := ⟨rfl, fun i z b e _ => by simp at e⟩
theorem InB.cons {H : Hp} {x z : V} {zs : List V} {b : Bool} {bs : List Bool} (h : EqB X n H z x b) (t : InB X n H zs x bs) : InB X n H (z :: zs) x (b :: bs) := by
  refine ⟨by rw [List.length_cons, List.length_cons, t.1], fun i a c h1 h2 => ?_⟩
  cases i with
  | zero =>
    simp at h1 h2
    subst h1; subst h2
    exact h
  | succ i =>
    simp at h1 h2
    exact t.2 i a c h1 h2
theorem inB_call {A : Around} (sb : Sub X (n + 1) A) {pins : List (Addr × Obj)} {σ : L2.St} {H : Hp} {s : Shared} {p : Addr} {zs : List V} {x : V} {u : Value} {bs : List Bool} (I : Inv X pins σ H s) (hp : H p = some (.lst zs)) (rx : RelV x u) (hb : InB X n H zs x bs) {Q : Bool → Shared → Prop}
    (q : ∀ s' H', Inv X pins σ H' s' → Same H H' → Q (bs.any id) s') : wpAny (model X.prog X.w) A (contains (.ref p) u) Q X.xe s := by
  obtain ⟨_, its0, k0, r0, e0⟩ := I.hok p _ hp
  have hT : s.TypeIs (.ref p) "list" := ⟨_, e0, rfl⟩
  refine wpAny_contains_slot hT F.slot_list_contains (GQ.call_here F.slot_list_contains hT F.entry_list_contains (F.args_list_contains_2 _ _) ?_)
  refine list_containsB p u bs.length (fun i => bs.getD i false) (fun s' => ∃ H', Inv X pins σ H' s' ∧ Same H H') (fun s' h => ?_) ⟨H, I, Same.refl _⟩ fun s' h => ?_
  · obtain ⟨H1, I1, s1⟩ := h
    obtain ⟨_, its, k, r, e⟩ := I1.hok p _ (s1 _ _ hp)
    have hz : its.length = bs.length := by rw [← r.length, hb.1]
    refine ⟨its.toArray, _, _, _, e, by rw [List.size_toArray, hz], fun i h1 => ?_⟩
    have h1' : i < its.length := by simpa using h1
    have k1 : i < zs.length := by rw [r.length]; exact h1'
    obtain ⟨v, hv, rv⟩ := r.get (List.getElem?_eq_getElem k1)
    have g1 : its.toArray[i] = v := by
      rw [List.getElem?_eq_getElem h1'] at hv
      simpa using Option.some.inj hv
    rw [g1]
    have k2 : i < bs.length := by omega
    have eb : bs[i]? = some (bs.getD i false) := by
      rw [List.getElem?_eq_getElem k2, List.getD_eq_getElem?_getD, List.getElem?_eq_getElem k2]
      rfl
    refine wpAny_mono ((hb.2 i _ _ (List.getElem?_eq_getElem k1) eb).same s1 A.in1 pins s' σ H1 v u sb.in1 I1 (Same.refl _) rv rx) (fun r' s2 z => ?_) fun _ _ x => x
    obtain ⟨hr, H2, I2, s2'⟩ := z
    exact ⟨hr, H2, I2, s1.trans s2'⟩
  · obtain ⟨H1, I1, s1⟩ := h
    refine wpAny_truthy_bool ?_
    rw [any_range]
    exact q s' H1 I1 s1
theorem op_inB (hr : Room (n + 1) X.A) : OpR X (compareOp .In) (fun x y H Q => ∃ (p : Addr) (zs : List V) (bs : List Bool), y = .ref p ∧ H p = some (.lst zs) ∧ InB X n H zs x bs ∧ ∀ H', Same H H' → Q (.bl (bs.any id)) H') := by
  intro pins s σ H x y v u Q I rx ry hq
  obtain ⟨p, zs, bs, rfl, hp, hb, q⟩ := hq
  cases (show u = Value.ref _ from ry)
  show wpAny _ X.A (do return Value.bool (← contains (.ref p) v) : Sem Value) _ _ s
  exact wpAny_bind (inB_call ⟨hr, rfl⟩ I hp rx hb fun s' H' I' s1 => wpAny_pure ⟨.bl _, H', I', rfl, q H' s1⟩)
theorem op_notInB (hr : Room (n + 1) X.A) : OpR X (compareOp .NotIn) (fun x y H Q => ∃ (p : Addr) (zs : List V) (bs : List Bool), y = .ref p ∧ H p = some (.lst zs) ∧ InB X n H zs x bs ∧ ∀ H', Same H H' → Q (.bl (!bs.any id)) H') := by
  intro pins s σ H x y v u Q I rx ry hq
  obtain ⟨p, zs, bs, rfl, hp, hb, q⟩ := hq
  cases (show u = Value.ref _ from ry)
  show wpAny _ X.A (do return Value.bool (!(← contains (.ref p) v)) : Sem Value) _ _ s
  exact wpAny_bind (inB_call ⟨hr, rfl⟩ I hp rx hb fun s' H' I' s1 => wpAny_pure ⟨.bl _, H', I', rfl, q H' s1⟩)
end
end Du

set_option Elab.async false
set_option linter.all false
set_option maxRecDepth 100000
set_option maxHeartbeats 1000000
namespace Du
open PySem L2 PyProof.Rows
/-- x == y answers b: one of them is of an own class -/
inductive EqR (P : Program) (w : World) (K : PySem.W.Frag) (mg : Str → Option Value) (base : Heap) (n : Nat) (H : Hp) : V → V → Bool → Prop
  | ownL {C a dx : Addr} {k : Nat} {sp : Sp} {fs : List (Str × V)} {y : V} {b : Bool} : OwnE P w K mg base k C sp → k ≤ n → H a = some (.ins C dx fs) → Yt K C H y → EqSp sp H a y b → EqR P w K mg base n H (.ref a) y b
  | ownR {C a dx : Addr} {k : Nat} {sp : Sp} {fs : List (Str × V)} {y : V} {T : String} {b : Bool} : OwnE P w K mg base k C sp → k ≤ n → H a = some (.ins C dx fs) → Pl K H y T → EqSp sp H a y b → EqR P w K mg base n H y (.ref a) b
section
variable {P : Program} {w : World} {K : PySem.W.Frag} {mg : Str → Option Value} {base : Heap} {n : Nat} {H H' : Hp} {x y : V} {b : Bool}
theorem EqR.same (h : EqR P w K mg base n H x y b) (s : Same H H') : EqR P w K mg base n H' x y b := by
  cases h with
  | ownL O hk ha hy e => exact .ownL O hk (s _ _ ha) (hy.same s) (e.same s)
  | ownR O hk ha hy e => exact .ownR O hk (s _ _ ha) (hy.same s) (e.same s)
theorem EqR.refs (h : EqR P w K mg base n H x y b) : (∃ a, x = .ref a) ∨ ∃ a, y = .ref a := by
  cases h with
  | ownL O hk ha hy e => exact .inl ⟨_, rfl⟩
  | ownR O hk ha hy e => exact .inr ⟨_, rfl⟩
end
section
variable {X : Cx} {n : Nat} {H : Hp} {x y : V} {b : Bool}
theorem EqR.rc (h : EqR X.prog X.w X.K X.mg X.base n H x y b) : RcB X n .Eq H x y b := by
  cases h with
  | ownL O hk ha hy e => exact (rcb_own O ha hy e).mono hk
  | ownR O hk ha hy e => exact (rcb_refl O ha hy e).mono hk
theorem EqR.ne (h : EqR X.prog X.w X.K X.mg X.base n H x y b) : RcB X (n + 1) .NotEq H x y (!b) := by
  cases h with
  | ownL O hk ha hy e => exact (rcb_ownNe O ha hy e).mono (Nat.succ_le_succ hk)
  | ownR O hk ha hy e => exact (rcb_reflNe O ha hy e).mono (Nat.succ_le_succ hk)
end
def rEqR (P : Program) (w : World) (K : PySem.W.Frag) (mg : Str → Option Value) (base : Heap) (n : Nat) : R2 := fun x y H Q => ∃ b, EqR P w K mg base n H x y b ∧ ∀ H', Same H H' → Q (.bl b) H'
def rNeR (P : Program) (w : World) (K : PySem.W.Frag) (mg : Str → Option Value) (base : Heap) (n : Nat) : R2 := fun x y H Q => ∃ b, EqR P w K mg base n H x y b ∧ ∀ H', Same H H' → Q (.bl (!b)) H'
/-- x against each of zs -/
inductive InR (P : Program) (w : World) (K : PySem.W.Frag) (mg : Str → Option Value) (base : Heap) (n : Nat) (H : Hp) (x : V) : List V → List Bool → Prop
  | nil : InR P w K mg base n H x [] []
  | cons {z : V} {zs : List V} {b : Bool} {bs : List Bool} : EqR P w K mg base n H z x b → (z = x → b = true) → InR P w K mg base n H x zs bs → InR P w K mg base n H x (z :: zs) (b :: bs)
def rInR (P : Program) (w : World) (K : PySem.W.Frag) (mg : Str → Option Value) (base : Heap) (n : Nat) (neg : Bool) : R2 := fun x y H Q => ∃ (p : Addr) (zs : List V) (bs : List Bool), y = .ref p ∧ H p = some (.lst zs) ∧ InR P w K mg base n H x zs bs ∧ ∀ H', Same H H' → Q (.bl (if neg then !bs.any id else bs.any id)) H'
section
variable {X : Cx} {n : Nat}
theorem op_eqR (hr : Room n X.A) : OpR X (compareOp .Eq) (rEqR X.prog X.w X.K X.mg X.base n) := fun pins s σ H x y v u Q I rx ry hq => by
  obtain ⟨b, e, q⟩ := hq
  exact op_eqB hr pins s σ H x y v u Q I rx ry ⟨b, e.rc, q⟩
theorem op_neR (hr : Room (n + 1) X.A) : OpR X (compareOp .NotEq) (rNeR X.prog X.w X.K X.mg X.base n) := fun pins s σ H x y v u Q I rx ry hq => by
  obtain ⟨b, e, q⟩ := hq
  exact op_neB hr pins s σ H x y v u Q I rx ry ⟨!b, e.ne, q⟩
theorem InR.inB {H : Hp} {x : V} {zs : List V} {bs : List Bool} (h : InR X.prog X.w X.K X.mg X.base n H x zs bs) : InB X n H zs x bs := by
  induction h with
  | nil => exact .nil
  | cons e hs _ ih => exact .cons (e.rc.eqB hs e.refs) ih
theorem op_inR (hr : Room (n + 1) X.A) : OpR X (compareOp .In) (rInR X.prog X.w X.K X.mg X.base n false) := fun pins s σ H x y v u Q I rx ry hq => by
  obtain ⟨p, zs, bs, e1, e2, h, q⟩ := hq
  exact op_inB hr pins s σ H x y v u Q I rx ry ⟨p, zs, bs, e1, e2, h.inB, q⟩
theorem op_notInR (hr : Room (n + 1) X.A) : OpR X (compareOp .NotIn) (rInR X.prog X.w X.K X.mg X.base n true) := fun pins s σ H x y v u Q I rx ry hq => by
  obtain ⟨p, zs, bs, e1, e2, h, q⟩ := hq
  exact op_notInB hr pins s σ H x y v u Q I rx ry ⟨p, zs, bs, e1, e2, h.inB, q⟩
end
end Du

set_option Elab.async false
set_option linter.all false
set_option maxRecDepth 100000
namespace Du
open PySem L2
abbrev sTEq : Stmt := inClass (topS 19) 2
abbrev sDEq : Stmt := inClass (topS 20) 1
abbrev sDLen : Stmt := inClass (topS 20) 2
theorem kit_plain {K : PySem.W.Frag} {C : Addr} {T : String} (h1 : PySem.W.hasDictIn K C = true) (h2 : PySem.W.typeIn K (.ref C) = some (.type "type")) (h : PySem.W.subIn K (.type T) (.ref C) = some false) : PySem.W.kitOne K (.type T) (.ref C) = some false := by
  obtain ⟨cd, hc, _⟩ := PySem.W.any_some h1
  unfold PySem.W.kitOne
  rw [if_neg (by simp)]
  unfold PySem.W.kitCls
  show (if ((PySem.W.clsIn K C).isSome && PySem.W.typeIn K (.ref C) == some (.type "type")) = true then PySem.W.subIn K (.type T) (.ref C) else none) = some false
  rw [hc, h2, h]
  rfl
theorem Pl.tyx {K : PySem.W.Frag} {H : Hp} {y : V} {T : String} (p : Pl K H y T) : TyX K H y (.type T) := by
  cases p with
  | non => exact .base .non
  | bl b => exact .base (.bl b)
  | int i => exact .base (.int i)
  | str z => exact .base (.str z)
  | tup h => exact tyx_tup h
  | lst h =>
    rcases h with (h | ⟨o, h⟩) | ⟨o, its, n, hk, hc, _⟩
    · exact .base (.lst h)
    · exact .base (.frz h)
    · exact .kList hk hc
  | dic h => exact .base (.dK h)
/-- both classes -/
structure MemE (K : PySem.W.Frag) (mg : Str → Option Value) (CT CD : Addr) : Prop where
  T : TaskC K mg CT
  D : DoorC K mg CD
  TD : PySem.W.kitOne K (.ref CT) (.ref CD) = some false
  DT : PySem.W.kitOne K (.ref CD) (.ref CT) = some false
  TT : PySem.W.kitOne K (.ref CT) (.ref CT) = some true
  DD : PySem.W.kitOne K (.ref CD) (.ref CD) = some true
/-- beside a member: a member, or a thing that is of neither class -/
def Beside (K : PySem.W.Frag) (CT CD : Addr) (H : Hp) (m : Mem) (y : V) (b : Bool) : Prop :=
  (∃ (c : Addr) (k : Mem), y = .ref c ∧ MemAt K CT CD H c k ∧ k.ok ∧ b = alike m k) ∨ (∃ t, TyX K H y t ∧ PySem.W.kitOne K t (.ref CT) = some false ∧ PySem.W.kitOne K t (.ref CD) = some false ∧ b = false)
def spEqM (K : PySem.W.Frag) (CT CD : Addr) : Sp := fun vs H Q _ => ∃ (a : Addr) (m : Mem) (y : V) (b : Bool), vs = [.ref a, y] ∧ MemAt K CT CD H a m ∧ m.ok ∧ Beside K CT CD H m y b ∧ Q (.bl b) H
def isTask : Mem → Bool
  | .task _ => true
  | .door _ _ _ => false
section
variable {P : Program} {w : World} {K : PySem.W.Frag} {mg : Str → Option Value} {base : Heap} {CT CD : Addr}
theorem decS (a b : Str) : decide (V.str a = V.str b) = decide (a = b) := by
  by_cases h : a = b
  · rw [decide_eq_true h, h]; exact decide_eq_true rfl
  · rw [decide_eq_false h]; exact decide_eq_false fun e => h (V.str.inj e)
theorem decI (a b : Int) : decide (V.int a = V.int b) = decide (a = b) := by
  by_cases h : a = b
  · rw [decide_eq_true h, h]; exact decide_eq_true rfl
  · rw [decide_eq_false h]; exact decide_eq_false fun e => h (V.int.inj e)
theorem scTEq : FnScope ["self", "other"] ["self", "other"] (defScope sTEq) := ⟨rfl, rfl, rfl, by decide +kernel, rfl, by decide +kernel, by decide +kernel⟩
def spTEq (K : PySem.W.Frag) (CT CD : Addr) : Sp := fun vs H Q _ => ∃ (a : Addr) (v : TaskV) (y : V) (b : Bool), vs = [.ref a, y] ∧ MemAt K CT CD H a (.task v) ∧ v.ok ∧ Beside K CT CD H (.task v) y b ∧ Q (.bl b) H
theorem ok_teq {f : Addr} {fd : FuncData} (F : Fun K "__eq__" "Task.__eq__" sTEq f fd) (M : MemE K mg CT CD) (mI : mg "isinstance" = none) : FnOk P w K mg base CX0 3 f fd ["self", "other"] (spTEq K CT CD) := by
  have T := M.T
  refine F.ok scTEq (fun vs H Q E h => ?_) (fun cdv A outer s H vs Q E hr h => ?_)
  · obtain ⟨a, v, y, b, rfl, _⟩ := h
    rfl
  · obtain ⟨a, v, y, b, rfl, ⟨ha, ⟨⟨da, e1⟩, q1⟩⟩, hok, hy, k⟩ := h
    have hnm := hds_nm hok
    refine ⟨_, (pss_one (ps_ret (pe_and (pe_callB call_isi (by rfl) mI (by decide +kernel) (pa_cons (pv 1) (pa_cons (pe_glob (v := .ref CT) rfl T.mg rfl) pa_nil)))
      (pe_and (pe_cmpR op_eq (pe_fld (pv 0) rfl) (pe_fld (pv 1) rfl) (nomark _)) (pe_and (pe_cmpR op_eq (pe_fld (pv 0) rfl) (pe_fld (pv 1) rfl) (nomark _)) (pe_and (pe_cmpR op_eq (pe_fld (pv 0) rfl) (pe_fld (pv 1) rfl) (nomark _))
      (pe_and (pe_cmpR op_eq (pe_fld (pv 0) rfl) (pe_fld (pv 1) rfl) (nomark _)) (pe_one (pe_cmpR (op_eqD hr.units) (pe_fld (pv 0) rfl) (pe_fld (pv 1) rfl) (nomark _)))))))))), ?_⟩
    rcases hy with ⟨c, m, rfl, hm, hok2, rfl⟩ | ⟨t, ht, kt, kd, rfl⟩
    · cases m with
      | door n r g =>
        obtain ⟨dx, e2⟩ := hm
        refine ⟨_, rfl, _, _, _, _, false, rfl, .own CT, .base (.ins e2 M.D.cl M.D.kc M.D.kg M.D.kt M.D.km), M.DT, false, rfl, ?_⟩
        exact iteF k
      | task u =>
        obtain ⟨hb, ⟨⟨db, e2⟩, q2⟩⟩ := hm
        have hnm2 := hds_nm hok2
        rw [alike_tt] at k
        refine ⟨_, rfl, _, _, _, _, true, rfl, .own CT, .base (.ins e2 T.cl T.kc T.kg T.kt T.km), M.TT, true, rfl, ?_⟩
        refine iteT ⟨_, rfl, a, CT, da, _, _, rfl, e1, T.cl, T.nN, tf_name _ _ _ _ _, _, rfl, c, CT, db, _, _, rfl, e2, T.cl, T.nN, tf_name _ _ _ _ _, rfl, _, rfl, ?_⟩
        rw [decS]
        by_cases c1 : v.name = u.name
        · rw [decide_eq_true c1] at k ⊢
          refine iteT ⟨_, rfl, a, CT, da, _, _, rfl, e1, T.cl, T.nC, tf_cost _ _ _ _ _, _, rfl, c, CT, db, _, _, rfl, e2, T.cl, T.nC, tf_cost _ _ _ _ _, rfl, _, rfl, ?_⟩
          rw [decI]
          by_cases c2 : v.cost = u.cost
          · rw [decide_eq_true c2] at k ⊢
            refine iteT ⟨_, rfl, a, CT, da, _, _, rfl, e1, T.cl, T.nG, tf_gap _ _ _ _ _, _, rfl, c, CT, db, _, _, rfl, e2, T.cl, T.nG, tf_gap _ _ _ _ _, rfl, _, rfl, ?_⟩
            rw [decI]
            by_cases c3 : v.gap = u.gap
            · rw [decide_eq_true c3] at k ⊢
              refine iteT ⟨_, rfl, a, CT, da, _, _, rfl, e1, T.cl, T.nD, tf_due _ _ _ _ _, _, rfl, c, CT, db, _, _, rfl, e2, T.cl, T.nD, tf_due _ _ _ _ _, rfl, _, rfl, ?_⟩
              rw [decI]
              by_cases c4 : v.due = u.due
              · rw [decide_eq_true c4] at k ⊢
                refine iteT ⟨_, rfl, a, CT, da, _, _, rfl, e1, T.cl, T.nH, tf_holds _ _ _ _ _, _, rfl, c, CT, db, _, _, rfl, e2, T.cl, T.nH, tf_holds _ _ _ _ _, _, _, hds_dp q1, hds_dp q2, hds_shaped hnm, hds_shaped hnm2, ?_⟩
                rw [show PyData.eqv (.tuple (v.holds.map hdD)) (.tuple (u.holds.map hdD)) = PyData.eqvAll (v.holds.map hdD) (u.holds.map hdD) from rfl, eqv_hds]
                exact k
              · rw [decide_eq_false c4] at k ⊢
                exact iteF k
            · rw [decide_eq_false c3] at k ⊢
              exact iteF k
          · rw [decide_eq_false c2] at k ⊢
            exact iteF k
        · rw [decide_eq_false c1] at k ⊢
          exact iteF k
    · refine ⟨_, rfl, _, _, _, _, false, rfl, .own CT, ht, kt, false, rfl, ?_⟩
      exact iteF k
theorem scDEq : FnScope ["self", "other"] ["self", "other"] (defScope sDEq) := ⟨rfl, rfl, rfl, by decide +kernel, rfl, by decide +kernel, by decide +kernel⟩
def spDEq (K : PySem.W.Frag) (CT CD : Addr) : Sp := fun vs H Q _ => ∃ (a : Addr) (n : Str) (r g : Int) (y : V) (b : Bool), vs = [.ref a, y] ∧ MemAt K CT CD H a (.door n r g) ∧ Beside K CT CD H (.door n r g) y b ∧ Q (.bl b) H
theorem ok_deq {f : Addr} {fd : FuncData} (F : Fun K "__eq__" "Door.__eq__" sDEq f fd) (M : MemE K mg CT CD) (mI : mg "isinstance" = none) : FnOk P w K mg base CX0 3 f fd ["self", "other"] (spDEq K CT CD) := by
  have T := M.D
  refine F.ok scDEq (fun vs H Q E h => ?_) (fun cdv A outer s H vs Q E hr h => ?_)
  · obtain ⟨a, n, r, g, y, b, rfl, _⟩ := h
    rfl
  · obtain ⟨a, n, r, g, y, b, rfl, ⟨da, e1⟩, hy, k⟩ := h
    refine ⟨_, (pss_one (ps_ret (pe_and (pe_callB call_isi (by rfl) mI (by decide +kernel) (pa_cons (pv 1) (pa_cons (pe_glob (v := .ref CD) rfl T.mg rfl) pa_nil)))
      (pe_and (pe_cmpR op_eq (pe_fld (pv 0) rfl) (pe_fld (pv 1) rfl) (nomark _)) (pe_and (pe_cmpR op_eq (pe_fld (pv 0) rfl) (pe_fld (pv 1) rfl) (nomark _)) (pe_one (pe_cmpR op_eq (pe_fld (pv 0) rfl) (pe_fld (pv 1) rfl) (nomark _)))))))), ?_⟩
    rcases hy with ⟨c, m, rfl, hm, hok2, rfl⟩ | ⟨t, ht, kt, kd, rfl⟩
    · cases m with
      | task u =>
        obtain ⟨hb, ⟨⟨db, e2⟩, q2⟩⟩ := hm
        refine ⟨_, rfl, _, _, _, _, false, rfl, .own CD, .base (.ins e2 M.T.cl M.T.kc M.T.kg M.T.kt M.T.km), M.TD, false, rfl, ?_⟩
        exact iteF k
      | door n' r' g' =>
        obtain ⟨db, e2⟩ := hm
        rw [alike_dd] at k
        refine ⟨_, rfl, _, _, _, _, true, rfl, .own CD, .base (.ins e2 T.cl T.kc T.kg T.kt T.km), M.DD, true, rfl, ?_⟩
        refine iteT ⟨_, rfl, a, CD, da, _, _, rfl, e1, T.cl, T.nN, df_name _ _ _, _, rfl, c, CD, db, _, _, rfl, e2, T.cl, T.nN, df_name _ _ _, rfl, _, rfl, ?_⟩
        rw [decS]
        by_cases c1 : n = n'
        · rw [decide_eq_true c1] at k ⊢
          refine iteT ⟨_, rfl, a, CD, da, _, _, rfl, e1, T.cl, T.nR, df_room _ _ _, _, rfl, c, CD, db, _, _, rfl, e2, T.cl, T.nR, df_room _ _ _, rfl, _, rfl, ?_⟩
          rw [decI]
          by_cases c2 : r = r'
          · rw [decide_eq_true c2] at k ⊢
            refine iteT ⟨_, rfl, a, CD, da, _, _, rfl, e1, T.cl, T.nG, df_gap _ _ _, _, rfl, c, CD, db, _, _, rfl, e2, T.cl, T.nG, df_gap _ _ _, rfl, ?_⟩
            rw [decI]
            exact k
          · rw [decide_eq_false c2] at k ⊢
            exact iteF k
        · rw [decide_eq_false c1] at k ⊢
          exact iteF k
    · refine ⟨_, rfl, _, _, _, _, false, rfl, .own CD, ht, kd, false, rfl, ?_⟩
      exact iteF k
theorem scDLen : FnScope ["self"] ["self"] (defScope sDLen) := ⟨rfl, rfl, rfl, by decide +kernel, rfl, by decide +kernel, by decide +kernel⟩
def spLenD (C : Addr) : Sp := fun vs H Q _ => ∃ (a : Addr) (n : Str) (r g : Int), vs = [.ref a] ∧ DoorAt C H a n r g ∧ 0 ≤ r ∧ r < 1000 ∧ Q (.int r) H
theorem ok_dlen {C f : Addr} {fd : FuncData} (F : Fun K "__len__" "Door.__len__" sDLen f fd) (T : DoorC K mg C) (ml : mg "len" = none) (mr : mg "range" = none) :
    FnOk P w K mg base CX0 3 f fd ["self"] (spLenD C) := by
  refine F.ok scDLen (fun vs H Q E h => ?_) (fun cdv A outer s H vs Q E hr h => ?_)
  · obtain ⟨a, n, r, g, rfl, _⟩ := h
    rfl
  · obtain ⟨a, n, r, g, rfl, ⟨dx, e1⟩, h0, h1, q⟩ := h
    refine ⟨_, (pss_one (ps_ret (pe_lenRg (by rfl) ml (prg_1 (by rfl) mr (pe_fld (pv 0) rfl))))), ?_⟩
    have en : (((r - 0).toNat : Nat) : Int) = r := by omega
    refine ⟨_, rfl, a, C, dx, _, _, rfl, e1, T.cl, T.nR, df_room _ _ _, _, rfl, by omega, ?_⟩
    rw [en]
    exact q
end
end Du

set_option Elab.async false
set_option linter.all false
set_option maxRecDepth 100000
namespace Du
open PySem L2
abbrev sTStr : Stmt := inClass (topS 19) 4
abbrev sDStr : Stmt := inClass (topS 20) 3
/-! texts of members -/
def sT (i : Int) : Str := toString i
def wordsH (h : Hold) : List Str := [h.1, sT h.2.1, sT h.2.2]
def wordsM : Mem → List Str
  | .task v => "task" :: v.name :: sT v.cost :: sT v.gap :: sT v.due :: v.holds.flatMap wordsH
  | .door n r g => ["door", n, sT r, sT g]
def textM (m : Mem) : Str := Str.join " " (wordsM m)
theorem j2 (a y : Str) (r : List Str) : Str.join " " ((a ++ " " ++ y) :: r) = Str.join " " (a :: y :: r) := StrLaws.join_shift " " a y r
theorem j3 : ∀ (pre : List Str) (a y : Str) (r : List Str), Str.join " " (pre ++ (a ++ " " ++ y) :: r) = Str.join " " (pre ++ a :: y :: r)
  | [], a, y, r => j2 a y r
  | [p], a, y, r => by
    show p ++ " " ++ Str.join " " ((a ++ " " ++ y) :: r) = p ++ " " ++ Str.join " " (a :: y :: r)
    rw [j2]
  | p :: q :: pre, a, y, r => by
    show p ++ " " ++ Str.join " " ((q :: pre) ++ (a ++ " " ++ y) :: r) = p ++ " " ++ Str.join " " ((q :: pre) ++ a :: y :: r)
    rw [j3 (q :: pre) a y r]
def hw (h : Hold) : Str := Str.empty ++ h.1 ++ " " ++ sT h.2.1 ++ " " ++ sT h.2.2
def tw (v : TaskV) : Str := Str.empty ++ "task " ++ v.name ++ " " ++ sT v.cost ++ " " ++ sT v.gap ++ " " ++ sT v.due
def dw (n : Str) (r g : Int) : Str := Str.empty ++ "door " ++ n ++ " " ++ sT r ++ " " ++ sT g
theorem e0 (a : Str) : Str.empty ++ a = a := Str.empty_append a
theorem hws : ∀ (hs : List Hold) (pre : List Str), Str.join " " (pre ++ hs.map hw) = Str.join " " (pre ++ hs.flatMap wordsH)
  | [], pre => rfl
  | h :: hs, pre => by
    show Str.join " " (pre ++ hw h :: hs.map hw) = Str.join " " (pre ++ ([h.1, sT h.2.1, sT h.2.2] ++ hs.flatMap wordsH))
    have eh : hw h = Str.empty ++ h.1 ++ " " ++ sT h.2.1 ++ " " ++ sT h.2.2 := rfl
    rw [eh, e0, j3, j3]
    have z := hws hs (pre ++ [h.1, sT h.2.1, sT h.2.2])
    simpa using z
theorem task_text (v : TaskV) : Str.join " " (tw v :: v.holds.map hw) = textM (.task v) := by
  have e : Str.empty ++ ("task " : Str) = ("task" : Str) ++ (" " : Str) := by decide +kernel
  unfold tw
  rw [e, j2, j2, j2, j2]
  exact hws v.holds ["task", v.name, sT v.cost, sT v.gap, sT v.due]
theorem door_text (n : Str) (r g : Int) : dw n r g = textM (.door n r g) := by
  have e : Str.empty ++ ("door " : Str) = ("door" : Str) ++ (" " : Str) := by decide +kernel
  unfold dw
  rw [e]
  show _ = ("door" : Str) ++ " " ++ (n ++ " " ++ (sT r ++ " " ++ sT g))
  simp only [Str.append_assoc]
theorem big2 {n : Nat} (h : n ≤ 100000) : n ≤ sizeLine := Nat.le_trans h (by decide)
theorem s_log {i : Int} (h0 : 0 ≤ i) (h1 : i ≤ 1000) : i.natAbs.log2 < 1920 := by
  by_cases hz : i.natAbs = 0
  · rw [hz]; decide
  · exact Nat.lt_of_lt_of_le ((Nat.log2_lt hz).mpr (show i.natAbs < 2 ^ 10 by omega)) (by decide)
theorem sT_len {i : Int} (h0 : 0 ≤ i) (h1 : i ≤ 1000) : (sT i).length ≤ 2000 := Nat.le_trans (PyProof.Rows.int_text_len_1921 (s_log h0 h1)) (by decide)
theorem len1 : ((" " : Str)).length = 1 := rfl
theorem len0 : Str.empty.length = 0 := rfl
theorem lenT : (("task " : Str)).length = 5 := rfl
theorem lenD : (("door " : Str)).length = 5 := rfl
theorem hold_b {v : TaskV} (ok : v.ok) {h : Hold} (hh : h ∈ v.holds) : isNm h.1 = true ∧ 0 ≤ h.2.1 ∧ h.2.1 ≤ 99 ∧ 1 ≤ h.2.2 ∧ h.2.2 ≤ 99 := by
  obtain ⟨_, hc, _, _, ha, _⟩ := ok
  unfold areHds at ha
  simp only [Bool.and_eq_true, List.all_eq_true, decide_eq_true_eq] at ha
  have z := ha.2.1 h hh
  unfold isHd at z
  simp only [Bool.and_eq_true, decide_eq_true_eq] at z
  exact ⟨z.1, by omega, by omega, by omega, by omega⟩
theorem holds4 {v : TaskV} (ok : v.ok) : v.holds.length ≤ 4 := by
  obtain ⟨_, hc, _, _, ha, _⟩ := ok
  unfold areHds at ha
  simp only [Bool.and_eq_true, decide_eq_true_eq] at ha
  exact ha.1
theorem sum_len {ys : List Str} {B : Nat} (h : ∀ y ∈ ys, y.length ≤ B) : (ys.map (·.length)).sum ≤ ys.length * B := by
  induction ys with
  | nil => simp
  | cons y r ih =>
    have h1 := h y List.mem_cons_self
    have h2 := ih fun k hk => h k (List.mem_cons_of_mem _ hk)
    rw [List.map_cons, List.sum_cons, List.length_cons, Nat.add_mul]
    omega
section
variable {P : Program} {w : World} {K : PySem.W.Frag} {mg : Str → Option Value} {base : Heap} {CT CD : Addr}
theorem scDStr : FnScope ["self"] ["self"] (defScope sDStr) := ⟨rfl, rfl, rfl, by decide +kernel, rfl, by decide +kernel, by decide +kernel⟩
def spDStr (CD : Addr) : Sp := fun vs H Q _ => ∃ (x : Addr) (n : Str) (r g : Int), vs = [.ref x] ∧ DoorAt CD H x n r g ∧ (Mem.door n r g).ok ∧ Q (.str (textM (.door n r g))) H
theorem ok_dstr {f : Addr} {fd : FuncData} (F : Fun K "__str__" "Door.__str__" sDStr f fd) (T : DoorC K mg CD) : FnOk P w K mg base CX0 3 f fd ["self"] (spDStr CD) := by
  refine F.ok scDStr (fun vs H Q E h => ?_) (fun cdv A outer s H vs Q E hr h => ?_)
  · obtain ⟨x, n, r, g, rfl, _⟩ := h
    rfl
  · obtain ⟨x, n, r, g, rfl, ⟨dx, hx⟩, ⟨hn, hr1, hg1⟩, q⟩ := h
    have l1 := (nm_len hn).2
    have l2 := sT_len (i := r) (by omega) (by omega)
    have l3 := sT_len (i := g) (by omega) (by omega)
    refine ⟨_, (pss_one (ps_ret (pe_joined (.cons pe_str (.cons (pe_fmt (pe_fld (pv 0) rfl)) (.cons pe_str (.cons (pe_fmt (pe_fld (pv 0) rfl)) (.cons pe_str (.cons (pe_fmt (pe_fld (pv 0) rfl)) .nil))))))))), ?_⟩
    refine ⟨_, rfl, by decide +kernel, ?_⟩
    refine ⟨_, rfl, x, CD, dx, _, _, rfl, hx, T.cl, T.nN, df_name _ _ _, .inl ⟨n, rfl, big2 (by omega), n, rfl, big2 (by simp only [strLen_append, len0, lenD]; omega), ?_⟩⟩
    refine ⟨_, rfl, big2 (by simp only [strLen_append, len0, lenD, len1]; omega), ?_⟩
    refine ⟨_, rfl, x, CD, dx, _, _, rfl, hx, T.cl, T.nR, df_room _ _ _, .inr ⟨r, rfl, s_log (by omega) (by omega), sT r, rfl, big2 (by simp only [strLen_append, len0, lenD, len1]; omega), ?_⟩⟩
    refine ⟨_, rfl, big2 (by simp only [strLen_append, len0, lenD, len1]; omega), ?_⟩
    refine ⟨_, rfl, x, CD, dx, _, _, rfl, hx, T.cl, T.nG, df_gap _ _ _, .inr ⟨g, rfl, s_log (by omega) (by omega), sT g, rfl, big2 (by simp only [strLen_append, len0, lenD, len1]; omega), ?_⟩⟩
    rw [← door_text] at q
    exact q
theorem scTStr : FnScope ["self", "words", "tool", "start", "long"] ["self"] (defScope sTStr) := ⟨rfl, rfl, rfl, by decide +kernel, rfl, by decide +kernel, by decide +kernel⟩
def spTStr (K : PySem.W.Frag) (CT : Addr) : Sp := fun vs H Q _ => ∃ (x h : Addr) (v : TaskV), vs = [.ref x] ∧ TaskAt K CT H x v h ∧ v.ok ∧ ∀ H', Same H H' → Q (.str (textM (.task v))) H'
theorem ok_tstr {f : Addr} {fd : FuncData} (F : Fun K "__str__" "Task.__str__" sTStr f fd) (T : TaskC K mg CT) : FnOk P w K mg base CX0 3 f fd ["self"] (spTStr K CT) := by
  refine F.ok scTStr (fun vs H Q E h => ?_) (fun cdv A outer s H vs Q E hr h => ?_)
  · obtain ⟨x, h, v, rfl, _⟩ := h
    rfl
  · obtain ⟨x, h, v, rfl, ⟨⟨dx, hx⟩, ⟨vs, hS, hlen, hel⟩⟩, hok, q⟩ := h
    obtain ⟨hn, hc, hg, hd, _⟩ := id hok
    have h4 := holds4 hok
    have l1 := (nm_len hn).2
    have l2 := sT_len (i := v.cost) (by omega) (by omega)
    have l3 := sT_len (i := v.gap) (by omega) (by omega)
    have l4 := sT_len (i := v.due) (by omega) (by omega)
    refine ⟨_, (pss_cons (ps_set (i := 1) scTStr.nd rfl (.inl rfl) (pe_lst (pa_cons (pe_joined (.cons pe_str (.cons (pe_fmt (pe_fld (pv 0) rfl)) (.cons pe_str (.cons (pe_fmt (pe_fld (pv 0) rfl)) (.cons pe_str (.cons (pe_fmt (pe_fld (pv 0) rfl)) (.cons pe_str (.cons (pe_fmt (pe_fld (pv 0) rfl)) .nil))))))))) pa_nil))) (pss_cons (ps_aug (i := 1) scTStr.nd rfl (.inl rfl) (pe_lc (own := [("tool", 2), ("start", 3), ("long", 4)]) (g := gTup K 3 (gCons (gName 2) (gCons (gName 3) (gCons (gName 4) gNil)))) (tt := tYes) rfl scTStr.nd (pi_tup (pe_fld (pv 0) rfl)) (blkOk_by (N := ["self", "words", "tool", "start", "long"]) (sc := defScope sTStr) (by decide +kernel))
        (fun _ _ _ _ _ => pg_tup rfl (pgs_cons (pg_name (i := 2) scTStr.nd rfl (Or.inl rfl)) (pgs_cons (pg_name (i := 3) scTStr.nd rfl (Or.inl rfl)) (pgs_cons (pg_name (i := 4) scTStr.nd rfl (Or.inl rfl)) pgs_nil))))
        (fun _ _ _ _ _ => pts_nil) (fun _ _ _ _ _ => pe_joined (.cons (pe_fmt (pv 2)) (.cons pe_str (.cons (pe_fmt (pv 3)) (.cons pe_str (.cons (pe_fmt (pv 4)) .nil))))))) iop_ext) (pss_one (ps_ret (pe_join pe_str (pv 1)))))), ?_⟩
    refine ⟨_, rfl, by decide +kernel, ?_⟩
    refine ⟨_, rfl, x, CT, dx, _, _, rfl, hx, T.cl, T.nN, tf_name _ _ _ _ _, .inl ⟨v.name, rfl, big2 (by omega), v.name, rfl, big2 (by simp only [strLen_append, len0, lenT]; omega), ?_⟩⟩
    refine ⟨_, rfl, big2 (by simp only [strLen_append, len0, lenT, len1]; omega), ?_⟩
    refine ⟨_, rfl, x, CT, dx, _, _, rfl, hx, T.cl, T.nC, tf_cost _ _ _ _ _, .inr ⟨v.cost, rfl, s_log (by omega) (by omega), sT v.cost, rfl, big2 (by simp only [strLen_append, len0, lenT, len1]; omega), ?_⟩⟩
    refine ⟨_, rfl, big2 (by simp only [strLen_append, len0, lenT, len1]; omega), ?_⟩
    refine ⟨_, rfl, x, CT, dx, _, _, rfl, hx, T.cl, T.nG, tf_gap _ _ _ _ _, .inr ⟨v.gap, rfl, s_log (by omega) (by omega), sT v.gap, rfl, big2 (by simp only [strLen_append, len0, lenT, len1]; omega), ?_⟩⟩
    refine ⟨_, rfl, big2 (by simp only [strLen_append, len0, lenT, len1]; omega), ?_⟩
    refine ⟨_, rfl, x, CT, dx, _, _, rfl, hx, T.cl, T.nD, tf_due _ _ _ _ _, .inr ⟨v.due, rfl, s_log (by omega) (by omega), sT v.due, rfl, big2 (by simp only [strLen_append, len0, lenT, len1]; omega), ?_⟩⟩
    refine ⟨(by show 1 ≤ sizeLine; decide), fun L nL => ?_⟩
    have sL : Same H (upd H L (.lst [.str (tw v)])) := same_upd nL
    refine ⟨_, rfl, _, rfl, x, CT, dx, _, _, rfl, sL _ _ hx, T.cl, T.nH, tf_holds _ _ _ _ _, h, rfl, ⟨vs, hS.ext sL⟩, fun D nD => lc_tup (K := K) (a := h) (xs := vs) (g := gTup K 3 (gCons (gName 2) (gCons (gName 3) (gCons (gName 4) gNil)))) (tt := tYes) (te := (fun σ H Q => tJs [tFmt (tVar 2), tC (.str " "), tFmt (tVar 3), tC (.str " "), tFmt (tVar 4)] Str.empty σ H fun out H1 => Q (.str out) H1)) (fun j H' => Same (upd H L (.lst [.str (tw v)])) H' ∧ H' D = some (.lst (((v.holds.take j).map hw).map V.str))) ⟨same_upd nD, upd_same⟩ (fun j H' _ z => (hS.ext sL).ext z.1) ?_ ?_⟩
    · rintro j y H1 hy ⟨s1, e⟩
      have hj : j < v.holds.length := by
        rw [← hlen]
        exact (List.getElem?_eq_some_iff.mp hy).1
      have hgm : v.holds[j]? = some v.holds[j] := List.getElem?_eq_getElem hj
      obtain ⟨b1, b2, b3, b4, b5⟩ := hold_b hok (List.getElem_mem hj)
      generalize v.holds[j] = g at hgm b1 b2 b3 b4 b5
      obtain ⟨a, rfl, hA⟩ := (hel j y g hy hgm).same (sL.trans s1)
      have m1 := (nm_len b1).2
      have m2 := sT_len (i := g.2.1) (by omega) (by omega)
      have m3 := sT_len (i := g.2.2) (by omega) (by omega)
      have et : (v.holds.take (j + 1)).map hw = (v.holds.take j).map hw ++ [hw g] := by
        rw [List.take_add_one, hgm, List.map_append]
        rfl
      refine ⟨a, _, rfl, hA, rfl, _, _, rfl, _, _, rfl, _, _, rfl, rfl, rfl, ?_⟩
      refine ⟨_, rfl, .inl ⟨g.1, rfl, big2 (by omega), g.1, rfl, big2 (by simp only [strLen_append, len0]; omega), ?_⟩⟩
      refine ⟨_, rfl, big2 (by simp only [strLen_append, len0, len1]; omega), ?_⟩
      refine ⟨_, rfl, .inr ⟨g.2.1, rfl, s_log (by omega) (by omega), sT g.2.1, rfl, big2 (by simp only [strLen_append, len0, len1]; omega), ?_⟩⟩
      refine ⟨_, rfl, big2 (by simp only [strLen_append, len0, len1]; omega), ?_⟩
      refine ⟨_, rfl, .inr ⟨g.2.2, rfl, s_log (by omega) (by omega), sT g.2.2, rfl, big2 (by simp only [strLen_append, len0, len1]; omega), ?_⟩⟩
      refine ⟨_, e, ?_, same_upd2 s1 nD, ?_⟩
      · rw [List.length_map, List.length_map]
        exact Nat.lt_of_le_of_lt (List.length_take_le _ _) (Nat.lt_of_lt_of_le (Nat.lt_of_lt_of_le hj h4) (by decide))
      · rw [upd_same, et, List.map_append]
        rfl
    · rintro H1 ⟨s1, e⟩
      rw [hlen, List.take_length] at e
      have eL : H1 L = some (.lst [.str (tw v)]) := s1 _ _ upd_same
      refine ⟨L, D, _, _, rfl, rfl, eL, e, ?_, ?_⟩
      · rw [List.length_map, List.length_map]
        exact big2 (by show 1 + v.holds.length ≤ 100000; omega)
      · refine ⟨⟨_, rfl⟩, _, rfl, _, L, tw v :: v.holds.map hw, rfl, rfl, .inl (SqL.of upd_same), ?_, ?_⟩
        · have z := sum_len (ys := tw v :: v.holds.map hw) (B := 7000) fun y hy => by
            rcases List.mem_cons.mp hy with rfl | hy
            · unfold tw
              simp only [strLen_append, len0, lenT, len1]
              omega
            · obtain ⟨g, hg1, rfl⟩ := List.mem_map.mp hy
              obtain ⟨b1, b2, b3, b4, b5⟩ := hold_b hok hg1
              have m1 := (nm_len b1).2
              have m2 := sT_len (i := g.2.1) (by omega) (by omega)
              have m3 := sT_len (i := g.2.2) (by omega) (by omega)
              unfold hw
              simp only [strLen_append, len0, len1]
              omega
          have e1 : (tw v :: v.holds.map hw).length ≤ 5 := by
            rw [List.length_cons, List.length_map]
            omega
          rw [len1]
          have e2 : (tw v :: v.holds.map hw).length * 7000 ≤ 5 * 7000 := Nat.mul_le_mul_right _ e1
          omega
        · show Q (.str (Builtin.Str.glued " " (tw v :: v.holds.map hw))) _
          rw [StrLaws.glued_eq_join, task_text]
          refine q _ fun b o eb => ?_
          rw [upd_ne (ne_of_none eb nL)]
          exact s1 _ _ (sL _ _ eb)
end
end Du

set_option Elab.async false
set_option linter.all false
set_option maxRecDepth 100000
namespace Du
open PySem L2
abbrev sText : Stmt := topS 30
theorem callOr {X : Cx} {f : Value} {r1 r2 : List V → Hp → VK → Prop} (a : CallR X f r1) (b : CallR X f r2) : CallR X f (fun xs H Q => r1 xs H Q ∨ r2 xs H Q) := fun pins s σ H xs us Q I r h => h.elim (fun h => a pins s σ H xs us Q I r h) fun h => b pins s σ H xs us Q I r h
theorem word_len {m : Mem} (ok : m.ok) : (wordsM m).length ≤ 17 ∧ ∀ y ∈ wordsM m, y.length ≤ 2000 := by
  have k1 : (("task" : Str)).length = 4 := rfl
  have k2 : (("door" : Str)).length = 4 := rfl
  cases m with
  | door n r g =>
    obtain ⟨hn, hr, hg⟩ := ok
    refine ⟨by show 4 ≤ 17; decide, fun y hy => ?_⟩
    have l1 := (nm_len hn).2
    have l2 := sT_len (i := r) (by omega) (by omega)
    have l3 := sT_len (i := g) (by omega) (by omega)
    simp only [wordsM, List.mem_cons, List.not_mem_nil, or_false] at hy
    rcases hy with rfl | rfl | rfl | rfl <;> omega
  | task v =>
    obtain ⟨hn, hc, hg, hd, _⟩ := id ok
    have l1 := (nm_len hn).2
    have l2 := sT_len (i := v.cost) (by omega) (by omega)
    have l3 := sT_len (i := v.gap) (by omega) (by omega)
    have l4 := sT_len (i := v.due) (by omega) (by omega)
    have h4 := holds4 ok
    refine ⟨?_, fun y hy => ?_⟩
    · simp only [wordsM, List.length_cons, List.length_flatMap]
      have z : (v.holds.map fun h => (wordsH h).length).sum = 3 * v.holds.length := by
        induction v.holds with
        | nil => rfl
        | cons h r ih =>
          rw [List.map_cons, List.sum_cons, ih, List.length_cons]
          show 3 + 3 * r.length = _
          omega
      rw [z]
      omega
    · simp only [wordsM, List.mem_cons] at hy
      rcases hy with rfl | rfl | rfl | rfl | rfl | hy
      · omega
      · omega
      · omega
      · omega
      · omega
      · obtain ⟨g, hg1, hy⟩ := List.mem_flatMap.mp hy
        obtain ⟨b1, b2, b3, b4, b5⟩ := hold_b ok hg1
        have m1 := (nm_len b1).2
        have m2 := sT_len (i := g.2.1) (by omega) (by omega)
        have m3 := sT_len (i := g.2.2) (by omega) (by omega)
        simp only [wordsH, List.mem_cons, List.not_mem_nil, or_false] at hy
        rcases hy with rfl | rfl | rfl <;> omega
theorem word_sum {m : Mem} (ok : m.ok) : ((wordsM m).map (·.length)).sum + (wordsM m).length * (" " : Str).length ≤ 16777216 := by
  obtain ⟨h1, h2⟩ := word_len ok
  have z := sum_len h2
  have e : (wordsM m).length * 2000 ≤ 17 * 2000 := Nat.mul_le_mul_right _ h1
  rw [len1]
  omega
section
variable {P : Program} {w : World} {K : PySem.W.Frag} {mg : Str → Option Value} {base : Heap} {CT CD : Addr}
abbrev nText : List Str := ["_law_row", "_law_words_here", "_law_hold", "_law_number", "_law_part"]
theorem scText : FnScope nText ["_law_row"] (defScope sText) := ⟨rfl, rfl, rfl, by decide +kernel, rfl, by decide +kernel, by decide +kernel⟩
def spText (K : PySem.W.Frag) : Sp := fun vs H Q _ => ∃ (r : Addr) (m : Mem), vs = [.ref r] ∧ RowAt K H r m ∧ m.ok ∧ ∀ H', Same H H' → Q (.str (textM m)) H'
abbrev rStrI : List V → Hp → VK → Prop := fun xs H Q => ∃ i, xs = [.int i] ∧ i.natAbs.log2 < 1920 ∧ Q (.str (toString i)) H
abbrev rStrB : List V → Hp → VK → Prop := fun xs H Q => (∃ a, xs = [.str a] ∧ Q (.str a) H) ∨ ∃ i, xs = [.int i] ∧ i.natAbs.log2 < 1920 ∧ Q (.str (toString i)) H
theorem ok_text {f : Addr} {fd : FuncData} (F : Fun K "_law_row_text" "_law_row_text" sText f fd) (ms : mg "str" = none) : FnOk P w K mg base CX0 3 f fd ["_law_row"] (spText K) := by
  refine F.ok scText (fun vs H Q E h => ?_) (fun cdv A outer s H vs Q E hr h => ?_)
  · obtain ⟨r, m, rfl, _⟩ := h
    rfl
  · obtain ⟨r, m, rfl, hrow, hok, q⟩ := h
    have wsum := word_sum hok
    refine ⟨_, (pss_cons (ps_set (i := 1) scText.nd rfl (.inl rfl) (pe_op op_cat (pe_lst (pa_cons (pe_ix ix_tup (pv 0) pe_int (fun _ _ => rfl)) (pa_cons (pe_ix ix_tup (pv 0) pe_int (fun _ _ => rfl)) pa_nil)))
        (pe_lc (own := [("_law_number", 3)]) (g := gName 3) (tt := tYes) (te := tCB rStrI (tCons (tVar 3) tNil)) rfl scText.nd (pi_tup (pe_slice sl_tup (pv 0) (po_some pe_int) (po_some pe_int))) (blkOk_by (N := nText) (sc := defScope sText) (by decide +kernel))
          (fun _ _ _ _ _ => pg_name (i := 3) scText.nd rfl (Or.inl rfl)) (fun _ _ _ _ _ => pts_nil) (fun _ _ _ _ _ => pe_callTy call_str_int (by rfl) ms (by decide +kernel) (pa_cons (pv 3) pa_nil))))) (pss_cons (ps_if (pt_cmpR op_eq (pe_ix ix_tup (pv 0) pe_int (fun _ _ => rfl)) pe_str (nomark _))
        (pss_cons (ps_expr (pe_bm PySem.F.plainAttrs_list PySem.F.slot_list_append PySem.F.type_list_append mt_append (pv 1) (pa_cons (pe_callTy call_str_int (by rfl) ms (by decide +kernel) (pa_cons (pe_ix ix_tup (pv 0) pe_int (fun _ _ => rfl)) pa_nil)) pa_nil))) (pss_one (ps_for PassesOwn.never rfl (pi_tup (pe_ix ix_tup (pv 0) pe_int (fun _ _ => rfl))) (pg_name (i := 2) scText.nd rfl (.inl rfl))
            (pss_one (ps_set (i := 1) scText.nd rfl (.inl rfl) (pe_op op_cat (pv 1) (pe_lc (own := [("_law_part", 4)]) (g := gName 4) (tt := tYes) (te := tCB rStrB (tCons (tVar 4) tNil)) rfl scText.nd (pi_tup (pv 2)) (blkOk_by (N := nText) (sc := defScope sText) (by decide +kernel))
          (fun _ _ _ _ _ => pg_name (i := 4) scText.nd rfl (Or.inl rfl)) (fun _ _ _ _ _ => pts_nil) (fun _ _ _ _ _ => pe_callTy (callOr SkE.call_str_str call_str_int) (by rfl) ms (by decide +kernel) (pa_cons (pv 4) pa_nil))))))))) pss_nil) (pss_one (ps_ret (pe_join pe_str (pv 1)))))), ?_⟩
    -- what the first statement makes
    have fin : ∀ (H' : Hp) (L : Addr), Same H H' → H' L = some (.lst ((wordsM m).map V.str)) → Q (.str (Txt.join " " (wordsM m))) H' := fun H' L s1 e => by
      show Q (.str (Builtin.Str.glued " " (wordsM m))) H'
      rw [StrLaws.glued_eq_join]
      exact q H' s1
    have head : ∃ (xs : List V) (w0 n : Str) (a b : Int) (rest : List Str), SqT K H r xs ∧ atI xs 0 = some (.str w0) ∧ atI xs 1 = some (.str n) ∧ cutV xs (some 2) (some 4) = [.int a, .int b] ∧ ¬ (HT.sIx xs.length 0 (some 2) = 0 ∧ HT.sIx xs.length xs.length (some 4) = xs.length) ∧ (0 ≤ a ∧ a ≤ 1000) ∧ (0 ≤ b ∧ b ≤ 1000) ∧ wordsM m = w0 :: n :: sT a :: sT b :: rest ∧
        ((w0 = "door" ∧ rest = []) ∨ ∃ (v : TaskV) (t : Addr), m = .task v ∧ w0 = "task" ∧ rest = sT v.due :: v.holds.flatMap wordsH ∧ atI xs 4 = some (.int v.due) ∧ atI xs 5 = some (.ref t) ∧ HdsAt K H t v.holds) := by
      cases m with
      | door n rm g =>
        obtain ⟨hn, hr1, hg1⟩ := id hok
        exact ⟨[.str "door", .str n, .int rm, .int g], "door", n, rm, g, [], SqT.of hrow, rfl, rfl, rfl, (by show ¬ (HT.sIx 4 0 (some 2) = 0 ∧ HT.sIx 4 4 (some 4) = 4); decide), by omega, by omega, rfl, .inl ⟨rfl, rfl⟩⟩
      | task v =>
        obtain ⟨t, er, hh⟩ := hrow
        obtain ⟨hn, hc, hg, hd, _⟩ := id hok
        exact ⟨[.str "task", .str v.name, .int v.cost, .int v.gap, .int v.due, .ref t], "task", v.name, v.cost, v.gap, _, SqT.of er, rfl, rfl, rfl, (by show ¬ (HT.sIx 6 0 (some 2) = 0 ∧ HT.sIx 6 6 (some 4) = 6); decide), by omega, by omega, rfl, .inr ⟨v, t, rfl, rfl, rfl, rfl, rfl, hh⟩⟩
    obtain ⟨xs, w0, n, a, b, rest, hS, a0, a1, ec, nw, ha, hb, ew, hk⟩ := head
    refine ⟨_, rfl, r, _, _, _, rfl, rfl, hS, a0, _, rfl, r, _, _, _, rfl, rfl, hS, a1, (by show 2 ≤ sizeLine; decide), fun L1 n1 => ?_⟩
    have s1 : Same H (upd H L1 (.lst [.str w0, .str n])) := same_upd n1
    refine ⟨_, rfl, _, rfl, _, rfl, r, _, rfl, hS.ext s1, nw, fun T nT => ?_⟩
    rw [ec]
    have s2 := s1.trans (same_upd (o := .tup [.int a, .int b]) nT)
    refine ⟨T, rfl, ⟨_, SqT.of upd_same⟩, fun D nD => lc_tup (K := K) (a := T) (xs := [.int a, .int b]) (g := gName 3) (tt := tYes) (te := tCB rStrI (tCons (tVar 3) tNil)) (fun j H' => Same (upd (upd H L1 (.lst [.str w0, .str n])) T (.tup [.int a, .int b])) H' ∧ H' D = some (.lst ((([sT a, sT b]).take j).map V.str))) ⟨same_upd nD, upd_same⟩ (fun j H' _ z => SqT.of (z.1 _ _ upd_same)) ?_ ?_⟩
    · rintro j y H1 hy ⟨s3, e⟩
      rcases j with _ | _ | j
      · cases (Option.some.inj hy)
        exact ⟨rfl, _, rfl, a, rfl, s_log ha.1 ha.2, _, e, (by show 0 < sizeLine; decide), same_upd2 s3 nD, upd_same⟩
      · cases (Option.some.inj hy)
        exact ⟨rfl, _, rfl, b, rfl, s_log hb.1 hb.2, _, e, (by show 1 < sizeLine; decide), same_upd2 s3 nD, upd_same⟩
      · simp at hy
    rintro H1 ⟨s3, eD⟩
    have eL1 : H1 L1 = some (.lst [.str w0, .str n]) := s3 _ _ (by rw [upd_ne (ne_of_none upd_same nT)]; exact upd_same)
    have s13 := s2.trans s3
    refine ⟨L1, D, _, _, rfl, rfl, eL1, eD, (by show 2 + 2 ≤ sizeLine; decide), fun L nL => ?_⟩
    have s4 : Same H (upd H1 L (.lst (([w0, n, sT a, sT b]).map V.str))) := s13.trans (same_upd nL)
    refine ⟨_, rfl, r, _, _, _, rfl, rfl, hS.ext s4, a0, rfl, _, rfl, ?_⟩
    rw [decS]
    rcases hk with ⟨rfl, rfl⟩ | ⟨v, t, rfl, rfl, rfl, a4, a5, hh⟩
    · rw [show decide (("door" : Str) = "task") = false by decide +kernel]
      refine iteF ?_
      refine ⟨⟨_, rfl⟩, _, rfl, _, L, ["door", n, sT a, sT b], rfl, rfl, .inl (SqL.of upd_same), ?_, ?_⟩
      · rw [ew] at wsum
        exact wsum
      · have z := fin _ L s4 (by rw [ew]; exact upd_same)
        rw [ew] at z
        exact z
    · rw [decide_eq_true rfl]
      obtain ⟨hn, hc, hg, hd, _⟩ := id hok
      have h4 := holds4 (v := v) hok
      refine iteT ?_
      refine ⟨_, rfl, .inl ⟨rfl, _, SqL.of upd_same⟩, _, rfl, r, _, _, _, rfl, rfl, hS.ext s4, a4, v.due, rfl, s_log (by omega) (by omega), L, _, _, rfl, rfl, upd_same, (by show 4 < sizeLine; decide), ?_⟩
      have nL0 : H L = none := s13.free nL
      have s5 := same_upd2 (o := .lst (([("task" : Str), n, sT a, sT b, sT v.due]).map V.str)) s4 nL0
      obtain ⟨vs, hSt, hlen, hel⟩ := hh
      refine ⟨_, rfl, r, _, _, _, rfl, rfl, hS.ext s5, a5, t, rfl, ⟨vs, hSt.ext s5⟩, for_tup (K := K) (a := t) (xs := vs) (fun j σ H' => ∃ (v2 : Option V) (Lj : Addr), σ = [some (.ref r), some (.ref Lj), v2, none, none] ∧ Same H H' ∧ H' Lj = some (.lst ((("task" : Str) :: n :: sT a :: sT b :: sT v.due :: (v.holds.take j).flatMap wordsH).map V.str))) ⟨_, _, rfl, s5, upd_same⟩ ?_ ?_ ?_⟩
      · rintro j σ H2 _ ⟨_, _, _, s6, _⟩
        exact hSt.ext s6
      · rintro j y σ H2 hy ⟨v2, Lj, rfl, s6, eLj⟩
        have hj : j < v.holds.length := by
          rw [← hlen]
          exact (List.getElem?_eq_some_iff.mp hy).1
        have hgm : v.holds[j]? = some v.holds[j] := List.getElem?_eq_getElem hj
        obtain ⟨b1, b2, b3, b4, b5⟩ := hold_b (v := v) hok (List.getElem_mem hj)
        generalize v.holds[j] = g at hgm b1 b2 b3 b4 b5
        obtain ⟨ah, rfl, hA⟩ := (hel j y g hy hgm).same s6
        have et : (v.holds.take (j + 1)).flatMap wordsH = (v.holds.take j).flatMap wordsH ++ wordsH g := by
          rw [List.take_add_one, hgm, List.flatMap_append]
          simp
        refine ⟨_, rfl, _, rfl, ah, rfl, ⟨_, hA⟩, fun D2 nD2 => lc_tup (K := K) (a := ah) (xs := [.str g.1, .int g.2.1, .int g.2.2]) (g := gName 4) (tt := tYes) (te := tCB rStrB (tCons (tVar 4) tNil)) (fun i H' => Same H2 H' ∧ H' D2 = some (.lst (((wordsH g).take i).map V.str))) ⟨same_upd nD2, upd_same⟩ (fun i H' _ z => hA.ext z.1) ?_ ?_⟩
        · rintro i y H3 hy ⟨s7, e⟩
          rcases i with _ | _ | _ | i
          · cases (Option.some.inj hy)
            exact ⟨rfl, _, rfl, .inl ⟨g.1, rfl, _, e, (by show 0 < sizeLine; decide), same_upd2 s7 nD2, upd_same⟩⟩
          · cases (Option.some.inj hy)
            exact ⟨rfl, _, rfl, .inr ⟨g.2.1, rfl, s_log (by omega) (by omega), _, e, (by show 1 < sizeLine; decide), same_upd2 s7 nD2, upd_same⟩⟩
          · cases (Option.some.inj hy)
            exact ⟨rfl, _, rfl, .inr ⟨g.2.2, rfl, s_log (by omega) (by omega), _, e, (by show 2 < sizeLine; decide), same_upd2 s7 nD2, upd_same⟩⟩
          · simp at hy
        · rintro H3 ⟨s7, eD⟩
          refine ⟨Lj, D2, _, _, rfl, rfl, s7 _ _ eLj, eD, ?_, fun L' nL' => ⟨_, L', rfl, s6.trans (s7.trans (same_upd nL')), ?_⟩⟩
          · have z : ((v.holds.take j).flatMap wordsH).length ≤ 12 := by
              have zz : ∀ hs : List Hold, (hs.flatMap wordsH).length = 3 * hs.length := by
                intro hs
                induction hs with
                | nil => rfl
                | cons h r ih =>
                  rw [List.flatMap_cons, List.length_append, ih, List.length_cons]
                  show 3 + 3 * r.length = _
                  omega
              rw [zz]
              have := List.length_take_le j v.holds
              have := List.length_take_le' j v.holds
              omega
            simp only [List.length_map, List.length_cons]
            have z3 : (List.take (([] : List V).length + 1 + 1 + 1) (wordsH g)).length = 3 := rfl
            rw [z3]
            exact big2 (by omega)
          · rw [upd_same, et]
            simp only [List.map_append, List.map_cons, List.cons_append]
            rfl
      · rintro σ H2 ⟨v2, Lj, rfl, s6, eLj⟩
        rw [hlen, List.take_length] at eLj
        refine ⟨⟨_, rfl⟩, _, rfl, _, Lj, wordsM (.task v), rfl, rfl, .inl (SqL.of (by rw [ew]; exact eLj)), wsum, ?_⟩
        exact fin _ Lj s6 (by rw [ew]; exact eLj)
end
end Du

set_option Elab.async false
set_option linter.all false
set_option maxRecDepth 100000
namespace Du
open PySem L2
abbrev sShown : Stmt := topS 31
/-- a class with an own __str__ -/
structure OwnT (P : Program) (w : World) (K : PySem.W.Frag) (mg : Str → Option Value) (base : Heap) (k : Nat) (C : Addr) (sp : Sp) : Prop where
  ex : ∃ (f : Addr) (fd : FuncData) (ps : List Str), FnOk P w K mg base CX0 k f fd ps sp ∧ Binds K fd ps [] ∧ PySem.W.findIn K (.ref C) "__str__" = some (some (.ref f)) ∧ PySem.W.isFn K (.ref f) = true
/-- str(x), x of an own class -/
theorem call_strO {X : Cx} {k : Nat} {C : Addr} {sp : Sp} (R : OwnT X.prog X.w X.K X.mg X.base k C sp) (hr : Room (k + 2) X.A) : CallR X (.type "str") (fun xs H Q => ∃ (a dx : Addr) (fs : List (Str × V)) (t : Str), xs = [.ref a] ∧ H a = some (.ins C dx fs) ∧ ReprSp sp H a t ∧ ∀ H', Same H H' → Q (.str t) H') := by
  obtain ⟨f, fd, ps, F, hb, hs, hf⟩ := R.ex
  intro pins s σ H xs us Q I r h
  obtain ⟨a, dx, fs, t, rfl, ha, hsp, q⟩ := h
  obtain ⟨u, rfl, ru⟩ := vals1 r
  cases ru
  obtain ⟨mA, J, _⟩ := ins_get I.hok ha
  obtain ⟨od, J, _⟩ := J.look
  have hr2 : Room k X.A.in1.in1 := (show Room (k + 1) X.A.in1 from Room.in1 hr).in1
  refine PySem.W.kso_call (by have := hr.un; show X.A.units + 1 + 1 < cLine; omega) I.kIn J hs hf (wpAny_mono (own_call F hb ⟨hr2, rfl⟩ I (vs := [.ref a]) (Q := fun v H' => v = .str t ∧ Q (.str t) H') (.cons rfl .nil) (hsp H (Same.refl _) _ fun H' s' => ⟨rfl, q H' s'⟩)) (fun v s' q => ?_) fun _ _ z => z)
  obtain ⟨z, H', I', rz, rfl, q⟩ := q
  obtain ⟨tk, rfl⟩ := rz
  exact ⟨.str t, H', I', ⟨_, rfl⟩, q⟩
theorem room_u1 {k : Nat} {A : Around} (h : Room k A) : A.units + 1 < cLine := by
  have := h.un
  omega
/-- how members are shown -/
structure MemS (P : Program) (w : World) (K : PySem.W.Frag) (mg : Str → Option Value) (base : Heap) (CT CD : Addr) : Prop where
  rT : OwnR P w K mg base 3 CT (spTRepr K CT)
  rD : OwnR P w K mg base 3 CD (spDRepr CD)
  sT : OwnT P w K mg base 3 CT (spTStr K CT)
  sD : OwnT P w K mg base 3 CD (spDStr CD)
  lT : ∃ (f : Addr) (fd : FuncData), FnOk P w K mg base CX0 3 f fd ["self"] (spLenT K CT) ∧ Binds K fd ["self"] [] ∧ PySem.W.findIn K (.ref CT) "__len__" = some (some (.ref f)) ∧ PySem.W.isFn K (.ref f) = true
  lD : ∃ (f : Addr) (fd : FuncData), FnOk P w K mg base CX0 3 f fd ["self"] (spLenD CD) ∧ Binds K fd ["self"] [] ∧ PySem.W.findIn K (.ref CD) "__len__" = some (some (.ref f)) ∧ PySem.W.isFn K (.ref f) = true
def reprM : Mem → Str
  | .task v => inText "Task(" v.name
  | .door n _ _ => inText "Door(" n
def wordM : Mem → Str
  | .task _ => "task"
  | .door _ _ _ => "door"
def firstM : Mem → Str
  | .task _ => "Task("
  | .door _ _ _ => "Door("
theorem reprM_eq (m : Mem) : reprM m = firstM m ++ m.name ++ ")" := by
  cases m with
  | task v =>
    show Str.empty ++ "Task(" ++ v.name ++ ")" = _
    rw [e0]
    rfl
  | door n r g =>
    show Str.empty ++ "Door(" ++ n ++ ")" = _
    rw [e0]
    rfl
section
variable {X : Cx} {CT CD : Addr}
def rReprM (K : PySem.W.Frag) (CT CD : Addr) : List V → Hp → VK → Prop := fun xs H Q => ∃ (a : Addr) (m : Mem), xs = [.ref a] ∧ MemAt K CT CD H a m ∧ m.ok ∧ ∀ H', Same H H' → Q (.str (reprM m)) H'
def rStrM (K : PySem.W.Frag) (CT CD : Addr) : List V → Hp → VK → Prop := fun xs H Q => ∃ (a : Addr) (m : Mem), xs = [.ref a] ∧ MemAt K CT CD H a m ∧ m.ok ∧ ∀ H', Same H H' → Q (.str (textM m)) H'
def costM : Mem → Int
  | .task v => v.cost
  | .door _ r _ => r
def rLenM (K : PySem.W.Frag) (CT CD : Addr) : List V → Hp → VK → Prop := fun xs H Q => ∃ (a : Addr) (m : Mem), xs = [.ref a] ∧ MemAt K CT CD H a m ∧ m.ok ∧ Q (.int (costM m)) H
theorem call_reprM (S : MemS X.prog X.w X.K X.mg X.base CT CD) (hr : Room 4 X.A) : CallR X (.builtin "repr") (rReprM X.K CT CD) := by
  intro pins s σ H xs us Q I r h
  obtain ⟨a, m, rfl, hm, hok, q⟩ := h
  cases m with
  | task v =>
    obtain ⟨h, hT⟩ := hm
    obtain ⟨⟨dx, e⟩, _⟩ := id hT
    exact call_reprO S.rT hr pins s σ H _ us Q I r ⟨a, dx, _, _, rfl, e, fun H2 s2 Q2 q2 => ⟨_, _, _, rfl, hT.same s2, Nat.le_trans (nm_len hok.1).2 (by decide), q2 H2 (Same.refl _)⟩, q⟩
  | door n rm g =>
    obtain ⟨dx, e⟩ := hm
    exact call_reprO S.rD hr pins s σ H _ us Q I r ⟨a, dx, _, _, rfl, e, fun H2 s2 Q2 q2 => ⟨_, _, _, _, rfl, ⟨dx, s2 _ _ e⟩, Nat.le_trans (nm_len hok.1).2 (by decide), q2 H2 (Same.refl _)⟩, q⟩
theorem call_strM (S : MemS X.prog X.w X.K X.mg X.base CT CD) (hr : Room 5 X.A) : CallR X (.type "str") (rStrM X.K CT CD) := by
  intro pins s σ H xs us Q I r h
  obtain ⟨a, m, rfl, hm, hok, q⟩ := h
  cases m with
  | task v =>
    obtain ⟨h, hT⟩ := hm
    obtain ⟨⟨dx, e⟩, _⟩ := id hT
    exact call_strO S.sT hr pins s σ H _ us Q I r ⟨a, dx, _, _, rfl, e, fun H2 s2 Q2 q2 => ⟨_, _, _, rfl, hT.same s2, hok, q2⟩, q⟩
  | door n rm g =>
    obtain ⟨dx, e⟩ := hm
    exact call_strO S.sD hr pins s σ H _ us Q I r ⟨a, dx, _, _, rfl, e, fun H2 s2 Q2 q2 => ⟨_, _, _, _, rfl, ⟨dx, s2 _ _ e⟩, hok, q2 H2 (Same.refl _)⟩, q⟩
theorem call_lenM (S : MemS X.prog X.w X.K X.mg X.base CT CD) (hr : Room 4 X.A) : CallR X (.builtin "len") (rLenM X.K CT CD) := by
  intro pins s σ H xs us Q I r h
  obtain ⟨a, m, rfl, hm, hok, q⟩ := h
  cases m with
  | task v =>
    obtain ⟨h, hT⟩ := hm
    obtain ⟨⟨dx, e⟩, _⟩ := id hT
    obtain ⟨f, fd, F, hb, hs, hf⟩ := S.lT
    obtain ⟨_, hc, _⟩ := hok
    exact call_lenO F hb hr hs hf pins s σ H _ us Q I r ⟨a, dx, _, rfl, e, a, h, v, rfl, hT, by omega, by omega, _, rfl, by omega, by omega, q⟩
  | door n rm g =>
    obtain ⟨dx, e⟩ := hm
    obtain ⟨f, fd, F, hb, hs, hf⟩ := S.lD
    obtain ⟨_, hc, _⟩ := hok
    exact call_lenO F hb hr hs hf pins s σ H _ us Q I r ⟨a, dx, _, rfl, e, a, n, rm, g, rfl, ⟨dx, e⟩, by omega, by omega, _, rfl, by omega, by omega, q⟩
end
theorem row_at {K : PySem.W.Frag} {H : Hp} {r : Addr} {m : Mem} (h : RowAt K H r m) : ∃ xs : List V, SqT K H r xs ∧ atI xs 0 = some (.str (wordM m)) ∧ atI xs 1 = some (.str m.name) ∧ atI xs 2 = some (.int (costM m)) := by
  cases m with
  | task v =>
    obtain ⟨t, e, _⟩ := h
    exact ⟨_, SqT.of e, rfl, rfl, rfl⟩
  | door n rm g => exact ⟨_, SqT.of h, rfl, rfl, rfl⟩
section
variable {P : Program} {w : World} {K : PySem.W.Frag} {mg : Str → Option Value} {base : Heap} {CT CD : Addr}
abbrev nShown : List Str := ["_law_one", "_law_row", "_law_first"]
theorem scShown : FnScope nShown ["_law_one", "_law_row"] (defScope sShown) := ⟨rfl, rfl, rfl, by decide +kernel, rfl, by decide +kernel, by decide +kernel⟩
def spShown (K : PySem.W.Frag) (CT CD : Addr) : Sp := fun vs H Q _ => ∃ (a r : Addr) (m : Mem), vs = [.ref a, .ref r] ∧ MemAt K CT CD H a m ∧ RowAt K H r m ∧ m.ok ∧ ∀ H', Same H H' → Q (.bl true) H'
theorem ok_shown {f : Addr} {fd : FuncData} (F : Fun K "_law_shown_right" "_law_shown_right" sShown f fd) (S : MemS P w K mg base CT CD) (ms : mg "str" = none) (mr : mg "repr" = none) (ml : mg "len" = none) (DX : Dn P w K mg base 3 "_law_row_text" ["_law_row"] (spText K)) : FnOk P w K mg base CX0 6 f fd ["_law_one", "_law_row"] (spShown K CT CD) := by
  refine F.ok scShown (fun vs H Q E h => ?_) (fun cdv A outer s H vs Q E hr h => ?_)
  · obtain ⟨a, r, m, rfl, _⟩ := h
    rfl
  · obtain ⟨a, r, m, rfl, hm, hrow, hok, q⟩ := h
    have hr4 : Room 4 _ := hr.mono (by decide)
    have hr3 : Room 3 _ := hr.mono (by decide)
    refine ⟨_, (pss_cons (ps_set (i := 2) scShown.nd rfl (.inl rfl) (pe_dget (room_u1 hr) (pe_disp (pps_cons pe_str pe_str (pps_cons pe_str pe_str pps_nil)) rfl rfl (fun z => nomatch z) (Nat.le_of_ble_eq_true rfl)) (pe_ix ix_tup (pv 1) pe_int (fun _ _ => rfl)) (fun _ _ => rfl))) (pss_one (ps_ret (pe_and (pe_cmpR op_eq (pe_callTy (call_strM S hr) (by rfl) ms (by decide +kernel) (pa_cons (pv 0) pa_nil)) (pcall DX hr3 (by rfl) (pa_cons (pv 1) pa_nil)) (nomark _))
        (pe_and (pe_cmpR op_eq (pe_callB (call_reprM S hr4) (by rfl) mr (by decide +kernel) (pa_cons (pv 0) pa_nil)) (pe_op op_add_str (pe_op op_add_str (pv 2) (pe_ix ix_tup (pv 1) pe_int (fun _ _ => rfl))) pe_str) (nomark _))
          (pe_one (pe_cmpR op_eq (pe_callB (call_lenM S hr4) (by rfl) ml (by decide +kernel) (pa_cons (pv 0) pa_nil)) (pe_ix ix_tup (pv 1) pe_int (fun _ _ => rfl)) (nomark _)))))))), ?_⟩
    obtain ⟨xs, hS, a0, a1, a2⟩ := row_at hrow
    have hlen : m.name.length ≤ 8 := (nm_len (Mem.nm hok)).2
    have hfl : (firstM m).length = 5 := by cases m <;> rfl
    refine fun p np => ⟨upd_same, [(.inr "task", .str "Task("), (.inr "door", .str "Door(")], rfl, by decide, ?_⟩
    have s1 : Same H (upd (upd H p (.dK [])) p (.dK (mergeK [] [(.inr "task", .str "Task("), (.inr "door", .str "Door(")]))) := same_upd2 (same_upd np) np
    refine ⟨_, rfl, r, _, _, _, rfl, rfl, hS.ext s1, a0, p, .str (firstM m), rfl, .inl ⟨_, .inr (wordM m), .inl upd_same, rfl, ?_⟩, ?_⟩
    · cases m with
      | task v =>
        show some (V.str "Task(") = valV (mergeK [] [(.inr "task", .str "Task("), (.inr "door", .str "Door(")]) (.inr "task")
        decide +kernel
      | door n rm g =>
        show some (V.str "Door(") = valV (mergeK [] [(.inr "task", .str "Task("), (.inr "door", .str "Door(")]) (.inr "door")
        decide +kernel
    refine ⟨_, rfl, a, m, rfl, hm.kt (.of_same s1), hok, fun H1 s2 => ?_⟩
    have s12 := s1.trans s2
    refine ⟨_, rfl, r, m, rfl, hrow.kt (.of_same s12), hok, fun H2 s3 => ⟨rfl, _, rfl, ?_⟩⟩
    have s13 := s12.trans s3
    rw [decide_eq_true rfl]
    refine iteT ⟨_, rfl, a, m, rfl, hm.kt (.of_same s13), hok, fun H3 s4 => ?_⟩
    have s14 := s13.trans s4
    refine ⟨_, rfl, _, rfl, r, _, _, _, rfl, rfl, hS.ext s14, a1, _, _, rfl, rfl, big2 (by omega), _, _, rfl, rfl, big2 (by rw [strLen_append, hfl]; have : ((")" : Str)).length = 1 := rfl; omega), rfl, _, rfl, ?_⟩
    rw [decS, decide_eq_true (reprM_eq m)]
    refine iteT ⟨_, rfl, a, m, rfl, hm.kt (.of_same s14), hok, _, rfl, r, _, _, _, rfl, rfl, hS.ext s14, a2, rfl, ?_⟩
    rw [decide_eq_true rfl]
    exact q H3 s14
end
end Du

set_option Elab.async false
set_option linter.all false
set_option maxRecDepth 100000
namespace Du
open PySem L2
abbrev sNever : Stmt := topS 32
/-- == of members -/
structure MemQ (P : Program) (w : World) (K : PySem.W.Frag) (mg : Str → Option Value) (base : Heap) (CT CD : Addr) : Prop where
  eT : OwnE P w K mg base 3 CT (spTEq K CT CD)
  eD : OwnE P w K mg base 3 CD (spDEq K CT CD)
  tD : PySem.W.notFirst K CT (.ref CD) = true
  dT : PySem.W.notFirst K CD (.ref CT) = true
  hT : PySem.W.hasDictIn K CT = true
  hD : PySem.W.hasDictIn K CD = true
  yT : PySem.W.typeIn K (.ref CT) = some (.type "type")
  yD : PySem.W.typeIn K (.ref CD) = some (.type "type")
section
variable {P : Program} {w : World} {K : PySem.W.Frag} {mg : Str → Option Value} {base : Heap} {CT CD : Addr} {H : Hp} {a : Addr} {m : Mem} {y : V} {T : String}
theorem notFirst_self {C : Addr} : PySem.W.notFirst K C (.ref C) = true := by simp [PySem.W.notFirst]
theorem Beside.plain (M : MemQ P w K mg base CT CD) (p : Pl K H y T) : Beside K CT CD H m y false :=
  .inr ⟨_, p.tyx, kit_plain M.hT M.yT p.sub, kit_plain M.hD M.yD p.sub, rfl⟩
theorem MemAt.ins (h : MemAt K CT CD H a m) : ∃ dx fs, H a = some (.ins (if isTask m then CT else CD) dx fs) := by
  cases m with
  | task v =>
    obtain ⟨t, ⟨dx, e⟩, _⟩ := h
    exact ⟨dx, _, e⟩
  | door n r g =>
    obtain ⟨dx, e⟩ := h
    exact ⟨dx, _, e⟩
/-- a member against a plain thing, either way about -/
theorem eqr_plain (M : MemQ P w K mg base CT CD) (hm : MemAt K CT CD H a m) (hok : m.ok) (p : Pl K H y T) : EqR P w K mg base 3 H (.ref a) y false ∧ EqR P w K mg base 3 H y (.ref a) false := by
  cases m with
  | task v =>
    obtain ⟨t, ⟨dx, e⟩, _⟩ := id hm
    have sp : EqSp (spTEq K CT CD) H a y false := fun H1 s1 Q q => ⟨a, v, y, false, rfl, hm.kt (.of_same s1), hok, .plain M (p.same s1), q H1 (Same.refl _)⟩
    exact ⟨.ownL M.eT (Nat.le_refl _) e (.pl p) sp, .ownR M.eT (Nat.le_refl _) e p sp⟩
  | door n r g =>
    obtain ⟨dx, e⟩ := id hm
    have sp : EqSp (spDEq K CT CD) H a y false := fun H1 s1 Q q => ⟨a, n, r, g, y, false, rfl, hm.kt (.of_same s1), .plain M (p.same s1), q H1 (Same.refl _)⟩
    exact ⟨.ownL M.eD (Nat.le_refl _) e (.pl p) sp, .ownR M.eD (Nat.le_refl _) e p sp⟩
/-- two members -/
theorem eqr_two (M : MemQ P w K mg base CT CD) {c : Addr} {k : Mem} (hm : MemAt K CT CD H a m) (hok : m.ok) (hc : MemAt K CT CD H c k) (hk : k.ok) : EqR P w K mg base 3 H (.ref a) (.ref c) (alike m k) := by
  have yt : ∀ C, PySem.W.notFirst K C (.ref CT) = true → PySem.W.notFirst K C (.ref CD) = true → Yt K C H (.ref c) := fun C n1 n2 => by
    cases k with
    | task v =>
      obtain ⟨t, ⟨dx, e⟩, _⟩ := hc
      exact .own e n1
    | door n r g =>
      obtain ⟨dx, e⟩ := hc
      exact .own e n2
  cases m with
  | task v =>
    obtain ⟨t, ⟨dx, e⟩, _⟩ := id hm
    exact .ownL M.eT (Nat.le_refl _) e (yt _ notFirst_self M.tD) fun H1 s1 Q q => ⟨a, v, _, _, rfl, hm.kt (.of_same s1), hok, .inl ⟨c, k, rfl, hc.kt (.of_same s1), hk, rfl⟩, q H1 (Same.refl _)⟩
  | door n r g =>
    obtain ⟨dx, e⟩ := id hm
    exact .ownL M.eD (Nat.le_refl _) e (yt _ M.dT notFirst_self) fun H1 s1 Q q => ⟨a, n, r, g, _, _, rfl, hm.kt (.of_same s1), .inl ⟨c, k, rfl, hc.kt (.of_same s1), hk, rfl⟩, q H1 (Same.refl _)⟩
end
end Du

set_option Elab.async false
set_option linter.all false
set_option maxRecDepth 100000
set_option maxHeartbeats 1000000
namespace Du
open PySem L2
section
variable {P : Program} {w : World} {K : PySem.W.Frag} {mg : Str → Option Value} {base : Heap} {CT CD : Addr}
abbrev nNever : List Str := ["_law_one", "_law_row", "_law_things", "_law_thing"]
theorem scNever : FnScope nNever ["_law_one", "_law_row"] (defScope sNever) := ⟨rfl, rfl, rfl, by decide +kernel, rfl, by decide +kernel, by decide +kernel⟩
def spNever (K : PySem.W.Frag) (CT CD : Addr) : Sp := fun vs H Q _ => ∃ (a r : Addr) (m : Mem), vs = [.ref a, .ref r] ∧ MemAt K CT CD H a m ∧ RowAt K H r m ∧ m.ok ∧ ∀ H', Same H H' → Q (.bl true) H'
abbrev teE (P : Program) (w : World) (K : PySem.W.Frag) (mg : Str → Option Value) (base : Heap) : TE := tOrV (tOp (rEqR P w K mg base 3) (tVar 0) (tVar 3)) (tOp (rEqR P w K mg base 3) (tVar 3) (tVar 0))
abbrev teN (P : Program) (w : World) (K : PySem.W.Frag) (mg : Str → Option Value) (base : Heap) : TE := tOp (rNeR P w K mg base 3) (tVar 0) (tVar 3)
theorem any_false (n : Nat) : (List.replicate n false).any id = false := List.any_eq_false.mpr fun b hb => by rw [(List.mem_replicate.mp hb).2]; simp
theorem all_true (n : Nat) : (List.replicate n true).all id = true := List.all_eq_true.mpr fun b hb => (List.mem_replicate.mp hb).2
theorem ok_never {f : Addr} {fd : FuncData} (F : Fun K "_law_never_alike" "_law_never_alike" sNever f fd) (S : MemS P w K mg base CT CD) (M : MemQ P w K mg base CT CD) (ms : mg "str" = none) (mr : mg "repr" = none) (ml : mg "list" = none) (my : mg "any" = none) (ma : mg "all" = none) : FnOk P w K mg base CX0 6 f fd ["_law_one", "_law_row"] (spNever K CT CD) := by
  refine F.ok scNever (fun vs H Q E h => ?_) (fun cdv A outer s H vs Q E hr h => ?_)
  · obtain ⟨a, r, m, rfl, _⟩ := h
    rfl
  · obtain ⟨a, r, m, rfl, hm, hrow, hok, q⟩ := h
    have hr4 : Room 4 _ := hr.mono (by decide)
    have hr3 : Room 3 _ := hr.mono (by decide)
    refine ⟨_, (pss_cons (ps_set (i := 2) scNever.nd rfl (.inl rfl) (pe_lst (pa_cons (pv 1) (pa_cons (pe_callTy call_list_of (by rfl) ml (by decide +kernel) (pa_cons (pv 1) pa_nil)) (pa_cons (pe_ix ix_tup (pv 1) pe_int (fun _ _ => rfl)) (pa_cons (pe_callTy (call_strM S hr) (by rfl) ms (by decide +kernel) (pa_cons (pv 0) pa_nil)) (pa_cons (pe_callB (call_reprM S hr4) (by rfl) mr (by decide +kernel) (pa_cons (pv 0) pa_nil)) (pa_cons pe_non (pa_cons (pe_ix ix_tup (pv 1) pe_int (fun _ _ => rfl)) (pa_cons pe_bl (pa_cons pe_int (pa_cons pe_str (pa_cons (pe_tup pa_nil) (pa_cons (pe_lst pa_nil) (pa_cons pe_dnewK (pa_cons (pe_tup (pa_cons (pv 0) pa_nil)) (pa_cons (pe_lst (pa_cons (pv 0) pa_nil)) pa_nil))))))))))))))))) (pss_one (ps_ret (pe_and (pe_not (pe_callB (cr_any rfl) (by rfl) my (by decide +kernel) (pa_cons (pe_lc (own := [("_law_thing", 3)]) (g := gName 3) (tt := tYes) (te := teE P w K mg base) rfl scNever.nd (pi_list (pv 2)) (blkOk_by (N := nNever) (sc := defScope sNever) (by decide +kernel))
          (fun _ _ _ _ _ => pg_name (i := 3) scNever.nd rfl (Or.inl rfl)) (fun _ _ _ _ _ => pts_nil) (fun _ _ _ _ _ => pe_or (pe_cmpR (op_eqR hr3) (pv 0) (pv 3) (nomark _)) (pe_one (pe_cmpR (op_eqR hr3) (pv 3) (pv 0) (nomark _))))) pa_nil)))
        (pe_one (pe_callB (cr_all rfl) (by rfl) ma (by decide +kernel) (pa_cons (pe_lc (own := [("_law_thing", 3)]) (g := gName 3) (tt := tYes) (te := teN P w K mg base) rfl scNever.nd (pi_list (pv 2)) (blkOk_by (N := nNever) (sc := defScope sNever) (by decide +kernel))
          (fun _ _ _ _ _ => pg_name (i := 3) scNever.nd rfl (Or.inl rfl)) (fun _ _ _ _ _ => pts_nil) (fun _ _ _ _ _ => pe_cmpR (op_neR hr4) (pv 0) (pv 3) (nomark _))) pa_nil))))))), ?_⟩
    obtain ⟨xs, hS, a0, a1, a2⟩ := row_at hrow
    refine ⟨_, rfl, _, rfl, r, xs, rfl, .inr hS, fun l2 n2 => ?_⟩
    have s2 : Same H _ := same_upd (o := .lst xs) n2
    refine ⟨_, rfl, r, _, _, _, rfl, rfl, hS.ext s2, a1, _, rfl, a, m, rfl, hm.kt (.of_same s2), hok, fun H4 s4 => ?_⟩
    have t4 := s2.trans s4
    refine ⟨_, rfl, a, m, rfl, hm.kt (.of_same t4), hok, fun H5 s5 => ?_⟩
    have t5 := t4.trans s5
    have e2 : H5 l2 = some (.lst xs) := s5 _ _ (s4 _ _ upd_same)
    refine ⟨_, rfl, r, _, _, _, rfl, rfl, hS.ext t5, a2, (by show 0 ≤ sizeLine; decide), fun t11 n11 => ⟨(by show 0 ≤ sizeLine; decide), fun l12 n12 d13 n13 => ⟨_, rfl, (by show 1 ≤ sizeLine; decide), fun t14 n14 => ⟨_, rfl, (by show 1 ≤ sizeLine; decide), fun l15 n15 => ⟨(by show 15 ≤ sizeLine; decide), fun L nL => ?_⟩⟩⟩⟩⟩
    have u6 : Same H5 _ := same_upd (o := .tup []) n11
    have u7 := u6.trans (same_upd (o := .lst []) n12)
    have u8 := u7.trans (same_upd (o := .dK []) n13)
    have u9 := u8.trans (same_upd (o := .tup [.ref a]) n14)
    have u10 := u9.trans (same_upd (o := .lst [.ref a]) n15)
    have pl : ∀ zs : List V, zs = [.ref r, .ref l2, .str m.name, .str (textM m), .str (reprM m), .non, .int (costM m), .bl true, .int 0, .str "", .ref t11, .ref l12, .ref d13, .ref t14, .ref l15] → ∀ z ∈ zs, ∃ T, Pl K (upd (upd (upd (upd (upd H5 t11 (.tup [])) l12 (.lst [])) d13 (.dK [])) t14 (.tup [.ref a])) l15 (.lst [.ref a])) z T := by
      rintro _ rfl z hz
      have x6 : (upd H5 t11 (.tup [])) t11 = some (.tup []) := upd_same
      have x7 : ∀ H : Hp, (upd H l12 (.lst [])) l12 = some (.lst []) := fun _ => upd_same
      simp only [List.mem_cons, List.not_mem_nil, or_false] at hz
      rcases hz with rfl | rfl | rfl | rfl | rfl | rfl | rfl | rfl | rfl | rfl | rfl | rfl | rfl | rfl | rfl
      · exact ⟨_, .tup (hS.ext (t5.trans u10))⟩
      · exact ⟨_, .lst (SqL.of (u10 _ _ e2))⟩
      · exact ⟨_, .str _⟩
      · exact ⟨_, .str _⟩
      · exact ⟨_, .str _⟩
      · exact ⟨_, .non⟩
      · exact ⟨_, .int _⟩
      · exact ⟨_, .bl _⟩
      · exact ⟨_, .int _⟩
      · exact ⟨_, .str _⟩
      · exact ⟨_, .tup (SqT.of (same_upd n15 _ _ (same_upd n14 _ _ (same_upd n13 _ _ (same_upd n12 _ _ upd_same)))))⟩
      · exact ⟨_, .lst (SqL.of (same_upd n15 _ _ (same_upd n14 _ _ (same_upd n13 _ _ upd_same))))⟩
      · exact ⟨_, .dic (same_upd n15 _ _ (same_upd n14 _ _ upd_same))⟩
      · exact ⟨_, .tup (SqT.of (same_upd n15 _ _ upd_same))⟩
      · exact ⟨_, .lst (SqL.of upd_same)⟩
    have pl := pl _ rfl
    have t10 := t5.trans u10
    generalize (upd (upd (upd (upd (upd H5 t11 (.tup [])) l12 (.lst [])) d13 (.dK [])) t14 (.tup [.ref a])) l15 (.lst [.ref a])) = H10 at *
    have sL : Same H10 (upd H10 L (.lst [V.ref r, .ref l2, .str m.name, .str (textM m), .str (reprM m), .non, .int (costM m), .bl true, .int 0, .str "", .ref t11, .ref l12, .ref d13, .ref t14, .ref l15])) := same_upd nL
    have t12 := t10.trans sL
    have pl2 : ∀ (H' : Hp), Same (upd H10 L (.lst [V.ref r, .ref l2, .str m.name, .str (textM m), .str (reprM m), .non, .int (costM m), .bl true, .int 0, .str "", .ref t11, .ref l12, .ref d13, .ref t14, .ref l15])) H' → ∀ (i : Nat) (z : V), ([V.ref r, .ref l2, .str m.name, .str (textM m), .str (reprM m), .non, .int (costM m), .bl true, .int 0, .str "", .ref t11, .ref l12, .ref d13, .ref t14, .ref l15])[i]? = some z → EqR P w K mg base 3 H' (.ref a) z false ∧ EqR P w K mg base 3 H' z (.ref a) false := fun H' s' i z hz => by
      obtain ⟨T, p⟩ := pl z (List.mem_of_getElem? hz)
      exact eqr_plain M (hm.kt (.of_same (t12.trans s'))) hok (p.same (sL.trans s'))
    refine ⟨_, rfl, L, rfl, ⟨_, SqL.of upd_same⟩, fun D nD => lc_list (K := K) (a := L) (xs := [V.ref r, .ref l2, .str m.name, .str (textM m), .str (reprM m), .non, .int (costM m), .bl true, .int 0, .str "", .ref t11, .ref l12, .ref d13, .ref t14, .ref l15]) (g := gName 3) (tt := tYes) (te := teE P w K mg base) (fun j H' => Same (upd H10 L (.lst [V.ref r, .ref l2, .str m.name, .str (textM m), .str (reprM m), .non, .int (costM m), .bl true, .int 0, .str "", .ref t11, .ref l12, .ref d13, .ref t14, .ref l15])) H' ∧ H' D = some (.lst ((List.replicate j false).map V.bl))) ⟨same_upd nD, upd_same⟩ (fun j H' _ z => SqL.of (z.1 _ _ upd_same)) ?_ ?_⟩
    · rintro j y H1 hy ⟨s1, e⟩
      refine ⟨rfl, _, rfl, _, rfl, false, (pl2 H1 s1 j y hy).1, fun H2 s2 => ⟨_, rfl, iteF ⟨_, rfl, _, rfl, false, (pl2 H2 (s1.trans s2) j y hy).2, fun H3 s3 => ⟨_, s3 _ _ (s2 _ _ e), ?_, same_upd2 ((s1.trans s2).trans s3) nD, ?_⟩⟩⟩⟩
      · rw [List.length_map, List.length_replicate]
        have hj := (List.getElem?_eq_some_iff.mp hy).1
        exact Nat.lt_of_lt_of_le hj (show 15 ≤ sizeLine by decide)
      · rw [upd_same, List.replicate_succ', List.map_append]
        rfl
    · rintro H1 ⟨s1, e⟩
      refine ⟨D, _, rfl, SqL.of e, _, rfl, _, rfl, ?_⟩
      rw [any_false]
      refine iteT ⟨_, rfl, L, rfl, ⟨_, SqL.of (s1 _ _ upd_same)⟩, fun D2 nD2 => lc_list (K := K) (a := L) (xs := [V.ref r, .ref l2, .str m.name, .str (textM m), .str (reprM m), .non, .int (costM m), .bl true, .int 0, .str "", .ref t11, .ref l12, .ref d13, .ref t14, .ref l15]) (g := gName 3) (tt := tYes) (te := teN P w K mg base) (fun j H' => Same H1 H' ∧ H' D2 = some (.lst ((List.replicate j true).map V.bl))) ⟨same_upd nD2, upd_same⟩ (fun j H' _ z => SqL.of (z.1 _ _ (s1 _ _ upd_same))) ?_ ?_⟩
      · rintro j y H2 hy ⟨s2, e⟩
        refine ⟨rfl, _, rfl, _, rfl, false, (pl2 H2 (s1.trans s2) j y hy).1, fun H3 s3 => ⟨_, s3 _ _ e, ?_, same_upd2 (s2.trans s3) nD2, ?_⟩⟩
        · rw [List.length_map, List.length_replicate]
          have hj := (List.getElem?_eq_some_iff.mp hy).1
          exact Nat.lt_of_lt_of_le hj (show 15 ≤ sizeLine by decide)
        · rw [upd_same, List.replicate_succ', List.map_append]
          rfl
      · rintro H2 ⟨s2, e⟩
        refine ⟨D2, _, rfl, SqL.of e, ?_⟩
        rw [all_true]
        exact q H2 (t12.trans (s1.trans s2))
end
end Du

set_option Elab.async false
set_option linter.all false
set_option maxRecDepth 100000
set_option maxHeartbeats 1000000
namespace Du
open PySem L2
abbrev sTwo : Stmt := topS 33
section
variable {P : Program} {w : World} {K : PySem.W.Frag} {mg : Str → Option Value} {base : Heap} {CT CD : Addr}
abbrev nTwo : List Str := ["_law_row", "_law_another", "_law_one", "_law_same", "_law_other", "_law_alike"]
theorem scTwo : FnScope nTwo ["_law_row", "_law_another"] (defScope sTwo) := ⟨rfl, rfl, rfl, by decide +kernel, rfl, by decide +kernel, by decide +kernel⟩
def spTwo (K : PySem.W.Frag) : Sp := fun vs H Q _ => ∃ (r r2 : Addr) (m k : Mem), vs = [.ref r, .ref r2] ∧ RowAt K H r m ∧ RowAt K H r2 k ∧ m.ok ∧ k.ok ∧ ∀ H', Same H H' → Q (.bl true) H'
theorem decB (a b : Bool) : decide (V.bl a = V.bl b) = decide (a = b) := by cases a <;> cases b <;> rfl
theorem ok_two {f : Addr} {fd : FuncData} (F : Fun K "_law_two_right" "_law_two_right" sTwo f fd) (M : MemQ P w K mg base CT CD) (mI : mg "isinstance" = none) (mb : mg "bool" = none) (DM : Dn P w K mg base 8 "_law_member" ["_law_row"] (spMember K CT CD)) (DS : Dn P w K mg base 6 "_law_shown_right" ["_law_one", "_law_row"] (spShown K CT CD)) (DV : Dn P w K mg base 6 "_law_never_alike" ["_law_one", "_law_row"] (spNever K CT CD)) :
    FnOk P w K mg base CX0 9 f fd ["_law_row", "_law_another"] (spTwo K) := by
  refine F.ok scTwo (fun vs H Q E h => ?_) (fun cdv A outer s H vs Q E hr h => ?_)
  · obtain ⟨r, r2, m, k, rfl, _⟩ := h
    rfl
  · obtain ⟨r, r2, m, k, rfl, hm, hk, om, ok, q⟩ := h
    have hr6 : Room 6 _ := hr.mono (by decide)
    have hr4 : Room 4 _ := hr.mono (by decide)
    have hr3 : Room 3 _ := hr.mono (by decide)
    refine ⟨_, (pss_cons (ps_par3 (i := 2) (j := 3) (l := 4) rfl scTwo.nd rfl rfl rfl (by decide) (by decide) (by decide) rfl rfl rfl (pa_cons (pcall DM hr (by rfl) (pa_cons (pv 0) pa_nil)) (pa_cons (pcall DM hr (by rfl) (pa_cons (pv 0) pa_nil)) (pa_cons (pcall DM hr (by rfl) (pa_cons (pv 1) pa_nil)) pa_nil))) (by rfl)) (pss_cons (ps_set (i := 5) scTwo.nd rfl (.inl rfl) (pe_cmpR (op_eqD hr.units) (pv 0) (pv 1) (nomark _))) (pss_cons (ps_if (PW.pt (pw_or (pt_not (pt_cmpR (op_eqR hr3) (pv 2) (pv 3) (nomark _))) (pw_or (pt_cmpR (op_neR hr4) (pv 2) (pv 3) (nomark _)) (pw_or (pt_not (pt_cmpR (op_eqR hr3) (pv 3) (pv 2) (nomark _))) (pw_or1 (pt_cmpR (op_notInR hr4) (pv 3) (pe_lst (pa_cons pe_non (pa_cons (pv 2) pa_nil))) (by rfl))))))) pss_never pss_nil) (pss_cons (ps_if (PW.pt (pw_or (pt_cmpR op_ne (pe_cmpR (op_eqR hr3) (pv 2) (pv 4) (nomark _)) (pv 5) (nomark _)) (pw_or (pt_cmpR op_ne (pe_cmpR (op_eqR hr3) (pv 4) (pv 2) (nomark _)) (pv 5) (nomark _)) (pw_or (pt_cmpR op_eq (pe_cmpR (op_neR hr4) (pv 2) (pv 4) (nomark _)) (pv 5) (nomark _)) (pw_or1 (pt_cmpR op_ne (pe_cmpR (op_inR hr4) (pv 4) (pe_lst (pa_cons (pv 2) pa_nil)) (by rfl)) (pv 5) (nomark _))))))) pss_never pss_nil) (pss_cons (ps_if (PW.pt (pw_or (pt_not (pt_val (pe_callB call_isi (by rfl) mI (by decide +kernel) (pa_cons (pe_cmpR (op_eqR hr3) (pv 2) (pv 4) (nomark _)) (pa_cons (pe_bltn (v := .ty "bool") (by rfl) mb (by decide +kernel) rfl) pa_nil))))) (pw_or1 (pt_not (pt_val (pe_callB call_isi (by rfl) mI (by decide +kernel) (pa_cons (pe_cmpR (op_neR hr4) (pv 2) (pv 4) (nomark _)) (pa_cons (pe_bltn (v := .ty "bool") (by rfl) mb (by decide +kernel) rfl) pa_nil)))))))) pss_never pss_nil) (pss_one (ps_ret (pe_and (pcall DS hr6 (by rfl) (pa_cons (pv 2) (pa_cons (pv 0) pa_nil))) (pe_and (pcall DS hr6 (by rfl) (pa_cons (pv 4) (pa_cons (pv 1) pa_nil))) (pe_one (pcall DV hr6 (by rfl) (pa_cons (pv 2) (pa_cons (pv 0) pa_nil))))))))))))), ?_⟩
    refine ⟨_, rfl, r, m, rfl, hm, om, fun x H1 s1 nx hx => ⟨_, rfl, r, m, rfl, hm.kt (.of_same s1), om, fun y H2 s2 ny hy => ⟨_, rfl, r2, k, rfl, hk.kt (.of_same (s1.trans s2)), ok, fun z H4 s3' nz hz => ⟨_, _, _, rfl, ?_⟩⟩⟩⟩
    have s3 := s3'
    have s4 : Same H4 H4 := Same.refl _
    have t4 := ((s1.trans s2).trans s3).trans s4
    have hx4 := hx.kt (.of_same ((s2.trans s3).trans s4))
    have hy4 := hy.kt (.of_same (s3.trans s4))
    have hz4 := hz.kt (.of_same s4)
    have nxz : x ≠ z := by
      obtain ⟨dx, fs, e⟩ := (hx.kt (.of_same s2)).ins
      exact ne_of_none e nz
    refine ⟨_, rfl, _, rfl, rowD m, rowD k, row_dp (hm.kt (.of_same t4)), row_dp (hk.kt (.of_same t4)), row_shaped om, row_shaped ok, ?_⟩
    rw [eqv_row]
    have exy : ∀ H', Same H4 H' → EqR P w K mg base 3 H' (.ref x) (.ref y) true ∧ EqR P w K mg base 3 H' (.ref y) (.ref x) true := fun H' s' => by
      have z1 := eqr_two M (hx4.kt (.of_same s')) om (hy4.kt (.of_same s')) om
      have z2 := eqr_two M (hy4.kt (.of_same s')) om (hx4.kt (.of_same s')) om
      rw [alike_refl] at z1 z2
      exact ⟨z1, z2⟩
    have exz : ∀ H', Same H4 H' → EqR P w K mg base 3 H' (.ref x) (.ref z) (alike m k) ∧ EqR P w K mg base 3 H' (.ref z) (.ref x) (alike m k) := fun H' s' => by
      refine ⟨eqr_two M (hx4.kt (.of_same s')) om (hz4.kt (.of_same s')) ok, ?_⟩
      rw [alike_comm]
      exact eqr_two M (hz4.kt (.of_same s')) ok (hx4.kt (.of_same s')) om
    generalize alike m k = b at exz
    have eno : ∀ H', Same H4 H' → EqR P w K mg base 3 H' .non (.ref y) false := fun H' s' => (eqr_plain M (hy4.kt (.of_same s')) om .non).2
    have cb : decide (V.bl (!b) = V.bl b) = false := by cases b <;> rfl
    have c1 : ([b].any id) = b := by cases b <;> rfl
    refine ⟨_, rfl, _, rfl, true, (exy _ (Same.refl _)).1, fun H5 s5 => ⟨_, rfl, iteF ?_⟩⟩
    refine ⟨_, rfl, _, rfl, true, (exy H5 s5).1, fun H6 s6 => ⟨_, rfl, iteF ?_⟩⟩
    have k6 := s5.trans s6
    refine ⟨_, rfl, _, rfl, true, (exy H6 k6).2, fun H7 s7 => ⟨_, rfl, iteF ?_⟩⟩
    have k7 := k6.trans s7
    refine ⟨_, rfl, _, rfl, (by show 2 ≤ sizeLine; decide), fun L nL => ?_⟩
    have k8 := k7.trans (same_upd (o := .lst [.non, .ref x]) nL)
    refine ⟨L, _, [false, true], rfl, upd_same, .cons (eno _ k8) (fun e => nomatch e) (.cons (exy _ k8).1 (fun _ => rfl) .nil), fun H9 s9 => ⟨_, rfl, iteF ?_⟩⟩
    have k9 := k8.trans s9
    refine ⟨_, rfl, _, rfl, b, (exz H9 k9).1, fun H10 s10 => ⟨_, rfl, rfl, _, rfl, iteNS rfl ?_⟩⟩
    have k10 := k9.trans s10
    refine ⟨_, rfl, _, rfl, b, (exz H10 k10).2, fun H11 s11 => ⟨_, rfl, rfl, _, rfl, iteNS rfl ?_⟩⟩
    have k11 := k10.trans s11
    refine ⟨_, rfl, _, rfl, b, (exz H11 k11).1, fun H12 s12 => ⟨_, rfl, rfl, _, rfl, ?_⟩⟩
    have k12 := k11.trans s12
    rw [cb]
    refine iteF ⟨_, rfl, _, rfl, (by show 1 ≤ sizeLine; decide), fun L2 nL2 => ?_⟩
    have k13 := k12.trans (same_upd (o := .lst [.ref x]) nL2)
    refine ⟨L2, _, [b], rfl, upd_same, .cons (exz _ k13).1 (fun e => absurd (V.ref.inj e) nxz) .nil, fun H14 s14 => ⟨_, rfl, rfl, _, rfl, iteNS (by rw [c1]; rfl) ?_⟩⟩
    have k14 := k13.trans s14
    refine ⟨_, rfl, _, rfl, b, (exz H14 k14).1, fun H15 s15 => ⟨_, _, _, _, true, rfl, .ty "bool", .base (.bl _), kit_ty (by decide +kernel), true, rfl, iteF ?_⟩⟩
    have k15 := k14.trans s15
    refine ⟨_, rfl, _, rfl, b, (exz H15 k15).1, fun H16 s16 => ⟨_, _, _, _, true, rfl, .ty "bool", .base (.bl _), kit_ty (by decide +kernel), true, rfl, iteF ?_⟩⟩
    have k16 := k15.trans s16
    refine ⟨_, rfl, _, rfl, x, r, m, rfl, hx4.kt (.of_same k16), hm.kt (.of_same (t4.trans k16)), om, fun H17 s17 => ⟨_, rfl, iteT ?_⟩⟩
    have k17 := k16.trans s17
    refine ⟨_, rfl, _, rfl, z, r2, k, rfl, hz4.kt (.of_same k17), hk.kt (.of_same (t4.trans k17)), ok, fun H18 s18 => ⟨_, rfl, iteT ?_⟩⟩
    have k18 := k17.trans s18
    refine ⟨_, rfl, _, rfl, x, r, m, rfl, hx4.kt (.of_same k18), hm.kt (.of_same (t4.trans k18)), om, fun H19 s19 => ?_⟩
    exact q H19 (t4.trans (k18.trans s19))
end
end Du

set_option Elab.async false
set_option linter.all false
set_option maxRecDepth 100000
set_option maxHeartbeats 1000000
namespace Du
open PySem L2
abbrev sDrawn : Stmt := topS 28
abbrev sOther : Stmt := topS 29
def cutL (ws : List Str) (lo hi : Option Int) : List Str := (ws.drop (HT.sIx ws.length 0 lo)).take (HT.sIx ws.length ws.length hi - HT.sIx ws.length 0 lo)
theorem cutV_map (ws : List Str) (lo hi : Option Int) : cutV (ws.map V.str) lo hi = (cutL ws lo hi).map V.str := by
  unfold cutV cutL
  rw [List.length_map, List.map_take, List.map_drop]
theorem cutL_sub (ws : List Str) (lo hi : Option Int) : (cutL ws lo hi).Sublist ws := (List.take_sublist _ _).trans (List.drop_sublist _ _)
section
variable {P : Program} {w : World} {K : PySem.W.Frag} {mg : Str → Option Value} {base : Heap}
abbrev nDrawn : List Str := ["_law_purse_here", "_law_label", "_law_tool", "_law_other", "_law_cost", "_law_pause", "_law_term"]
theorem scDrawn : FnScope nDrawn ["_law_purse_here"] (defScope sDrawn) := ⟨rfl, rfl, rfl, by decide +kernel, rfl, by decide +kernel, by decide +kernel⟩
def spDrawn (K : PySem.W.Frag) : Sp := fun vs H Q _ => ∃ p : Addr, vs = [.ref p] ∧ Purse H p ∧ ∀ (d r : Addr) (v : TaskV) (z : Str) H', Step p H H' → H' d = some (.lst [.ref r, .str z]) → RowAt K H' r (.task v) → v.ok → isNm z = true → d ≠ p → Q (.ref d) H'
theorem ok_drawn {f : Addr} {fd : FuncData} (F : Fun K "_law_drawn" "_law_drawn" sDrawn f fd) (DT : Dn P w K mg base 3 "_law_take" ["_law_purse_here", "_law_many"] spTake)
    (DWd : Dn P w K mg base 4 "_law_words" ["_law_purse_here", "_law_many"] spWords) (DH : Dn P w K mg base 4 "_law_holds" ["_law_purse_here", "_law_cost", "_law_tools"] (spHoldsL K)) :
    FnOk P w K mg base CX0 5 f fd ["_law_purse_here"] (spDrawn K) := by
  refine F.ok scDrawn (fun vs H Q E h => ?_) (fun cdv A outer s H vs Q E hr h => ?_)
  · obtain ⟨p, rfl, _⟩ := h
    rfl
  · obtain ⟨p, rfl, hp, q⟩ := h
    have hr1 : Room 3 _ := hr.mono (by decide)
    refine ⟨_, (pss_cons (ps_asg (pcall DWd hr (by rfl) (pa_cons (pv 0) (pa_cons pe_int pa_nil))) (pg_lst rfl (pgs_cons (pg_name (i := 1) scDrawn.nd rfl (.inl rfl)) (pgs_cons (pg_name (i := 2) scDrawn.nd rfl (.inl rfl)) (pgs_cons (pg_name (i := 3) scDrawn.nd rfl (.inl rfl)) pgs_nil))))) (pss_cons (ps_set (i := 4) scDrawn.nd rfl (.inl rfl) (pe_op op_add pe_int (pcall DT hr1 (by rfl) (pa_cons (pv 0) (pa_cons (pe_ix ix_list (pe_lst (pa_cons pe_int (pa_cons pe_int pa_nil))) (pcall DT hr1 (by rfl) (pa_cons (pv 0) (pa_cons pe_int pa_nil))) (fun _ _ => rfl)) pa_nil))))) (pss_cons (ps_set (i := 5) scDrawn.nd rfl (.inl rfl) (pe_op op_add pe_int (pcall DT hr1 (by rfl) (pa_cons (pv 0) (pa_cons pe_int pa_nil))))) (pss_cons (ps_set (i := 6) scDrawn.nd rfl (.inl rfl) (pe_op op_add pe_int (pcall DT hr1 (by rfl) (pa_cons (pv 0) (pa_cons (pv 5) pa_nil))))) (pss_one (ps_ret (pe_lst (pa_cons (pe_tup (pa_cons pe_str (pa_cons (pv 1) (pa_cons (pv 4) (pa_cons (pv 5) (pa_cons (pv 6) (pa_cons (pcall DH hr (by rfl) (pa_cons (pv 0) (pa_cons (pv 4) (pa_cons (pe_slice sl_list (pe_lst (pa_cons (pv 2) (pa_cons (pv 3) pa_nil))) po_none (po_some (pcall DT hr1 (by rfl) (pa_cons (pv 0) (pa_cons pe_int pa_nil))))) pa_nil)))) pa_nil))))))) (pa_cons (pv 3) pa_nil))))))))), ?_⟩
    refine ⟨_, rfl, p, 3, rfl, by decide, hp, fun l ws H1 s1 nl el hwl hnd hnm => ?_⟩
    obtain ⟨w0, w1, w2, rfl⟩ : ∃ a b c, ws = [a, b, c] := by
      match ws, hwl with
      | [a, b, c], _ => exact ⟨a, b, c, rfl⟩
    refine ⟨l, _, rfl, SqL.of el, rfl, _, _, rfl, _, _, rfl, _, _, rfl, rfl, ?_⟩
    refine ⟨_, rfl, (by show 2 ≤ sizeLine; decide), fun L1 nL1 => ?_⟩
    have s2 := Step.new (o := .lst [.int 6, .int 99]) s1.purse nL1
    refine ⟨_, rfl, p, 2, rfl, by decide, by decide, s2.purse, fun r1 H2 r10 r11 s3 => ?_⟩
    obtain ⟨tv, htv, hmem⟩ := at_some (xs := [.int 6, .int 99]) r10 r11
    obtain ⟨top, rfl, ht1, ht2⟩ : ∃ c : Int, tv = .int c ∧ 1 ≤ c ∧ c ≤ 99 := by
      simp at hmem
      rcases hmem with rfl | rfl <;> exact ⟨_, rfl, by omega, by omega⟩
    refine ⟨L1, _, _, _, rfl, rfl, sqL_step s3 (s1.purse.ne nL1) upd_same, htv, p, top, rfl, by omega, by omega, s3.purse, fun c0 H3 c00 c01 s4 => ⟨_, _, rfl, rfl, ?_⟩⟩
    have t3 := ((s1.trans s2).trans s3).trans s4
    refine ⟨_, rfl, p, 600, rfl, by decide, by decide, s4.purse, fun g0 H4 g00 g01 s5 => ⟨_, _, rfl, rfl, ?_⟩⟩
    refine ⟨_, rfl, _, rfl, p, 1 + g0, rfl, by omega, by omega, s5.purse, fun d0 H5 d00 d01 s6 => ⟨_, _, rfl, rfl, ?_⟩⟩
    have t5 := (t3.trans s5).trans s6
    refine ⟨_, rfl, _, rfl, _, rfl, _, rfl, _, rfl, _, rfl, _, rfl, _, rfl, (by show 2 ≤ sizeLine; decide), fun L2' nL2 => ?_⟩
    have s7 := Step.new (o := .lst [.str w1, .str w2]) s6.purse nL2
    refine ⟨_, rfl, p, 3, rfl, by decide, by decide, s7.purse, fun g2 H6 _ _ s8 => ⟨_, rfl, L2', _, rfl, sqL_step s8 (s6.purse.ne nL2) upd_same, fun L3 nL3 => ?_⟩⟩
    have t6 := (t5.trans s7).trans s8
    have s9 := Step.new (o := .lst (cutV ([w1, w2].map V.str) none (some g2))) t6.purse nL3
    have nd2 : [w1, w2].Nodup := hnd.sublist (List.sublist_cons_self _ _)
    have nm2 : ∀ z ∈ [w1, w2], isNm z = true := fun z hz => hnm z (List.mem_cons_of_mem _ hz)
    refine ⟨p, L3, 1 + c0, cutL [w1, w2] none (some g2), rfl, by omega, by omega, s9.purse, ?_, ?_, ?_, ?_, fun t hs H7 s10 hh gd _ => ?_⟩
    · rw [← cutV_map]
      exact SqL.of upd_same
    · exact Nat.lt_of_le_of_lt (cutL_sub _ _ _).length_le (by show 2 < 64; decide)
    · exact (cutL_sub _ _ _).nodup nd2
    · exact fun z hz => nm2 z ((cutL_sub _ _ _).mem hz)
    · refine ⟨(by show 6 ≤ sizeLine; decide), fun r nr => ?_⟩
      have s11 := Step.new (o := .tup [.str "task", .str w0, .int (1 + c0), .int (1 + g0), .int (1 + d0), .ref t]) s10.purse nr
      refine ⟨_, rfl, (by show 2 ≤ sizeLine; decide), fun d nd => ?_⟩
      have s12 := Step.new (o := .lst [.ref r, .str w2]) s11.purse nd
      have t7 := ((t6.trans s9).trans s10).trans s11
      refine q d r ⟨w0, 1 + c0, 1 + g0, 1 + d0, hs⟩ w2 _ (t7.trans s12) upd_same ⟨t, ?_, (hh.step s10.purse s11).step s11.purse s12⟩ ?_ (hnm _ (by simp)) (s11.purse.ne nd)
      · exact s12.keep r _ (s10.purse.ne nr) upd_same
      · refine ⟨hnm _ (by simp), ⟨by show 1 ≤ 1 + c0; omega, by show 1 + c0 ≤ 99; omega⟩, ⟨by show 1 ≤ 1 + g0; omega, by show 1 + g0 ≤ 600; omega⟩, ⟨by show 1 ≤ 1 + d0; omega, by show 1 + d0 ≤ 1 + g0; omega⟩, gd.ok, fun h hh => ?_⟩
        exact Nat.le_trans (nm_len (gd.nm h hh)).2 (by decide)
end
end Du

set_option Elab.async false
set_option linter.all false
set_option maxRecDepth 100000
set_option maxHeartbeats 1000000
namespace Du
open PySem L2
theorem hd_mono {h : Hold} {c : Int} (e : isHd h c = true) : isHd h (c + 1) = true := by
  unfold isHd at e ⊢
  simp only [Bool.and_eq_true, decide_eq_true_eq] at e ⊢
  exact ⟨e.1, ⟨e.2.1.1, by omega⟩, e.2.2.1, by omega⟩
theorem hds_mono {hs : List Hold} {c : Int} (e : areHds hs c = true) : areHds hs (c + 1) = true := by
  unfold areHds at e ⊢
  simp only [Bool.and_eq_true, List.all_eq_true] at e ⊢
  exact ⟨e.1, fun h hh => hd_mono (e.2.1 h hh), e.2.2⟩
theorem hds_tail {hs : List Hold} {c : Int} (e : areHds hs c = true) : areHds (hs.drop 1) c = true := by
  cases hs with
  | nil => exact e
  | cons h r =>
    unfold areHds at e ⊢
    simp only [Bool.and_eq_true, List.all_eq_true, decide_eq_true_eq, List.drop_succ_cons, List.drop_zero, List.length_cons] at e ⊢
    refine ⟨by omega, fun g hg => e.2.1 g (List.mem_cons_of_mem _ hg), fun p hp => ?_⟩
    cases r with
    | nil => simp at hp
    | cons g r' => exact e.2.2 p (by
        rw [List.zip_cons_cons]
        exact List.mem_cons_of_mem _ (by simpa using hp))
theorem minB {a d : Int} (h1 : 1 ≤ a) (h2 : 1 ≤ d) : 1 ≤ (if a < d then a else d) ∧ (if a < d then a else d) ≤ a := by
  split <;> omega
section
variable {P : Program} {w : World} {K : PySem.W.Frag} {mg : Str → Option Value} {base : Heap}
abbrev nOther : List Str := ["_law_purse_here", "_law_row", "_law_other", "_law_label", "_law_cost", "_law_pause", "_law_term", "_law_way", "_law_other_pause"]
abbrev pOther : List Str := ["_law_purse_here", "_law_row", "_law_other"]
theorem scOther : FnScope nOther pOther (defScope sOther) := ⟨rfl, rfl, rfl, by decide +kernel, rfl, by decide +kernel, by decide +kernel⟩
def spOther (K : PySem.W.Frag) : Sp := fun vs H Q _ => ∃ (p r : Addr) (v : TaskV) (z : Str), vs = [.ref p, .ref r, .str z] ∧ Purse H p ∧ RowAt K H r (.task v) ∧ v.ok ∧ isNm z = true ∧ ∀ (r2 : Addr) (u : TaskV) H', Step p H H' → RowAt K H' r2 (.task u) → u.ok → Q (.ref r2) H'
theorem hds_nil {H : Hp} {t : Addr} (e : H t = some (.tup [])) : HdsAt K H t [] := ⟨[], SqT.of e, rfl, fun i v h e _ => by simp at e⟩
theorem ok_other {f : Addr} {fd : FuncData} (F : Fun K "_law_otherwise" "_law_otherwise" sOther f fd) (mi : mg "int" = none) (mn : mg "min" = none) (DT : Dn P w K mg base 3 "_law_take" ["_law_purse_here", "_law_many"] spTake) : FnOk P w K mg base CX0 4 f fd pOther (spOther K) := by
  refine F.ok scOther (fun vs H Q E h => ?_) (fun cdv A outer s H vs Q E hr h => ?_)
  · obtain ⟨p, r, v, z, rfl, _⟩ := h
    rfl
  · obtain ⟨p, r, v, z, rfl, hp, hrow, hok, hz, q⟩ := h
    have x5 : ∀ {X : Cx}, True := fun {_} => True.intro
    refine ⟨_, (pss_cons (ps_asg (pe_slice sl_tup (pv 1) (po_some pe_int) (po_some pe_int)) (pg_tup rfl (pgs_cons (pg_name (i := 3) scOther.nd rfl (.inl rfl)) (pgs_cons (pg_name (i := 4) scOther.nd rfl (.inl rfl)) (pgs_cons (pg_name (i := 5) scOther.nd rfl (.inl rfl)) (pgs_cons (pg_name (i := 6) scOther.nd rfl (.inl rfl)) pgs_nil)))))) (pss_cons (ps_set (i := 7) scOther.nd rfl (.inl rfl) (pcall DT hr (by rfl) (pa_cons (pv 0) (pa_cons pe_int pa_nil)))) (pss_cons (ps_if (pt_cmpR op_eq (pv 7) pe_int (nomark _)) (pss_one (ps_ret (pe_tup (pa_cons pe_str (pa_cons (pv 2) (pa_cons (pv 4) (pa_cons (pv 5) (pa_cons (pv 6) (pa_cons (pe_ix ix_tup (pv 1) pe_int (fun _ _ => rfl)) pa_nil))))))))) pss_nil) (pss_cons (ps_if (pt_cmpR op_eq (pv 7) pe_int (nomark _)) (pss_one (ps_ret (pe_tup (pa_cons pe_str (pa_cons (pv 3) (pa_cons (pe_op op_add (pe_op op_mod (pv 4) pe_int) pe_int) (pa_cons (pv 5) (pa_cons (pv 6) (pa_cons (pe_ix ix_list (pe_lst (pa_cons (pe_ix ix_tup (pv 1) pe_int (fun _ _ => rfl)) (pa_cons (pe_tup pa_nil) pa_nil))) (pe_callTy call_int1 (by rfl) mi (by decide +kernel) (pa_cons (pe_cmpR op_eq (pv 4) pe_int (nomark _)) pa_nil)) (fun _ _ => rfl)) pa_nil))))))))) pss_nil) (pss_cons (ps_if (pt_cmpR op_eq (pv 7) pe_int (nomark _)) (pss_cons (ps_set (i := 8) scOther.nd rfl (.inl rfl) (pe_op op_sub (pe_op op_add (pv 5) pe_int) (pe_op op_mul pe_int (pe_callTy call_int1 (by rfl) mi (by decide +kernel) (pa_cons (pe_cmpR op_eq (pv 5) pe_int (nomark _)) pa_nil))))) (pss_one (ps_ret (pe_tup (pa_cons pe_str (pa_cons (pv 3) (pa_cons (pv 4) (pa_cons (pv 8) (pa_cons (pe_callB (call_min2 rfl) (by rfl) mn (by decide +kernel) (pa_cons (pv 6) (pa_cons (pv 8) pa_nil))) (pa_cons (pe_ix ix_tup (pv 1) pe_int (fun _ _ => rfl)) pa_nil)))))))))) pss_nil) (pss_cons (ps_if (pt_cmpR op_eq (pv 7) pe_int (nomark _)) (pss_one (ps_ret (pe_tup (pa_cons pe_str (pa_cons (pv 3) (pa_cons (pv 4) (pa_cons (pv 5) (pa_cons (pe_op op_add (pe_op op_mod (pv 6) (pv 5)) pe_int) (pa_cons (pe_ix ix_tup (pv 1) pe_int (fun _ _ => rfl)) pa_nil))))))))) pss_nil) (pss_cons (ps_if (pt_cmpR (op_neD hr.units) (pe_ix ix_tup (pv 1) pe_int (fun _ _ => rfl)) (pe_tup pa_nil) (nomark _)) (pss_one (ps_ret (pe_tup (pa_cons pe_str (pa_cons (pv 3) (pa_cons (pv 4) (pa_cons (pv 5) (pa_cons (pv 6) (pa_cons (pe_slice sl_tup (pe_ix ix_tup (pv 1) pe_int (fun _ _ => rfl)) (po_some pe_int) po_none) pa_nil))))))))) pss_nil) (pss_one (ps_ret (pe_tup (pa_cons pe_str (pa_cons (pv 3) (pa_cons (pv 4) (pa_cons (pv 5) (pa_cons (pv 6) (pa_cons (pe_tup (pa_cons (pe_tup (pa_cons (pv 2) (pa_cons pe_int (pa_cons pe_int pa_nil)))) pa_nil)) pa_nil)))))))))))))))), ?_⟩
    obtain ⟨t, er, hh⟩ := hrow
    have hS : SqT K H r [.str "task", .str v.name, .int v.cost, .int v.gap, .int v.due, .ref t] := SqT.of er
    obtain ⟨hn, hc, hg, hd, ha, hl⟩ := id hok
    refine ⟨_, rfl, _, rfl, _, rfl, r, _, rfl, hS, (by show ¬ (HT.sIx 6 0 (some 1) = 0 ∧ HT.sIx 6 6 (some 5) = 6); decide), fun T nT => ?_⟩
    have s1 := Step.new (o := .tup [.str v.name, .int v.cost, .int v.gap, .int v.due]) hp nT
    refine ⟨T, [.str v.name, .int v.cost, .int v.gap, .int v.due], rfl, SqT.of upd_same, rfl, _, _, rfl, _, _, rfl, _, _, rfl, _, _, rfl, rfl, ?_⟩
    refine ⟨_, rfl, p, 6, rfl, by decide, by decide, s1.purse, fun wy H1 w0 w1 s2 => ?_⟩
    have t2 := s1.trans s2
    have k2 : Kt H H1 := .of_step hp t2
    have hS1 := sqT_kt hS k2
    have hh1 := hh.kt k2
    have fin : ∀ (H' : Hp) (u : TaskV) (t' r2 : Addr), Step p H H' → HdsAt K H' t' u.holds → u.ok → H' r2 = none → Q (.ref r2) (upd H' r2 (.tup [.str "task", .str u.name, .int u.cost, .int u.gap, .int u.due, .ref t'])) := fun H' u t' r2 s' hh' ho nr => by
      have s3 := Step.new (o := .tup [.str "task", .str u.name, .int u.cost, .int u.gap, .int u.due, .ref t']) s'.purse nr
      exact q r2 u _ (s'.trans s3) ⟨t', upd_same, hh'.step s'.purse s3⟩ ho
    refine ⟨_, rfl, rfl, _, rfl, ?_⟩
    rw [decI]
    by_cases c0 : wy = 0
    · rw [decide_eq_true c0]
      refine iteT ⟨_, rfl, _, rfl, _, rfl, _, rfl, _, rfl, r, _, _, _, rfl, rfl, hS1, at_of (j := 5) rfl rfl, (by show 6 ≤ sizeLine; decide), fun r2 nr => ?_⟩
      exact fin H1 { v with name := z } t r2 t2 hh1 ⟨hz, hc, hg, hd, ha, hl⟩ nr
    rw [decide_eq_false c0]
    refine iteF ⟨_, rfl, rfl, _, rfl, ?_⟩
    rw [decI]
    by_cases c1 : wy = 1
    · rw [decide_eq_true c1]
      refine iteT ⟨_, rfl, _, rfl, _, _, rfl, rfl, (show (0 : Int) < 99 by decide), _, _, rfl, rfl, _, rfl, _, rfl, _, rfl, r, _, _, _, rfl, rfl, hS1, at_of (j := 5) rfl rfl, (by show 0 ≤ sizeLine; decide), fun t0 n0 => ?_⟩
      have s3 := Step.new (o := .tup []) t2.purse n0
      refine ⟨(by show 2 ≤ sizeLine; decide), fun L nL => ?_⟩
      have s4 := Step.new (o := .lst [.ref t, .ref t0]) s3.purse nL
      refine ⟨_, rfl, rfl, .inr ⟨_, rfl, ?_⟩⟩
      rw [decI]
      have t4 := (t2.trans s3).trans s4
      by_cases e9 : v.cost = 99
      · rw [decide_eq_true e9]
        refine ⟨L, _, _, _, rfl, rfl, SqL.of upd_same, at_of (j := 1) rfl rfl, (by show 6 ≤ sizeLine; decide), fun r2 nr => ?_⟩
        have z1 : v.cost % 99 + 1 = 1 := by rw [e9]; decide
        exact fin _ { v with cost := v.cost % 99 + 1, holds := [] } t0 r2 t4 (hds_nil (s4.keep _ _ (t2.purse.ne n0) upd_same)) ⟨hn, ⟨by show 1 ≤ v.cost % 99 + 1; omega, by show v.cost % 99 + 1 ≤ 99; omega⟩, hg, hd, by rfl, fun h hh => by cases hh⟩ nr
      · rw [decide_eq_false e9]
        refine ⟨L, _, _, _, rfl, rfl, SqL.of upd_same, at_of (j := 0) rfl rfl, (by show 6 ≤ sizeLine; decide), fun r2 nr => ?_⟩
        have z1 : v.cost % 99 + 1 = v.cost + 1 := by rw [Int.emod_eq_of_lt (by omega) (by omega)]
        exact fin _ { v with cost := v.cost % 99 + 1 } t r2 t4 ((hh1.step t2.purse s3).step s3.purse s4) ⟨hn, ⟨by show 1 ≤ v.cost % 99 + 1; omega, by show v.cost % 99 + 1 ≤ 99; omega⟩, hg, hd, by show areHds v.holds (v.cost % 99 + 1) = true; rw [z1]; exact hds_mono ha, hl⟩ nr
    rw [decide_eq_false c1]
    refine iteF ⟨_, rfl, rfl, _, rfl, ?_⟩
    rw [decI]
    by_cases c2 : wy = 2
    · rw [decide_eq_true c2]
      refine iteT ⟨_, rfl, _, _, rfl, rfl, _, rfl, rfl, .inr ⟨_, rfl, ?_⟩⟩
      rw [decI]
      obtain ⟨pz, hpz, p1, p2⟩ : ∃ pz : Int, v.gap + 1 - 2 * (if decide (v.gap = 600) = true then 1 else 0) = pz ∧ 1 ≤ pz ∧ pz ≤ 600 := ⟨_, rfl, by split <;> rename_i e <;> simp at e <;> omega, by split <;> rename_i e <;> simp at e <;> omega⟩
      refine ⟨_, _, rfl, rfl, (.inl ⟨by decide, by decide⟩), _, _, rfl, rfl, ?_⟩
      refine ⟨_, rfl, _, rfl, _, rfl, _, rfl, _, rfl, _, _, rfl, _, rfl, r, _, _, _, rfl, rfl, hS1, at_of (j := 5) rfl rfl, (by show 6 ≤ sizeLine; decide), fun r2 nr => ?_⟩
      subst hpz
      exact fin H1 { v with gap := _, due := if _ < v.due then _ else v.due } t r2 t2 hh1 ⟨hn, hc, ⟨p1, p2⟩, minB p1 hd.1, ha, hl⟩ nr
    rw [decide_eq_false c2]
    refine iteF ⟨_, rfl, rfl, _, rfl, ?_⟩
    rw [decI]
    by_cases c3 : wy = 3
    · rw [decide_eq_true c3]
      have m1 := Int.emod_nonneg v.due (show v.gap ≠ 0 by omega)
      have m2 := Int.emod_lt_of_pos v.due (show 0 < v.gap by omega)
      refine iteT ⟨_, rfl, _, rfl, _, rfl, _, rfl, _, rfl, _, _, rfl, rfl, (by omega), _, _, rfl, rfl, _, rfl, r, _, _, _, rfl, rfl, hS1, at_of (j := 5) rfl rfl, (by show 6 ≤ sizeLine; decide), fun r2 nr => ?_⟩
      exact fin H1 { v with due := v.due % v.gap + 1 } t r2 t2 hh1 ⟨hn, hc, hg, ⟨by show 1 ≤ v.due % v.gap + 1; omega, by show v.due % v.gap + 1 ≤ v.gap; omega⟩, ha, hl⟩ nr
    rw [decide_eq_false c3]
    refine iteF ⟨_, rfl, r, _, _, _, rfl, rfl, hS1, at_of (j := 5) rfl rfl, (by show 0 ≤ sizeLine; decide), fun t0 n0 => ?_⟩
    have s3 := Step.new (o := .tup []) t2.purse n0
    have t3 := t2.trans s3
    have hh3 := hh1.step t2.purse s3
    have hS3 := sqT_kt hS1 (.of_step t2.purse s3)
    refine ⟨_, _, hds_dp hh3, .tup (SqT.of upd_same) .nil, hds_shaped (hds_nm hok), by decide +kernel, _, rfl, ?_⟩
    obtain ⟨vs, hSv, hlen, hel⟩ := id hh3
    cases eh : v.holds with
    | nil =>
      rw [show (!PyData.eqv (.tuple (([] : List Hold).map hdD)) (.tuple [])) = false by rfl]
      refine iteF ⟨_, rfl, _, rfl, _, rfl, _, rfl, _, rfl, (by show 3 ≤ sizeLine; decide), fun t6 n6 => ?_⟩
      have s5 := Step.new (o := .tup [.str z, .int 0, .int 1]) s3.purse n6
      refine ⟨(by show 1 ≤ sizeLine; decide), fun t7 n7 => ?_⟩
      have s6 := Step.new (o := .tup [.ref t6]) s5.purse n7
      refine ⟨(by show 6 ≤ sizeLine; decide), fun r2 nr => ?_⟩
      refine fin _ { v with holds := [(z, 0, 1)] } t7 r2 ((t3.trans s5).trans s6) ⟨[.ref t6], SqT.of upd_same, rfl, fun i w g e1 e2 => ?_⟩ ⟨hn, hc, hg, hd, ?_, fun h hh => ?_⟩ nr
      · cases i with
        | zero =>
          cases e1
          cases e2
          exact ⟨t6, rfl, SqT.of (s6.keep _ _ (s3.purse.ne n6) upd_same)⟩
        | succ i => simp at e1
      · show (decide (1 ≤ 4) && ((isHd (z, 0, 1) v.cost && true) && true)) = true
        have z2 : isHd (z, 0, 1) v.cost = true := by
          unfold isHd
          simp only [hz, Bool.true_and, Bool.and_eq_true, decide_eq_true_eq]
          omega
        rw [z2]
        rfl
      · rw [List.mem_singleton.mp hh]
        exact Nat.le_trans (nm_len hz).2 (by decide)
    | cons h0 hs0 =>
      rw [show (!PyData.eqv (.tuple ((h0 :: hs0).map hdD)) (.tuple [])) = true by rfl]
      have hv1 : vs.length = hs0.length + 1 := by rw [hlen, eh]; rfl
      refine iteT ⟨_, rfl, _, rfl, _, rfl, _, rfl, _, rfl, r, _, _, _, rfl, rfl, hS3, at_of (j := 5) rfl rfl, _, rfl, t, _, rfl, hSv, ?_, fun t6 n6 => ?_⟩
      · intro zz
        have z3 := zz.1
        have : HT.sIx vs.length 0 (some 1) = 1 := by
          rw [hv1]
          unfold HT.sIx
          simp
          try omega
        omega
      have s5 := Step.new (o := .tup (cutV vs (some 1) none)) s3.purse n6
      refine ⟨(by show 6 ≤ sizeLine; decide), fun r2 nr => ?_⟩
      refine fin _ { v with holds := v.holds.drop 1 } t6 r2 (t3.trans s5) ⟨vs.drop 1, SqT.of (by rw [upd_same, cut1]), by rw [List.length_drop, List.length_drop, hlen], fun i w g e1 e2 => ?_⟩ ⟨hn, hc, hg, hd, hds_tail ha, fun h hh => hl h (List.mem_of_mem_drop hh)⟩ nr
      rw [List.getElem?_drop] at e1 e2
      exact (hel (1 + i) w g e1 e2).kt (.of_step s3.purse s5)
end
end Du

set_option Elab.async false
set_option linter.all false
set_option maxRecDepth 100000
set_option maxHeartbeats 2000000
namespace Du
open PySem L2
abbrev sLaw : Stmt := topS 34
section
variable {P : Program} {w : World} {K : PySem.W.Frag} {mg : Str → Option Value} {base : Heap} {CT CD : Addr}
abbrev nLaw : List Str := ["_law_script", "_law_k", "_law_purse_here", "_law_row", "_law_other", "_law_door", "_law_more", "_law_one", "_law_same", "_law_another"]
theorem scLaw : FnScope nLaw ["_law_script"] (defScope sLaw) := ⟨rfl, rfl, rfl, by decide +kernel, rfl, by decide +kernel, by decide +kernel⟩
def spLaw (K : PySem.W.Frag) : Sp := fun vs H Q _ => ∃ (a : Addr) (ns : List Int), vs = [.ref a] ∧ SqL K H a (ns.map V.int) ∧ ∀ H', Q (.bl true) H'
theorem stepSame {p : Addr} {H H1 H2 : Hp} (s0 : Same H H1) (s : Step p H1 H2) (np : H p = none) : Same H H2 := fun b o e => s.keep b o (ne_of_none e np) (s0 b o e)
theorem ok_law {f : Addr} {fd : FuncData} (F : Fun K "law" "law" sLaw f fd) (MM : MemM P w K mg base CT CD) (S : MemS P w K mg base CT CD) (M : MemQ P w K mg base CT CD)
    (mr : mg "range" = none) (mx : mg "max" = none) (mn : mg "min" = none) (ml : mg "len" = none) (ma : mg "all" = none) (ms : mg "str" = none)
    (DC : Dn P w K mg base 3 "_law_cell" ["_law_script", "_law_k"] (spCellL K)) (DP : Dn P w K mg base 3 "_law_purse" ["_law_cell_here"] spPurse)
    (DD : Dn P w K mg base 5 "_law_drawn" ["_law_purse_here"] (spDrawn K)) (DO : Dn P w K mg base 4 "_law_otherwise" pOther (spOther K)) (D2 : Dn P w K mg base 9 "_law_two_right" ["_law_row", "_law_another"] (spTwo K)) :
    LawOk P w K mg base f fd "_law_script" (spLaw K) := by
  obtain ⟨MC, ⟨e0', fj, fdj, FJ, MJ, GJ, hE⟩, _⟩ := MM
  obtain ⟨ds, hds, kB0⟩ := kb0 FJ
  obtain ⟨mv2, kB⟩ := kb2 FJ
  obtain ⟨oc, od, kV, doc, pm, an, cdv, ct, osl, rfl, lk, hcd⟩ := F.ex
  intro s H u v Q env0 hb rv hsp
  obtain ⟨a, ns, hv, hS, q⟩ := hsp
  have hr11 : Room 11 callerA := ⟨rfl, by decide, by decide⟩
  refine fn_at (k := 10) (ps := ["_law_script"]) (us := [u]) (vs := [v]) lk hcd scLaw hr11 env0 hb (.cons rv .nil) rfl ?_
  cases hv
  have hr : Room 10 (callerA.deeper (PyProof.Rows.envOfC "law" (defScope sLaw) s.heap.objs.size f cdv)) := hr11.deeper _
  have hr3 : Room 3 _ := hr.mono (by decide)
  have hr4 : Room 4 _ := hr.mono (by decide)
  have hr5 : Room 5 _ := hr.mono (by decide)
  have hr7 : Room 7 _ := hr.mono (by decide)
  have hr9 : Room 9 _ := hr.mono (by decide)
  refine ⟨_, (pss_cons (ps_for PassesOwn.never rfl (pi_range1 (by rfl) mr (pa_cons (pe_callB (call_max2 rfl) (by rfl) mx (by decide +kernel) (pa_cons pe_int (pa_cons (pe_callB (call_min2 rfl) (by rfl) mn (by decide +kernel) (pa_cons pe_int (pa_cons (pe_callB call_len_seq (by rfl) ml (by decide +kernel) (pa_cons (pv 0) pa_nil)) pa_nil))) pa_nil))) pa_nil)) (pg_name (i := 1) scLaw.nd rfl (.inl rfl))
        (pss_cons (ps_set (i := 2) scLaw.nd rfl (.inl rfl) (pcall DP hr3 (by rfl) (pa_cons (pcall DC hr3 (by rfl) (pa_cons (pv 0) (pa_cons (pv 1) pa_nil))) pa_nil))) (pss_cons (ps_asg (pcall DD hr5 (by rfl) (pa_cons (pv 2) pa_nil)) (pg_lst rfl (pgs_cons (pg_name (i := 3) scLaw.nd rfl (.inl rfl)) (pgs_cons (pg_name (i := 4) scLaw.nd rfl (.inl rfl)) pgs_nil)))) (pss_cons (ps_set (i := 5) scLaw.nd rfl (.inr rfl) (pe_tup (pa_cons pe_str (pa_cons (pe_ix ix_tup (pv 3) pe_int (fun _ _ => rfl)) (pa_cons (pe_ix ix_tup (pv 3) pe_int (fun _ _ => rfl)) (pa_cons (pe_ix ix_tup (pv 3) pe_int (fun _ _ => rfl)) pa_nil)))))) (pss_cons (ps_set (i := 6) scLaw.nd rfl (.inl rfl) (pe_lst (pa_cons (pe_tup (pa_cons pe_str (pa_cons (pv 4) (pa_cons (pe_ix ix_tup (pv 3) pe_int (fun _ _ => rfl)) (pa_cons (pe_ix ix_tup (pv 3) pe_int (fun _ _ => rfl)) pa_nil))))) (pa_cons (pe_tup (pa_cons pe_str (pa_cons (pe_ix ix_tup (pv 3) pe_int (fun _ _ => rfl)) (pa_cons (pe_op op_add (pe_op op_mod (pe_ix ix_tup (pv 3) pe_int (fun _ _ => rfl)) pe_int) pe_int) (pa_cons (pe_ix ix_tup (pv 3) pe_int (fun _ _ => rfl)) pa_nil))))) pa_nil)))) (pss_cons (ps_set (i := 6) scLaw.nd rfl (.inl rfl) (pe_op op_cat (pv 6) (pe_lst (pa_cons (pe_tup (pa_cons pe_str (pa_cons (pe_ix ix_tup (pv 3) pe_int (fun _ _ => rfl)) (pa_cons (pe_ix ix_tup (pv 3) pe_int (fun _ _ => rfl)) (pa_cons (pe_op op_add (pe_op op_mod (pe_ix ix_tup (pv 3) pe_int (fun _ _ => rfl)) pe_int) pe_int) pa_nil))))) (pa_cons (pv 5) (pa_cons (pv 3) pa_nil)))))) (pss_cons (ps_if (PW.pt (pw_or (pt_not (pt_val (pcall D2 hr9 (by rfl) (pa_cons (pv 3) (pa_cons (pcall DO hr4 (by rfl) (pa_cons (pv 2) (pa_cons (pv 3) (pa_cons (pv 4) pa_nil)))) pa_nil))))) (pw_or1 (pt_not (pt_val (pcall D2 hr9 (by rfl) (pa_cons (pv 3) (pa_cons (pv 3) pa_nil)))))))) pss_never pss_nil) (pss_cons (ps_if (PW.pt (pw_or (pt_not (pt_val (pcall D2 hr9 (by rfl) (pa_cons (pv 3) (pa_cons (pv 5) pa_nil))))) (pw_or1 (pt_not (pt_val (pe_callB (cr_all rfl) (by rfl) ma (by decide +kernel) (pa_cons (pe_lc (own := [("_law_another", 9)]) (g := gName 9) (tt := tYes) (te := tCall (spTwo K) [] E0 (tCons (tVar 5) (tCons (tVar 9) tNil))) rfl scLaw.nd (pi_list (pv 6)) (blkOk_by (N := nLaw) (sc := defScope sLaw) (by decide +kernel))
            (fun _ _ _ _ _ => pg_name (i := 9) scLaw.nd rfl (Or.inl rfl)) (fun _ _ _ _ _ => pts_nil) (fun _ _ _ _ _ => pcall D2 hr9 (by rfl) (pa_cons (pv 5) (pa_cons (pv 9) pa_nil)))) pa_nil))))))) pss_never pss_nil) (pss_cons (ps_if (pt_not (pt_val (pcall D2 hr9 (by rfl) (pa_cons (pe_op op_catT (pe_slice sl_tup (pv 3) po_none (po_some pe_int)) (pe_tup (pa_cons (pe_ix ix_tup (pv 3) pe_int (fun _ _ => rfl)) (pa_cons (pe_ix ix_tup (pv 3) pe_int (fun _ _ => rfl)) (pa_cons (pe_tup pa_nil) pa_nil))))) (pa_cons (pv 5) pa_nil))))) pss_never pss_nil) (pss_cons (ps_par (i := 7) (j := 8) rfl scLaw.nd rfl rfl (by decide) rfl rfl (pa_cons (pe_makeK MJ GJ hr7 (by rfl) MC.T.mg kB pass0 (pa_cons (pe_ix ix_tup (pv 3) pe_int (fun _ _ => rfl)) (pa_cons (pe_ix ix_tup (pv 3) pe_int (fun _ _ => rfl)) (pa_cons (pe_ix ix_tup (pv 3) pe_int (fun _ _ => rfl)) pa_nil))) (pk_cons (pe_ix ix_tup (pv 3) pe_int (fun _ _ => rfl)) (pk_cons (pe_tup pa_nil) pk_nil))) (pa_cons (pe_make MJ GJ hr7 (by rfl) MC.T.mg kB0 hds pass0 (pa_cons (pe_ix ix_tup (pv 3) pe_int (fun _ _ => rfl)) (pa_cons (pe_ix ix_tup (pv 3) pe_int (fun _ _ => rfl)) (pa_cons (pe_ix ix_tup (pv 3) pe_int (fun _ _ => rfl)) pa_nil)))) pa_nil)) (by rfl)) (pss_one (ps_if (PW.pt (pw_or (pt_cmpR (op_neR hr4) (pv 7) (pv 8) (nomark _)) (pw_or (pt_not (pt_cmpR (op_eqR hr3) (pv 8) (pv 7) (nomark _))) (pw_or (pt_cmpR (op_notInR hr4) (pv 8) (pe_lst (pa_cons (pv 7) pa_nil)) (by rfl)) (pw_or1 (pt_cmpR op_ne (pe_callTy (call_strM S hr5) (by rfl) ms (by decide +kernel) (pa_cons (pv 7) pa_nil)) (pe_callTy (call_strM S hr5) (by rfl) ms (by decide +kernel) (pa_cons (pv 8) pa_nil)) (nomark _))))))) pss_never pss_nil)))))))))))) (pss_one (ps_ret pe_bl))), ?_⟩
  obtain ⟨MX, hM, h3, h12⟩ : ∃ M : Int, (if (if (((ns.map V.int).length : Nat) : Int) < 8 then (((ns.map V.int).length : Nat) : Int) else 8) > 2 then (if (((ns.map V.int).length : Nat) : Int) < 8 then (((ns.map V.int).length : Nat) : Int) else 8) else 2) = M ∧ 2 ≤ M ∧ M ≤ 8 :=
    ⟨_, rfl, by repeat (first | omega | split), by repeat (first | omega | split)⟩
  refine ⟨_, rfl, a, _, rfl, .inl hS, 8, _, rfl, 2, _, rfl, ?_⟩
  rw [hM]
  refine ⟨MX, rfl, by omega, by omega, for_range (lo := 0) (n := MX.toNat) (fun i σ H' => ∃ v1 v2 v3 v4 v5 v6 v7 v8 : Option V, σ = [some (.ref a), v1, v2, v3, v4, v5, v6, v7, v8, none] ∧ Same H H') ⟨none, none, none, none, none, none, none, none, rfl, Same.refl _⟩ ?_ ?_⟩
  · rintro i σ H2 hi ⟨v1, v2, v3, v4, v5, v6, v7, v8, rfl, s2⟩
    have hi64 : i < 64 := by omega
    refine ⟨_, rfl, _, rfl, a, ns, i, by rw [Int.zero_add]; rfl, hS.ext s2, hi64, fun n H3 s3 => ⟨n, rfl, fun p H4 s4 np hp => ?_⟩⟩
    have s24 : Same H H4 := (s2.trans s3).trans s4
    have npH : H p = none := (s2.trans s3).free np
    refine ⟨_, rfl, p, rfl, hp, fun d r v z H5 t5 ed hrow hok hz ndp => ⟨d, _, rfl, SqL.of ed, rfl, _, _, rfl, _, _, rfl, rfl, ?_⟩⟩
    obtain ⟨hn, hc, hg, hd, ha, hl⟩ := id hok
    obtain ⟨t, er, hh⟩ := id hrow
    have hT : SqT K H5 r [.str "task", .str v.name, .int v.cost, .int v.gap, .int v.due, .ref t] := SqT.of er
    -- the door
    refine ⟨_, rfl, r, _, _, _, rfl, rfl, hT, at_of (j := 1) rfl rfl, _, rfl, r, _, _, _, rfl, rfl, hT, at_of (j := 2) rfl rfl, _, rfl, r, _, _, _, rfl, rfl, hT, at_of (j := 3) rfl rfl, (by show 4 ≤ sizeLine; decide), fun D1 n1 => ?_⟩
    have c1 : Same H5 _ := same_upd (o := .tup [.str "door", .str v.name, .int v.cost, .int v.gap]) n1
    have x1 : ∀ H', Same (upd H5 D1 (.tup [.str "door", .str v.name, .int v.cost, .int v.gap])) H' → RowAt K H' D1 (.door v.name v.cost v.gap) := fun H' s' => s' _ _ upd_same
    generalize (upd H5 D1 (.tup [.str "door", .str v.name, .int v.cost, .int v.gap])) = H6 at c1 x1
    have hT1 := hT.ext c1
    refine ⟨_, rfl, _, rfl, r, _, _, _, rfl, rfl, hT1, at_of (j := 2) rfl rfl, _, rfl, r, _, _, _, rfl, rfl, hT1, at_of (j := 3) rfl rfl, (by show 4 ≤ sizeLine; decide), fun A1 a1 => ?_⟩
    have c2 : Same H6 _ := same_upd (o := .tup [.str "door", .str z, .int v.cost, .int v.gap]) a1
    have x2 : ∀ H', Same (upd H6 A1 (.tup [.str "door", .str z, .int v.cost, .int v.gap])) H' → RowAt K H' A1 (.door z v.cost v.gap) := fun H' s' => s' _ _ upd_same
    generalize (upd H6 A1 (.tup [.str "door", .str z, .int v.cost, .int v.gap])) = H7 at c2 x2
    have hT2 := hT1.ext c2
    refine ⟨_, rfl, r, _, _, _, rfl, rfl, hT2, at_of (j := 1) rfl rfl, _, rfl, r, _, _, _, rfl, rfl, hT2, at_of (j := 2) rfl rfl, _, _, rfl, rfl, (show (0 : Int) < 99 by decide), _, _, rfl, rfl, _, rfl, r, _, _, _, rfl, rfl, hT2, at_of (j := 3) rfl rfl, (by show 4 ≤ sizeLine; decide), fun A2 a2 => ?_⟩
    have c3 : Same H7 _ := same_upd (o := .tup [.str "door", .str v.name, .int (v.cost % 99 + 1), .int v.gap]) a2
    have x3 : ∀ H', Same (upd H7 A2 (.tup [.str "door", .str v.name, .int (v.cost % 99 + 1), .int v.gap])) H' → RowAt K H' A2 (.door v.name (v.cost % 99 + 1) v.gap) := fun H' s' => s' _ _ upd_same
    generalize (upd H7 A2 (.tup [.str "door", .str v.name, .int (v.cost % 99 + 1), .int v.gap])) = H8 at c3 x3
    refine ⟨(by show 2 ≤ sizeLine; decide), fun M1 m1 => ?_⟩
    have c4 : Same H8 _ := same_upd (o := .lst [.ref A1, .ref A2]) m1
    have e4 : (upd H8 M1 (.lst [.ref A1, .ref A2])) M1 = some (.lst [.ref A1, .ref A2]) := upd_same
    generalize (upd H8 M1 (.lst [.ref A1, .ref A2])) = H9 at c4 e4
    have hT4 := (hT2.ext c3).ext c4
    refine ⟨_, rfl, _, rfl, r, _, _, _, rfl, rfl, hT4, at_of (j := 1) rfl rfl, _, rfl, r, _, _, _, rfl, rfl, hT4, at_of (j := 2) rfl rfl, _, rfl, r, _, _, _, rfl, rfl, hT4, at_of (j := 3) rfl rfl, _, _, rfl, rfl, (show (0 : Int) < 600 by decide), _, _, rfl, rfl, (by show 4 ≤ sizeLine; decide), fun A3 a3 => ?_⟩
    have c5 : Same H9 _ := same_upd (o := .tup [.str "door", .str v.name, .int v.cost, .int (v.gap % 600 + 1)]) a3
    have x5 : ∀ H', Same (upd H9 A3 (.tup [.str "door", .str v.name, .int v.cost, .int (v.gap % 600 + 1)])) H' → RowAt K H' A3 (.door v.name v.cost (v.gap % 600 + 1)) := fun H' s' => s' _ _ upd_same
    generalize (upd H9 A3 (.tup [.str "door", .str v.name, .int v.cost, .int (v.gap % 600 + 1)])) = H10 at c5 x5
    refine ⟨_, rfl, _, rfl, (by show 3 ≤ sizeLine; decide), fun M2 m2 => ?_⟩
    have c6 : Same H10 _ := same_upd (o := .lst [.ref A3, .ref D1, .ref r]) m2
    refine ⟨M1, M2, _, _, rfl, rfl, c6 _ _ (c5 _ _ e4), upd_same, (by show 2 + 3 ≤ sizeLine; decide), fun M3 m3 => ?_⟩
    have c7 := c6.trans (same_upd (o := .lst [.ref A1, .ref A2, .ref A3, .ref D1, .ref r]) m3)
    have e7 : (upd (upd H10 M2 (.lst [.ref A3, .ref D1, .ref r])) M3 (.lst ([.ref A1, .ref A2] ++ [.ref A3, .ref D1, .ref r]))) M3 = some (.lst [.ref A1, .ref A2, .ref A3, .ref D1, .ref r]) := upd_same
    have c7' : Same H10 (upd (upd H10 M2 (.lst [.ref A3, .ref D1, .ref r])) M3 (.lst ([.ref A1, .ref A2] ++ [.ref A3, .ref D1, .ref r]))) := c7
    generalize (upd (upd H10 M2 (.lst [.ref A3, .ref D1, .ref r])) M3 (.lst ([.ref A1, .ref A2] ++ [.ref A3, .ref D1, .ref r]))) = H12 at c7' e7
    have c57 := c5.trans c7'
    have c47 := c4.trans c57
    have c37 := c3.trans c47
    have c27 := c2.trans c37
    have c17 := c1.trans c27
    have p12 : Purse H12 p := (Step.of_same t5.purse c17).purse
    have nM3 : M3 ≠ p := by
      intro e
      obtain ⟨i1, i2, i3, e1, _⟩ := id p12
      rw [e, e1] at e7
      cases e7
    have m99 : 1 ≤ v.cost % 99 + 1 ∧ v.cost % 99 + 1 ≤ 99 := by omega
    have m600 : 1 ≤ v.gap % 600 + 1 ∧ v.gap % 600 + 1 ≤ 600 := by omega
    have oD : (Mem.door v.name v.cost v.gap).ok := ⟨hn, hc, hg⟩
    -- the rows at any later heap
    have kR : ∀ H', Step p H12 H' → RowAt K H' r (.task v) ∧ RowAt K H' D1 (.door v.name v.cost v.gap) ∧ Rows K H' [.ref A1, .ref A2, .ref A3, .ref D1, .ref r] [.door z v.cost v.gap, .door v.name (v.cost % 99 + 1) v.gap, .door v.name v.cost (v.gap % 600 + 1), .door v.name v.cost v.gap, .task v] ∧ SqL K H' M3 [.ref A1, .ref A2, .ref A3, .ref D1, .ref r] := fun H' s' => by
      have k := Kt.of_step p12 s'
      have y1 := (hrow.kt (.of_same c17)).kt k
      have y2 := (x1 H12 c27).kt k
      refine ⟨y1, y2, ?_, SqL.of (s'.keep _ _ nM3 e7)⟩
      exact ((((Rows.one ((x2 H12 c37).kt k)).append (.one ((x3 H12 c47).kt k))).append (.one ((x5 H12 c7').kt k))).append (.one y2)).append (.one y1)
    have oks : ∀ m ∈ [Mem.door z v.cost v.gap, .door v.name (v.cost % 99 + 1) v.gap, .door v.name v.cost (v.gap % 600 + 1), .door v.name v.cost v.gap, .task v], m.ok := fun m hm => by
      simp only [List.mem_cons, List.not_mem_nil, or_false] at hm
      rcases hm with rfl | rfl | rfl | rfl | rfl
      · exact ⟨hz, hc, hg⟩
      · exact ⟨hn, m99, hg⟩
      · exact ⟨hn, hc, m600⟩
      · exact oD
      · exact hok
    refine ⟨_, rfl, _, rfl, _, rfl, _, rfl, p, r, v, z, rfl, p12, (kR _ (.refl p12)).1, hok, hz, fun r2 u H13 s13 hr2 ou => ⟨r, r2, .task v, .task u, rfl, (kR _ s13).1, hr2, hok, ou, fun H14 s14 => ⟨_, rfl, iteF ?_⟩⟩⟩
    have u14 := s13.trans (Step.of_same s13.purse s14)
    refine ⟨_, rfl, _, rfl, r, r, .task v, .task v, rfl, (kR _ u14).1, (kR _ u14).1, hok, hok, fun H15 s15 => ⟨_, rfl, iteF ?_⟩⟩
    have u15 := u14.trans (Step.of_same u14.purse s15)
    refine ⟨_, rfl, _, rfl, r, D1, .task v, _, rfl, (kR _ u15).1, (kR _ u15).2.1, hok, oD, fun H16 s16 => ⟨_, rfl, iteF ?_⟩⟩
    have u16 := u15.trans (Step.of_same u15.purse s16)
    refine ⟨_, rfl, M3, rfl, ⟨_, (kR _ u16).2.2.2⟩, fun D nD => lc_list (K := K) (a := M3) (xs := [.ref A1, .ref A2, .ref A3, .ref D1, .ref r]) (g := gName 9) (tt := tYes) (te := tCall (spTwo K) [] E0 (tCons (tVar 5) (tCons (tVar 9) tNil))) (fun j H' => Same H16 H' ∧ H' D = some (.lst ((List.replicate j true).map V.bl))) ⟨same_upd nD, upd_same⟩ (fun j H' _ z => (kR _ (u16.trans (Step.of_same u16.purse z.1))).2.2.2) ?_ ?_⟩
    · rintro j y H17 hy ⟨s17, e⟩
      have u17 := u16.trans (Step.of_same u16.purse s17)
      obtain ⟨y1, y2, y3, _⟩ := kR _ u17
      obtain ⟨ra, ma, rfl, ema, hra⟩ := y3.at hy
      refine ⟨rfl, _, rfl, _, rfl, D1, ra, _, ma, rfl, y2, hra, oD, oks ma (List.mem_of_getElem? ema), fun H18 s18 => ⟨_, s18 _ _ e, ?_, same_upd2 (s17.trans s18) nD, ?_⟩⟩
      · rw [List.length_map, List.length_replicate]
        exact Nat.lt_of_lt_of_le (List.getElem?_eq_some_iff.mp hy).1 (show 5 ≤ sizeLine by decide)
      · rw [upd_same, List.replicate_succ', List.map_append]
        rfl
    rintro H17 ⟨s17, e⟩
    refine ⟨D, _, rfl, SqL.of e, _, rfl, ?_⟩
    rw [all_true]
    refine iteF ?_
    have u17 := u16.trans (Step.of_same u16.purse s17)
    have hT17 : SqT K H17 r [.str "task", .str v.name, .int v.cost, .int v.gap, .int v.due, .ref t] := sqT_kt (hT.ext c17) (.of_step p12 u17)
    refine ⟨_, rfl, _, rfl, r, _, rfl, hT17, (by show ¬ (HT.sIx 6 0 none = 0 ∧ HT.sIx 6 6 (some 3) = 6); decide), fun B1 b1 => ?_⟩
    have c18 : Same H17 _ := same_upd (o := .tup [.str "task", .str v.name, .int v.cost]) b1
    have e18 : (upd H17 B1 (.tup (cutV [.str "task", .str v.name, .int v.cost, .int v.gap, .int v.due, .ref t] none (some 3)))) B1 = some (.tup [.str "task", .str v.name, .int v.cost]) := upd_same
    have c18' : Same H17 (upd H17 B1 (.tup (cutV [.str "task", .str v.name, .int v.cost, .int v.gap, .int v.due, .ref t] none (some 3)))) := c18
    generalize (upd H17 B1 (.tup (cutV [.str "task", .str v.name, .int v.cost, .int v.gap, .int v.due, .ref t] none (some 3)))) = H18 at c18' e18
    have hT18 := hT17.ext c18'
    refine ⟨_, rfl, r, _, _, _, rfl, rfl, hT18, at_of (j := 3) rfl rfl, _, rfl, r, _, _, _, rfl, rfl, hT18, at_of (j := 3) rfl rfl, (by show 0 ≤ sizeLine; decide), fun B2 b2 => ?_⟩
    have c19 : Same H18 _ := same_upd (o := .tup []) b2
    have e19 : (upd H18 B2 (.tup [])) B2 = some (.tup []) := upd_same
    generalize (upd H18 B2 (.tup [])) = H19 at c19 e19
    refine ⟨(by show 3 ≤ sizeLine; decide), fun B3 b3 => ?_⟩
    have c20 : Same H19 _ := same_upd (o := .tup [.int v.gap, .int v.gap, .ref B2]) b3
    have e20 : (upd H19 B3 (.tup [.int v.gap, .int v.gap, .ref B2])) B3 = some (.tup [.int v.gap, .int v.gap, .ref B2]) := upd_same
    generalize (upd H19 B3 (.tup [.int v.gap, .int v.gap, .ref B2])) = H20 at c20 e20
    refine ⟨B1, B3, _, _, rfl, rfl, SqT.of (c20 _ _ (c19 _ _ e18)), SqT.of e20, (fun z => nomatch z), (by show 3 + 3 ≤ sizeLine; decide), (fun z => nomatch z), fun _ B4 b4 => ?_⟩
    have c21 : Same H20 _ := same_upd (o := .tup [.str "task", .str v.name, .int v.cost, .int v.gap, .int v.gap, .ref B2]) b4
    have e21 : (upd H20 B4 (.tup ([.str "task", .str v.name, .int v.cost] ++ [.int v.gap, .int v.gap, .ref B2]))) B4 = some (.tup [.str "task", .str v.name, .int v.cost, .int v.gap, .int v.gap, .ref B2]) := upd_same
    have c21' : Same H20 (upd H20 B4 (.tup ([.str "task", .str v.name, .int v.cost] ++ [.int v.gap, .int v.gap, .ref B2]))) := c21
    generalize (upd H20 B4 (.tup ([.str "task", .str v.name, .int v.cost] ++ [.int v.gap, .int v.gap, .ref B2]))) = H21 at c21' e21
    have c1721 := ((c18'.trans c19).trans c20).trans c21'
    have u21 := u17.trans (Step.of_same u17.purse c1721)
    have oG : (TaskV.mk v.name v.cost v.gap v.gap []).ok := ⟨hn, hc, hg, ⟨hg.1, Int.le_refl _⟩, by rfl, fun h hh => by cases hh⟩
    refine ⟨_, rfl, B4, D1, .task ⟨v.name, v.cost, v.gap, v.gap, []⟩, _, rfl, ⟨B2, e21, hds_nil (c21' _ _ (c20 _ _ e19))⟩, (kR _ u21).2.1, oG, oD, fun H22 s22 => ⟨_, rfl, iteF ?_⟩⟩
    have u22 := u21.trans (Step.of_same u21.purse s22)
    have hT22 : SqT K H22 r [.str "task", .str v.name, .int v.cost, .int v.gap, .int v.due, .ref t] := sqT_kt (hT.ext c17) (.of_step p12 u22)
    refine ⟨_, rfl, r, _, _, _, rfl, rfl, hT22, at_of (j := 1) rfl rfl, _, rfl, r, _, _, _, rfl, rfl, hT22, at_of (j := 2) rfl rfl, _, rfl, r, _, _, _, rfl, rfl, hT22, at_of (j := 3) rfl rfl, _, rfl, r, _, _, _, rfl, rfl, hT22, at_of (j := 3) rfl rfl, (by show 0 ≤ sizeLine; decide), fun B5 b5 => ⟨rfl, rfl, ?_⟩⟩
    have c23 : Same H22 _ := same_upd (o := .tup []) b5
    refine taskSp (v := ⟨v.name, v.cost, v.gap, v.gap, []⟩) (od := some v.gap) (h := B5) (hds_nil upd_same) oG rfl fun xo H24 s24' nxo To => ?_
    have c24 := c23.trans s24'
    have hT24 := hT22.ext c24
    refine ⟨_, rfl, r, _, _, _, rfl, rfl, hT24, at_of (j := 1) rfl rfl, _, rfl, r, _, _, _, rfl, rfl, hT24, at_of (j := 2) rfl rfl, _, rfl, r, _, _, _, rfl, rfl, hT24, at_of (j := 3) rfl rfl, ?_⟩
    refine taskSp (v := ⟨v.name, v.cost, v.gap, v.gap, []⟩) (od := none) (h := e0') ⟨[], hE _, rfl, fun i u g e1 _ => by simp at e1⟩ oG rfl fun xs H25 s25 nxs Ts => ?_
    refine ⟨_, _, rfl, ?_⟩
    have To25 : MemAt K CT CD H25 xo (.task ⟨v.name, v.cost, v.gap, v.gap, []⟩) := ⟨B5, To.same s25⟩
    have Ts25 : MemAt K CT CD H25 xs (.task ⟨v.name, v.cost, v.gap, v.gap, []⟩) := ⟨e0', Ts⟩
    generalize hmm : Mem.task ⟨v.name, v.cost, v.gap, v.gap, []⟩ = mm at To25 Ts25
    have om : mm.ok := by rw [← hmm]; exact oG
    have eos : ∀ H', Same H25 H' → EqR P w K mg base 3 H' (.ref xo) (.ref xs) true ∧ EqR P w K mg base 3 H' (.ref xs) (.ref xo) true := fun H' s' => by
      have z1 := eqr_two M (To25.kt (.of_same s')) om (Ts25.kt (.of_same s')) om
      have z2 := eqr_two M (Ts25.kt (.of_same s')) om (To25.kt (.of_same s')) om
      rw [alike_refl] at z1 z2
      exact ⟨z1, z2⟩
    refine ⟨_, rfl, _, rfl, true, (eos _ (Same.refl _)).1, fun H26 s26 => ⟨_, rfl, iteF ?_⟩⟩
    refine ⟨_, rfl, _, rfl, true, (eos _ s26).2, fun H27 s27 => ⟨_, rfl, iteF ?_⟩⟩
    have k27 := s26.trans s27
    refine ⟨_, rfl, _, rfl, (by show 1 ≤ sizeLine; decide), fun L nL => ?_⟩
    have k28 := k27.trans (same_upd (o := .lst [.ref xo]) nL)
    refine ⟨L, _, [true], rfl, upd_same, .cons (eos _ k28).1 (fun _ => rfl) .nil, fun H29 s29 => ⟨_, rfl, iteF ?_⟩⟩
    have k29 := k28.trans s29
    refine ⟨_, rfl, xo, mm, rfl, To25.kt (.of_same k29), om, fun H30 s30 => ?_⟩
    have k30 := k29.trans s30
    refine ⟨_, rfl, xs, mm, rfl, Ts25.kt (.of_same k30), om, fun H31 s31 => ⟨rfl, _, rfl, iteNS rfl ?_⟩⟩
    have k31 := k30.trans s31
    refine ⟨_, _, _, _, _, _, _, _, rfl, ?_⟩
    have u25 := u22.trans (Step.of_same u22.purse (c24.trans (s25.trans k31)))
    exact stepSame s24 ((t5.trans (Step.of_same t5.purse c17)).trans u25) npH
  · rintro σ H2 ⟨v1, v2, v3, v4, v5, v6, v7, v8, rfl, s2⟩
    exact q H2
end
end Du

set_option Elab.async false
set_option linter.all false
set_option maxRecDepth 100000
namespace Du
open PySem L2
theorem kit_self {K : PySem.W.Frag} {C : Addr} : PySem.W.kitOne K (.ref C) (.ref C) = some true := by
  unfold PySem.W.kitOne
  simp
theorem exm_of {K : PySem.W.Frag} {C c : Addr} {b : Bool} (h1 : PySem.W.subIn K (.ref c) (.type "BaseException") = some true) (h2 : PySem.W.hasDictIn K c = true) (h3 : PySem.W.typeIn K (.ref c) = some (.type "type")) (h4 : PySem.W.subIn K (.ref C) (.ref c) = some b) : PySem.W.exmOne K (.ref C) (.ref c) = some b := by
  obtain ⟨cd, hc, _⟩ := PySem.W.any_some h2
  unfold PySem.W.exmOne PySem.W.kitCls
  rw [h1]
  show (if ((PySem.W.clsIn K c).isSome && PySem.W.typeIn K (.ref c) == some (.type "type")) = true then PySem.W.subIn K (.ref C) (.ref c) else none) = some b
  rw [hc, h3, h4]
  rfl
theorem exm2 {K : PySem.W.Frag} {t c1 c2 : Value} {b1 b2 : Bool} (h1 : PySem.W.exmOne K t c1 = some b1) (h2 : PySem.W.exmOne K t c2 = some b2) : PySem.W.exmAny K t [c1, c2] = some (b1 || b2) := by
  unfold PySem.W.exmAny PySem.W.exmAny PySem.W.exmAny
  rw [h1, h2]
  cases b1 <;> cases b2 <;> rfl
theorem exm3 {K : PySem.W.Frag} {t c1 c2 c3 : Value} {b1 b2 b3 : Bool} (h1 : PySem.W.exmOne K t c1 = some b1) (h2 : PySem.W.exmOne K t c2 = some b2) (h3 : PySem.W.exmOne K t c3 = some b3) : PySem.W.exmAny K t [c1, c2, c3] = some (b1 || b2 || b3) := by
  unfold PySem.W.exmAny PySem.W.exmAny PySem.W.exmAny PySem.W.exmAny
  rw [h1, h2, h3]
  cases b1 <;> cases b2 <;> cases b3 <;> rfl
theorem nf_of {K : PySem.W.Frag} {C D : Addr} (h : PySem.W.subIn K (.ref D) (.ref C) = some false) : PySem.W.notFirst K C (.ref D) = true := by simp [PySem.W.notFirst, h]
set_option maxHeartbeats 4000000 in
theorem all_mk {l : PySem.W.OpenLaw} {w : World} {K : PySem.W.Frag} {h : Heap} {mg : Str → Option Value} {fa : Addr} (X : K.In h) (G : h.Ns mainGlobals mg) (hfa : mg "law" = some (.ref fa))
    {fNu fWh fNm fHd fAh fHs fWT fWD fCe fPu fTa fWo fHo fMe fDr fOt fTx fSw fNe fTw fLa CT fIn DI e0 fEt fLt fSt fRt CD fId fEd fLd fSd fRd : Addr}
    {odNu anNu odWh anWh odNm anNm odHd anHd odAh anAh odHs anHs odWT anWT odWD anWD odCe anCe odPu anPu odTa anTa odWo anWo odHo anHo odMe anMe odDr anDr odOt anOt odTx anTx odSw anSw odNe anNe odTw anTw odLa anLa odIn anIn od0 odEt anEt odLt anLt odSt anSt odRt anRt odId anId odEd anEd odLd anLd odSd anSd odRd anRd : Option Addr}
    {slNu slWh slNm slHd slAh slHs slWT slWD slCe slPu slTa slWo slHo slMe slDr slOt slTx slSw slNe slTw slLa slIn sl0 slEt slLt slSt slRt slId slEd slLd slSd slRd : Array (Option Value)}
    {ocNu dcNu pmNu cdNu ctNu kVNu ocWh dcWh pmWh cdWh ctWh kVWh ocNm dcNm pmNm cdNm ctNm kVNm ocHd dcHd pmHd cdHd ctHd kVHd ocAh dcAh pmAh cdAh ctAh kVAh ocHs dcHs pmHs cdHs ctHs kVHs ocWT dcWT pmWT cdWT ctWT kVWT ocWD dcWD pmWD cdWD ctWD kVWD ocCe dcCe pmCe cdCe ctCe kVCe ocPu dcPu pmPu cdPu ctPu kVPu ocTa dcTa pmTa cdTa ctTa kVTa ocWo dcWo pmWo cdWo ctWo kVWo ocHo dcHo pmHo cdHo ctHo kVHo ocMe dcMe pmMe cdMe ctMe kVMe ocDr dcDr pmDr cdDr ctDr kVDr ocOt dcOt pmOt cdOt ctOt kVOt ocTx dcTx pmTx cdTx ctTx kVTx ocSw dcSw pmSw cdSw ctSw kVSw ocNe dcNe pmNe cdNe ctNe kVNe ocTw dcTw pmTw cdTw ctTw kVTw ocLa dcLa pmLa cdLa ctLa kVLa ocIn dcIn pmIn cdIn ctIn ocEt dcEt pmEt cdEt ctEt kVEt ocLt dcLt pmLt cdLt ctLt kVLt ocSt dcSt pmSt cdSt ctSt kVSt ocRt dcRt pmRt cdRt ctRt kVRt ocId dcId pmId cdId ctId kVId ocEd dcEd pmEd cdEd ctEd kVEd ocLd dcLd pmLd cdLd ctLd kVLd ocSd dcSd pmSd cdSd ctSd kVSd ocRd dcRd pmRd cdRd ctRd kVRd : Value}
    {n0 : Nat}
    {w1 w2 w3 w4 w5 : Tok}
    (aNu : PySem.W.nsIn K mainGlobals "is_number" = some (some (.ref fNu)))
    (lNu : K.lookup fNu = some ⟨ocNu, odNu, .func (PySem.W.fnOf "is_number" "is_number" (defArgs sNumber) (defBody sNumber) (defScope sNumber) .none kVNu dcNu pmNu anNu cdNu ctNu), slNu⟩)
    (cNu : PySem.W.codeIn K cdNu "is_number" = true)
    (kNu : PySem.W.keepIn K (.ref fNu) = true)
    (aWh : PySem.W.nsIn K mainGlobals "is_whole" = some (some (.ref fWh)))
    (lWh : K.lookup fWh = some ⟨ocWh, odWh, .func (PySem.W.fnOf "is_whole" "is_whole" (defArgs sWhole) (defBody sWhole) (defScope sWhole) .none kVWh dcWh pmWh anWh cdWh ctWh), slWh⟩)
    (cWh : PySem.W.codeIn K cdWh "is_whole" = true)
    (kWh : PySem.W.keepIn K (.ref fWh) = true)
    (aNm : PySem.W.nsIn K mainGlobals "is_name" = some (some (.ref fNm)))
    (lNm : K.lookup fNm = some ⟨ocNm, odNm, .func (PySem.W.fnOf "is_name" "is_name" (defArgs sName) (defBody sName) (defScope sName) .none kVNm dcNm pmNm anNm cdNm ctNm), slNm⟩)
    (cNm : PySem.W.codeIn K cdNm "is_name" = true)
    (kNm : PySem.W.keepIn K (.ref fNm) = true)
    (aHd : PySem.W.nsIn K mainGlobals "is_hold" = some (some (.ref fHd)))
    (lHd : K.lookup fHd = some ⟨ocHd, odHd, .func (PySem.W.fnOf "is_hold" "is_hold" (defArgs sHold) (defBody sHold) (defScope sHold) .none kVHd dcHd pmHd anHd cdHd ctHd), slHd⟩)
    (cHd : PySem.W.codeIn K cdHd "is_hold" = true)
    (kHd : PySem.W.keepIn K (.ref fHd) = true)
    (aAh : PySem.W.nsIn K mainGlobals "goes_ahead" = some (some (.ref fAh)))
    (lAh : K.lookup fAh = some ⟨ocAh, odAh, .func (PySem.W.fnOf "goes_ahead" "goes_ahead" (defArgs sAhead) (defBody sAhead) (defScope sAhead) .none kVAh dcAh pmAh anAh cdAh ctAh), slAh⟩)
    (cAh : PySem.W.codeIn K cdAh "goes_ahead" = true)
    (kAh : PySem.W.keepIn K (.ref fAh) = true)
    (aHs : PySem.W.nsIn K mainGlobals "are_holds" = some (some (.ref fHs)))
    (lHs : K.lookup fHs = some ⟨ocHs, odHs, .func (PySem.W.fnOf "are_holds" "are_holds" (defArgs sHolds) (defBody sHolds) (defScope sHolds) .none kVHs dcHs pmHs anHs cdHs ctHs), slHs⟩)
    (cHs : PySem.W.codeIn K cdHs "are_holds" = true)
    (kHs : PySem.W.keepIn K (.ref fHs) = true)
    (aWT : PySem.W.nsIn K mainGlobals "wrong_in_task" = some (some (.ref fWT)))
    (lWT : K.lookup fWT = some ⟨ocWT, odWT, .func (PySem.W.fnOf "wrong_in_task" "wrong_in_task" (defArgs sWrongT) (defBody sWrongT) (defScope sWrongT) .none kVWT dcWT pmWT anWT cdWT ctWT), slWT⟩)
    (cWT : PySem.W.codeIn K cdWT "wrong_in_task" = true)
    (kWT : PySem.W.keepIn K (.ref fWT) = true)
    (aWD : PySem.W.nsIn K mainGlobals "wrong_in_door" = some (some (.ref fWD)))
    (lWD : K.lookup fWD = some ⟨ocWD, odWD, .func (PySem.W.fnOf "wrong_in_door" "wrong_in_door" (defArgs sWrongD) (defBody sWrongD) (defScope sWrongD) .none kVWD dcWD pmWD anWD cdWD ctWD), slWD⟩)
    (cWD : PySem.W.codeIn K cdWD "wrong_in_door" = true)
    (kWD : PySem.W.keepIn K (.ref fWD) = true)
    (aCe : PySem.W.nsIn K mainGlobals "_law_cell" = some (some (.ref fCe)))
    (lCe : K.lookup fCe = some ⟨ocCe, odCe, .func (PySem.W.fnOf "_law_cell" "_law_cell" (defArgs sCell) (defBody sCell) (defScope sCell) .none kVCe dcCe pmCe anCe cdCe ctCe), slCe⟩)
    (cCe : PySem.W.codeIn K cdCe "_law_cell" = true)
    (kCe : PySem.W.keepIn K (.ref fCe) = true)
    (aPu : PySem.W.nsIn K mainGlobals "_law_purse" = some (some (.ref fPu)))
    (lPu : K.lookup fPu = some ⟨ocPu, odPu, .func (PySem.W.fnOf "_law_purse" "_law_purse" (defArgs sPurse) (defBody sPurse) (defScope sPurse) .none kVPu dcPu pmPu anPu cdPu ctPu), slPu⟩)
    (cPu : PySem.W.codeIn K cdPu "_law_purse" = true)
    (kPu : PySem.W.keepIn K (.ref fPu) = true)
    (aTa : PySem.W.nsIn K mainGlobals "_law_take" = some (some (.ref fTa)))
    (lTa : K.lookup fTa = some ⟨ocTa, odTa, .func (PySem.W.fnOf "_law_take" "_law_take" (defArgs sTake) (defBody sTake) (defScope sTake) .none kVTa dcTa pmTa anTa cdTa ctTa), slTa⟩)
    (cTa : PySem.W.codeIn K cdTa "_law_take" = true)
    (kTa : PySem.W.keepIn K (.ref fTa) = true)
    (aWo : PySem.W.nsIn K mainGlobals "_law_words" = some (some (.ref fWo)))
    (lWo : K.lookup fWo = some ⟨ocWo, odWo, .func (PySem.W.fnOf "_law_words" "_law_words" (defArgs sWords) (defBody sWords) (defScope sWords) .none kVWo dcWo pmWo anWo cdWo ctWo), slWo⟩)
    (cWo : PySem.W.codeIn K cdWo "_law_words" = true)
    (kWo : PySem.W.keepIn K (.ref fWo) = true)
    (aHo : PySem.W.nsIn K mainGlobals "_law_holds" = some (some (.ref fHo)))
    (lHo : K.lookup fHo = some ⟨ocHo, odHo, .func (PySem.W.fnOf "_law_holds" "_law_holds" (defArgs sHoldsL) (defBody sHoldsL) (defScope sHoldsL) .none kVHo dcHo pmHo anHo cdHo ctHo), slHo⟩)
    (cHo : PySem.W.codeIn K cdHo "_law_holds" = true)
    (kHo : PySem.W.keepIn K (.ref fHo) = true)
    (aMe : PySem.W.nsIn K mainGlobals "_law_member" = some (some (.ref fMe)))
    (lMe : K.lookup fMe = some ⟨ocMe, odMe, .func (PySem.W.fnOf "_law_member" "_law_member" (defArgs sMember) (defBody sMember) (defScope sMember) .none kVMe dcMe pmMe anMe cdMe ctMe), slMe⟩)
    (cMe : PySem.W.codeIn K cdMe "_law_member" = true)
    (kMe : PySem.W.keepIn K (.ref fMe) = true)
    (aDr : PySem.W.nsIn K mainGlobals "_law_drawn" = some (some (.ref fDr)))
    (lDr : K.lookup fDr = some ⟨ocDr, odDr, .func (PySem.W.fnOf "_law_drawn" "_law_drawn" (defArgs sDrawn) (defBody sDrawn) (defScope sDrawn) .none kVDr dcDr pmDr anDr cdDr ctDr), slDr⟩)
    (cDr : PySem.W.codeIn K cdDr "_law_drawn" = true)
    (kDr : PySem.W.keepIn K (.ref fDr) = true)
    (aOt : PySem.W.nsIn K mainGlobals "_law_otherwise" = some (some (.ref fOt)))
    (lOt : K.lookup fOt = some ⟨ocOt, odOt, .func (PySem.W.fnOf "_law_otherwise" "_law_otherwise" (defArgs sOther) (defBody sOther) (defScope sOther) .none kVOt dcOt pmOt anOt cdOt ctOt), slOt⟩)
    (cOt : PySem.W.codeIn K cdOt "_law_otherwise" = true)
    (kOt : PySem.W.keepIn K (.ref fOt) = true)
    (aTx : PySem.W.nsIn K mainGlobals "_law_row_text" = some (some (.ref fTx)))
    (lTx : K.lookup fTx = some ⟨ocTx, odTx, .func (PySem.W.fnOf "_law_row_text" "_law_row_text" (defArgs sText) (defBody sText) (defScope sText) .none kVTx dcTx pmTx anTx cdTx ctTx), slTx⟩)
    (cTx : PySem.W.codeIn K cdTx "_law_row_text" = true)
    (kTx : PySem.W.keepIn K (.ref fTx) = true)
    (aSw : PySem.W.nsIn K mainGlobals "_law_shown_right" = some (some (.ref fSw)))
    (lSw : K.lookup fSw = some ⟨ocSw, odSw, .func (PySem.W.fnOf "_law_shown_right" "_law_shown_right" (defArgs sShown) (defBody sShown) (defScope sShown) .none kVSw dcSw pmSw anSw cdSw ctSw), slSw⟩)
    (cSw : PySem.W.codeIn K cdSw "_law_shown_right" = true)
    (kSw : PySem.W.keepIn K (.ref fSw) = true)
    (aNe : PySem.W.nsIn K mainGlobals "_law_never_alike" = some (some (.ref fNe)))
    (lNe : K.lookup fNe = some ⟨ocNe, odNe, .func (PySem.W.fnOf "_law_never_alike" "_law_never_alike" (defArgs sNever) (defBody sNever) (defScope sNever) .none kVNe dcNe pmNe anNe cdNe ctNe), slNe⟩)
    (cNe : PySem.W.codeIn K cdNe "_law_never_alike" = true)
    (kNe : PySem.W.keepIn K (.ref fNe) = true)
    (aTw : PySem.W.nsIn K mainGlobals "_law_two_right" = some (some (.ref fTw)))
    (lTw : K.lookup fTw = some ⟨ocTw, odTw, .func (PySem.W.fnOf "_law_two_right" "_law_two_right" (defArgs sTwo) (defBody sTwo) (defScope sTwo) .none kVTw dcTw pmTw anTw cdTw ctTw), slTw⟩)
    (cTw : PySem.W.codeIn K cdTw "_law_two_right" = true)
    (kTw : PySem.W.keepIn K (.ref fTw) = true)
    (aLa : PySem.W.nsIn K mainGlobals "law" = some (some (.ref fLa)))
    (lLa : K.lookup fLa = some ⟨ocLa, odLa, .func (PySem.W.fnOf "law" "law" (defArgs sLaw) (defBody sLaw) (defScope sLaw) .none kVLa dcLa pmLa anLa cdLa ctLa), slLa⟩)
    (cLa : PySem.W.codeIn K cdLa "law" = true)
    (kLa : PySem.W.keepIn K (.ref fLa) = true)
    (tg : PySem.W.specialIn K (.builtin "object.__class__") "__get__" = some (some (.builtin "getset_descriptor.__get__")))
    (tt : PySem.W.takesIn K (.builtin "object.__class__") = some true)
    (at_ : PySem.W.nsIn K mainGlobals "Task" = some (some (.ref CT)))
    (t_pg : PySem.W.plainGet K CT Str.empty = true)
    (t_hd : PySem.W.hasDictIn K CT = true)
    (t_po : PySem.W.plainOver K CT = true)
    (t_sa : PySem.W.findIn K (.ref CT) "__setattr__" = some (some (.builtin "object.__setattr__")))
    (t_mk : PySem.W.makesIn K CT = true)
    (t_kc : PySem.W.keepIn K (.ref CT) = true)
    (t_nN : PySem.W.findIn K (.ref CT) "name" = some none)
    (t_nC : PySem.W.findIn K (.ref CT) "cost" = some none)
    (t_nG : PySem.W.findIn K (.ref CT) "gap" = some none)
    (t_nD : PySem.W.findIn K (.ref CT) "due" = some none)
    (t_nH : PySem.W.findIn K (.ref CT) "holds" = some none)
    (t_tc : PySem.W.findIn K (.ref CT) "__class__" = some (some (.builtin "object.__class__")))
    (t_tm : PySem.W.mroIn K CT (.type "object") = some true)
    (aIn : PySem.W.findIn K (.ref CT) "__init__" = some (some (.ref fIn)))
    (lIn : K.lookup fIn = some ⟨ocIn, odIn, .func (PySem.W.fnOf "__init__" "Task.__init__" (defArgs sInit) (defBody sInit) (defScope sInit) .none (.ref DI) dcIn pmIn anIn cdIn ctIn), slIn⟩)
    (cIn : PySem.W.codeIn K cdIn "Task.__init__" = true)
    (kIn : PySem.W.keepIn K (.ref fIn) = true)
    (iIn : PySem.W.isFn K (.ref fIn) = true)
    (q1 : PySem.W.nsIn K DI "due" = some (some .none))
    (q2 : PySem.W.nsIn K DI "holds" = some (some (.ref e0)))
    (q3 : K.lookup e0 = some ⟨.type "tuple", od0, .seq #[] n0, sl0⟩)
    (aEt : PySem.W.findIn K (.ref CT) "__eq__" = some (some (.ref fEt)))
    (lEt : K.lookup fEt = some ⟨ocEt, odEt, .func (PySem.W.fnOf "__eq__" "Task.__eq__" (defArgs sTEq) (defBody sTEq) (defScope sTEq) .none kVEt dcEt pmEt anEt cdEt ctEt), slEt⟩)
    (cEt : PySem.W.codeIn K cdEt "Task.__eq__" = true)
    (kEt : PySem.W.keepIn K (.ref fEt) = true)
    (iEt : PySem.W.isFn K (.ref fEt) = true)
    (aLt : PySem.W.findIn K (.ref CT) "__len__" = some (some (.ref fLt)))
    (lLt : K.lookup fLt = some ⟨ocLt, odLt, .func (PySem.W.fnOf "__len__" "Task.__len__" (defArgs sLen) (defBody sLen) (defScope sLen) .none kVLt dcLt pmLt anLt cdLt ctLt), slLt⟩)
    (cLt : PySem.W.codeIn K cdLt "Task.__len__" = true)
    (kLt : PySem.W.keepIn K (.ref fLt) = true)
    (iLt : PySem.W.isFn K (.ref fLt) = true)
    (aSt : PySem.W.findIn K (.ref CT) "__str__" = some (some (.ref fSt)))
    (lSt : K.lookup fSt = some ⟨ocSt, odSt, .func (PySem.W.fnOf "__str__" "Task.__str__" (defArgs sTStr) (defBody sTStr) (defScope sTStr) .none kVSt dcSt pmSt anSt cdSt ctSt), slSt⟩)
    (cSt : PySem.W.codeIn K cdSt "Task.__str__" = true)
    (kSt : PySem.W.keepIn K (.ref fSt) = true)
    (iSt : PySem.W.isFn K (.ref fSt) = true)
    (aRt : PySem.W.findIn K (.ref CT) "__repr__" = some (some (.ref fRt)))
    (lRt : K.lookup fRt = some ⟨ocRt, odRt, .func (PySem.W.fnOf "__repr__" "Task.__repr__" (defArgs sTRepr) (defBody sTRepr) (defScope sTRepr) .none kVRt dcRt pmRt anRt cdRt ctRt), slRt⟩)
    (cRt : PySem.W.codeIn K cdRt "Task.__repr__" = true)
    (kRt : PySem.W.keepIn K (.ref fRt) = true)
    (iRt : PySem.W.isFn K (.ref fRt) = true)
    (ad_ : PySem.W.nsIn K mainGlobals "Door" = some (some (.ref CD)))
    (d_pg : PySem.W.plainGet K CD Str.empty = true)
    (d_hd : PySem.W.hasDictIn K CD = true)
    (d_po : PySem.W.plainOver K CD = true)
    (d_sa : PySem.W.findIn K (.ref CD) "__setattr__" = some (some (.builtin "object.__setattr__")))
    (d_mk : PySem.W.makesIn K CD = true)
    (d_kc : PySem.W.keepIn K (.ref CD) = true)
    (d_nN : PySem.W.findIn K (.ref CD) "name" = some none)
    (d_nR : PySem.W.findIn K (.ref CD) "room" = some none)
    (d_nG : PySem.W.findIn K (.ref CD) "gap" = some none)
    (d_tc : PySem.W.findIn K (.ref CD) "__class__" = some (some (.builtin "object.__class__")))
    (d_tm : PySem.W.mroIn K CD (.type "object") = some true)
    (aId : PySem.W.findIn K (.ref CD) "__init__" = some (some (.ref fId)))
    (lId : K.lookup fId = some ⟨ocId, odId, .func (PySem.W.fnOf "__init__" "Door.__init__" (defArgs sDInit) (defBody sDInit) (defScope sDInit) .none kVId dcId pmId anId cdId ctId), slId⟩)
    (cId : PySem.W.codeIn K cdId "Door.__init__" = true)
    (kId : PySem.W.keepIn K (.ref fId) = true)
    (iId : PySem.W.isFn K (.ref fId) = true)
    (aEd : PySem.W.findIn K (.ref CD) "__eq__" = some (some (.ref fEd)))
    (lEd : K.lookup fEd = some ⟨ocEd, odEd, .func (PySem.W.fnOf "__eq__" "Door.__eq__" (defArgs sDEq) (defBody sDEq) (defScope sDEq) .none kVEd dcEd pmEd anEd cdEd ctEd), slEd⟩)
    (cEd : PySem.W.codeIn K cdEd "Door.__eq__" = true)
    (kEd : PySem.W.keepIn K (.ref fEd) = true)
    (iEd : PySem.W.isFn K (.ref fEd) = true)
    (aLd : PySem.W.findIn K (.ref CD) "__len__" = some (some (.ref fLd)))
    (lLd : K.lookup fLd = some ⟨ocLd, odLd, .func (PySem.W.fnOf "__len__" "Door.__len__" (defArgs sDLen) (defBody sDLen) (defScope sDLen) .none kVLd dcLd pmLd anLd cdLd ctLd), slLd⟩)
    (cLd : PySem.W.codeIn K cdLd "Door.__len__" = true)
    (kLd : PySem.W.keepIn K (.ref fLd) = true)
    (iLd : PySem.W.isFn K (.ref fLd) = true)
    (aSd : PySem.W.findIn K (.ref CD) "__str__" = some (some (.ref fSd)))
    (lSd : K.lookup fSd = some ⟨ocSd, odSd, .func (PySem.W.fnOf "__str__" "Door.__str__" (defArgs sDStr) (defBody sDStr) (defScope sDStr) .none kVSd dcSd pmSd anSd cdSd ctSd), slSd⟩)
    (cSd : PySem.W.codeIn K cdSd "Door.__str__" = true)
    (kSd : PySem.W.keepIn K (.ref fSd) = true)
    (iSd : PySem.W.isFn K (.ref fSd) = true)
    (aRd : PySem.W.findIn K (.ref CD) "__repr__" = some (some (.ref fRd)))
    (lRd : K.lookup fRd = some ⟨ocRd, odRd, .func (PySem.W.fnOf "__repr__" "Door.__repr__" (defArgs sDRepr) (defBody sDRepr) (defScope sDRepr) .none kVRd dcRd pmRd anRd cdRd ctRd), slRd⟩)
    (cRd : PySem.W.codeIn K cdRd "Door.__repr__" = true)
    (kRd : PySem.W.keepIn K (.ref fRd) = true)
    (iRd : PySem.W.isFn K (.ref fRd) = true)
    (t_sn : PySem.W.findIn K (.ref CT) "__ne__" = some (some (.builtin "object.__ne__")))
    (t_so : PySem.W.subIn K (.ref CT) (.type "object") = some true)
    (t_sNoneType : PySem.W.subIn K (.ref CT) (.type "NoneType") = some false)
    (t_sint : PySem.W.subIn K (.ref CT) (.type "int") = some false)
    (t_sbool : PySem.W.subIn K (.ref CT) (.type "bool") = some false)
    (t_sstr : PySem.W.subIn K (.ref CT) (.type "str") = some false)
    (t_stuple : PySem.W.subIn K (.ref CT) (.type "tuple") = some false)
    (t_slist : PySem.W.subIn K (.ref CT) (.type "list") = some false)
    (t_sdict : PySem.W.subIn K (.ref CT) (.type "dict") = some false)
    (t_ty : PySem.W.typeIn K (.ref CT) = some (.type "type"))
    (d_sn : PySem.W.findIn K (.ref CD) "__ne__" = some (some (.builtin "object.__ne__")))
    (d_so : PySem.W.subIn K (.ref CD) (.type "object") = some true)
    (d_sNoneType : PySem.W.subIn K (.ref CD) (.type "NoneType") = some false)
    (d_sint : PySem.W.subIn K (.ref CD) (.type "int") = some false)
    (d_sbool : PySem.W.subIn K (.ref CD) (.type "bool") = some false)
    (d_sstr : PySem.W.subIn K (.ref CD) (.type "str") = some false)
    (d_stuple : PySem.W.subIn K (.ref CD) (.type "tuple") = some false)
    (d_slist : PySem.W.subIn K (.ref CD) (.type "list") = some false)
    (d_sdict : PySem.W.subIn K (.ref CD) (.type "dict") = some false)
    (d_ty : PySem.W.typeIn K (.ref CD) = some (.type "type"))
    (sTD : PySem.W.subIn K (.ref CD) (.ref CT) = some false)
    (sDT : PySem.W.subIn K (.ref CT) (.ref CD) = some false)
    (v1 : PySem.W.nsIn K mainGlobals "LETTERS" = some (some (.str "abcdefghijklmnopqrstuvwxyz" w1)))
    (v2 : PySem.W.nsIn K mainGlobals "MOST_LETTERS" = some (some (.int 8 w2)))
    (v3 : PySem.W.nsIn K mainGlobals "MOST_COST" = some (some (.int 99 w3)))
    (v4 : PySem.W.nsIn K mainGlobals "MOST_GAP" = some (some (.int 600 w4)))
    (v5 : PySem.W.nsIn K mainGlobals "MOST_HOLDS" = some (some (.int 4 w5)))
    (kaT : PySem.W.kitAny K (.ref CT) [.ref CT, .ref CD] = some true)
    (kaD : PySem.W.kitAny K (.ref CD) [.ref CT, .ref CD] = some true)
    (koD : PySem.W.kitOne K (.ref CD) (.ref CT) = some false)
    (koT : PySem.W.kitOne K (.ref CT) (.ref CD) = some false)
    (z_isinstance : PySem.W.nsIn K mainGlobals "isinstance" = some none)
    (z_int : PySem.W.nsIn K mainGlobals "int" = some none)
    (z_bool : PySem.W.nsIn K mainGlobals "bool" = some none)
    (z_str : PySem.W.nsIn K mainGlobals "str" = some none)
    (z_tuple : PySem.W.nsIn K mainGlobals "tuple" = some none)
    (z_list : PySem.W.nsIn K mainGlobals "list" = some none)
    (z_len : PySem.W.nsIn K mainGlobals "len" = some none)
    (z_all : PySem.W.nsIn K mainGlobals "all" = some none)
    (z_any : PySem.W.nsIn K mainGlobals "any" = some none)
    (z_zip : PySem.W.nsIn K mainGlobals "zip" = some none)
    (z_range : PySem.W.nsIn K mainGlobals "range" = some none)
    (z_abs : PySem.W.nsIn K mainGlobals "abs" = some none)
    (z_max : PySem.W.nsIn K mainGlobals "max" = some none)
    (z_min : PySem.W.nsIn K mainGlobals "min" = some none)
    (z_repr : PySem.W.nsIn K mainGlobals "repr" = some none)
    (z_sorted : PySem.W.nsIn K mainGlobals "sorted" = some none)
    : ∃ fd : FuncData, (∀ (s : Shared) (v : Value), BindsTo s fd ⟨[v], []⟩ [("_law_script", v)]) ∧ ∀ base : Heap, K.In base → base.Ns mainGlobals mg → LawOk l.prog w K mg base fa fd "_law_script" (spLaw K) := by
  have e := hfa.symm.trans (PySem.W.mg_of X G aLa)
  cases e
  have m_isinstance := PySem.W.mg_none_of X G z_isinstance
  have m_int := PySem.W.mg_none_of X G z_int
  have m_bool := PySem.W.mg_none_of X G z_bool
  have m_str := PySem.W.mg_none_of X G z_str
  have m_tuple := PySem.W.mg_none_of X G z_tuple
  have m_list := PySem.W.mg_none_of X G z_list
  have m_len := PySem.W.mg_none_of X G z_len
  have m_all := PySem.W.mg_none_of X G z_all
  have m_any := PySem.W.mg_none_of X G z_any
  have m_zip := PySem.W.mg_none_of X G z_zip
  have m_range := PySem.W.mg_none_of X G z_range
  have m_abs := PySem.W.mg_none_of X G z_abs
  have m_max := PySem.W.mg_none_of X G z_max
  have m_min := PySem.W.mg_none_of X G z_min
  have m_repr := PySem.W.mg_none_of X G z_repr
  have m_sorted := PySem.W.mg_none_of X G z_sorted
  have FNu := fun_mk (st := sNumber) lNu cNu kNu
  have bNu := FNu.binds (ps := ["thing"]) fun _ _ _ _ _ _ us hl => match us, hl with | [_], _ => rfl
  have FWh := fun_mk (st := sWhole) lWh cWh kWh
  have bWh := FWh.binds (ps := ["thing", "least", "most"]) fun _ _ _ _ _ _ us hl => match us, hl with | [_, _, _], _ => rfl
  have FNm := fun_mk (st := sName) lNm cNm kNm
  have bNm := FNm.binds (ps := ["thing"]) fun _ _ _ _ _ _ us hl => match us, hl with | [_], _ => rfl
  have FHd := fun_mk (st := sHold) lHd cHd kHd
  have bHd := FHd.binds (ps := ["thing", "cost"]) fun _ _ _ _ _ _ us hl => match us, hl with | [_, _], _ => rfl
  have FAh := fun_mk (st := sAhead) lAh cAh kAh
  have bAh := FAh.binds (ps := ["hold", "other"]) fun _ _ _ _ _ _ us hl => match us, hl with | [_, _], _ => rfl
  have FHs := fun_mk (st := sHolds) lHs cHs kHs
  have bHs := FHs.binds (ps := ["thing", "cost"]) fun _ _ _ _ _ _ us hl => match us, hl with | [_, _], _ => rfl
  have FWT := fun_mk (st := sWrongT) lWT cWT kWT
  have bWT := FWT.binds (ps := ["name", "cost", "gap", "due", "holds"]) fun _ _ _ _ _ _ us hl => match us, hl with | [_, _, _, _, _], _ => rfl
  have FWD := fun_mk (st := sWrongD) lWD cWD kWD
  have bWD := FWD.binds (ps := ["name", "room", "gap"]) fun _ _ _ _ _ _ us hl => match us, hl with | [_, _, _], _ => rfl
  have FCe := fun_mk (st := sCell) lCe cCe kCe
  have bCe := FCe.binds (ps := ["_law_script", "_law_k"]) fun _ _ _ _ _ _ us hl => match us, hl with | [_, _], _ => rfl
  have FPu := fun_mk (st := sPurse) lPu cPu kPu
  have bPu := FPu.binds (ps := ["_law_cell_here"]) fun _ _ _ _ _ _ us hl => match us, hl with | [_], _ => rfl
  have FTa := fun_mk (st := sTake) lTa cTa kTa
  have bTa := FTa.binds (ps := ["_law_purse_here", "_law_many"]) fun _ _ _ _ _ _ us hl => match us, hl with | [_, _], _ => rfl
  have FWo := fun_mk (st := sWords) lWo cWo kWo
  have bWo := FWo.binds (ps := ["_law_purse_here", "_law_many"]) fun _ _ _ _ _ _ us hl => match us, hl with | [_, _], _ => rfl
  have FHo := fun_mk (st := sHoldsL) lHo cHo kHo
  have bHo := FHo.binds (ps := ["_law_purse_here", "_law_cost", "_law_tools"]) fun _ _ _ _ _ _ us hl => match us, hl with | [_, _, _], _ => rfl
  have FMe := fun_mk (st := sMember) lMe cMe kMe
  have bMe := FMe.binds (ps := ["_law_row"]) fun _ _ _ _ _ _ us hl => match us, hl with | [_], _ => rfl
  have FDr := fun_mk (st := sDrawn) lDr cDr kDr
  have bDr := FDr.binds (ps := ["_law_purse_here"]) fun _ _ _ _ _ _ us hl => match us, hl with | [_], _ => rfl
  have FOt := fun_mk (st := sOther) lOt cOt kOt
  have bOt := FOt.binds (ps := ["_law_purse_here", "_law_row", "_law_other"]) fun _ _ _ _ _ _ us hl => match us, hl with | [_, _, _], _ => rfl
  have FTx := fun_mk (st := sText) lTx cTx kTx
  have bTx := FTx.binds (ps := ["_law_row"]) fun _ _ _ _ _ _ us hl => match us, hl with | [_], _ => rfl
  have FSw := fun_mk (st := sShown) lSw cSw kSw
  have bSw := FSw.binds (ps := ["_law_one", "_law_row"]) fun _ _ _ _ _ _ us hl => match us, hl with | [_, _], _ => rfl
  have FNe := fun_mk (st := sNever) lNe cNe kNe
  have bNe := FNe.binds (ps := ["_law_one", "_law_row"]) fun _ _ _ _ _ _ us hl => match us, hl with | [_, _], _ => rfl
  have FTw := fun_mk (st := sTwo) lTw cTw kTw
  have bTw := FTw.binds (ps := ["_law_row", "_law_another"]) fun _ _ _ _ _ _ us hl => match us, hl with | [_, _], _ => rfl
  have FLa := fun_mk (st := sLaw) lLa cLa kLa
  have FEt := fun_mk (st := sTEq) lEt cEt kEt
  have bEt := FEt.binds (ps := ["self", "other"]) fun _ _ _ _ _ _ us hl => match us, hl with | [_, _], _ => rfl
  have FLt := fun_mk (st := sLen) lLt cLt kLt
  have bLt := FLt.binds (ps := ["self"]) fun _ _ _ _ _ _ us hl => match us, hl with | [_], _ => rfl
  have FSt := fun_mk (st := sTStr) lSt cSt kSt
  have bSt := FSt.binds (ps := ["self"]) fun _ _ _ _ _ _ us hl => match us, hl with | [_], _ => rfl
  have FRt := fun_mk (st := sTRepr) lRt cRt kRt
  have bRt := FRt.binds (ps := ["self"]) fun _ _ _ _ _ _ us hl => match us, hl with | [_], _ => rfl
  have FId := fun_mk (st := sDInit) lId cId kId
  have bId := FId.binds (ps := ["self", "name", "room", "gap"]) fun _ _ _ _ _ _ us hl => match us, hl with | [_, _, _, _], _ => rfl
  have FEd := fun_mk (st := sDEq) lEd cEd kEd
  have bEd := FEd.binds (ps := ["self", "other"]) fun _ _ _ _ _ _ us hl => match us, hl with | [_, _], _ => rfl
  have FLd := fun_mk (st := sDLen) lLd cLd kLd
  have bLd := FLd.binds (ps := ["self"]) fun _ _ _ _ _ _ us hl => match us, hl with | [_], _ => rfl
  have FSd := fun_mk (st := sDStr) lSd cSd kSd
  have bSd := FSd.binds (ps := ["self"]) fun _ _ _ _ _ _ us hl => match us, hl with | [_], _ => rfl
  have FRd := fun_mk (st := sDRepr) lRd cRd kRd
  have bRd := FRd.binds (ps := ["self"]) fun _ _ _ _ _ _ us hl => match us, hl with | [_], _ => rfl
  have FI : FunI K e0 fIn _ := ⟨⟨_, _, _, _, _, _, _, _, _, _, rfl, lIn, cIn, .inl ⟨rfl, rfl⟩, .inr ⟨DI, rfl, fun q hq => by
    rcases List.mem_cons.mp hq with rfl | hq
    · exact ⟨_, q1, rfl⟩
    · rw [List.mem_singleton.mp hq]
      exact ⟨_, q2, rfl⟩⟩⟩, kIn⟩
  have hE : ∀ H : Hp, SqT K H e0 [] := fun H => .inr ⟨_, #[], _, q3, rfl, rfl, Nat.zero_le _, .nil⟩
  have T : TaskC K mg CT := ⟨⟨t_pg, t_hd, t_po, t_sa⟩, t_nN, t_nC, t_nG, t_nD, t_nH, PySem.W.mg_of X G at_, t_tc, tg, tt, t_tm, kit_self⟩
  have TD : DoorC K mg CD := ⟨⟨d_pg, d_hd, d_po, d_sa⟩, d_nN, d_nR, d_nG, PySem.W.mg_of X G ad_, d_tc, tg, tt, d_tm⟩
  have M : MemC K mg CT CD := ⟨T, TD, kaT, kaD, kit_self, koD⟩
  have ME : MemE K mg CT CD := ⟨T, TD, koT, koD, kit_self, kit_self⟩
  have MT : Mk K CT fIn := ⟨t_mk, aIn, iIn, t_kc⟩
  have MD : Mk K CD fId := ⟨d_mk, aId, iId, d_kc⟩
  refine ⟨PySem.W.fnOf "law" "law" (defArgs sLaw) (defBody sLaw) (defScope sLaw) .none kVLa dcLa pmLa anLa cdLa ctLa, fun s v => .of_eq rfl, fun base _ _ => ?_⟩
  have DU : Dn l.prog w K mg base 1 "is_number" ["thing"] (spNumber K) := ⟨_, _, ok_number FNu m_isinstance m_int m_bool, PySem.W.mg_of X G aNu, kNu, bNu⟩
  have DW : Dn l.prog w K mg base 2 "is_whole" ["thing", "least", "most"] (spWhole K) := ⟨_, _, ok_whole FWh DU, PySem.W.mg_of X G aWh, kWh, bWh⟩
  have DN : Dn l.prog w K mg base 2 "is_name" ["thing"] (spName K) := ⟨_, _, ok_name FNm m_isinstance m_str m_len m_all ⟨_, PySem.W.mg_of X G v2⟩ ⟨_, PySem.W.mg_of X G v1⟩, PySem.W.mg_of X G aNm, kNm, bNm⟩
  have DHd : Dn l.prog w K mg base 3 "is_hold" ["thing", "cost"] (spHold K) := ⟨_, _, ok_hold FHd m_isinstance m_tuple m_len DN DW, PySem.W.mg_of X G aHd, kHd, bHd⟩
  have DA : Dn l.prog w K mg base 2 "goes_ahead" ["hold", "other"] (spAhead K) := ⟨_, _, ok_ahead FAh, PySem.W.mg_of X G aAh, kAh, bAh⟩
  have DHs : Dn l.prog w K mg base 4 "are_holds" ["thing", "cost"] (spHolds K) := ⟨_, _, ok_holds FHs m_isinstance m_tuple m_len m_all m_zip ⟨_, PySem.W.mg_of X G v5⟩ DHd DA, PySem.W.mg_of X G aHs, kHs, bHs⟩
  have DWT : Dn l.prog w K mg base 5 "wrong_in_task" ["name", "cost", "gap", "due", "holds"] (spWrongT K) := ⟨_, _, ok_wrongT FWT ⟨_, PySem.W.mg_of X G v3⟩ ⟨_, PySem.W.mg_of X G v4⟩ DN DW DHs, PySem.W.mg_of X G aWT, kWT, bWT⟩
  have DWD : Dn l.prog w K mg base 3 "wrong_in_door" ["name", "room", "gap"] spWrongD := ⟨_, _, ok_wrongD FWD ⟨_, PySem.W.mg_of X G v3⟩ ⟨_, PySem.W.mg_of X G v4⟩ DN DW, PySem.W.mg_of X G aWD, kWD, bWD⟩
  have DCe : Dn l.prog w K mg base 3 "_law_cell" ["_law_script", "_law_k"] (spCellL K) := ⟨_, _, ok_cell FCe m_len, PySem.W.mg_of X G aCe, kCe, bCe⟩
  have DPu : Dn l.prog w K mg base 3 "_law_purse" ["_law_cell_here"] spPurse := ⟨_, _, ok_purse FPu m_abs, PySem.W.mg_of X G aPu, kPu, bPu⟩
  have DTa : Dn l.prog w K mg base 3 "_law_take" ["_law_purse_here", "_law_many"] spTake := ⟨_, _, ok_take FTa, PySem.W.mg_of X G aTa, kTa, bTa⟩
  have DWo : Dn l.prog w K mg base 4 "_law_words" ["_law_purse_here", "_law_many"] spWords := ⟨_, _, ok_words FWo m_len m_range DTa, PySem.W.mg_of X G aWo, kWo, bWo⟩
  have DHo : Dn l.prog w K mg base 4 "_law_holds" ["_law_purse_here", "_law_cost", "_law_tools"] (spHoldsL K) := ⟨_, _, ok_holdsL FHo m_len m_sorted m_tuple DTa, PySem.W.mg_of X G aHo, kHo, bHo⟩
  have DDr : Dn l.prog w K mg base 5 "_law_drawn" ["_law_purse_here"] (spDrawn K) := ⟨_, _, ok_drawn FDr DTa DWo DHo, PySem.W.mg_of X G aDr, kDr, bDr⟩
  have DOt : Dn l.prog w K mg base 4 "_law_otherwise" ["_law_purse_here", "_law_row", "_law_other"] (spOther K) := ⟨_, _, ok_other FOt m_int m_min DTa, PySem.W.mg_of X G aOt, kOt, bOt⟩
  have MM : MemM l.prog w K mg base CT CD := ⟨M, ⟨e0, fIn, _, FI, MT, ok_init FI T DWT, hE⟩, ⟨fId, _, bId, MD, ok_dinit FId TD DWD⟩⟩
  have DMe : Dn l.prog w K mg base 8 "_law_member" ["_law_row"] (spMember K CT CD) := ⟨_, _, ok_member FMe MM, PySem.W.mg_of X G aMe, kMe, bMe⟩
  have DTx : Dn l.prog w K mg base 3 "_law_row_text" ["_law_row"] (spText K) := ⟨_, _, ok_text FTx m_str, PySem.W.mg_of X G aTx, kTx, bTx⟩
  have S : MemS l.prog w K mg base CT CD := ⟨⟨fRt, _, _, ok_trepr FRt T, bRt, aRt, iRt⟩, ⟨fRd, _, _, ok_drepr FRd TD, bRd, aRd, iRd⟩, ⟨fSt, _, _, ok_tstr FSt T, bSt, aSt, iSt⟩, ⟨fSd, _, _, ok_dstr FSd TD, bSd, aSd, iSd⟩, ⟨fLt, _, ok_len FLt T m_len m_range, bLt, aLt, iLt⟩, ⟨fLd, _, ok_dlen FLd TD m_len m_range, bLd, aLd, iLd⟩⟩
  have Q : MemQ l.prog w K mg base CT CD := ⟨⟨⟨fEt, _, _, ok_teq FEt ME m_isinstance, bEt, aEt, iEt⟩, t_sn, t_so, t_sNoneType, t_sint, t_sbool, t_sstr, t_stuple, t_slist, t_sdict⟩, ⟨⟨fEd, _, _, ok_deq FEd ME m_isinstance, bEd, aEd, iEd⟩, d_sn, d_so, d_sNoneType, d_sint, d_sbool, d_sstr, d_stuple, d_slist, d_sdict⟩, nf_of sTD, nf_of sDT, t_hd, d_hd, t_ty, d_ty⟩
  have DSw : Dn l.prog w K mg base 6 "_law_shown_right" ["_law_one", "_law_row"] (spShown K CT CD) := ⟨_, _, ok_shown FSw S m_str m_repr m_len DTx, PySem.W.mg_of X G aSw, kSw, bSw⟩
  have DNe : Dn l.prog w K mg base 6 "_law_never_alike" ["_law_one", "_law_row"] (spNever K CT CD) := ⟨_, _, ok_never FNe S Q m_str m_repr m_list m_any m_all, PySem.W.mg_of X G aNe, kNe, bNe⟩
  have DTw : Dn l.prog w K mg base 9 "_law_two_right" ["_law_row", "_law_another"] (spTwo K) := ⟨_, _, ok_two FTw Q m_isinstance m_bool DMe DSw DNe, PySem.W.mg_of X G aTw, kTw, bTw⟩
  exact ok_law FLa MM S Q m_range m_max m_min m_len m_all m_str DCe DPu DDr DOt DTw
end Du

set_option Elab.async false
set_option linter.all false
open PySem PySem.W PyProof.Rows
set_option maxRecDepth 100000 in
set_option maxHeartbeats 0 in
theorem PySem.Challenge.cw_duetimes_k05_members_alike_and_shown_holds : PySem.Challenge.rw_duetimes_k05_members_alike_and_shown.Holds := by
  w_on; o_law; k_head; (case hw => w_witness2)
  k_fill
  refine Du.walk_at (l := PySem.Challenge.rw_duetimes_k05_members_alike_and_shown) (n := 63) (x := "_law_script") (sp := fun w => Du.spLaw _) rfl (by decide) rfl (fun w h Y => PySem.W.kIn_of Y) ?F (fun _ _ a ns hl hS => ⟨a, ns, rfl, hS, fun _ => rfl⟩)
  case F =>
    intro w mg fa h KX G hmg
    refine' Du.all_mk KX G hmg ?aNu ?lNu ?cNu ?kNu ?aWh ?lWh ?cWh ?kWh ?aNm ?lNm ?cNm ?kNm ?aHd ?lHd ?cHd ?kHd ?aAh ?lAh ?cAh ?kAh ?aHs ?lHs ?cHs ?kHs ?aWT ?lWT ?cWT ?kWT ?aWD ?lWD ?cWD ?kWD ?aCe ?lCe ?cCe ?kCe ?aPu ?lPu ?cPu ?kPu ?aTa ?lTa ?cTa ?kTa ?aWo ?lWo ?cWo ?kWo ?aHo ?lHo ?cHo ?kHo ?aMe ?lMe ?cMe ?kMe ?aDr ?lDr ?cDr ?kDr ?aOt ?lOt ?cOt ?kOt ?aTx ?lTx ?cTx ?kTx ?aSw ?lSw ?cSw ?kSw ?aNe ?lNe ?cNe ?kNe ?aTw ?lTw ?cTw ?kTw ?aLa ?lLa ?cLa ?kLa ?tg ?tt ?at_ ?t_pg ?t_hd ?t_po ?t_sa ?t_mk ?t_kc ?t_nN ?t_nC ?t_nG ?t_nD ?t_nH ?t_tc ?t_tm ?aIn ?lIn ?cIn ?kIn ?iIn ?q1 ?q2 ?q3 ?aEt ?lEt ?cEt ?kEt ?iEt ?aLt ?lLt ?cLt ?kLt ?iLt ?aSt ?lSt ?cSt ?kSt ?iSt ?aRt ?lRt ?cRt ?kRt ?iRt ?ad_ ?d_pg ?d_hd ?d_po ?d_sa ?d_mk ?d_kc ?d_nN ?d_nR ?d_nG ?d_tc ?d_tm ?aId ?lId ?cId ?kId ?iId ?aEd ?lEd ?cEd ?kEd ?iEd ?aLd ?lLd ?cLd ?kLd ?iLd ?aSd ?lSd ?cSd ?kSd ?iSd ?aRd ?lRd ?cRd ?kRd ?iRd ?t_sn ?t_so ?t_sNoneType ?t_sint ?t_sbool ?t_sstr ?t_stuple ?t_slist ?t_sdict ?t_ty ?d_sn ?d_so ?d_sNoneType ?d_sint ?d_sbool ?d_sstr ?d_stuple ?d_slist ?d_sdict ?d_ty ?sTD ?sDT ?v1 ?v2 ?v3 ?v4 ?v5 ?kaT ?kaD ?koD ?koT ?z_isinstance ?z_int ?z_bool ?z_str ?z_tuple ?z_list ?z_len ?z_all ?z_any ?z_zip ?z_range ?z_abs ?z_max ?z_min ?z_repr ?z_sorted
    (case aNu => k_is)
    (case lNu => k_is)
    (case cNu => k_is)
    (case kNu => k_is)
    (case aWh => k_is)
    (case lWh => k_is)
    (case cWh => k_is)
    (case kWh => k_is)
    (case aNm => k_is)
    (case lNm => k_is)
    (case cNm => k_is)
    (case kNm => k_is)
    (case aHd => k_is)
    (case lHd => k_is)
    (case cHd => k_is)
    (case kHd => k_is)
    (case aAh => k_is)
    (case lAh => k_is)
    (case cAh => k_is)
    (case kAh => k_is)
    (case aHs => k_is)
    (case lHs => k_is)
    (case cHs => k_is)
    (case kHs => k_is)
    (case aWT => k_is)
    (case lWT => k_is)
    (case cWT => k_is)
    (case kWT => k_is)
    (case aWD => k_is)
    (case lWD => k_is)
    (case cWD => k_is)
    (case kWD => k_is)
    (case aCe => k_is)
    (case lCe => k_is)
    (case cCe => k_is)
    (case kCe => k_is)
    (case aPu => k_is)
    (case lPu => k_is)
    (case cPu => k_is)
    (case kPu => k_is)
    (case aTa => k_is)
    (case lTa => k_is)
    (case cTa => k_is)
    (case kTa => k_is)
    (case aWo => k_is)
    (case lWo => k_is)
    (case cWo => k_is)
    (case kWo => k_is)
    (case aHo => k_is)
    (case lHo => k_is)
    (case cHo => k_is)
    (case kHo => k_is)
    (case aMe => k_is)
    (case lMe => k_is)
    (case cMe => k_is)
    (case kMe => k_is)
    (case aDr => k_is)
    (case lDr => k_is)
    (case cDr => k_is)
    (case kDr => k_is)
    (case aOt => k_is)
    (case lOt => k_is)
    (case cOt => k_is)
    (case kOt => k_is)
    (case aTx => k_is)
    (case lTx => k_is)
    (case cTx => k_is)
    (case kTx => k_is)
    (case aSw => k_is)
    (case lSw => k_is)
    (case cSw => k_is)
    (case kSw => k_is)
    (case aNe => k_is)
    (case lNe => k_is)
    (case cNe => k_is)
    (case kNe => k_is)
    (case aTw => k_is)
    (case lTw => k_is)
    (case cTw => k_is)
    (case kTw => k_is)
    (case aLa => k_is)
    (case lLa => k_is)
    (case cLa => k_is)
    (case kLa => k_is)
    (case tg => k_is)
    (case tt => k_is)
    (case at_ => k_is)
    (case t_pg => k_is)
    (case t_hd => k_is)
    (case t_po => k_is)
    (case t_sa => k_is)
    (case t_mk => k_is)
    (case t_kc => k_is)
    (case t_nN => k_is)
    (case t_nC => k_is)
    (case t_nG => k_is)
    (case t_nD => k_is)
    (case t_nH => k_is)
    (case t_tc => k_is)
    (case t_tm => k_is)
    (case aIn => k_is)
    (case lIn => k_is)
    (case cIn => k_is)
    (case kIn => k_is)
    (case iIn => k_is)
    (case q1 => k_is)
    (case q2 => k_is)
    (case q3 => k_is)
    (case aEt => k_is)
    (case lEt => k_is)
    (case cEt => k_is)
    (case kEt => k_is)
    (case iEt => k_is)
    (case aLt => k_is)
    (case lLt => k_is)
    (case cLt => k_is)
    (case kLt => k_is)
    (case iLt => k_is)
    (case aSt => k_is)
    (case lSt => k_is)
    (case cSt => k_is)
    (case kSt => k_is)
    (case iSt => k_is)
    (case aRt => k_is)
    (case lRt => k_is)
    (case cRt => k_is)
    (case kRt => k_is)
    (case iRt => k_is)
    (case ad_ => k_is)
    (case d_pg => k_is)
    (case d_hd => k_is)
    (case d_po => k_is)
    (case d_sa => k_is)
    (case d_mk => k_is)
    (case d_kc => k_is)
    (case d_nN => k_is)
    (case d_nR => k_is)
    (case d_nG => k_is)
    (case d_tc => k_is)
    (case d_tm => k_is)
    (case aId => k_is)
    (case lId => k_is)
    (case cId => k_is)
    (case kId => k_is)
    (case iId => k_is)
    (case aEd => k_is)
    (case lEd => k_is)
    (case cEd => k_is)
    (case kEd => k_is)
    (case iEd => k_is)
    (case aLd => k_is)
    (case lLd => k_is)
    (case cLd => k_is)
    (case kLd => k_is)
    (case iLd => k_is)
    (case aSd => k_is)
    (case lSd => k_is)
    (case cSd => k_is)
    (case kSd => k_is)
    (case iSd => k_is)
    (case aRd => k_is)
    (case lRd => k_is)
    (case cRd => k_is)
    (case kRd => k_is)
    (case iRd => k_is)
    (case t_sn => k_is)
    (case t_so => k_is)
    (case t_sNoneType => k_is)
    (case t_sint => k_is)
    (case t_sbool => k_is)
    (case t_sstr => k_is)
    (case t_stuple => k_is)
    (case t_slist => k_is)
    (case t_sdict => k_is)
    (case t_ty => k_is)
    (case d_sn => k_is)
    (case d_so => k_is)
    (case d_sNoneType => k_is)
    (case d_sint => k_is)
    (case d_sbool => k_is)
    (case d_sstr => k_is)
    (case d_stuple => k_is)
    (case d_slist => k_is)
    (case d_sdict => k_is)
    (case d_ty => k_is)
    (case sTD => k_is)
    (case sDT => k_is)
    (case v1 => k_is)
    (case v2 => k_is)
    (case v3 => k_is)
    (case v4 => k_is)
    (case v5 => k_is)
    (case kaT => kit_is)
    (case kaD => kit_is)
    (case koD => kit_is)
    (case koT => kit_is)
    (case z_isinstance => k_is)
    (case z_int => k_is)
    (case z_bool => k_is)
    (case z_str => k_is)
    (case z_tuple => k_is)
    (case z_list => k_is)
    (case z_len => k_is)
    (case z_all => k_is)
    (case z_any => k_is)
    (case z_zip => k_is)
    (case z_range => k_is)
    (case z_abs => k_is)
    (case z_max => k_is)
    (case z_min => k_is)
    (case z_repr => k_is)
    (case z_sorted => k_is)

