import PyProof.Rows.All
import Wide.All
import OpenK.AllK
import Wide.FinOn
import HandS.ForMost
import HandS.Walk
import HandS.Wide
import HandS.IsInst
import HandS.NoneIn
import HandS.Style
import HandS.Codes
import PySem.Challenge.RW_knotpurse_k08_whole_years_by_turns
set_option Elab.async false
set_option maxRecDepth 100000
set_option linter.all false
namespace KP
open PySem L2
def top (i : Nat) : Stmt := PySem.Challenge.pw_knotpurse_k08_whole_years_by_turns.main.body.getD i (.Pass ⟨0, 0, 0, 0⟩)
/-! ### how a def of the text is known, and called -/
structure DefT (K : PySem.W.Frag) (mg : Str → Option Value) (x : Str) (st : Stmt) (ps : List Str) : Prop where
  ex : ∃ f fd, Fun K x x st f fd ∧ Binds K fd ps [] ∧ mg x = some (.ref f)
structure Cal (P : Program) (w : World) (K : PySem.W.Frag) (mg : Str → Option Value) (base : Heap) (k : Nat) (x : Str) (sp : Sp) : Prop where
  ex : ∃ f fd ps, FnOk P w K mg base CX0 k f fd ps sp ∧ mg x = some (.ref f) ∧ PySem.W.keepIn K (.ref f) = true ∧ Binds K fd ps []
section
variable {P : Program} {w : World} {K : PySem.W.Frag} {mg : Str → Option Value} {base : Heap}
theorem cal {x : Str} {st : Stmt} {N ps : List Str} {k : Nat} {sp : Sp} (D : DefT K mg x st ps) (S : FnScope N ps (defScope st)) (len : ∀ vs H Q E, sp vs H Q E → vs.length = ps.length)
    (hbody : ∀ (f : Addr) (cdv : Value) (A : Around) (outer : List Env) (s : Shared) (H : Hp) (vs : List V) (Q : VK) (E : XK), Room k (A.deeper (PyProof.Rows.envOfC x (defScope st) s.heap.objs.size f cdv)) → sp vs H Q E →
      ∃ t, PSs (cxOf CX0 P w K mg base N x (defScope st) f cdv A outer s H E).nox (defBody st) t ∧ t { nx := fun _ H' => Q .non H', rt := Q } (start N vs) H) : Cal P w K mg base (k + 1) x sp := by
  obtain ⟨f, fd, F, b, m⟩ := D.ex
  exact ⟨f, fd, ps, F.ok S len (hbody f), m, F.kp, b⟩
end
section
variable {X : Cx} {k j : Nat} {x : Str} {sp : Sp} {p pos : Pos} {e : Expr} {es : List Expr} {t : TA}
/-- f(e, ..) -/
theorem pe_cl (c : Cal X.prog X.w X.K X.mg X.base k x sp) (hr : Room j X.A) (hk : k ≤ j) (hg : Gl X x) (ha : PA X (e :: es) t)
    (hdb : (x == ("__debug__" : Str)) = false := by decide) (he : starEach (e :: es) X.env = (false, eval e X.env) :: starEach es X.env := by rfl) (hpl : (backTo pos (starEach es X.env)).any (·.1) = false := by rfl) :
    PE X (.Call (.Name x p) (e :: es) [] pos) (tCall sp [] E0 t) := by
  obtain ⟨f, fd, ps, F, m, kp, b⟩ := c.ex
  exact pe_call F (hr.mono hk) hg m kp b .nil pass0 ha hdb he hpl
end
theorem yes {σ : L2.St} {H : Hp} {Q : Bool → Hp → Prop} (h : Q true H) : tYes σ H Q := h
/-! ### texts of letters -/
def letters : Str := "abcdefghijklmnopqrstuvwxyz"
def Ltr (c : Nat) : Prop := c ∈ letters.cps.toList
def IsW (x : Str) : Prop := (∀ c ∈ x.cps.toList, Ltr c) ∧ 1 ≤ x.length ∧ x.length ≤ 8
def IsN (x : Str) : Prop := x = "" ∨ IsW x
/-! ### the written part: what of it the walk asks -/
structure Base (K : PySem.W.Frag) (mg : Str → Option Value) : Prop where
  isi : mg "isinstance" = none
  bool : mg "bool" = none
  int : mg "int" = none
  str : mg "str" = none
  tuple : mg "tuple" = none
  len : mg "len" = none
  all : mg "all" = none
  range : mg "range" = none
  letters : ∃ t, mg "LETTERS" = some (.str letters t)
  mostL : ∃ t, mg "MOST_LETTERS" = some (.int 8 t)
  list : mg "list" = none
  dict : mg "dict" = none
  mostD : ∃ t, mg "MOST_DAYS" = some (.int 30 t)
  mostH : ∃ t, mg "MOST_HEADS" = some (.int 8 t)
  mostLi : ∃ t, mg "MOST_LIMITS" = some (.int 6 t)
  mostR : ∃ t, mg "MOST_RULES" = some (.int 4 t)
  mostM : ∃ t, mg "MOST_LIMIT" = some (.int 1000000000000000 t)
  mostW : ∃ t, mg "MOST_WHOLE" = some (.int 1000 t)
abbrev sWhole : Stmt := top 7
abbrev sWord : Stmt := top 8
def spWhole : Sp := fun vs H Q _ => ∃ v lo hi : Int, vs = [.int v, .int lo, .int hi] ∧ Q (.bl (decide (lo ≤ v ∧ v ≤ hi))) H
def spWord : Sp := fun vs H Q _ => ∃ x : Str, vs = [.str x] ∧ IsW x ∧ ∀ H', Same H H' → Q (.bl true) H'
section
variable {P : Program} {w : World} {K : PySem.W.Frag} {mg : Str → Option Value} {base : Heap}
theorem scWhole : FnScope ["value", "least", "most"] ["value", "least", "most"] (defScope sWhole) := ⟨rfl, rfl, rfl, by decide +kernel, rfl, by decide +kernel, by decide +kernel⟩
theorem c_whole (B : Base K mg) (D : DefT K mg "is_whole" sWhole ["value", "least", "most"]) : Cal P w K mg base 1 "is_whole" spWhole := by
  refine cal D scWhole (fun vs H Q E h => ?_) (fun f cdv A outer s H vs Q E hr h => ?_)
  · obtain ⟨v, lo, hi, rfl, _⟩ := h
    rfl
  · obtain ⟨v, lo, hi, rfl, k⟩ := h
    refine ⟨_, pss_cons (ps_if (PW.pt (pw_or (pt_val (pe_callB call_isi (by rfl) B.isi (by decide +kernel) (pa_cons (pv 0) (pa_cons (pe_bltn (v := .ty "bool") (by rfl) B.bool (by decide +kernel) rfl) pa_nil))))
        (pw_or1 (pt_not (pt_val (pe_callB call_isi (by rfl) B.isi (by decide +kernel) (pa_cons (pv 0) (pa_cons (pe_bltn (v := .ty "int") (by rfl) B.int (by decide +kernel) rfl) pa_nil)))))))) (pss_one (ps_ret pe_bl)) pss_nil)
      (pss_one (ps_ret (pe_chain op_le op_le (pv 1) (pv 0) (pv 2)))), ?_⟩
    refine ⟨_, rfl, _, _, _, _, false, rfl, .ty _, .base (.int _), kit_ty (by decide +kernel), _, rfl, iteF ?_⟩
    refine ⟨_, rfl, _, _, _, _, true, rfl, .ty _, .base (.int _), kit_ty (by decide +kernel), _, rfl, iteF ?_⟩
    refine ⟨_, rfl, _, rfl, _, _, rfl, rfl, _, rfl, ?_⟩
    by_cases h1 : lo ≤ v
    · rw [if_pos (decide_eq_true h1)]
      refine ⟨_, rfl, _, _, rfl, rfl, ?_⟩
      by_cases h2 : v ≤ hi
      · show Q (.bl (decide (v ≤ hi))) H
        rw [decide_eq_true h2]
        rw [decide_eq_true ⟨h1, h2⟩] at k
        exact k
      · show Q (.bl (decide (v ≤ hi))) H
        rw [decide_eq_false h2]
        rw [decide_eq_false fun z => h2 z.2] at k
        exact k
    · rw [if_neg (by rw [decide_eq_false h1]; exact Bool.false_ne_true)]
      rw [decide_eq_false fun z => h1 z.1] at k
      exact k
/-- a new object leaves the rest as it was -/
theorem same_new {H : Hp} {a : Addr} {o : HO} (h : H a = none) : Same H (upd H a o) := fun b u e => by
  rw [upd_ne (ne_of_none e h)]
  exact e
theorem map_rep {n : Nat} : (List.replicate n true).map V.bl = List.replicate n (V.bl true) := by simp
theorem all_rep {n : Nat} : (List.replicate n true).all id = true := by
  rw [List.all_eq_true]
  intro x hx
  exact (List.mem_replicate.mp hx).2
theorem scWord : FnScope ["value", "sign"] ["value"] (defScope sWord) := ⟨rfl, rfl, rfl, by decide +kernel, rfl, by decide +kernel, by decide +kernel⟩
theorem c_word (B : Base K mg) (D : DefT K mg "is_word" sWord ["value"]) : Cal P w K mg base 1 "is_word" spWord := by
  obtain ⟨tL, hL⟩ := B.letters
  obtain ⟨tM, hM⟩ := B.mostL
  refine cal D scWord (fun vs H Q E h => ?_) (fun f cdv A outer s H vs Q E hr h => ?_)
  · obtain ⟨x, rfl, _⟩ := h
    rfl
  · obtain ⟨x, rfl, ⟨hl, h1, h8⟩, k⟩ := h
    refine ⟨_, pss_cons (ps_if (PW.pt (pw_or (pt_not (pt_val (pe_callB call_isi (by rfl) B.isi (by decide +kernel) (pa_cons (pv 0) (pa_cons (pe_bltn (v := .ty "str") (by rfl) B.str (by decide +kernel) rfl) pa_nil)))))
        (pw_or1 (pt_not (pt_chain op_le op_le pe_int (pe_callB call_len_str (by rfl) B.len (by decide +kernel) (pa_cons (pv 0) pa_nil)) (pe_glob (v := .int 8) rfl hM ⟨_, rfl⟩)))))) (pss_one (ps_ret pe_bl)) pss_nil)
      (pss_one (ps_ret (pe_callB (cr_all rfl) (by rfl) B.all (by decide +kernel) (pa_cons (pe_lc (own := [("sign", 1)]) (g := gName 1) (tt := tYes) rfl scWord.nd (pi_str (pv 0)) (blkOk_by (N := ["value", "sign"]) (sc := defScope sWord) (by decide +kernel))
        (fun _ _ _ _ _ => pg_name (i := 1) scWord.nd rfl (Or.inl rfl)) (fun _ _ _ _ _ => pts_nil) (fun _ _ _ _ _ => pe_cmpR op_in_sign (pv 1) (pe_glob (v := .str letters) rfl hL ⟨_, rfl⟩) rfl)) pa_nil)))), ?_⟩
    refine ⟨_, rfl, _, _, _, _, true, rfl, .ty _, .base (.str _), kit_ty (by decide +kernel), _, rfl, iteF ?_⟩
    have hs : x.length ≤ sizeLine := Nat.le_trans h8 (by decide)
    refine ⟨_, rfl, _, rfl, hs, _, _, rfl, rfl, _, rfl, ?_⟩
    rw [if_pos (decide_eq_true (show (1 : Int) ≤ ((x.length : Nat) : Int) by omega))]
    refine ⟨_, _, rfl, rfl, _, rfl, ?_⟩
    have e8 : decide (((x.length : Nat) : Int) ≤ 8) = true := decide_eq_true (by omega)
    rw [e8]
    refine iteF ?_
    refine ⟨_, rfl, x, rfl, fun D hD => lc_it walk_str (fun i H' => H' = upd H D (.lst (List.replicate i (V.bl true)))) rfl (fun _ _ _ _ => trivial) ?_ ?_⟩
    · rintro i v H1 H2 hi rfl ⟨rfl, c, hc, rfl⟩
      refine ⟨rfl, yes (iteT ⟨_, rfl, c, letters, rfl, rfl, _, upd_same, ?_, ?_⟩)⟩
      · rw [List.length_replicate]
        have : x.cps.size ≤ 8 := h8
        have e : sizeLine = 16777216 := by decide
        omega
      · have ec : decide (c ∈ letters.cps.toList) = true := decide_eq_true (hl c (by
          have := Array.mem_of_getElem? hc
          simpa using this))
        rw [ec, upd_upd]
        congr 2
        exact (List.replicate_succ' (n := i) (a := V.bl true)).symm ▸ rfl
    · rintro H1 rfl
      refine ⟨D, List.replicate x.cps.size true, rfl, SqL.of (by rw [upd_same, map_rep]), ?_⟩
      rw [all_rep]
      exact k _ (same_new hD)
end
end KP
namespace KP
open PySem L2
/-! ### numbers drawn -/
def WellAt (H : Hp) (a : Addr) : Prop := ∃ x y z : Int, H a = some (.lst [.int x, .int y, .int z])
/-- all but a is as it was -/
def SameB (a : Addr) (H H' : Hp) : Prop := ∀ b o, H b = some o → b ≠ a → H' b = some o
theorem SameB.trans {a : Addr} {H H1 H2 : Hp} (p : SameB a H H1) (q : SameB a H1 H2) : SameB a H H2 := fun b o e hb => q b o (p b o e hb) hb
theorem SameB.refl {a : Addr} {H : Hp} : SameB a H H := fun _ _ e _ => e
theorem SameB.of {a : Addr} {H H' : Hp} (s : Same H H') : SameB a H H' := fun b o e _ => s b o e
theorem SameB.newD {a D : Addr} {H H1 H2 : Hp} {o : HO} (hD : H D = none) (p : SameB a H H1) : SameB a H (upd H1 D o) := fun b u e hb => by
  rw [upd_ne (ne_of_none e hD)]
  exact p b u e hb
theorem WellAt.up {H : Hp} {a D : Addr} {o : HO} (h : WellAt H a) (hn : a ≠ D) : WellAt (upd H D o) a := by
  obtain ⟨x, y, z, e⟩ := h
  exact ⟨x, y, z, by rw [upd_ne hn]; exact e⟩
theorem WellAt.new {H : Hp} {a D : Addr} {o : HO} (h : WellAt H a) (hD : H D = none) : WellAt (upd H D o) a := by
  obtain ⟨x, y, z, e⟩ := id h
  exact h.up (ne_of_none e hD)
theorem WellAt.ne {H : Hp} {a D : Addr} (h : WellAt H a) (hD : H D = none) : a ≠ D := by
  obtain ⟨x, y, z, e⟩ := h
  exact ne_of_none e hD
abbrev sWell : Stmt := top 27
abbrev sDraw : Stmt := top 28
abbrev sName : Stmt := top 29
def spWell : Sp := fun vs H Q _ => ∃ c : Int, vs = [.int c] ∧ ∀ a H', Same H H' → H a = none → WellAt H' a → Q (.ref a) H'
def spDraw : Sp := fun vs H Q _ => ∃ (a : Addr) (m : Int), vs = [.ref a, .int m] ∧ WellAt H a ∧ 0 < m ∧ m < 1152921504606846976 ∧ ∀ r H', 0 ≤ r → r < m → WellAt H' a → SameB a H H' → Q (.int r) H'
def spName : Sp := fun vs H Q _ => ∃ a : Addr, vs = [.ref a] ∧ WellAt H a ∧ ∀ x H', IsW x → WellAt H' a → SameB a H H' → Q (.str x) H'
section
variable {P : Program} {w : World} {K : PySem.W.Frag} {mg : Str → Option Value} {base : Heap}
theorem scWell : FnScope ["_law_cell"] ["_law_cell"] (defScope sWell) := ⟨rfl, rfl, rfl, by decide +kernel, rfl, by decide +kernel, by decide +kernel⟩
theorem c_well (B : Base K mg) (D : DefT K mg "_law_well" sWell ["_law_cell"]) : Cal P w K mg base 1 "_law_well" spWell := by
  refine cal D scWell (fun vs H Q E h => ?_) (fun f cdv A outer s H vs Q E hr h => ?_)
  · obtain ⟨c, rfl, _⟩ := h
    rfl
  · obtain ⟨c, rfl, k⟩ := h
    refine ⟨_, pss_one (ps_ret (pe_lst (pa_cons (pe_op op_mul (pv 0) (pe_callTy call_int1 (by rfl) B.int (by decide +kernel) (pa_cons (pe_cmpR op_ge (pv 0) (pe_op op_pow pe_int pe_int) (nomark _)) pa_nil)))
      (pa_cons (pe_op op_mod (pv 0) pe_int) (pa_cons pe_int pa_nil))))), ?_⟩
    refine ⟨_, rfl, _, rfl, _, _, rfl, rfl, ⟨by decide, by decide, by decide⟩, _, _, rfl, rfl, Or.inr ⟨_, rfl, _, _, rfl, rfl, Or.inr ?_, ?_⟩⟩
    · split <;> constructor <;> decide
    · refine ⟨_, rfl, _, _, rfl, rfl, (by show (0 : Int) < 2147483647; decide), (by show 3 ≤ sizeLine; decide), fun l hl => ?_⟩
      exact k l _ (same_new hl) hl ⟨_, _, _, upd_same⟩
theorem scDraw : FnScope ["_law_well_here", "_law_many", "_law_found", "_law_number"] ["_law_well_here", "_law_many"] (defScope sDraw) := ⟨rfl, rfl, rfl, by decide +kernel, rfl, by decide +kernel, by decide +kernel⟩
theorem c_draw (D : DefT K mg "_law_draw" sDraw ["_law_well_here", "_law_many"]) : Cal P w K mg base 1 "_law_draw" spDraw := by
  refine cal D scDraw (fun vs H Q E h => ?_) (fun f cdv A outer s H vs Q E hr h => ?_)
  · obtain ⟨a, m, rfl, _⟩ := h
    rfl
  · obtain ⟨a, m, rfl, ⟨x, y, z, ha⟩, m0, m1, k⟩ := h
    refine ⟨_, pss_cons (ps_if (pt_cmpR op_gt (pe_ix ix_list (pv 0) pe_int (fun _ _ => rfl)) pe_int (nomark _))
        (pss_cons (ps_set (i := 2) scDraw.nd rfl (Or.inl rfl) (pe_op op_mod (pe_ix ix_list (pv 0) pe_int (fun _ _ => rfl)) (pv 1)))
        (pss_cons (ps_asg (pe_op op_fdivW (pe_ix ix_list (pv 0) pe_int (fun _ _ => rfl)) (pv 1)) (pg_sub (pv 0) pe_int set_list))
        (pss_one (ps_ret (pv 2))))) pss_nil)
      (pss_cons (ps_asg (pe_op op_add (pe_ix ix_list (pv 0) pe_int (fun _ _ => rfl)) pe_int) (pg_sub (pv 0) pe_int set_list))
      (pss_cons (ps_set (i := 3) scDraw.nd rfl (Or.inl rfl) (pe_op op_mod (pe_op op_mul (pe_op op_add (pe_op op_add (pe_ix ix_list (pv 0) pe_int (fun _ _ => rfl)) (pe_op op_mul pe_int (pe_ix ix_list (pv 0) pe_int (fun _ _ => rfl)))) pe_int) pe_int) pe_int))
      (pss_cons (ps_set (i := 3) scDraw.nd rfl (Or.inl rfl) (pe_op op_mod (pe_op op_mul (pv 3) (pe_op op_add (pe_op op_fdiv (pv 3) pe_int) pe_int)) pe_int))
      (pss_one (ps_ret (pe_op op_mod (pe_op op_mod (pe_op op_mul (pv 3) (pe_op op_add (pe_op op_fdiv (pv 3) pe_int) pe_int)) pe_int) (pv 1))))))), ?_⟩
    refine ⟨_, rfl, a, _, 0, .int x, rfl, rfl, SqL.of ha, rfl, _, _, rfl, rfl, _, rfl, ite2 (fun c => ?_) (fun c => ?_)⟩
    · refine ⟨_, rfl, a, _, 0, .int x, rfl, rfl, SqL.of ha, rfl, _, rfl, _, _, rfl, rfl, m0, ?_⟩
      refine ⟨_, rfl, a, _, 0, .int x, rfl, rfl, SqL.of ha, rfl, _, rfl, _, _, rfl, rfl, wide_div m0 (b := 60) (by omega) (by decide) (by decide), ?_⟩
      refine ⟨_, rfl, a, _, 0, 0, rfl, rfl, ha, rfl, ?_⟩
      refine ⟨_, rfl, k _ _ (Int.emod_nonneg _ (by omega)) (Int.emod_lt_of_pos _ m0) ⟨_, _, _, upd_same⟩ fun b o e hb => ?_⟩
      rw [upd_ne hb]
      exact e
    · refine ⟨_, rfl, a, _, 2, .int z, rfl, rfl, SqL.of ha, rfl, _, _, rfl, rfl, _, rfl, a, _, 2, 2, rfl, rfl, ha, rfl, ?_⟩
      have h1 : ∀ n : Int, -(2 ^ 64) < n % 2147483647 ∧ n % 2147483647 < 2 ^ 64 := fun n => by omega
      refine ⟨_, rfl, a, _, 1, .int y, rfl, rfl, SqL.of upd_same, rfl, _, rfl, a, _, 2, .int (z + 1), rfl, rfl, SqL.of upd_same, rfl, _, _, rfl, rfl, Or.inl ⟨by decide, by decide⟩, _, _, rfl, rfl, _, _, rfl, rfl, _, _, rfl, rfl, Or.inr ⟨by decide, by decide⟩, _, _, rfl, rfl, (by show (0 : Int) < 2147483647; decide), ?_⟩
      refine ⟨_, rfl, _, rfl, _, _, rfl, rfl, ⟨by decide, by decide⟩, _, _, rfl, rfl, _, _, rfl, rfl, Or.inl (h1 _), _, _, rfl, rfl, (by show (0 : Int) < 2147483647; decide), ?_⟩
      refine ⟨_, rfl, _, rfl, _, _, rfl, rfl, ⟨by decide, by decide⟩, _, _, rfl, rfl, _, _, rfl, rfl, Or.inl (h1 _), _, _, rfl, rfl, (by show (0 : Int) < 2147483399; decide), _, rfl, _, _, rfl, rfl, m0, ?_⟩
      refine k _ _ (Int.emod_nonneg _ (by omega)) (Int.emod_lt_of_pos _ m0) ⟨_, _, _, upd_same⟩ fun b o e hb => ?_
      rw [upd_ne hb]
      exact e
theorem join_signs : ∀ cs : List Nat, TL.joinL [] (cs.map fun c => [c]) = cs
  | [] => rfl
  | [c] => rfl
  | c :: d :: r => by
    show [c] ++ ([] ++ TL.joinL [] ((d :: r).map fun c => [c])) = c :: d :: r
    rw [join_signs (d :: r)]
    rfl
theorem join_is (cs : List Nat) : Txt.join "" (cs.map fun c => (⟨#[c]⟩ : Str)) = SX.S cs := by
  have h := SX.join_S [] (cs.map fun c => [c])
  rw [join_signs, List.map_map] at h
  exact h
theorem isW_S {cs : List Nat} (h : ∀ c ∈ cs, Ltr c) (h1 : 1 ≤ cs.length) (h8 : cs.length ≤ 8) : IsW (SX.S cs) := ⟨fun c hc => h c (by simpa using hc), by rw [SX.S_len]; exact h1, by rw [SX.S_len]; exact h8⟩
def names16 : List Str := ["in", "year", "head", "limit", "rule", "back", "right", "give", "hold", "move", "spend", "promise", "lessen", "out", "none", "carried"]
def wordB (x : Str) : Bool := x.cps.toList.all (fun c => decide (c ∈ letters.cps.toList)) && decide (1 ≤ x.length) && decide (x.length ≤ 8)
theorem isW_of {x : Str} (h : wordB x = true) : IsW x := by
  unfold wordB at h
  simp only [Bool.and_eq_true, List.all_eq_true, decide_eq_true_eq] at h
  exact ⟨h.1.1, h.1.2, h.2⟩
theorem names16_ok : ∀ x ∈ names16, IsW x := by
  have h : names16.all wordB = true := by decide +kernel
  intro x hx
  exact isW_of (List.all_eq_true.mp h x hx)
theorem get_lt {α : Type} {l : List α} {r : Int} (h0 : 0 ≤ r) (h1 : r < (l.length : Int)) : ∃ v, atI l r = some v ∧ v ∈ l := by
  obtain ⟨j, rfl⟩ : ∃ j : Nat, r = (j : Int) := ⟨r.toNat, by omega⟩
  have hj : j < l.length := by omega
  exact ⟨l[j], atI_nat (List.getElem?_eq_getElem hj), List.getElem_mem hj⟩
theorem let_get {r : Int} (h0 : 0 ≤ r) (h1 : r < 26) : ∃ c, letters.cps[r.toNat]? = some c ∧ Ltr c := by
  have e : letters.cps.size = 26 := by decide +kernel
  have hj : r.toNat < letters.cps.size := by omega
  refine ⟨letters.cps[r.toNat], by simp [hj], ?_⟩
  show _ ∈ letters.cps.toList
  simp
theorem scName : FnScope ["_law_well_here", "_law_some", "_law_signs", "_law_k"] ["_law_well_here"] (defScope sName) := ⟨rfl, rfl, rfl, by decide +kernel, rfl, by decide +kernel, by decide +kernel⟩
theorem c_name (B : Base K mg) (Dr : Cal P w K mg base 1 "_law_draw" spDraw) (D : DefT K mg "_law_name" sName ["_law_well_here"]) : Cal P w K mg base 2 "_law_name" spName := by
  refine cal D scName (fun vs H Q E h => ?_) (fun f cdv A outer s H vs Q E hr h => ?_)
  · obtain ⟨a, rfl, _⟩ := h
    rfl
  · obtain ⟨a, rfl, ha, k⟩ := h
    refine ⟨_, pss_cons (ps_if (pt_cmpR op_eq (pe_cl Dr hr (by decide) (by rfl) (pa_cons (pv 0) (pa_cons pe_int pa_nil))) pe_int (nomark _))
        (pss_cons (ps_set (i := 1) scName.nd rfl (Or.inl rfl) (pe_lst (pa_cons pe_str (pa_cons pe_str (pa_cons pe_str (pa_cons pe_str (pa_cons pe_str (pa_cons pe_str (pa_cons pe_str (pa_cons pe_str (pa_cons pe_str (pa_cons pe_str (pa_cons pe_str (pa_cons pe_str pa_nil))))))))))))))
        (pss_one (ps_ret (pe_ix ix_list (pe_op op_cat (pv 1) (pe_lst (pa_cons pe_str (pa_cons pe_str (pa_cons pe_str (pa_cons pe_str pa_nil)))))) (pe_cl Dr hr (by decide) (by rfl) (pa_cons (pv 0) (pa_cons pe_int pa_nil))) (fun _ _ => rfl))))) pss_nil)
      (pss_cons (ps_set (i := 2) scName.nd rfl (by first | exact Or.inl rfl | exact Or.inr rfl) pe_str)
      (pss_one (ps_ret (pe_join pe_str (pe_lc (own := [("_law_k", 3)]) (g := gName 3) (tt := tYes) rfl scName.nd (pi_range1 (by rfl) B.range (pa_cons (pe_op op_add pe_int (pe_cl Dr hr (by decide) (by rfl) (pa_cons (pv 0) (pa_cons pe_int pa_nil)))) pa_nil))
        (blkOk_by (N := ["_law_well_here", "_law_some", "_law_signs", "_law_k"]) (sc := defScope sName) (by decide +kernel)) (fun _ _ _ _ _ => pg_name (i := 3) scName.nd rfl (Or.inl rfl)) (fun _ _ _ _ _ => pts_nil)
        (fun _ _ _ _ _ => pe_item_str (pv 2) (pe_cl Dr hr (by decide) (by rfl) (pa_cons (pv 0) (pa_cons pe_int pa_nil))) (fun _ _ => rfl))))))), ?_⟩
    refine ⟨_, rfl, a, 8, rfl, ha, by decide, by decide, fun r H1 r0 r8 w1 s1 => ⟨rfl, _, rfl, ite2 (fun _ => ?_) (fun _ => ?_)⟩⟩
    · refine ⟨(by show 12 ≤ sizeLine; decide), fun p hp => ?_⟩
      refine ⟨_, rfl, (by show 4 ≤ sizeLine; decide), fun q hq => ?_⟩
      have pq : p ≠ q := ne_of_none upd_same hq
      refine ⟨p, q, _, _, rfl, rfl, (by rw [upd_ne pq]; exact upd_same), upd_same, (by show 12 + 4 ≤ sizeLine; decide), fun t ht => ?_⟩
      refine ⟨_, rfl, a, 16, rfl, ((w1.new hp).new hq).new ht, by decide, by decide, fun r2 H2 r20 r216 w2 s2 => ?_⟩
      obtain ⟨v, hv, hm⟩ := get_lt (l := names16.map V.str) r20 (by show r2 < 16; exact r216)
      obtain ⟨x, hx, rfl⟩ := List.mem_map.mp hm
      have ta : a ≠ t := ((w1.new hp).new hq).ne ht
      refine ⟨t, _, r2, .str x, rfl, rfl, SqL.of (s2 t _ upd_same ta.symm), hv, ?_⟩
      refine k x H2 (names16_ok x hx) w2 (s1.trans fun b o e hb => s2 b o ?_ hb)
      exact same_new ht b o (same_new hq b o (same_new hp b o e))
    · refine ⟨⟨_, rfl⟩, _, rfl, a, 8, rfl, w1, by decide, by decide, fun r2 H2 r20 r28 w2 s2 => ?_⟩
      have hn : (1 + r2).toNat ≤ 8 := by omega
      refine ⟨_, _, rfl, rfl, (1 + r2), rfl, by omega, by omega, fun D hD => lc_range (lo := 0) (n := (1 + r2).toNat)
        (fun i H' => ∃ cs : List Nat, cs.length = i ∧ (∀ c ∈ cs, Ltr c) ∧ H' D = some (.lst (cs.map fun c => V.str ⟨#[c]⟩)) ∧ WellAt H' a ∧ SameB a H H')
        ⟨[], rfl, (fun _ h => nomatch h), upd_same, w2.new hD, ?_⟩ ?_ ?_⟩
      · exact (s1.trans s2).trans (SameB.of (same_new hD))
      · rintro i H3 hi ⟨cs, hl, hL, hd, wd, sd⟩
        refine ⟨rfl, yes (iteT ⟨_, rfl, _, rfl, a, 26, rfl, wd, by decide, by decide, fun r3 H4 r30 r326 w4 s4 => ?_⟩)⟩
        obtain ⟨c, hc, hcl⟩ := let_get r30 r326
        have e26 : (letters.length : Int) = 26 := by decide +kernel
        refine ⟨letters, r3, c, rfl, rfl, r30, by omega, by rw [e26]; exact r326, hc, _, s4 D _ hd (w2.ne hD).symm, ?_, cs ++ [c], by simp [hl], ?_, ?_, w4.up (w2.ne hD), ?_⟩
        · rw [List.length_map, hl]
          have e : sizeLine = 16777216 := by decide
          omega
        · intro x hx
          rcases List.mem_append.mp hx with hx | hx
          · exact hL x hx
          · rw [List.mem_singleton.mp hx]; exact hcl
        · rw [upd_same, List.map_append]; rfl
        · intro b o e hb
          by_cases hbD : b = D
          · subst hbD
            have q1 := (s1.trans s2) b o e hb
            rw [hD] at q1; cases q1
          · rw [upd_ne hbD]; exact (sd.trans s4) b o e hb
      · rintro H3 ⟨cs, hl, hL, hd, wd, sd⟩
        refine ⟨_, D, cs.map fun c => (⟨#[c]⟩ : Str), rfl, rfl, Or.inl (SqL.of (by rw [hd, List.map_map]; rfl)), ?_, ?_⟩
        · rw [List.map_map, List.length_map, hl]
          have e1 : ∀ l : List Nat, (l.map (Function.comp (fun x : Str => x.length) fun c => (⟨#[c]⟩ : Str))).sum = l.length := by
            intro l
            induction l with
            | nil => rfl
            | cons c l ih => rw [List.map_cons, List.sum_cons, ih]; show 1 + l.length = _; rw [List.length_cons]; omega
          rw [e1, hl]
          show _ + _ * 0 ≤ _
          omega
        · rw [join_is]
          exact k _ H3 (isW_S hL (by omega) (by omega)) wd sd
end
end KP
namespace KP
open PySem L2
/-! ### the mathematics of names -/
theorem len_le_of_sub {α : Type} [DecidableEq α] : ∀ {l m : List α}, l.Nodup → (∀ x ∈ l, x ∈ m) → l.length ≤ m.length
  | [], _, _, _ => Nat.zero_le _
  | a :: l, m, hn, hs => by
    have ha : a ∈ m := hs a List.mem_cons_self
    have hn' := List.nodup_cons.mp hn
    have ih := len_le_of_sub (l := l) (m := m.erase a) hn'.2 (fun x hx => (List.mem_erase_of_ne (fun (e : x = a) => hn'.1 (e ▸ hx))).mpr (hs x (List.mem_cons_of_mem _ hx)))
    have e := List.length_erase_of_mem ha
    have p := List.length_pos_of_mem ha
    rw [List.length_cons]
    omega
def stem (y : Str) : Str := cutS y none (some 7)
def cands (y : Str) : List Str := y :: letters.cps.toList.map fun c => stem y ++ (⟨#[c]⟩ : Str)
theorem stem_S (y : Str) : stem y = SX.S (y.cps.toList.take 7) := by
  unfold stem
  rw [C8.cutS_slice]
  have h := SX.slice_to (a := y.cps.toList) (i := 7) (by decide)
  rw [SX.S_tl] at h
  exact h
theorem cand_S (y : Str) (c : Nat) : stem y ++ (⟨#[c]⟩ : Str) = SX.S (y.cps.toList.take 7 ++ [c]) := by
  rw [stem_S]
  exact SX.S_cat _ [c]
theorem cands_ok {y : Str} (h : IsW y) : ∀ x ∈ cands y, IsW x := by
  intro x hx
  rcases List.mem_cons.mp hx with rfl | hx
  · exact h
  · obtain ⟨c, hc, rfl⟩ := List.mem_map.mp hx
    rw [cand_S]
    refine isW_S (fun d hd => ?_) (by simp) (by simp; omega)
    rcases List.mem_append.mp hd with hd | hd
    · exact h.1 d (List.mem_of_mem_take hd)
    · rw [List.mem_singleton.mp hd]; exact hc
theorem letters_nd : letters.cps.toList.Nodup := by decide +kernel
theorem letters_len : letters.cps.toList.length = 26 := by decide +kernel
theorem nodup_map {α β : Type} {f : α → β} (hf : ∀ a b, f a = f b → a = b) : ∀ {l : List α}, l.Nodup → (l.map f).Nodup
  | [], _ => List.nodup_nil
  | a :: l, h => by
    have h' := List.nodup_cons.mp h
    rw [List.map_cons, List.nodup_cons]
    refine ⟨fun hm => ?_, nodup_map hf h'.2⟩
    obtain ⟨b, hb, e⟩ := List.mem_map.mp hm
    exact h'.1 (hf b a e ▸ hb)
def fresh (y : Str) (xs : List Str) : List Str := (cands y).filter fun c => !decide (c ∈ xs)
theorem fresh_ne {y : Str} {xs : List Str} (h : xs.length ≤ 8) : ∃ z zs, fresh y xs = z :: zs ∧ z ∈ cands y ∧ ¬ z ∈ xs := by
  cases e : fresh y xs with
  | nil =>
    exfalso
    have nd : (letters.cps.toList.map fun c => stem y ++ (⟨#[c]⟩ : Str)).Nodup := nodup_map (fun a b q => by
      rw [cand_S, cand_S] at q
      have := List.append_cancel_left (SX.S_inj q)
      simpa using this) letters_nd
    have hle := len_le_of_sub (m := xs) nd (fun x hx => by
      by_cases hm : x ∈ xs
      · exact hm
      · have : x ∈ fresh y xs := List.mem_filter.mpr ⟨List.mem_cons_of_mem _ hx, by simp [hm]⟩
        rw [e] at this
        cases this)
    rw [List.length_map, letters_len] at hle
    omega
  | cons z zs =>
    have hz : z ∈ fresh y xs := by rw [e]; exact List.mem_cons_self
    have h2 := List.mem_filter.mp hz
    exact ⟨z, zs, rfl, h2.1, by simpa using h2.2⟩
theorem strOk_W {x : Str} (h : IsW x) : PyData.strOk x = true := by
  have hb : letters.cps.toList.all (· < 0x110000) = true := by decide +kernel
  unfold PyData.strOk
  rw [← Array.all_toList, List.all_eq_true]
  intro c hc
  exact List.all_eq_true.mp hb c (h.1 c hc)
theorem canLay_strs : ∀ {xs : List Str}, (∀ x ∈ xs, PyData.strOk x = true) → PyData.canLayAll0 (xs.map PyData.str) = true
  | [], _ => rfl
  | x :: xs, h => by
    show (PyData.strOk x && PyData.canLayAll0 (xs.map PyData.str)) = true
    rw [h x List.mem_cons_self, canLay_strs fun y hy => h y (List.mem_cons_of_mem _ hy)]
    rfl
theorem depth_strs : ∀ {xs : List Str}, PyData.depthAll (xs.map PyData.str) = 0
  | [] => rfl
  | x :: xs => by
    show max 0 (PyData.depthAll (xs.map PyData.str)) = 0
    rw [depth_strs]
    rfl
theorem shaped_strs {xs : List Str} (h : ∀ x ∈ xs, PyData.strOk x = true) : SeqAt.shaped (.list (xs.map PyData.str)) = true := by
  have h1 : (PyData.list (xs.map PyData.str)).canLay0 = true := canLay_strs h
  have h2 : (PyData.list (xs.map PyData.str)).depth ≤ 64 := by
    show PyData.depthAll (xs.map PyData.str) + 1 ≤ 64
    rw [depth_strs]; decide
  unfold SeqAt.shaped
  rw [h1, decide_eq_true h2]
  rfl
theorem dp_strs {K : PySem.W.Frag} {H : Hp} : ∀ (xs : List Str), DpAll K H (xs.map V.str) (xs.map PyData.str)
  | [] => .nil
  | x :: xs => .cons (.str x) (dp_strs xs)
theorem inV_str {x : Str} : ∀ {xs : List Str}, inV (.str x) (xs.map V.str) = decide (x ∈ xs)
  | [] => by simp [inV]
  | y :: xs => by
    have ih := inV_str (x := x) (xs := xs)
    unfold inV at ih ⊢
    rw [List.map_cons, List.any_cons, ih]
    show ((y == x) || decide (x ∈ xs)) = decide (x ∈ y :: xs)
    by_cases h : y = x
    · subst h; simp
    · have h' : (y == x) = false := beq_eq_false_iff_ne.mpr h
      have h'' : ¬ x = y := fun e => h e.symm
      rw [h']; simp [h'']
theorem flat_strs {xs : List Str} : (xs.map V.str).all flatV = true := by
  rw [List.all_eq_true]
  intro v hv
  obtain ⟨x, _, rfl⟩ := List.mem_map.mp hv
  rfl
theorem take_more {α : Type} : ∀ {l : List α} {i : Nat} {x : α}, l[i]? = some x → l.take (i + 1) = l.take i ++ [x]
  | [], i, x, h => by simp at h
  | a :: l, 0, x, h => by
    have e : a = x := Option.some.inj h
    subst e
    rfl
  | a :: l, i + 1, x, h => by
    have ih := take_more (l := l) (i := i) (x := x) h
    show a :: l.take (i + 1) = a :: l.take i ++ [x]
    rw [ih]
    rfl
abbrev sNames : Stmt := top 30
def spNames : Sp := fun vs H Q _ => ∃ (a : Addr) (m : Nat), vs = [.ref a, .int (m : Int)] ∧ WellAt H a ∧ m ≤ 8 ∧ ∀ (p : Addr) (xs : List Str) (H' : Hp), xs.length = m → (∀ x ∈ xs, IsW x) → xs.Nodup → H p = none → H' p = some (.lst (xs.map V.str)) → WellAt H' a → SameB a H H' → Q (.ref p) H'
section
variable {P : Program} {w : World} {K : PySem.W.Frag} {mg : Str → Option Value} {base : Heap}
abbrev nNames : List Str := ["_law_well_here", "_law_many", "_law_found", "_law_k", "_law_name_here", "_law_some", "_law_sign", "_law_one"]
theorem scNames : FnScope nNames ["_law_well_here", "_law_many"] (defScope sNames) := ⟨rfl, rfl, rfl, by decide +kernel, rfl, by decide +kernel, by decide +kernel⟩
theorem c_names (B : Base K mg) (Dr : Cal P w K mg base 1 "_law_draw" spDraw) (Nm : Cal P w K mg base 2 "_law_name" spName) (D : DefT K mg "_law_names" sNames ["_law_well_here", "_law_many"]) : Cal P w K mg base 3 "_law_names" spNames := by
  refine cal D scNames (fun vs H Q E h => ?_) (fun f cdv A outer s H vs Q E hr h => ?_)
  · obtain ⟨a, m, rfl, _⟩ := h
    rfl
  · obtain ⟨a, m, rfl, ha, m8, k⟩ := h
    refine ⟨_, pss_cons (ps_set (i := 2) scNames.nd rfl (by first | exact Or.inl rfl | exact Or.inr rfl) (pe_lst pa_nil))
      (pss_cons (ps_for PassesOwn.never rfl (pi_range1 (by rfl) B.range (pa_cons (pv 1) pa_nil)) (pg_name (i := 3) scNames.nd rfl (Or.inl rfl))
        (pss_cons (ps_set (i := 4) scNames.nd rfl (by first | exact Or.inl rfl | exact Or.inr rfl) (pe_cl Nm hr (by decide) (by rfl) (pa_cons (pv 0) pa_nil)))
        (C8.pss_cut (ps_if (PW.pt (pw_and (pt_cmpR (op_neD hr.units) (pv 2) (pe_lst pa_nil) (nomark _)) (pw_and1 (pt_cmpR op_eq (pe_cl Dr hr (by decide) (by rfl) (pa_cons (pv 0) (pa_cons pe_int pa_nil))) pe_int (nomark _)))))
          (pss_one (ps_set (i := 4) scNames.nd rfl (by first | exact Or.inl rfl | exact Or.inr rfl) (pe_ix ix_list (pv 2) (pe_cl Dr hr (by decide) (by rfl) (pa_cons (pv 0) (pa_cons (pe_callB call_len_seq (by rfl) B.len PySem.boot_len (pa_cons (pv 2) pa_nil)) pa_nil))) (fun _ _ => rfl)))) pss_nil)
        (pss_cons (ps_set (i := 5) scNames.nd rfl (by first | exact Or.inl rfl | exact Or.inr rfl) (pe_op op_cat (pe_lst (pa_cons (pv 4) pa_nil))
          (pe_lc (own := [("_law_sign", 6)]) (g := gName 6) (tt := tYes) rfl scNames.nd (pi_str pe_str) (blkOk_by (N := nNames) (sc := defScope sNames) (by decide +kernel)) (fun _ _ _ _ _ => pg_name (i := 6) scNames.nd rfl (Or.inl rfl)) (fun _ _ _ _ _ => pts_nil)
            (fun _ _ _ _ _ => pe_op op_add_str (pe_slice sl_str (pv 4) po_none (po_some pe_int)) (pv 6)))))
        (pss_one (ps_expr (pe_bm PySem.F.plainAttrs_list PySem.F.slot_list_append PySem.F.type_list_append mt_append (pv 2) (pa_cons (pe_ix ix_list
          (pe_lc (own := [("_law_one", 7)]) (g := gName 7) (tt := tTest (tOp (rIn K true) (tVar 7) (tVar 2))) rfl scNames.nd (pi_list (pv 5)) (blkOk_by (N := nNames) (sc := defScope sNames) (by decide +kernel)) (fun _ _ _ _ _ => pg_name (i := 7) scNames.nd rfl (Or.inl rfl))
            (fun _ _ _ _ _ => pts_one (pt_cmpR op_notIn_seq (pv 7) (pv 2) rfl)) (fun _ _ _ _ _ => pv 7)) pe_int (fun _ _ => rfl)) pa_nil))))))))
      (pss_one (ps_ret (pv 2)))), ?_⟩
    refine ⟨(by show 0 ≤ sizeLine; decide), fun F hF => ?_⟩
    have aF : a ≠ F := ha.ne hF
    refine ⟨_, rfl, _, rfl, by omega, by omega, for_range (lo := 0) (n := (m : Int).toNat) (fun i σ H' => ∃ (xs : List Str) (v3 v4 v5 : Option V), σ = [some (.ref a), some (.int (m : Int)), some (.ref F), v3, v4, v5, none, none] ∧ xs.length = i ∧ (∀ x ∈ xs, IsW x) ∧ xs.Nodup ∧ H' F = some (.lst (xs.map V.str)) ∧ WellAt H' a ∧ SameB a H H')
      ⟨[], none, none, none, rfl, rfl, (fun _ h => nomatch h), List.nodup_nil, upd_same, ha.new hF, SameB.of (same_new hF)⟩ ?_ ?_⟩
    · rintro i σ H1 hi ⟨xs, v3, v4, v5, rfl, hl, hw, hnd, hx, w1, s1⟩
      have hl8 : xs.length ≤ 8 := by omega
      have hz : sizeLine = 16777216 := by decide
      refine ⟨_, rfl, a, rfl, w1, fun y H2 hy w2 s2 => ?_⟩
      have hx2 : H2 F = some (.lst (xs.map V.str)) := s2 F _ hx aF.symm
      refine ⟨fun σ' H' => ∃ (y : Str) (v3 v5 : Option V), σ' = [some (.ref a), some (.int (m : Int)), some (.ref F), v3, some (.str y), v5, none, none] ∧ IsW y ∧ H' F = some (.lst (xs.map V.str)) ∧ WellAt H' a ∧ SameB a H H', ?_, ?_⟩
      · refine ⟨_, rfl, (by show 0 ≤ sizeLine; decide), fun t ht => ?_⟩
        have Ft : F ≠ t := ne_of_none hx2 ht
        refine ⟨.list (xs.map PyData.str), .list [], .lst (SqL.of (by rw [upd_ne Ft]; exact hx2)) (dp_strs xs), .lst (SqL.of upd_same) .nil, shaped_strs (fun x h => strOk_W (hw x h)), by decide +kernel, _, rfl, ?_⟩
        have s3 : SameB a H (upd H2 t (.lst [])) := (s1.trans s2).trans (SameB.of (same_new ht))
        have w3 : WellAt (upd H2 t (.lst [])) a := w2.new ht
        have hx3 : (upd H2 t (.lst [])) F = some (.lst (xs.map V.str)) := by rw [upd_ne Ft]; exact hx2
        refine ite2 (fun c => ?_) (fun _ => ?_)
        · refine ⟨_, rfl, a, 3, rfl, w3, by decide, by decide, fun r H4 r0 r3 w4 s4 => ⟨rfl, _, rfl, ite2 (fun _ => ?_) (fun _ => ?_)⟩⟩
          · have hx4 : H4 F = some (.lst (xs.map V.str)) := s4 F _ hx3 aF.symm
            have hp : 0 < xs.length := by
              rcases Nat.eq_zero_or_pos xs.length with e | e
              · have e2 := List.length_eq_zero_iff.mp e
                subst e2
                exact absurd c (by decide +kernel)
              · exact e
            refine ⟨_, rfl, _, rfl, _, rfl, F, _, rfl, .inl (SqL.of hx4), a, _, rfl, w4, (by rw [List.length_map]; omega), (by rw [List.length_map]; omega), fun r2 H5 r20 r21 w5 s5 => ?_⟩
            obtain ⟨v, hv, hm⟩ := get_lt (l := xs.map V.str) r20 r21
            obtain ⟨z, hzm, rfl⟩ := List.mem_map.mp hm
            exact ⟨F, _, r2, .str z, rfl, rfl, SqL.of (s5 F _ hx4 aF.symm), hv, z, _, _, rfl, hw z hzm, s5 F _ hx4 aF.symm, w5, (s3.trans s4).trans s5⟩
          · exact ⟨y, _, _, rfl, hy, s4 F _ hx3 aF.symm, w4, s3.trans s4⟩
        · exact iteF ⟨y, _, _, rfl, hy, hx3, w3, s3⟩
      · rintro σ H3 ⟨y, v3, v5, rfl, hy, hx3, w3, s3⟩
        refine ⟨_, rfl, (by show 1 ≤ sizeLine; decide), fun l hl2 => ?_⟩
        refine ⟨_, rfl, fun D hD => lc_it walk_str (fun i H' => H' = upd (upd H3 l (.lst [.str y])) D (.lst ((letters.cps.toList.take i).map fun c => V.str (stem y ++ (⟨#[c]⟩ : Str))))) rfl (fun _ _ _ _ => trivial) ?_ ?_⟩
        · rintro i v H4 H5 hi rfl ⟨rfl, c, hc, rfl⟩
          have hi26 : i < 26 := by
            have e : (Str.cps "abcdefghijklmnopqrstuvwxyz").size = 26 := by decide +kernel
            omega
          have hst : (stem y).length ≤ 8 := Nat.le_trans (cutS_length y none (some 7)) hy.2.2
          refine ⟨rfl, yes (iteT ⟨_, rfl, _, rfl, y, rfl, (by have := hy.2.2; omega), _, rfl, _, _, rfl, rfl, ?_, _, upd_same, ?_, ?_⟩)⟩
          · show (stem y).length + 1 ≤ sizeLine
            omega
          · rw [List.length_map, List.length_take]
            omega
          · rw [upd_upd]
            congr 2
            rw [take_more (l := letters.cps.toList) (x := c) (by rw [← hc]; exact Array.getElem?_toList ..), List.map_append]
            rfl
        · rintro H4 rfl
          have lD : l ≠ D := ne_of_none upd_same hD
          have e26 : (letters.cps.toList.take (Str.cps "abcdefghijklmnopqrstuvwxyz").size) = letters.cps.toList := List.take_of_length_le (by rw [letters_len]; decide +kernel)
          rw [e26]
          refine ⟨l, D, _, _, rfl, rfl, (by rw [upd_ne lD]; exact upd_same), upd_same, (by rw [List.length_map, letters_len]; show 1 + 26 ≤ sizeLine; decide), fun p hp => ?_⟩
          have hxl : (upd H3 l (.lst [.str y])) F = some (.lst (xs.map V.str)) := same_new hl2 _ _ hx3
          have hxD := same_new (o := .lst (letters.cps.toList.map fun c => V.str (stem y ++ (⟨#[c]⟩ : Str)))) hD _ _ hxl
          have hxp := same_new (o := .lst ([V.str y] ++ letters.cps.toList.map fun c => V.str (stem y ++ (⟨#[c]⟩ : Str)))) hp _ _ hxD
          have w4 := ((w3.new (o := .lst [.str y]) hl2).new (o := .lst (letters.cps.toList.map fun c => V.str (stem y ++ (⟨#[c]⟩ : Str)))) hD).new (o := .lst ([V.str y] ++ letters.cps.toList.map fun c => V.str (stem y ++ (⟨#[c]⟩ : Str)))) hp
          have s4 : SameB a H _ := ((s3.trans (SameB.of (same_new (o := .lst [.str y]) hl2))).trans (SameB.of (same_new (o := .lst (letters.cps.toList.map fun c => V.str (stem y ++ (⟨#[c]⟩ : Str)))) hD))).trans (SameB.of (same_new (o := .lst ([V.str y] ++ letters.cps.toList.map fun c => V.str (stem y ++ (⟨#[c]⟩ : Str)))) hp))
          have ec : [V.str y] ++ letters.cps.toList.map (fun c => V.str (stem y ++ (⟨#[c]⟩ : Str))) = (cands y).map V.str := by
            unfold cands
            rw [List.map_cons, List.map_map]
            rfl
          generalize hH4 : upd (upd (upd H3 l (.lst [.str y])) D (.lst (letters.cps.toList.map fun c => V.str (stem y ++ (⟨#[c]⟩ : Str))))) p (.lst ([V.str y] ++ letters.cps.toList.map fun c => V.str (stem y ++ (⟨#[c]⟩ : Str)))) = H4 at *
          have hp4 : H4 p = some (.lst ((cands y).map V.str)) := by rw [← hH4, upd_same, ec]
          refine ⟨_, rfl, .inl ⟨rfl, _, SqL.of hxp⟩, _, rfl, p, rfl, ⟨_, SqL.of hp4⟩, fun D2 hD2 => lc_it (walk_list (xs := (cands y).map V.str))
            (fun i H' => H' = upd H4 D2 (.lst ((((cands y).take i).filter fun c => !decide (c ∈ xs)).map V.str))) rfl (fun i H' _ e => by rw [e]; exact SqL.of (same_new hD2 _ _ hp4)) ?_ ?_⟩
          · rintro i v H5 H6 hi rfl ⟨rfl, hv⟩
            obtain ⟨z, hz2, rfl⟩ : ∃ z, (cands y)[i]? = some z ∧ v = V.str z := by
              rw [List.getElem?_map] at hv
              cases e : (cands y)[i]? with
              | none => rw [e] at hv; cases hv
              | some z => rw [e] at hv; exact ⟨z, rfl, (Option.some.inj hv).symm⟩
            refine ⟨rfl, _, rfl, _, rfl, F, _, rfl, .inl (SqL.of (same_new hD2 _ _ hxp)), rfl, flat_strs, _, rfl, ?_⟩
            show if (!inV (.str z) (xs.map V.str)) = true then _ else _
            rw [inV_str]
            have et := take_more hz2
            refine ite2 (fun c => ?_) (fun c => ?_)
            · refine ⟨_, rfl, _, upd_same, ?_, ?_⟩
              · have h1 : (((cands y).take i).filter fun c => !decide (c ∈ xs)).length ≤ ((cands y).take i).length := List.length_filter_le _ _
                rw [List.length_map]
                rw [List.length_take] at h1
                have h2 : (cands y).length = 27 := by unfold cands; rw [List.length_cons, List.length_map, letters_len]
                omega
              · rw [upd_upd, et, List.filter_append, List.map_append]
                congr 2
                rw [List.filter_cons, if_pos c]
                rfl
            · rw [et, List.filter_append, List.filter_cons, if_neg c]
              simp
          · rintro H5 rfl
            rw [List.length_map, List.take_length]
            obtain ⟨z, zs, ef, hzc, hzn⟩ := fresh_ne (y := y) hl8
            have ef2 : (cands y).filter (fun c => !decide (c ∈ xs)) = z :: zs := ef
            rw [ef2]
            refine ⟨D2, _, 0, .str z, rfl, rfl, SqL.of upd_same, atI_nat (j := 0) rfl, F, _, _, rfl, rfl, same_new hD2 _ _ hxp, (by rw [List.length_map]; omega), ?_⟩
            refine ⟨xs ++ [z], _, _, _, rfl, by rw [List.length_append, hl]; rfl, ?_, ?_, ?_, ?_, ?_⟩
            · intro x hx
              rcases List.mem_append.mp hx with hx | hx
              · exact hw x hx
              · rw [List.mem_singleton.mp hx]; exact cands_ok hy z hzc
            · refine List.nodup_append.mpr ⟨hnd, by simp, fun x hx u hu => ?_⟩
              rw [List.mem_singleton.mp hu]
              intro e
              exact hzn (e ▸ hx)
            · rw [upd_same, List.map_append]; rfl
            · exact (w4.new hD2).up aF
            · intro b o e hb
              have hbF : b ≠ F := ne_of_none e hF
              rw [upd_ne hbF]
              exact same_new hD2 _ _ (s4 b o e hb)
    · rintro σ H1 ⟨xs, v3, v4, v5, rfl, hl, hw, hnd, hx, w1, s1⟩
      exact ⟨_, rfl, k F xs H1 (by rw [hl]; rfl) hw hnd hF hx w1 s1⟩
end
end KP
/-! years: the mathematics -/
namespace KP
open PySem L2
abbrev Hd := Str × Str
abbrev Rw4 := Str × Int × Int × Int
def nms (hs : List Hd) : List Str := hs.map (·.1)
def up (hs : List Hd) (x : Str) : Str := ((hs.find? fun r => decide (r.1 = x)).map (·.2)).getD ""
structure VH (hs : List Hd) : Prop where
  nd : (nms hs).Nodup
  w : ∀ x ∈ nms hs, IsW x
  up : ∀ (i : Nat) (r : Hd), hs[i]? = some r → r.2 = "" ∨ ∃ j, j < i ∧ (nms hs)[j]? = some r.2
  l1 : 1 ≤ hs.length
  l8 : hs.length ≤ 8
theorem isW_ne {x : Str} (h : IsW x) : x ≠ "" := fun e => by
  have h1 := h.2.1
  rw [e] at h1
  exact absurd h1 (by decide)
theorem nms_get {hs : List Hd} {i : Nat} {r : Hd} (h : hs[i]? = some r) : (nms hs)[i]? = some r.1 := by
  unfold nms
  rw [List.getElem?_map, h]
  rfl
theorem get_nms {hs : List Hd} {i : Nat} {x : Str} (h : (nms hs)[i]? = some x) : ∃ u, hs[i]? = some (x, u) := by
  unfold nms at h
  rw [List.getElem?_map] at h
  cases e : hs[i]? with
  | none => rw [e] at h; cases h
  | some r =>
    rw [e] at h
    have : r.1 = x := Option.some.inj h
    exact ⟨r.2, by rw [← this]⟩
theorem mem_nms {hs : List Hd} {x : Str} (h : x ∈ nms hs) : ∃ (i : Nat) (u : Str), hs[i]? = some (x, u) := by
  obtain ⟨i, hi⟩ := List.mem_iff_getElem?.mp h
  obtain ⟨u, hu⟩ := get_nms hi
  exact ⟨i, u, hu⟩
theorem up_at : ∀ {hs : List Hd} {i : Nat} {r : Hd}, (nms hs).Nodup → hs[i]? = some r → up hs r.1 = r.2
  | [], i, r, _, h => by simp at h
  | a :: hs, 0, r, _, h => by
    have e : a = r := Option.some.inj h
    subst e
    unfold up
    rw [List.find?_cons_of_pos (by simp)]
    rfl
  | a :: hs, i + 1, r, hn, h => by
    have hn' := List.nodup_cons.mp (show (a.1 :: nms hs).Nodup from hn)
    have h' : hs[i]? = some r := h
    have ne : ¬ a.1 = r.1 := fun e => hn'.1 (by rw [e]; exact List.mem_iff_getElem?.mpr ⟨i, nms_get h'⟩)
    have ih := up_at hn'.2 h'
    unfold up at ih ⊢
    rw [List.find?_cons_of_neg (by simpa using ne)]
    exact ih
def rk (hs : List Hd) (x : Str) : Nat := if x = "" then 0 else (nms hs).idxOf x + 1
theorem idx_of {l : List Str} (hn : l.Nodup) {i : Nat} {x : Str} (h : l[i]? = some x) : l.idxOf x = i := by
  have hm : x ∈ l := List.mem_of_getElem? h
  have hlt : l.idxOf x < l.length := List.idxOf_lt_length_of_mem hm
  have e : l[l.idxOf x]? = some x := by
    rw [List.getElem?_eq_getElem hlt]
    simp
  exact nd_ix hn e h
theorem rk_at {hs : List Hd} (V : VH hs) {i : Nat} {x : Str} (h : (nms hs)[i]? = some x) : rk hs x = i + 1 := by
  unfold rk
  rw [if_neg (isW_ne (V.w x (List.mem_of_getElem? h))), idx_of V.nd h]
theorem rk_nil {hs : List Hd} : rk hs "" = 0 := by unfold rk; rw [if_pos rfl]
theorem up_ok {hs : List Hd} (V : VH hs) {x : Str} (h : x ∈ nms hs) : rk hs (up hs x) < rk hs x ∧ (up hs x = "" ∨ up hs x ∈ nms hs) := by
  obtain ⟨i, u, hi⟩ := mem_nms h
  have e1 := up_at V.nd hi
  dsimp only at e1
  rw [e1, rk_at V (nms_get hi)]
  rcases V.up i _ hi with e | ⟨j, hj, hu⟩
  · dsimp only at e
    subst e
    exact ⟨by rw [rk_nil]; omega, .inl rfl⟩
  · dsimp only at hu
    exact ⟨by rw [rk_at V hu]; omega, .inr (List.mem_of_getElem? hu)⟩
def chain (hs : List Hd) : Nat → Str → List Str
  | 0, _ => []
  | n + 1, x => if x = "" then [] else x :: chain hs n (up hs x)
theorem chain_nil {hs : List Hd} : ∀ n, chain hs n "" = []
  | 0 => rfl
  | n + 1 => by unfold chain; rw [if_pos rfl]
theorem chain_cons {hs : List Hd} {n : Nat} {x : Str} (h : x ≠ "") : chain hs (n + 1) x = x :: chain hs n (up hs x) := by
  show (if x = "" then [] else x :: chain hs n (up hs x)) = _
  rw [if_neg h]
theorem rk_pos {hs : List Hd} (V : VH hs) {x : Str} (h : x ∈ nms hs) : 1 ≤ rk hs x := by
  unfold rk
  rw [if_neg (isW_ne (V.w x h))]
  omega
theorem chain_eq {hs : List Hd} (V : VH hs) : ∀ {n m : Nat} {x : Str}, (x = "" ∨ x ∈ nms hs) → rk hs x ≤ n → rk hs x ≤ m → chain hs n x = chain hs m x
  | 0, m, x, hx, hn, hm => by
    rcases hx with rfl | hx
    · rw [chain_nil, chain_nil]
    · have := rk_pos V hx
      omega
  | n + 1, m, x, hx, hn, hm => by
    rcases hx with rfl | hx
    · rw [chain_nil, chain_nil]
    · have hp := rk_pos V hx
      obtain ⟨m', rfl⟩ : ∃ m', m = m' + 1 := ⟨m - 1, by omega⟩
      have hne := isW_ne (V.w x hx)
      have hu := up_ok V hx
      rw [chain_cons hne, chain_cons hne, chain_eq V (m := m') hu.2 (by omega) (by omega)]
def kn (hs : List Hd) (x : Str) : List Str := chain hs hs.length x
theorem rk_le {hs : List Hd} (V : VH hs) {x : Str} (h : x ∈ nms hs) : rk hs x ≤ hs.length := by
  obtain ⟨i, hi⟩ := List.mem_iff_getElem?.mp h
  rw [rk_at V hi]
  have := (List.getElem?_eq_some_iff.mp hi).1
  unfold nms at this
  rw [List.length_map] at this
  omega
theorem kn_nil {hs : List Hd} : kn hs "" = [] := chain_nil _
theorem kn_step {hs : List Hd} (V : VH hs) {x : Str} (h : x ∈ nms hs) : kn hs x = x :: kn hs (up hs x) := by
  have h1 := rk_le V h
  have h2 := rk_pos V h
  have hu := up_ok V h
  obtain ⟨m, hm⟩ : ∃ m, hs.length = m + 1 := ⟨hs.length - 1, by omega⟩
  unfold kn
  rw [hm, chain_cons (isW_ne (V.w x h))]
  congr 1
  exact chain_eq V hu.2 (by omega) (by omega)
theorem chain_mem {hs : List Hd} (V : VH hs) : ∀ {n : Nat} {x z : Str}, (x = "" ∨ x ∈ nms hs) → z ∈ chain hs n x → z ∈ nms hs
  | 0, x, z, _, h => by cases h
  | n + 1, x, z, hx, h => by
    rcases hx with rfl | hx
    · rw [chain_nil] at h; cases h
    · rw [chain_cons (isW_ne (V.w x hx))] at h
      rcases List.mem_cons.mp h with rfl | h
      · exact hx
      · exact chain_mem V (up_ok V hx).2 h
theorem chain_len {hs : List Hd} : ∀ (n : Nat) (x : Str), (chain hs n x).length ≤ n
  | 0, x => by simp [chain]
  | n + 1, x => by
    by_cases h : x = ""
    · subst h; rw [chain_nil]; simp
    · rw [chain_cons h, List.length_cons]; have := chain_len (hs := hs) n (up hs x); omega
theorem kn_mem {hs : List Hd} (V : VH hs) {x z : Str} (h : x ∈ nms hs) (hz : z ∈ kn hs x) : z ∈ nms hs := chain_mem V (.inr h) hz
theorem kn_len {hs : List Hd} (V : VH hs) (x : Str) : (kn hs x).length ≤ 8 := Nat.le_trans (chain_len _ _) V.l8
def und (hs : List Hd) (x : Str) : List Str := (nms hs).filter fun h => decide (x ∈ kn hs h)
/-! limits and rules -/
def LimOk (days : Int) (ns : List Str) (r : Rw4) : Prop := r.1 ∈ ns ∧ (1 ≤ r.2.1 ∧ r.2.1 ≤ days) ∧ (r.2.1 ≤ r.2.2.1 ∧ r.2.2.1 ≤ days) ∧ (0 ≤ r.2.2.2 ∧ r.2.2.2 ≤ 1000000000000000)
def RulOk (days : Int) (ns : List Str) (r : Rw4) : Prop := r.1 ∈ ns ∧ (1 ≤ r.2.2.1 ∧ r.2.2.1 ≤ 1000) ∧ (0 ≤ r.2.1 ∧ r.2.1 ≤ r.2.2.1) ∧ (2 ≤ r.2.2.2 ∧ r.2.2.2 ≤ days + 1)
def frS (x : Str) (p : Int × Int) (r : Rw4) : Int × Int := if r.1 = x then (p.1 * r.2.2.1 + r.2.1 * p.2, p.2 * r.2.2.1) else p
def fr (rs : List Rw4) (x : Str) : Int × Int := rs.foldl (frS x) (0, 1)
theorem fr_snoc (rs : List Rw4) (x : Str) (r : Rw4) : fr (rs ++ [r]) x = frS x (fr rs x) r := by unfold fr; rw [List.foldl_append]; rfl
structure Yr where
  days : Int
  hs : List Hd
  ls : List Rw4
  rs : List Rw4
structure Yr.ok (y : Yr) : Prop where
  d : 1 ≤ y.days ∧ y.days ≤ 30
  h : VH y.hs
  l : ∀ r ∈ y.ls, LimOk y.days (nms y.hs) r
  l6 : y.ls.length ≤ 6
  r : ∀ r ∈ y.rs, RulOk y.days (nms y.hs) r
  r4 : y.rs.length ≤ 4
  one : ∀ x, (fr y.rs x).1 ≤ (fr y.rs x).2
/-! rows in the heap -/
def hv (r : Hd) : List V := [.str r.1, .str r.2]
def rv (r : Rw4) : List V := [.str r.1, .int r.2.1, .int r.2.2.1, .int r.2.2.2]
/-- a list of tuples -/
def RowsAt (H : Hp) (l : Addr) (ts : List Addr) (rows : List (List V)) : Prop := H l = some (.lst (ts.map V.ref)) ∧ Paired (fun t r => H t = some (.tup r)) ts rows
theorem paired_mono {H H' : Hp} (h : ∀ b r, H b = some (.tup r) → H' b = some (.tup r)) : ∀ {ts : List Addr} {rows : List (List V)}, Paired (fun t r => H t = some (.tup r)) ts rows → Paired (fun t r => H' t = some (.tup r)) ts rows
  | _, _, .nil => .nil
  | _, _, .cons a p => .cons (h _ _ a) (paired_mono h p)
theorem paired_get {H : Hp} : ∀ {ts : List Addr} {rows : List (List V)} {i : Nat} {t : Addr}, Paired (fun t r => H t = some (.tup r)) ts rows → ts[i]? = some t → ∃ r, rows[i]? = some r ∧ H t = some (.tup r)
  | _, _, _, _, .nil, h => by simp at h
  | _, _, 0, t, .cons a p, h => by
    have e := Option.some.inj h
    subst e
    exact ⟨_, rfl, a⟩
  | _, _, i + 1, t, .cons a p, h => paired_get (i := i) (t := t) p (by simpa using h)
theorem paired_snoc {H : Hp} {t : Addr} {r : List V} (h : H t = some (.tup r)) : ∀ {ts : List Addr} {rows : List (List V)}, Paired (fun t r => H t = some (.tup r)) ts rows → Paired (fun t r => H t = some (.tup r)) (ts ++ [t]) (rows ++ [r])
  | _, _, .nil => .cons h .nil
  | _, _, .cons a p => .cons a (paired_snoc h p)
end KP
namespace KP
open PySem L2
theorem ifT {c A B : Prop} [Decidable c] (h : c) (ha : A) : if c then A else B := by
  rw [if_pos h]
  exact ha
theorem ifF {c A B : Prop} [Decidable c] (h : ¬ c) (hb : B) : if c then A else B := by
  rw [if_neg h]
  exact hb
abbrev sList : Stmt := top 9
abbrev sRow : Stmt := top 10
abbrev sHeadsP : Stmt := top 18
abbrev sLimit : Stmt := top 19
abbrev sRule : Stmt := top 20
abbrev sOne : Stmt := top 21
abbrev sLimitsP : Stmt := top 22
abbrev sRulesP : Stmt := top 23
def spList : Sp := fun vs H Q _ => ∃ (l : Addr) (xs : List V) (a b : Int), vs = [.ref l, .int a, .int b] ∧ H l = some (.lst xs) ∧ Q (.bl (decide (a ≤ (xs.length : Int) ∧ (xs.length : Int) ≤ b))) H
def spRow : Sp := fun vs H Q _ => ∃ (t : Addr) (xs : List V) (m : Int), vs = [.ref t, .int m] ∧ H t = some (.tup xs) ∧ Q (.bl (decide ((xs.length : Int) = m))) H
def spHeadsP : Sp := fun vs H Q _ => ∃ (l : Addr) (ts : List Addr) (hs : List Hd), vs = [.ref l] ∧ RowsAt H l ts (hs.map hv) ∧ VH hs ∧ ∀ H', Same H H' → Q (.bl true) H'
def spLimit : Sp := fun vs H Q _ => ∃ (t n : Addr) (d : Int) (ns : List Str) (r : Rw4), vs = [.ref t, .int d, .ref n] ∧ H t = some (.tup (rv r)) ∧ H n = some (.lst (ns.map V.str)) ∧ LimOk d ns r ∧ Q (.bl true) H
def spRule : Sp := fun vs H Q _ => ∃ (t n : Addr) (d : Int) (ns : List Str) (r : Rw4), vs = [.ref t, .int d, .ref n] ∧ H t = some (.tup (rv r)) ∧ H n = some (.lst (ns.map V.str)) ∧ RulOk d ns r ∧ Q (.bl true) H
def spOne : Sp := fun vs H Q _ => ∃ (l : Addr) (ts : List Addr) (x : Str) (rs : List Rw4), vs = [.ref l, .str x] ∧ RowsAt H l ts (rs.map rv) ∧ (∀ r ∈ rs, (0 ≤ r.2.1 ∧ r.2.1 ≤ 1000) ∧ 1 ≤ r.2.2.1 ∧ r.2.2.1 ≤ 1000) ∧ (fr rs x).1 ≤ (fr rs x).2 ∧ Q (.bl true) H
def spLimitsP : Sp := fun vs H Q _ => ∃ (l n : Addr) (ts : List Addr) (d : Int) (ns : List Str) (rs : List Rw4), vs = [.ref l, .int d, .ref n] ∧ RowsAt H l ts (rs.map rv) ∧ H n = some (.lst (ns.map V.str)) ∧ (∀ r ∈ rs, LimOk d ns r) ∧ rs.length ≤ 6 ∧ ∀ H', Same H H' → Q (.bl true) H'
def spRulesP : Sp := fun vs H Q _ => ∃ (l n : Addr) (ts : List Addr) (d : Int) (ns : List Str) (rs : List Rw4), vs = [.ref l, .int d, .ref n] ∧ RowsAt H l ts (rs.map rv) ∧ H n = some (.lst (ns.map V.str)) ∧ (∀ r ∈ rs, RulOk d ns r) ∧ rs.length ≤ 4 ∧ ns.length ≤ 8 ∧ (∀ x, (fr rs x).1 ≤ (fr rs x).2) ∧ ∀ H', Same H H' → Q (.bl true) H'
theorem RowsAt.same {H H' : Hp} {l : Addr} {ts : List Addr} {rows : List (List V)} (h : RowsAt H l ts rows) (s : Same H H') : RowsAt H' l ts rows := ⟨s _ _ h.1, paired_mono (fun _ _ e => s _ _ e) h.2⟩
theorem RowsAt.len {H : Hp} {l : Addr} {ts : List Addr} {rows : List (List V)} (h : RowsAt H l ts rows) : ts.length = rows.length := Paired.length h.2
/-- the i-th item of a list of rows -/
theorem row_get {α : Type} {H : Hp} {l : Addr} {ts : List Addr} {rs : List α} {f : α → List V} {i : Nat} {y : V} (h : RowsAt H l ts (rs.map f)) (hy : (ts.map V.ref)[i]? = some y) : ∃ t r, y = .ref t ∧ rs[i]? = some r ∧ H t = some (.tup (f r)) ∧ ts[i]? = some t := by
  rw [List.getElem?_map] at hy
  cases e : ts[i]? with
  | none => rw [e] at hy; cases hy
  | some t =>
    rw [e] at hy
    obtain ⟨r', hr', ht⟩ := paired_get h.2 e
    rw [List.getElem?_map] at hr'
    cases e2 : rs[i]? with
    | none => rw [e2] at hr'; cases hr'
    | some r =>
      rw [e2] at hr'
      have := Option.some.inj hr'
      subst this
      exact ⟨t, r, (Option.some.inj hy).symm, rfl, ht, rfl⟩
section
variable {P : Program} {w : World} {K : PySem.W.Frag} {mg : Str → Option Value} {base : Heap}
theorem scList : FnScope ["value", "least", "most"] ["value", "least", "most"] (defScope sList) := ⟨rfl, rfl, rfl, by decide +kernel, rfl, by decide +kernel, by decide +kernel⟩
theorem c_list (B : Base K mg) (D : DefT K mg "is_list" sList ["value", "least", "most"]) : Cal P w K mg base 1 "is_list" spList := by
  refine cal D scList (fun vs H Q E h => ?_) (fun f cdv A outer s H vs Q E hr h => ?_)
  · obtain ⟨l, xs, a, b, rfl, _⟩ := h
    rfl
  · obtain ⟨l, xs, a, b, rfl, hl, k⟩ := h
    refine ⟨_, pss_one (ps_ret (pe_and (pe_callB call_isi (by rfl) B.isi (by decide +kernel) (pa_cons (pv 0) (pa_cons (pe_bltn (v := .ty "list") (by rfl) B.list (by decide +kernel) rfl) pa_nil)))
      (pe_one (pe_chain op_le op_le (pv 1) (pe_callB call_len_seq (by rfl) B.len PySem.boot_len (pa_cons (pv 0) pa_nil)) (pv 2))))), ?_⟩
    refine ⟨_, rfl, _, _, _, _, true, rfl, .ty _, .base (.lst hl), kit_ty (by decide +kernel), _, rfl, iteT ?_⟩
    refine ⟨_, rfl, _, rfl, l, _, rfl, .inl (SqL.of hl), _, _, rfl, rfl, _, rfl, ?_⟩
    by_cases h1 : a ≤ (xs.length : Int)
    · refine ifT (decide_eq_true h1) ⟨_, rfl, _, _, rfl, rfl, ?_⟩
      show Q (.bl (decide ((xs.length : Int) ≤ b))) H
      by_cases h2 : (xs.length : Int) ≤ b
      · rw [decide_eq_true h2]
        rw [decide_eq_true ⟨h1, h2⟩] at k
        exact k
      · rw [decide_eq_false h2]
        rw [decide_eq_false fun z => h2 z.2] at k
        exact k
    · refine ifF (by rw [decide_eq_false h1]; exact Bool.false_ne_true) ?_
      rw [decide_eq_false fun z => h1 z.1] at k
      exact k
theorem scRow : FnScope ["value", "many"] ["value", "many"] (defScope sRow) := ⟨rfl, rfl, rfl, by decide +kernel, rfl, by decide +kernel, by decide +kernel⟩
theorem c_row (B : Base K mg) (D : DefT K mg "is_row" sRow ["value", "many"]) : Cal P w K mg base 1 "is_row" spRow := by
  refine cal D scRow (fun vs H Q E h => ?_) (fun f cdv A outer s H vs Q E hr h => ?_)
  · obtain ⟨l, xs, m, rfl, _⟩ := h
    rfl
  · obtain ⟨l, xs, m, rfl, hl, k⟩ := h
    refine ⟨_, pss_one (ps_ret (pe_and (pe_callB call_isi (by rfl) B.isi (by decide +kernel) (pa_cons (pv 0) (pa_cons (pe_bltn (v := .ty "tuple") (by rfl) B.tuple (by decide +kernel) rfl) pa_nil)))
      (pe_one (pe_cmpR op_eq (pe_callB call_len_seq (by rfl) B.len PySem.boot_len (pa_cons (pv 0) pa_nil)) (pv 1) (nomark _))))), ?_⟩
    refine ⟨_, rfl, _, _, _, _, true, rfl, .ty _, .base (.tup hl), kit_ty (by decide +kernel), _, rfl, iteT ?_⟩
    refine ⟨_, rfl, l, _, rfl, .inr (SqT.of hl), _, rfl, rfl, ?_⟩
    have e : decide (V.int (xs.length : Int) = V.int m) = decide ((xs.length : Int) = m) := by
      by_cases h : (xs.length : Int) = m
      · rw [h]; simp
      · rw [decide_eq_false h, decide_eq_false fun z => h (by injection z)]
    show Q (.bl (decide (V.int (xs.length : Int) = V.int m))) H
    rw [e]
    exact k
abbrev nHeadsP : List Str := ["heads", "ahead", "row", "name", "upper"]
theorem scHeadsP : FnScope nHeadsP ["heads"] (defScope sHeadsP) := ⟨rfl, rfl, rfl, by decide +kernel, rfl, by decide +kernel, by decide +kernel⟩
theorem c_headsP (B : Base K mg) (Ls : Cal P w K mg base 1 "is_list" spList) (Ro : Cal P w K mg base 1 "is_row" spRow) (Wo : Cal P w K mg base 1 "is_word" spWord) (D : DefT K mg "are_heads" sHeadsP ["heads"]) : Cal P w K mg base 2 "are_heads" spHeadsP := by
  obtain ⟨tH, hH⟩ := B.mostH
  refine cal D scHeadsP (fun vs H Q E h => ?_) (fun f cdv A outer s H vs Q E hr h => ?_)
  · obtain ⟨l, ts, hs, rfl, _⟩ := h
    rfl
  · obtain ⟨l, ts, hs, rfl, R, Vh, k⟩ := h
    have hz : sizeLine = 16777216 := by decide
    have tl : ts.length = hs.length := by rw [R.len, List.length_map]
    have h1 := Vh.l1
    have h8 := Vh.l8
    refine ⟨_, pss_cons (ps_if (pt_not (pt_val (pe_cl Ls hr (by decide) (by rfl) (pa_cons (pv 0) (pa_cons pe_int (pa_cons (pe_glob (v := .int 8) rfl hH ⟨_, rfl⟩) pa_nil)))))) (pss_one (ps_ret pe_bl)) pss_nil)
      (pss_cons (ps_set (i := 1) scHeadsP.nd rfl (Or.inl rfl) (pe_lst pa_nil))
      (pss_cons (ps_for PassesOwn.never rfl (pi_list (pv 0)) (pg_name (i := 2) scHeadsP.nd rfl (Or.inl rfl))
        (pss_cons (ps_if (pt_not (pt_val (pe_cl Ro hr (by decide) (by rfl) (pa_cons (pv 2) (pa_cons pe_int pa_nil))))) (pss_one (ps_ret pe_bl)) pss_nil)
        (pss_cons (ps_asg (pv 2) (pg_tup rfl (pgs_cons (pg_name (i := 3) scHeadsP.nd rfl (Or.inl rfl)) (pgs_cons (pg_name (i := 4) scHeadsP.nd rfl (Or.inl rfl)) pgs_nil))))
        (pss_cons (ps_if (PW.pt (pw_or (pt_not (pt_val (pe_cl Wo hr (by decide) (by rfl) (pa_cons (pv 3) pa_nil)))) (pw_or1 (pt_cmpR op_in_seq (pv 3) (pv 1) rfl)))) (pss_one (ps_ret pe_bl)) pss_nil)
        (pss_cons (ps_if (PW.pt (pw_and (pt_cmpR op_ne (pv 4) pe_str (nomark _)) (pw_and1 (pt_cmpR op_notIn_seq (pv 4) (pv 1) rfl)))) (pss_one (ps_ret pe_bl)) pss_nil)
        (pss_one (ps_expr (pe_bm PySem.F.plainAttrs_list PySem.F.slot_list_append PySem.F.type_list_append mt_append (pv 1) (pa_cons (pv 3) pa_nil)))))))))
      (pss_one (ps_ret pe_bl)))), ?_⟩
    refine ⟨_, rfl, l, _, _, _, rfl, R.1, _, rfl, ?_⟩
    rw [decide_eq_true (show (1 : Int) ≤ ((ts.map V.ref).length : Int) ∧ ((ts.map V.ref).length : Int) ≤ 8 by rw [List.length_map, tl]; omega)]
    refine iteF ⟨(by show 0 ≤ sizeLine; decide), fun A2 hA => ?_⟩
    have lA : l ≠ A2 := ne_of_none R.1 hA
    refine ⟨_, rfl, l, rfl, ⟨_, SqL.of (same_new hA _ _ R.1)⟩, for_list (K := K) (a := l) (xs := ts.map V.ref) (fun i σ H' => ∃ (v2 v3 v4 : Option V), σ = [some (.ref l), some (.ref A2), v2, v3, v4] ∧ Same H H' ∧ H' A2 = some (.lst (((nms hs).take i).map V.str)))
      ⟨none, none, none, rfl, same_new hA, upd_same⟩ (fun i σ H' _ ⟨_, _, _, _, s1, _⟩ => SqL.of (s1 _ _ R.1)) ?_ ?_⟩
    · rintro i y σ H1 hi ⟨v2, v3, v4, rfl, s1, a1⟩
      obtain ⟨t, r, rfl, hr1, ht, hti⟩ := row_get R hi
      have hi8 : i < ts.length := (List.getElem?_eq_some_iff.mp hti).1
      have ht1 := s1 _ _ ht
      have hn := nms_get hr1
      have hm : r.1 ∈ nms hs := List.mem_of_getElem? hn
      refine ⟨_, rfl, t, _, _, rfl, ht1, _, rfl, iteF ?_⟩
      refine ⟨_, rfl, t, _, rfl, SqT.of ht1, rfl, _, _, rfl, _, _, rfl, rfl, ?_⟩
      refine ⟨_, rfl, r.1, rfl, Vh.w _ hm, fun H2 s2 => ⟨_, rfl, iteF ?_⟩⟩
      have a2 := s2 _ _ a1
      refine ⟨_, rfl, _, rfl, A2, _, rfl, .inl (SqL.of a2), rfl, flat_strs, _, rfl, ?_⟩
      show if (inV (.str r.1) (((nms hs).take i).map V.str)) = true then _ else _
      rw [inV_str]
      have nin : ¬ r.1 ∈ (nms hs).take i := fun hmem => by
        obtain ⟨j, hj⟩ := List.mem_iff_getElem?.mp hmem
        rw [List.getElem?_take] at hj
        split at hj
        · rename_i hlt
          have := nd_ix Vh.nd hj hn
          omega
        · cases hj
      rw [decide_eq_false nin]
      refine iteF ?_
      have app : ∀ (H3 : Hp), H3 = H2 → ∃ l' xs y, V.ref A2 = .ref l' ∧ [V.str r.1] = [y] ∧ H3 l' = some (.lst xs) ∧ xs.length < sizeLine ∧ ∃ (v2 v3 v4 : Option V), [some (V.ref l), some (V.ref A2), some (V.ref t), some (V.str r.1), some (V.str r.2)] = [some (.ref l), some (.ref A2), v2, v3, v4] ∧ Same H (upd H3 l' (.lst (xs ++ [y]))) ∧ (upd H3 l' (.lst (xs ++ [y]))) A2 = some (.lst (((nms hs).take (i + 1)).map V.str)) := by
        rintro H3 rfl
        refine ⟨A2, _, _, rfl, rfl, a2, ?_, _, _, _, rfl, fun b o e => ?_, ?_⟩
        · rw [List.length_map, List.length_take]; omega
        · rw [upd_ne (ne_of_none e hA)]
          exact s2 _ _ (s1 _ _ e)
        · rw [upd_same, take_more hn, List.map_append]
          rfl
      refine ⟨_, rfl, rfl, _, rfl, ite2 (fun c => ?_) (fun c => ?_)⟩
      · refine ⟨_, rfl, _, rfl, A2, _, rfl, .inl (SqL.of a2), rfl, flat_strs, _, rfl, ?_⟩
        show if (!inV (.str r.2) (((nms hs).take i).map V.str)) = true then _ else _
        rw [inV_str]
        have hin : r.2 ∈ (nms hs).take i := by
          rcases Vh.up i r hr1 with e | ⟨j, hj, hu⟩
          · exfalso
            rw [e] at c
            exact absurd c (by decide +kernel)
          · exact List.mem_iff_getElem?.mpr ⟨j, by rw [List.getElem?_take, if_pos hj]; exact hu⟩
        rw [decide_eq_true hin]
        refine iteF ?_
        exact ⟨_, rfl, .inl ⟨rfl, _, SqL.of a2⟩, _, rfl, app _ rfl⟩
      · exact iteF ⟨_, rfl, .inl ⟨rfl, _, SqL.of a2⟩, _, rfl, app _ rfl⟩
    · rintro σ H1 ⟨v2, v3, v4, rfl, s1, a1⟩
      exact k _ s1
end
end KP
namespace KP
open PySem L2
section
variable {P : Program} {w : World} {K : PySem.W.Frag} {mg : Str → Option Value} {base : Heap}
abbrev nLimit : List Str := ["row", "days", "names", "head", "first", "last", "most"]
theorem scLimit : FnScope nLimit ["row", "days", "names"] (defScope sLimit) := ⟨rfl, rfl, rfl, by decide +kernel, rfl, by decide +kernel, by decide +kernel⟩
theorem c_limit (B : Base K mg) (Ro : Cal P w K mg base 1 "is_row" spRow) (Wh : Cal P w K mg base 1 "is_whole" spWhole) (D : DefT K mg "is_limit" sLimit ["row", "days", "names"]) : Cal P w K mg base 2 "is_limit" spLimit := by
  obtain ⟨tM, hM⟩ := B.mostM
  refine cal D scLimit (fun vs H Q E h => ?_) (fun f cdv A outer s H vs Q E hr h => ?_)
  · obtain ⟨t, n, d, ns, r, rfl, _⟩ := h
    rfl
  · obtain ⟨t, n, d, ns, r, rfl, ht, hn, ⟨o1, o2, o3, o4⟩, k⟩ := h
    refine ⟨_, pss_cons (ps_if (pt_not (pt_val (pe_cl Ro hr (by decide) (by rfl) (pa_cons (pv 0) (pa_cons pe_int pa_nil))))) (pss_one (ps_ret pe_bl)) pss_nil)
      (pss_cons (ps_asg (pv 0) (pg_tup rfl (pgs_cons (pg_name (i := 3) scLimit.nd rfl (Or.inl rfl)) (pgs_cons (pg_name (i := 4) scLimit.nd rfl (Or.inl rfl)) (pgs_cons (pg_name (i := 5) scLimit.nd rfl (Or.inl rfl)) (pgs_cons (pg_name (i := 6) scLimit.nd rfl (Or.inl rfl)) pgs_nil))))))
      (pss_cons (ps_if (PW.pt (pw_or (pt_cmpR op_notIn_seq (pv 3) (pv 2) rfl) (pw_or1 (pt_not (pt_val (pe_cl Wh hr (by decide) (by rfl) (pa_cons (pv 4) (pa_cons pe_int (pa_cons (pv 1) pa_nil))))))))) (pss_one (ps_ret pe_bl)) pss_nil)
      (pss_one (ps_ret (pe_and (pe_cl Wh hr (by decide) (by rfl) (pa_cons (pv 5) (pa_cons (pv 4) (pa_cons (pv 1) pa_nil)))) (pe_one (pe_cl Wh hr (by decide) (by rfl) (pa_cons (pv 6) (pa_cons pe_int (pa_cons (pe_glob (v := .int 1000000000000000) rfl hM ⟨_, rfl⟩) pa_nil)))))))))), ?_⟩
    refine ⟨_, rfl, t, _, _, rfl, ht, _, rfl, iteF ?_⟩
    refine ⟨_, rfl, t, _, rfl, SqT.of ht, rfl, _, _, rfl, _, _, rfl, _, _, rfl, _, _, rfl, rfl, ?_⟩
    refine ⟨_, rfl, _, rfl, n, _, rfl, .inl (SqL.of hn), rfl, flat_strs, _, rfl, ?_⟩
    show if (!inV (.str r.1) (ns.map V.str)) = true then _ else _
    rw [inV_str, decide_eq_true o1]
    refine iteF ⟨_, rfl, _, rfl, _, _, _, rfl, _, rfl, ?_⟩
    rw [decide_eq_true o2]
    refine iteF ⟨_, rfl, _, rfl, _, rfl, _, _, _, rfl, _, rfl, ?_⟩
    rw [decide_eq_true o3]
    refine iteT ⟨_, rfl, _, _, _, rfl, ?_⟩
    rw [decide_eq_true o4]
    exact k
abbrev nRule : List Str := ["row", "days", "names", "head", "part", "whole", "until"]
theorem scRule : FnScope nRule ["row", "days", "names"] (defScope sRule) := ⟨rfl, rfl, rfl, by decide +kernel, rfl, by decide +kernel, by decide +kernel⟩
theorem c_rule (B : Base K mg) (Ro : Cal P w K mg base 1 "is_row" spRow) (Wh : Cal P w K mg base 1 "is_whole" spWhole) (D : DefT K mg "is_rule" sRule ["row", "days", "names"]) : Cal P w K mg base 2 "is_rule" spRule := by
  obtain ⟨tM, hM⟩ := B.mostW
  refine cal D scRule (fun vs H Q E h => ?_) (fun f cdv A outer s H vs Q E hr h => ?_)
  · obtain ⟨t, n, d, ns, r, rfl, _⟩ := h
    rfl
  · obtain ⟨t, n, d, ns, r, rfl, ht, hn, ⟨o1, o2, o3, o4⟩, k⟩ := h
    refine ⟨_, pss_cons (ps_if (pt_not (pt_val (pe_cl Ro hr (by decide) (by rfl) (pa_cons (pv 0) (pa_cons pe_int pa_nil))))) (pss_one (ps_ret pe_bl)) pss_nil)
      (pss_cons (ps_asg (pv 0) (pg_tup rfl (pgs_cons (pg_name (i := 3) scRule.nd rfl (Or.inl rfl)) (pgs_cons (pg_name (i := 4) scRule.nd rfl (Or.inl rfl)) (pgs_cons (pg_name (i := 5) scRule.nd rfl (Or.inl rfl)) (pgs_cons (pg_name (i := 6) scRule.nd rfl (Or.inl rfl)) pgs_nil))))))
      (pss_cons (ps_if (PW.pt (pw_or (pt_cmpR op_notIn_seq (pv 3) (pv 2) rfl) (pw_or1 (pt_not (pt_val (pe_cl Wh hr (by decide) (by rfl) (pa_cons (pv 5) (pa_cons pe_int (pa_cons (pe_glob (v := .int 1000) rfl hM ⟨_, rfl⟩) pa_nil))))))))) (pss_one (ps_ret pe_bl)) pss_nil)
      (pss_one (ps_ret (pe_and (pe_cl Wh hr (by decide) (by rfl) (pa_cons (pv 4) (pa_cons pe_int (pa_cons (pv 5) pa_nil)))) (pe_one (pe_cl Wh hr (by decide) (by rfl) (pa_cons (pv 6) (pa_cons pe_int (pa_cons (pe_op op_add (pv 1) pe_int) pa_nil)))))))))), ?_⟩
    refine ⟨_, rfl, t, _, _, rfl, ht, _, rfl, iteF ?_⟩
    refine ⟨_, rfl, t, _, rfl, SqT.of ht, rfl, _, _, rfl, _, _, rfl, _, _, rfl, _, _, rfl, rfl, ?_⟩
    refine ⟨_, rfl, _, rfl, n, _, rfl, .inl (SqL.of hn), rfl, flat_strs, _, rfl, ?_⟩
    show if (!inV (.str r.1) (ns.map V.str)) = true then _ else _
    rw [inV_str, decide_eq_true o1]
    refine iteF ⟨_, rfl, _, _, _, rfl, _, rfl, ?_⟩
    rw [decide_eq_true o2]
    refine iteF ⟨_, rfl, _, rfl, _, _, _, rfl, _, rfl, ?_⟩
    rw [decide_eq_true o3]
    refine iteT ⟨_, rfl, _, rfl, _, _, rfl, rfl, _, _, _, rfl, ?_⟩
    rw [decide_eq_true o4]
    exact k
abbrev nOne : List Str := ["rules", "name", "top", "bottom", "head", "part", "whole", "until"]
theorem scOne : FnScope nOne ["rules", "name"] (defScope sOne) := ⟨rfl, rfl, rfl, by decide +kernel, rfl, by decide +kernel, by decide +kernel⟩
theorem c_one (D : DefT K mg "is_at_most_one" sOne ["rules", "name"]) : Cal P w K mg base 1 "is_at_most_one" spOne := by
  refine cal D scOne (fun vs H Q E h => ?_) (fun f cdv A outer s H vs Q E hr h => ?_)
  · obtain ⟨l, ts, x, rs, rfl, _⟩ := h
    rfl
  · obtain ⟨l, ts, x, rs, rfl, R, hb, h1, k⟩ := h
    refine ⟨_, pss_cons (ps_set (i := 2) scOne.nd rfl (Or.inl rfl) pe_int) (pss_cons (ps_set (i := 3) scOne.nd rfl (Or.inl rfl) pe_int)
      (pss_cons (ps_for PassesOwn.never rfl (pi_list (pv 0)) (pg_tup rfl (pgs_cons (pg_name (i := 4) scOne.nd rfl (Or.inl rfl)) (pgs_cons (pg_name (i := 5) scOne.nd rfl (Or.inl rfl)) (pgs_cons (pg_name (i := 6) scOne.nd rfl (Or.inl rfl)) (pgs_cons (pg_name (i := 7) scOne.nd rfl (Or.inl rfl)) pgs_nil)))))
        (pss_one (ps_if (pt_cmpR op_eq (pv 4) (pv 1) (nomark _))
          (pss_cons (ps_set (i := 2) scOne.nd rfl (Or.inl rfl) (pe_op op_add (pe_op op_mul (pv 2) (pv 6)) (pe_op op_mul (pv 5) (pv 3)))) (pss_one (ps_set (i := 3) scOne.nd rfl (Or.inl rfl) (pe_op op_mul (pv 3) (pv 6))))) pss_nil)))
      (pss_one (ps_ret (pe_cmpR op_le (pv 2) (pv 3) (nomark _)))))), ?_⟩
    refine ⟨_, rfl, l, rfl, ⟨_, SqL.of R.1⟩, for_list (K := K) (a := l) (xs := ts.map V.ref) (fun i σ H' => ∃ (v4 v5 v6 v7 : Option V), σ = [some (.ref l), some (.str x), some (.int (fr (rs.take i) x).1), some (.int (fr (rs.take i) x).2), v4, v5, v6, v7] ∧ H' = H)
      ⟨none, none, none, none, rfl, rfl⟩ (fun i σ H' _ ⟨_, _, _, _, _, e⟩ => by rw [e]; exact SqL.of R.1) ?_ ?_⟩
    · rintro i y σ H1 hi ⟨v4, v5, v6, v7, rfl, rfl⟩
      obtain ⟨t, r, rfl, hr1, ht, hti⟩ := row_get R hi
      have bb := hb r (List.mem_of_getElem? hr1)
      have step := fr_snoc (rs.take i) x r
      rw [← take_more hr1] at step
      refine ⟨t, _, rfl, SqT.of ht, rfl, _, _, rfl, _, _, rfl, _, _, rfl, _, _, rfl, rfl, ?_⟩
      refine ⟨_, rfl, _, rfl, rfl, _, rfl, ite2 (fun c => ?_) (fun c => ?_)⟩
      · have e : r.1 = x := by have := of_decide_eq_true c; injection this
        have e2 : frS x (fr (rs.take i) x) r = ((fr (rs.take i) x).1 * r.2.2.1 + r.2.1 * (fr (rs.take i) x).2, (fr (rs.take i) x).2 * r.2.2.1) := by unfold frS; rw [if_pos e]
        rw [e2] at step
        refine ⟨_, rfl, _, rfl, _, _, rfl, rfl, Or.inr ⟨by omega, by omega⟩, _, rfl, _, rfl, _, _, rfl, rfl, Or.inl ⟨by omega, by omega⟩, _, _, rfl, rfl, ?_⟩
        refine ⟨_, rfl, _, rfl, _, _, rfl, rfl, Or.inr ⟨by omega, by omega⟩, ?_⟩
        refine ⟨some (.str r.1), some (.int r.2.1), some (.int r.2.2.1), some (.int r.2.2.2), ?_, rfl⟩
        rw [step]
        rfl
      · have e : ¬ r.1 = x := fun z => c (decide_eq_true (by rw [z]))
        have e2 : frS x (fr (rs.take i) x) r = fr (rs.take i) x := by unfold frS; rw [if_neg e]
        rw [e2] at step
        refine ⟨some (.str r.1), some (.int r.2.1), some (.int r.2.2.1), some (.int r.2.2.2), ?_, rfl⟩
        rw [step]
        rfl
    · rintro σ H1 ⟨v4, v5, v6, v7, rfl, rfl⟩
      have el : rs.take (ts.map V.ref).length = rs := by rw [List.length_map, R.len, List.length_map]; exact List.take_length
      rw [el]
      refine ⟨_, rfl, _, rfl, _, _, rfl, rfl, ?_⟩
      show Q (.bl (decide ((fr rs x).1 ≤ (fr rs x).2))) H1
      rw [decide_eq_true h1]
      exact k
/-- all([f(..) for x in xs]): a list of Trues grows -/
theorem rep_snoc {i : Nat} : List.replicate i (V.bl true) ++ [V.bl true] = List.replicate (i + 1) (V.bl true) := List.replicate_succ'.symm
abbrev nLimitsP : List Str := ["limits", "days", "names", "row"]
theorem scLimitsP : FnScope nLimitsP ["limits", "days", "names"] (defScope sLimitsP) := ⟨rfl, rfl, rfl, by decide +kernel, rfl, by decide +kernel, by decide +kernel⟩
theorem c_limitsP (B : Base K mg) (Ls : Cal P w K mg base 1 "is_list" spList) (Li : Cal P w K mg base 2 "is_limit" spLimit) (D : DefT K mg "are_limits" sLimitsP ["limits", "days", "names"]) : Cal P w K mg base 3 "are_limits" spLimitsP := by
  obtain ⟨tM, hM⟩ := B.mostLi
  refine cal D scLimitsP (fun vs H Q E h => ?_) (fun f cdv A outer s H vs Q E hr h => ?_)
  · obtain ⟨l, n, ts, d, ns, rs, rfl, _⟩ := h
    rfl
  · obtain ⟨l, n, ts, d, ns, rs, rfl, R, hn, hok, h6, k⟩ := h
    have hz : sizeLine = 16777216 := by decide
    have tl : ts.length = rs.length := by rw [R.len, List.length_map]
    refine ⟨_, pss_one (ps_ret (pe_and (pe_cl Ls hr (by decide) (by rfl) (pa_cons (pv 0) (pa_cons pe_int (pa_cons (pe_glob (v := .int 6) rfl hM ⟨_, rfl⟩) pa_nil))))
      (pe_one (pe_callB (cr_all rfl) (by rfl) B.all (by decide +kernel) (pa_cons (pe_lc (own := [("row", 3)]) (g := gName 3) (tt := tYes) rfl scLimitsP.nd (pi_list (pv 0)) (blkOk_by (N := nLimitsP) (sc := defScope sLimitsP) (by decide +kernel))
        (fun _ _ _ _ _ => pg_name (i := 3) scLimitsP.nd rfl (Or.inl rfl)) (fun _ _ _ _ _ => pts_nil) (fun _ _ _ _ _ => pe_cl Li hr (by decide) (by rfl) (pa_cons (pv 3) (pa_cons (pv 1) (pa_cons (pv 2) pa_nil))))) pa_nil))))), ?_⟩
    refine ⟨_, rfl, l, _, _, _, rfl, R.1, _, rfl, ?_⟩
    rw [decide_eq_true (show (0 : Int) ≤ ((ts.map V.ref).length : Int) ∧ ((ts.map V.ref).length : Int) ≤ 6 by rw [List.length_map, tl]; omega)]
    refine iteT ⟨_, rfl, l, rfl, ⟨_, SqL.of R.1⟩, fun D2 hD => lc_it (walk_list (xs := ts.map V.ref)) (fun i H' => H' = upd H D2 (.lst (List.replicate i (V.bl true)))) rfl (fun i H' _ e => by rw [e]; exact SqL.of (same_new hD _ _ R.1)) ?_ ?_⟩
    · rintro i v H1 H2 hi rfl ⟨rfl, hv⟩
      obtain ⟨t, r, rfl, hr1, ht, hti⟩ := row_get R hv
      refine ⟨rfl, yes (iteT ⟨_, rfl, _, rfl, _, rfl, t, n, d, ns, r, rfl, same_new hD _ _ ht, same_new hD _ _ hn, hok r (List.mem_of_getElem? hr1), _, upd_same, ?_, ?_⟩)⟩
      · rw [List.length_replicate]
        rw [List.length_map, tl] at hi
        omega
      · rw [upd_upd, rep_snoc]
    · rintro H1 rfl
      refine ⟨D2, List.replicate (ts.map V.ref).length true, rfl, SqL.of (by rw [upd_same, map_rep]), ?_⟩
      rw [all_rep]
      exact k _ (same_new hD)
abbrev nRulesP : List Str := ["rules", "days", "names", "row", "name"]
theorem scRulesP : FnScope nRulesP ["rules", "days", "names"] (defScope sRulesP) := ⟨rfl, rfl, rfl, by decide +kernel, rfl, by decide +kernel, by decide +kernel⟩
theorem c_rulesP (B : Base K mg) (Ls : Cal P w K mg base 1 "is_list" spList) (Ru : Cal P w K mg base 2 "is_rule" spRule) (On : Cal P w K mg base 1 "is_at_most_one" spOne) (D : DefT K mg "are_rules" sRulesP ["rules", "days", "names"]) : Cal P w K mg base 3 "are_rules" spRulesP := by
  obtain ⟨tM, hM⟩ := B.mostR
  refine cal D scRulesP (fun vs H Q E h => ?_) (fun f cdv A outer s H vs Q E hr h => ?_)
  · obtain ⟨l, n, ts, d, ns, rs, rfl, _⟩ := h
    rfl
  · obtain ⟨l, n, ts, d, ns, rs, rfl, R, hn, hok, h4, h8, hone, k⟩ := h
    have hz : sizeLine = 16777216 := by decide
    have tl : ts.length = rs.length := by rw [R.len, List.length_map]
    refine ⟨_, pss_cons (ps_if (PW.pt (pw_or (pt_not (pt_val (pe_cl Ls hr (by decide) (by rfl) (pa_cons (pv 0) (pa_cons pe_int (pa_cons (pe_glob (v := .int 4) rfl hM ⟨_, rfl⟩) pa_nil))))))
      (pw_or1 (pt_not (pt_val (pe_callB (cr_all rfl) (by rfl) B.all (by decide +kernel) (pa_cons (pe_lc (own := [("row", 3)]) (g := gName 3) (tt := tYes) rfl scRulesP.nd (pi_list (pv 0)) (blkOk_by (N := nRulesP) (sc := defScope sRulesP) (by decide +kernel))
        (fun _ _ _ _ _ => pg_name (i := 3) scRulesP.nd rfl (Or.inl rfl)) (fun _ _ _ _ _ => pts_nil) (fun _ _ _ _ _ => pe_cl Ru hr (by decide) (by rfl) (pa_cons (pv 3) (pa_cons (pv 1) (pa_cons (pv 2) pa_nil))))) pa_nil))))))) (pss_one (ps_ret pe_bl)) pss_nil)
      (pss_one (ps_ret (pe_callB (cr_all rfl) (by rfl) B.all (by decide +kernel) (pa_cons (pe_lc (own := [("name", 4)]) (g := gName 4) (tt := tYes) rfl scRulesP.nd (pi_list (pv 2)) (blkOk_by (N := nRulesP) (sc := defScope sRulesP) (by decide +kernel))
        (fun _ _ _ _ _ => pg_name (i := 4) scRulesP.nd rfl (Or.inl rfl)) (fun _ _ _ _ _ => pts_nil) (fun _ _ _ _ _ => pe_cl On hr (by decide) (by rfl) (pa_cons (pv 0) (pa_cons (pv 4) pa_nil)))) pa_nil)))), ?_⟩
    refine ⟨_, rfl, l, _, _, _, rfl, R.1, _, rfl, ?_⟩
    rw [decide_eq_true (show (0 : Int) ≤ ((ts.map V.ref).length : Int) ∧ ((ts.map V.ref).length : Int) ≤ 4 by rw [List.length_map, tl]; omega)]
    refine iteF ⟨_, rfl, l, rfl, ⟨_, SqL.of R.1⟩, fun D2 hD => lc_it (walk_list (xs := ts.map V.ref)) (fun i H' => H' = upd H D2 (.lst (List.replicate i (V.bl true)))) rfl (fun i H' _ e => by rw [e]; exact SqL.of (same_new hD _ _ R.1)) ?_ ?_⟩
    · rintro i v H1 H2 hi rfl ⟨rfl, hv⟩
      obtain ⟨t, r, rfl, hr1, ht, hti⟩ := row_get R hv
      refine ⟨rfl, yes (iteT ⟨_, rfl, _, rfl, _, rfl, t, n, d, ns, r, rfl, same_new hD _ _ ht, same_new hD _ _ hn, hok r (List.mem_of_getElem? hr1), _, upd_same, ?_, ?_⟩)⟩
      · rw [List.length_replicate]
        rw [List.length_map, tl] at hi
        omega
      · rw [upd_upd, rep_snoc]
    · rintro H1 rfl
      refine ⟨D2, List.replicate (ts.map V.ref).length true, rfl, SqL.of (by rw [upd_same, map_rep]), _, rfl, ?_⟩
      rw [all_rep]
      refine iteF ?_
      have sD : Same H (upd H D2 (.lst (List.replicate (ts.map V.ref).length (V.bl true)))) := same_new hD
      generalize upd H D2 (.lst (List.replicate (ts.map V.ref).length (V.bl true))) = H2 at sD
      have R2 := R.same sD
      refine ⟨_, rfl, n, rfl, ⟨_, SqL.of (sD _ _ hn)⟩, fun D3 hD3 => lc_it (walk_list (xs := ns.map V.str)) (fun i H' => H' = upd H2 D3 (.lst (List.replicate i (V.bl true)))) rfl (fun i H' _ e => by rw [e]; exact SqL.of (same_new hD3 _ _ (sD _ _ hn))) ?_ ?_⟩
      · rintro i v H3 H4 hi rfl ⟨rfl, hv⟩
        obtain ⟨x, hx, rfl⟩ : ∃ x, ns[i]? = some x ∧ v = V.str x := by
          rw [List.getElem?_map] at hv
          cases z : ns[i]? with
          | none => rw [z] at hv; cases hv
          | some x => rw [z] at hv; exact ⟨x, rfl, (Option.some.inj hv).symm⟩
        refine ⟨rfl, yes (iteT ⟨_, rfl, _, rfl, l, ts, x, rs, rfl, R2.same (same_new hD3), (fun r hr => ?_), hone x, _, upd_same, ?_, ?_⟩)⟩
        · obtain ⟨_, o2, o3, _⟩ := hok r hr
          omega
        · rw [List.length_replicate]
          rw [List.length_map] at hi
          omega
        · rw [upd_upd, rep_snoc]
      · rintro H3 rfl
        refine ⟨D3, List.replicate (ns.map V.str).length true, rfl, SqL.of (by rw [upd_same, map_rep]), ?_⟩
        rw [all_rep]
        exact k _ (sD.trans (same_new hD3))
end
end KP
namespace KP
open PySem L2
theorem put1 (a : Str) (x : V) : putF a x [] = [(a, x)] := rfl
theorem put2 {a b : Str} (h : a ≠ b) (x y : V) : putF b y [(a, x)] = [(a, x), (b, y)] := by
  show (if a = b then (a, y) :: [] else (a, x) :: putF b y []) = _
  rw [if_neg h]
  rfl
theorem put3 {a b c : Str} (h : a ≠ c) (h2 : b ≠ c) (x y z : V) : putF c z [(a, x), (b, y)] = [(a, x), (b, y), (c, z)] := by
  show (if a = c then _ else (a, x) :: putF c z [(b, y)]) = _
  rw [if_neg h, put2 h2]
theorem put4 {a b c d : Str} (h : a ≠ d) (h2 : b ≠ d) (h3 : c ≠ d) (x y z u : V) : putF d u [(a, x), (b, y), (c, z)] = [(a, x), (b, y), (c, z), (d, u)] := by
  show (if a = d then _ else (a, x) :: putF d u [(b, y), (c, z)]) = _
  rw [if_neg h, put3 h2 h3]
structure MakT (P : Program) (w : World) (K : PySem.W.Frag) (mg : Str → Option Value) (base : Heap) (k : Nat) (x : Str) (C : Addr) (sp : Sp) : Prop where
  ex : ∃ f fd ps, Mk K C f ∧ FnOk P w K mg base CX0 k f fd ps sp ∧ mg x = some (.ref C) ∧ Binds K fd ps []
structure MetT (P : Program) (w : World) (K : PySem.W.Frag) (mg : Str → Option Value) (base : Heap) (k : Nat) (C : Addr) (m : Str) (sp : Sp) : Prop where
  ex : ∃ f fd ps, Cls K C ∧ Meth K C m f ∧ FnOk P w K mg base CX0 k f fd ps sp ∧ Binds K fd ps []
section
variable {X : Cx} {k j : Nat} {x m : Str} {C : Addr} {sp : Sp} {p pos apos : Pos} {e o : Expr} {es : List Expr} {ta : TE} {t : TA}
theorem pe_mkT (c : MakT X.prog X.w X.K X.mg X.base k x C sp) (hr : Room j X.A) (hk : k + 1 ≤ j) (hg : Gl X x) (ha : PA X (e :: es) t)
    (hdb : (x == ("__debug__" : Str)) = false := by decide) (he : starEach (e :: es) X.env = (false, eval e X.env) :: starEach es X.env := by rfl) (hpl : (backTo pos (starEach es X.env)).any (·.1) = false := by rfl) :
    PE X (.Call (.Name x p) (e :: es) [] pos) (tMake C sp [] E0 t) := by
  obtain ⟨f, fd, ps, M, F, m, b⟩ := c.ex
  exact pe_make M F (hr.mono hk) hg m b .nil pass0 ha hdb he hpl
theorem pe_mtT0 {pl : Sem Bool} (c : MetT X.prog X.w X.K X.mg X.base k C m sp) (hr : Room j X.A) (hk : k ≤ j) (he : PE X o ta)
    (ht : eval (.Call (.Attribute o m apos) [] [] pos) X.env = (do
      let ov ← eval o X.env
      standAt apos.atName
      let (f, first) ← holding [ov] (getMethod ov m pl)
      callWith pos f first (backTo pos (starEach [] X.env)) (backToKw pos (keywordEach [] X.env))) := by rfl) :
    PE X (.Call (.Attribute o m apos) [] [] pos) (tMeth C m sp [] E0 ta tNil) := by
  obtain ⟨f, fd, ps, c, hm, F, b⟩ := c.ex
  exact pe_meth0 he c hm F (hr.mono hk) b .nil pass0 ht
theorem pe_mtT {pl : Sem Bool} (c : MetT X.prog X.w X.K X.mg X.base k C m sp) (hr : Room j X.A) (hk : k ≤ j) (he : PE X o ta) (ha : PA X (e :: es) t)
    (hst : starEach (e :: es) X.env = (false, eval e X.env) :: starEach es X.env := by rfl) (hpl : (backTo pos (starEach es X.env)).any (·.1) = false := by rfl)
    (ht : eval (.Call (.Attribute o m apos) (e :: es) [] pos) X.env = (do
      let ov ← eval o X.env
      standAt apos.atName
      let (f, first) ← holding [ov] (getMethod ov m pl)
      callWith pos f first (backTo pos (starEach (e :: es) X.env)) (backToKw pos (keywordEach [] X.env))) := by rfl) :
    PE X (.Call (.Attribute o m apos) (e :: es) [] pos) (tMeth C m sp [] E0 ta t) := by
  obtain ⟨f, fd, ps, c, hm, F, b⟩ := c.ex
  exact pe_meth he c hm F (hr.mono hk) b .nil pass0 ha hst hpl ht
end

/-! ### a year in the heap -/
def yf (d : Int) (l1 l2 l3 : Addr) : List (Str × V) := [("days", .int d), ("heads", .ref l1), ("limits", .ref l2), ("rules", .ref l3)]
/-- lists at M alone may change -/
def KeepM (M : List Addr) (H H' : Hp) : Prop := ∀ b o, H b = some o → (b ∈ M → ∀ xs, o ≠ .lst xs) → H' b = some o
theorem KeepM.of {M : List Addr} {H H' : Hp} (s : Same H H') : KeepM M H H' := fun b o e _ => s b o e
theorem KeepM.trans {M : List Addr} {H H1 H2 : Hp} (s : KeepM M H H1) (t : KeepM M H1 H2) : KeepM M H H2 := fun b o e n => t b o (s b o e n) n
theorem KeepM.ofB {M : List Addr} {a : Addr} {H H' : Hp} {xs : List V} (s : SameB a H H') (h : H a = some (.lst xs)) (ha : a ∈ M) : KeepM M H H' := fun b o e n => s b o e fun z => by
  subst z
  rw [h] at e
  exact n ha xs (Option.some.inj e).symm
theorem KeepM.tup {M : List Addr} {H H' : Hp} (s : KeepM M H H') {b : Addr} {r : List V} (e : H b = some (.tup r)) : H' b = some (.tup r) := s b _ e fun _ _ z => nomatch z
theorem KeepM.lst {M : List Addr} {H H' : Hp} (s : KeepM M H H') {b : Addr} {r : List V} (e : H b = some (.lst r)) (h : b ∉ M) : H' b = some (.lst r) := s b _ e fun z => absurd z h
theorem RowsAt.keep {M : List Addr} {H H' : Hp} {l : Addr} {ts : List Addr} {rows : List (List V)} (h : RowsAt H l ts rows) (s : KeepM M H H') (hl : l ∉ M) : RowsAt H' l ts rows := ⟨s.lst h.1 hl, paired_mono (fun _ _ e => s.tup e) h.2⟩
structure YearAt (C : Addr) (M : List Addr) (H : Hp) (p : Addr) (y : Yr) : Prop where
  ex : ∃ dx l1 l2 l3 t1 t2 t3, H p = some (.ins C dx (yf y.days l1 l2 l3)) ∧ RowsAt H l1 t1 (y.hs.map hv) ∧ RowsAt H l2 t2 (y.ls.map rv) ∧ RowsAt H l3 t3 (y.rs.map rv) ∧ l1 ∉ M ∧ l2 ∉ M ∧ l3 ∉ M
theorem YearAt.keep {C : Addr} {M : List Addr} {H H' : Hp} {p : Addr} {y : Yr} (h : YearAt C M H p y) (s : KeepM M H H') : YearAt C M H' p y := by
  obtain ⟨dx, l1, l2, l3, t1, t2, t3, hp, r1, r2, r3, n1, n2, n3⟩ := h.ex
  exact ⟨dx, l1, l2, l3, t1, t2, t3, s _ _ hp (fun _ _ z => nomatch z), r1.keep s n1, r2.keep s n2, r3.keep s n3, n1, n2, n3⟩
theorem YearAt.sub {C : Addr} {M M' : List Addr} {H : Hp} {p : Addr} {y : Yr} (h : YearAt C M H p y) (s : ∀ a, a ∈ M' → a ∈ M) : YearAt C M' H p y := by
  obtain ⟨dx, l1, l2, l3, t1, t2, t3, hp, r1, r2, r3, n1, n2, n3⟩ := h.ex
  exact ⟨dx, l1, l2, l3, t1, t2, t3, hp, r1, r2, r3, fun z => n1 (s _ z), fun z => n2 (s _ z), fun z => n3 (s _ z)⟩
theorem YearAt.nil {C : Addr} {M : List Addr} {H : Hp} {p : Addr} {y : Yr} (h : YearAt C M H p y) : YearAt C [] H p y := h.sub fun _ z => nomatch z
theorem YearAt.ext {C : Addr} {M : List Addr} {H : Hp} {p a : Addr} {y : Yr} (h : YearAt C M H p y) (ha : H a = none) : YearAt C (a :: M) H p y := by
  obtain ⟨dx, l1, l2, l3, t1, t2, t3, hp, r1, r2, r3, n1, n2, n3⟩ := h.ex
  have g : ∀ {l : Addr} {o : HO}, H l = some o → l ∉ M → l ∉ a :: M := fun e n z => by
    rcases List.mem_cons.mp z with z | z
    · exact ne_of_none e ha z
    · exact n z
  exact ⟨dx, l1, l2, l3, t1, t2, t3, hp, r1, r2, r3, g r1.1 n1, g r2.1 n2, g r3.1 n3⟩
theorem YearAt.same {C : Addr} {M : List Addr} {H H' : Hp} {p : Addr} {y : Yr} (h : YearAt C M H p y) (s : Same H H') : YearAt C M H' p y := h.keep (KeepM.of s)
/-! ### the class -/
structure YearF (K : PySem.W.Frag) (mg : Str → Option Value) (C : Addr) : Prop where
  cl : Cls K C
  mgC : mg "Year" = some (.ref C)
  nd : NoAttr K C "days"
  nh : NoAttr K C "heads"
  nl : NoAttr K C "limits"
  nr : NoAttr K C "rules"
structure MethT (K : PySem.W.Frag) (C : Addr) (m q : Str) (st : Stmt) (ps : List Str) : Prop where
  ex : ∃ f fd, Meth K C m f ∧ Fun K m q st f fd ∧ Binds K fd ps []
structure InitT (K : PySem.W.Frag) (C : Addr) (q : Str) (st : Stmt) (ps : List Str) : Prop where
  ex : ∃ f fd, Mk K C f ∧ Fun K "__init__" q st f fd ∧ Binds K fd ps []
abbrev sYI : Stmt := inClass (top 24) 0
abbrev sYN : Stmt := inClass (top 24) 1
abbrev sYA : Stmt := inClass (top 24) 2
abbrev sYK : Stmt := inClass (top 24) 3
abbrev sYU : Stmt := inClass (top 24) 4
def spYear (C : Addr) : Sp := fun vs H Q _ => ∃ (p dx lh ll lr : Addr) (th tl tr : List Addr) (y : Yr), vs = [.ref p, .int y.days, .ref lh, .ref ll, .ref lr] ∧ H p = some (.ins C dx []) ∧ RowsAt H lh th (y.hs.map hv) ∧ RowsAt H ll tl (y.ls.map rv) ∧ RowsAt H lr tr (y.rs.map rv) ∧ y.ok ∧
  ∀ (H' : Hp) (l1 l2 l3 : Addr), H' p = some (.ins C dx (yf y.days l1 l2 l3)) → RowsAt H' l1 th (y.hs.map hv) → RowsAt H' l2 tl (y.ls.map rv) → RowsAt H' l3 tr (y.rs.map rv) → H l1 = none → H l2 = none → H l3 = none → (∀ b o, H b = some o → b ≠ p → H' b = some o) → Q .non H'
def spYN (C : Addr) : Sp := fun vs H Q _ => ∃ (p : Addr) (y : Yr), vs = [.ref p] ∧ YearAt C [] H p y ∧ y.hs.length ≤ 8 ∧ ∀ q, H q = none → Q (.ref q) (upd H q (.lst ((nms y.hs).map V.str)))
def spYA (C : Addr) : Sp := fun vs H Q _ => ∃ (p : Addr) (y : Yr) (x : Str), vs = [.ref p, .str x] ∧ YearAt C [] H p y ∧ VH y.hs ∧ x ∈ nms y.hs ∧ Q (.str (up y.hs x)) H
def spYK (C : Addr) : Sp := fun vs H Q _ => ∃ (p : Addr) (y : Yr) (x : Str), vs = [.ref p, .str x] ∧ YearAt C [] H p y ∧ VH y.hs ∧ x ∈ nms y.hs ∧ ∀ q, H q = none → Q (.ref q) (upd H q (.lst ((kn y.hs x).map V.str)))
def spYU (C : Addr) : Sp := fun vs H Q _ => ∃ (p : Addr) (y : Yr) (x : Str), vs = [.ref p, .str x] ∧ YearAt C [] H p y ∧ VH y.hs ∧ x ∈ nms y.hs ∧ ∀ q H', Same H H' → H q = none → H' q = some (.lst ((und y.hs x).map V.str)) → Q (.ref q) H'
theorem yf_no {d : Int} {l1 l2 l3 : Addr} {m : Str} (h1 : m ≠ "days") (h2 : m ≠ "heads") (h3 : m ≠ "limits") (h4 : m ≠ "rules") : (yf d l1 l2 l3).lookup m = none := by
  unfold yf
  simp only [List.lookup, beq_eq_false_iff_ne.mpr h1, beq_eq_false_iff_ne.mpr h2, beq_eq_false_iff_ne.mpr h3, beq_eq_false_iff_ne.mpr h4]
section
variable {P : Program} {w : World} {K : PySem.W.Frag} {mg : Str → Option Value} {base : Heap} {C : Addr}
abbrev nYI : List Str := ["self", "days", "heads", "limits", "rules", "names", "row"]
theorem scYI : FnScope nYI ["self", "days", "heads", "limits", "rules"] (defScope sYI) := ⟨rfl, rfl, rfl, by decide +kernel, rfl, by decide +kernel, by decide +kernel⟩
theorem c_year (B : Base K mg) (T : YearF K mg C) (Wh : Cal P w K mg base 1 "is_whole" spWhole) (Hs : Cal P w K mg base 2 "are_heads" spHeadsP) (Li : Cal P w K mg base 3 "are_limits" spLimitsP) (Ru : Cal P w K mg base 3 "are_rules" spRulesP)
    (D : InitT K C "Year.__init__" sYI ["self", "days", "heads", "limits", "rules"]) : MakT P w K mg base 4 "Year" C (spYear C) := by
  obtain ⟨tD, hD⟩ := B.mostD
  obtain ⟨f, fd, M, F, b⟩ := D.ex
  refine ⟨f, fd, _, M, F.ok scYI (fun vs H Q E h => ?_) (fun cdv A outer s H vs Q E hr h => ?_), T.mgC, b⟩
  · obtain ⟨p, dx, lh, ll, lr, th, tl, tr, y, rfl, _⟩ := h
    rfl
  · obtain ⟨p, dx, lh, ll, lr, th, tl, tr, y, rfl, hp, r1, r2, r3, ok, k⟩ := h
    have hz : sizeLine = 16777216 := by decide
    have thl : th.length = y.hs.length := by rw [r1.len, List.length_map]
    have h8 := ok.h.l8
    refine ⟨_, pss_cons (ps_if (pt_not (pt_val (pe_cl Wh hr (by decide) (by rfl) (pa_cons (pv 1) (pa_cons pe_int (pa_cons (pe_glob (v := .int 30) rfl hD ⟨_, rfl⟩) pa_nil)))))) (pss_one ps_never) pss_nil)
      (pss_cons (ps_if (pt_not (pt_val (pe_cl Hs hr (by decide) (by rfl) (pa_cons (pv 2) pa_nil)))) (pss_one ps_never) pss_nil)
      (pss_cons (ps_setLc (i := 5) (own := [("row", 6)]) (g := gName 6) (tt := tYes) (te := tOp (rIxT K) (tVar 6) (tC (.int 0))) rfl scYI.nd rfl rfl (sw_true rfl rfl rfl (by decide +kernel)) (pi_list (pv 2)) (blkOk_by (N := nYI) (sc := defScope sYI) (by decide +kernel))
        (fun _ _ _ _ _ => pg_name (i := 6) scYI.nd rfl (Or.inl rfl)) (fun _ _ _ _ _ => pts_nil) (fun _ _ _ _ _ => pe_ix ix_tup (pv 6) pe_int (fun _ _ => rfl)))
      (pss_cons (ps_if (pt_not (pt_val (pe_cl Li hr (by decide) (by rfl) (pa_cons (pv 3) (pa_cons (pv 1) (pa_cons (pv 5) pa_nil)))))) (pss_one ps_never) pss_nil)
      (pss_cons (ps_if (pt_not (pt_val (pe_cl Ru hr (by decide) (by rfl) (pa_cons (pv 4) (pa_cons (pv 1) (pa_cons (pv 5) pa_nil)))))) (pss_one ps_never) pss_nil)
      (pss_cons (ps_fld (pv 0) (pv 1) rfl)
      (pss_cons (ps_fld (pv 0) (pe_callTy call_list_of (by rfl) B.list (by decide +kernel) (pa_cons (pv 2) pa_nil)) rfl)
      (pss_cons (ps_fld (pv 0) (pe_callTy call_list_of (by rfl) B.list (by decide +kernel) (pa_cons (pv 3) pa_nil)) rfl)
      (pss_one (ps_fld (pv 0) (pe_callTy call_list_of (by rfl) B.list (by decide +kernel) (pa_cons (pv 4) pa_nil)) rfl))))))))), ?_⟩
    refine ⟨_, rfl, _, _, _, rfl, _, rfl, ?_⟩
    rw [decide_eq_true ok.d]
    refine iteF ⟨_, rfl, lh, th, y.hs, rfl, r1, ok.h, fun H1 s1 => ⟨_, rfl, iteF ?_⟩⟩
    have r1' := r1.same s1
    refine ⟨_, rfl, lh, rfl, ⟨_, SqL.of r1'.1⟩, fun D2 hD2 => lc_it (walk_list (xs := th.map V.ref)) (fun i H' => H' = upd H1 D2 (.lst (((nms y.hs).take i).map V.str))) rfl (fun i H' _ e => by rw [e]; exact SqL.of (same_new hD2 _ _ r1'.1)) ?_ ?_⟩
    · rintro i v H2 H3 hi rfl ⟨rfl, hv⟩
      obtain ⟨t, r, rfl, hr1, ht, hti⟩ := row_get r1' hv
      refine ⟨rfl, yes (iteT ⟨_, rfl, t, _, 0, .str r.1, rfl, rfl, SqT.of (same_new hD2 _ _ ht), rfl, _, upd_same, ?_, ?_⟩)⟩
      · rw [List.length_map, List.length_take]
        rw [List.length_map, thl] at hi
        omega
      · rw [upd_upd, take_more (nms_get hr1), List.map_append]
        rfl
    · rintro H2 rfl
      have el : (nms y.hs).take (th.map V.ref).length = nms y.hs := List.take_of_length_le (by unfold nms; rw [List.length_map, List.length_map, thl]; exact Nat.le_refl _)
      rw [el]
      have s2 : Same H (upd H1 D2 (.lst ((nms y.hs).map V.str))) := s1.trans (same_new hD2)
      have hn2 : upd H1 D2 (.lst ((nms y.hs).map V.str)) D2 = some (.lst ((nms y.hs).map V.str)) := upd_same
      generalize upd H1 D2 (.lst ((nms y.hs).map V.str)) = H2 at s2 hn2
      refine ⟨_, rfl, _, rfl, _, rfl, ll, D2, tl, y.days, nms y.hs, y.ls, rfl, r2.same s2, hn2, ok.l, ok.l6, fun H3 s3 => ⟨_, rfl, iteF ?_⟩⟩
      have s3' := s2.trans s3
      refine ⟨_, rfl, _, rfl, _, rfl, lr, D2, tr, y.days, nms y.hs, y.rs, rfl, r3.same s3', s3 _ _ hn2, ok.r, ok.r4, (by unfold nms; rw [List.length_map]; exact h8), ok.one, fun H4 s4 => ⟨_, rfl, iteF ?_⟩⟩
      have s5 := s3'.trans s4
      have q1 := r1.same s5
      have q2 := r2.same s5
      have q3 := r3.same s5
      have hp4 := s5 _ _ hp
      have e12 : ("days" : Str) ≠ "heads" := by decide +kernel
      have e13 : ("days" : Str) ≠ "limits" := by decide +kernel
      have e14 : ("days" : Str) ≠ "rules" := by decide +kernel
      have e23 : ("heads" : Str) ≠ "limits" := by decide +kernel
      have e24 : ("heads" : Str) ≠ "rules" := by decide +kernel
      have e34 : ("limits" : Str) ≠ "rules" := by decide +kernel
      have np : ∀ {a : Addr} {o : HO} {H : Hp}, H a = some o → (∀ C dx fs, o ≠ .ins C dx fs) → ∀ {dx fs}, H p = some (.ins C dx fs) → a ≠ p := fun e n _ _ h z => by
        subst z
        rw [e] at h
        exact n _ _ _ (Option.some.inj h)
      refine ⟨_, rfl, _, rfl, p, C, dx, _, rfl, hp4, T.cl, T.nd, (by show 0 < 1000; decide), ?_⟩
      rw [put1]
      have keepP : ∀ {H' : Hp} {o : HO}, (∀ b u, H b = some u → b ≠ p → H' b = some u) → ∀ b u, H b = some u → b ≠ p → upd H' p o b = some u := fun kk b u e hb => by rw [upd_ne hb]; exact kk b u e hb
      have k5 : ∀ b u, H b = some u → b ≠ p → upd H4 p (.ins C dx [("days", .int y.days)]) b = some u := keepP fun b u e _ => s5 b u e
      have lhp : lh ≠ p := np q1.1 (fun _ _ _ z => nomatch z) hp4
      have llp : ll ≠ p := np q2.1 (fun _ _ _ z => nomatch z) hp4
      have lrp : lr ≠ p := np q3.1 (fun _ _ _ z => nomatch z) hp4
      have hp5 : upd H4 p (.ins C dx [("days", .int y.days)]) p = some (.ins C dx [("days", .int y.days)]) := upd_same
      generalize upd H4 p (.ins C dx [("days", .int y.days)]) = H5 at k5 hp5
      refine ⟨_, rfl, lh, _, rfl, .inl (SqL.of (k5 _ _ r1.1 lhp)), fun l1 hl1 => ?_⟩
      have p1 : p ≠ l1 := ne_of_none hp5 hl1
      refine ⟨_, rfl, p, C, dx, _, rfl, (by rw [upd_ne p1]; exact hp5), T.cl, T.nh, (by show 1 < 1000; decide), ?_⟩
      rw [put2 e12]
      have n1 : H l1 = none := by
        cases z : H l1 with
        | none => rfl
        | some o => have := k5 _ _ z p1.symm; rw [hl1] at this; cases this
      have k6 : ∀ b u, H b = some u → b ≠ p → upd (upd H5 l1 (.lst (th.map V.ref))) p (.ins C dx [("days", .int y.days), ("heads", .ref l1)]) b = some u := keepP fun b u e hb => by
        rw [upd_ne (ne_of_none e n1)]; exact k5 b u e hb
      have hp6 : upd (upd H5 l1 (.lst (th.map V.ref))) p (.ins C dx [("days", .int y.days), ("heads", .ref l1)]) p = some (.ins C dx [("days", .int y.days), ("heads", .ref l1)]) := upd_same
      have g1 : upd (upd H5 l1 (.lst (th.map V.ref))) p (.ins C dx [("days", .int y.days), ("heads", .ref l1)]) l1 = some (.lst (th.map V.ref)) := by rw [upd_ne p1.symm]; exact upd_same
      generalize upd (upd H5 l1 (.lst (th.map V.ref))) p (.ins C dx [("days", .int y.days), ("heads", .ref l1)]) = H6 at k6 hp6 g1
      refine ⟨_, rfl, ll, _, rfl, .inl (SqL.of (k6 _ _ r2.1 llp)), fun l2 hl2 => ?_⟩
      have p2 : p ≠ l2 := ne_of_none hp6 hl2
      have l12 : l1 ≠ l2 := ne_of_none g1 hl2
      refine ⟨_, rfl, p, C, dx, _, rfl, (by rw [upd_ne p2]; exact hp6), T.cl, T.nl, (by show 2 < 1000; decide), ?_⟩
      rw [put3 e13 e23]
      have n2 : H l2 = none := by
        cases z : H l2 with
        | none => rfl
        | some o => have := k6 _ _ z p2.symm; rw [hl2] at this; cases this
      have k7 : ∀ b u, H b = some u → b ≠ p → upd (upd H6 l2 (.lst (tl.map V.ref))) p (.ins C dx [("days", .int y.days), ("heads", .ref l1), ("limits", .ref l2)]) b = some u := keepP fun b u e hb => by
        rw [upd_ne (ne_of_none e n2)]; exact k6 b u e hb
      have hp7 : upd (upd H6 l2 (.lst (tl.map V.ref))) p (.ins C dx [("days", .int y.days), ("heads", .ref l1), ("limits", .ref l2)]) p = some (.ins C dx [("days", .int y.days), ("heads", .ref l1), ("limits", .ref l2)]) := upd_same
      have g2 : upd (upd H6 l2 (.lst (tl.map V.ref))) p (.ins C dx [("days", .int y.days), ("heads", .ref l1), ("limits", .ref l2)]) l2 = some (.lst (tl.map V.ref)) := by rw [upd_ne p2.symm]; exact upd_same
      have g1' : upd (upd H6 l2 (.lst (tl.map V.ref))) p (.ins C dx [("days", .int y.days), ("heads", .ref l1), ("limits", .ref l2)]) l1 = some (.lst (th.map V.ref)) := by rw [upd_ne p1.symm, upd_ne l12]; exact g1
      generalize upd (upd H6 l2 (.lst (tl.map V.ref))) p (.ins C dx [("days", .int y.days), ("heads", .ref l1), ("limits", .ref l2)]) = H7 at k7 hp7 g2 g1'
      refine ⟨_, rfl, lr, _, rfl, .inl (SqL.of (k7 _ _ r3.1 lrp)), fun l3 hl3 => ?_⟩
      have p3 : p ≠ l3 := ne_of_none hp7 hl3
      refine ⟨_, rfl, p, C, dx, _, rfl, (by rw [upd_ne p3]; exact hp7), T.cl, T.nr, (by show 3 < 1000; decide), ?_⟩
      rw [put4 e14 e24 e34]
      have n3 : H l3 = none := by
        cases z : H l3 with
        | none => rfl
        | some o => have := k7 _ _ z p3.symm; rw [hl3] at this; cases this
      have k8 : ∀ b u, H b = some u → b ≠ p → upd (upd H7 l3 (.lst (tr.map V.ref))) p (.ins C dx [("days", .int y.days), ("heads", .ref l1), ("limits", .ref l2), ("rules", .ref l3)]) b = some u := keepP fun b u e hb => by
        rw [upd_ne (ne_of_none e n3)]; exact k7 b u e hb
      have tk : ∀ b r, H b = some (.tup r) → upd (upd H7 l3 (.lst (tr.map V.ref))) p (.ins C dx [("days", .int y.days), ("heads", .ref l1), ("limits", .ref l2), ("rules", .ref l3)]) b = some (.tup r) := fun b r e => k8 b _ e (np e (fun _ _ _ z => nomatch z) hp)
      refine k _ l1 l2 l3 upd_same ⟨?_, paired_mono tk r1.2⟩ ⟨?_, paired_mono tk r2.2⟩ ⟨?_, paired_mono tk r3.2⟩ n1 n2 n3 k8
      · rw [upd_ne p1.symm, upd_ne (ne_of_none g1' hl3)]; exact g1'
      · rw [upd_ne p2.symm, upd_ne (ne_of_none g2 hl3)]; exact g2
      · rw [upd_ne p3.symm]; exact upd_same
end
end KP
namespace KP
open PySem L2
section
variable {P : Program} {w : World} {K : PySem.W.Frag} {mg : Str → Option Value} {base : Heap} {C : Addr}
theorem scYN : FnScope ["self", "row"] ["self"] (defScope sYN) := ⟨rfl, rfl, rfl, by decide +kernel, rfl, by decide +kernel, by decide +kernel⟩
theorem c_yn (T : YearF K mg C) (D : MethT K C "names" "Year.names" sYN ["self"]) : MetT P w K mg base 1 C "names" (spYN C) := by
  obtain ⟨f, fd, M, F, b⟩ := D.ex
  refine ⟨f, fd, _, T.cl, M, F.ok scYN (fun vs H Q E h => ?_) (fun cdv A outer s H vs Q E hr h => ?_), b⟩
  · obtain ⟨p, y, rfl, _⟩ := h
    rfl
  · obtain ⟨p, y, rfl, hy, h8, k⟩ := h
    obtain ⟨dx, l1, l2, l3, t1, t2, t3, hp, r1, r2, r3, _⟩ := hy.ex
    have hz : sizeLine = 16777216 := by decide
    have thl : t1.length = y.hs.length := by rw [r1.len, List.length_map]
    refine ⟨_, pss_one (ps_ret (pe_lc (own := [("row", 1)]) (g := gName 1) (tt := tYes) (te := tOp (rIxT K) (tVar 1) (tC (.int 0))) rfl scYN.nd (pi_list (pe_fld (pv 0) rfl)) (blkOk_by (N := ["self", "row"]) (sc := defScope sYN) (by decide +kernel))
        (fun _ _ _ _ _ => pg_name (i := 1) scYN.nd rfl (Or.inl rfl)) (fun _ _ _ _ _ => pts_nil) (fun _ _ _ _ _ => pe_ix ix_tup (pv 1) pe_int (fun _ _ => rfl)))), ?_⟩
    refine ⟨_, rfl, p, C, dx, _, _, rfl, hp, T.cl, T.nh, rfl, l1, rfl, ⟨_, SqL.of r1.1⟩, fun D2 hD2 => lc_it (walk_list (xs := t1.map V.ref)) (fun i H' => H' = upd H D2 (.lst (((nms y.hs).take i).map V.str))) rfl (fun i H' _ e => by rw [e]; exact SqL.of (same_new hD2 _ _ r1.1)) ?_ ?_⟩
    · rintro i v H2 H3 hi rfl ⟨rfl, hv⟩
      obtain ⟨t, r, rfl, hr1, ht, hti⟩ := row_get r1 hv
      refine ⟨rfl, yes (iteT ⟨_, rfl, t, _, 0, .str r.1, rfl, rfl, SqT.of (same_new hD2 _ _ ht), rfl, _, upd_same, ?_, ?_⟩)⟩
      · rw [List.length_map, List.length_take]
        rw [List.length_map, thl] at hi
        omega
      · rw [upd_upd, take_more (nms_get hr1), List.map_append]
        rfl
    · rintro H2 rfl
      have el : (nms y.hs).take (t1.map V.ref).length = nms y.hs := List.take_of_length_le (by unfold nms; rw [List.length_map, List.length_map, thl]; exact Nat.le_refl _)
      rw [el]
      exact k D2 hD2
theorem scYA : FnScope ["self", "name", "head", "upper"] ["self", "name"] (defScope sYA) := ⟨rfl, rfl, rfl, by decide +kernel, rfl, by decide +kernel, by decide +kernel⟩
theorem c_ya (T : YearF K mg C) (D : MethT K C "above" "Year.above" sYA ["self", "name"]) : MetT P w K mg base 1 C "above" (spYA C) := by
  obtain ⟨f, fd, M, F, b⟩ := D.ex
  refine ⟨f, fd, _, T.cl, M, F.ok scYA (fun vs H Q E h => ?_) (fun cdv A outer s H vs Q E hr h => ?_), b⟩
  · obtain ⟨p, y, x, rfl, _⟩ := h
    rfl
  · obtain ⟨p, y, x, rfl, hy, Vh, hx, k⟩ := h
    obtain ⟨dx, l1, l2, l3, t1, t2, t3, hp, r1, r2, r3, _⟩ := hy.ex
    have thl : t1.length = y.hs.length := by rw [r1.len, List.length_map]
    refine ⟨_, pss_cons (ps_for PassesOwn.never rfl (pi_list (pe_fld (pv 0) rfl)) (pg_tup rfl (pgs_cons (pg_name (i := 2) scYA.nd rfl (Or.inl rfl)) (pgs_cons (pg_name (i := 3) scYA.nd rfl (Or.inl rfl)) pgs_nil)))
        (pss_one (ps_if (pt_cmpR op_eq (pv 2) (pv 1) (nomark _)) (pss_one (ps_ret (pv 3))) pss_nil))) (pss_one ps_never), ?_⟩
    refine ⟨_, rfl, p, C, dx, _, _, rfl, hp, T.cl, T.nh, rfl, l1, rfl, ⟨_, SqL.of r1.1⟩, for_list (K := K) (a := l1) (xs := t1.map V.ref) (fun i σ H' => ∃ (v2 v3 : Option V), σ = [some (.ref p), some (.str x), v2, v3] ∧ H' = H ∧ ∀ j, j < i → (nms y.hs)[j]? ≠ some x)
      ⟨none, none, rfl, rfl, fun j hj => absurd hj (Nat.not_lt_zero _)⟩ (fun i σ H' _ ⟨_, _, _, e, _⟩ => by rw [e]; exact SqL.of r1.1) ?_ ?_⟩
    · rintro i v σ H1 hi ⟨v2, v3, rfl, rfl, hj⟩
      obtain ⟨t, r, rfl, hr1, ht, hti⟩ := row_get r1 hi
      refine ⟨t, _, rfl, SqT.of ht, rfl, _, _, rfl, _, _, rfl, rfl, ?_⟩
      refine ⟨_, rfl, _, rfl, rfl, _, rfl, ite2 (fun c => ?_) (fun c => ?_)⟩
      · have e : r.1 = x := by have := of_decide_eq_true c; injection this
        have e2 := up_at Vh.nd hr1
        rw [e] at e2
        rw [e2] at k
        exact ⟨_, rfl, k⟩
      · refine ⟨_, _, rfl, rfl, fun j hji => ?_⟩
        by_cases hje : j = i
        · subst hje
          rw [nms_get hr1]
          intro z
          exact c (decide_eq_true (by rw [Option.some.inj z]))
        · exact hj j (by omega)
    · rintro σ H1 ⟨v2, v3, rfl, rfl, hj⟩
      obtain ⟨i, hi⟩ := List.mem_iff_getElem?.mp hx
      have hlt := (List.getElem?_eq_some_iff.mp hi).1
      exact absurd hi (hj i (by unfold nms at hlt; rw [List.length_map] at hlt ⊢; omega))
theorem scYK : FnScope ["self", "name", "upper", "found"] ["self", "name"] (defScope sYK) := ⟨rfl, rfl, rfl, by decide +kernel, rfl, by decide +kernel, by decide +kernel⟩
theorem c_yk (T : YearF K mg C) (Ab : MetT P w K mg base 1 C "above" (spYA C)) (D : MethT K C "knots" "Year.knots" sYK ["self", "name"]) : MetT P w K mg base 2 C "knots" (spYK C) := by
  obtain ⟨f, fd, M, F, b⟩ := D.ex
  refine ⟨f, fd, _, T.cl, M, F.ok scYK (fun vs H Q E h => ?_) (fun cdv A outer s H vs Q E hr h => ?_), b⟩
  · obtain ⟨p, y, x, rfl, _⟩ := h
    rfl
  · obtain ⟨p, y, x, rfl, hy, Vh, hx, k⟩ := h
    obtain ⟨dx, l1, l2, l3, t1, t2, t3, hp, _⟩ := hy.ex
    have hz : sizeLine = 16777216 := by decide
    have nf : (yf y.days l1 l2 l3).lookup ("above" : Str) = none := yf_no (by decide +kernel) (by decide +kernel) (by decide +kernel) (by decide +kernel)
    refine ⟨_, pss_cons (ps_set (i := 2) scYK.nd rfl (Or.inl rfl) (pe_mtT Ab hr (by decide) (pv 0) (pa_cons (pv 1) pa_nil)))
      (pss_cons (ps_set (i := 3) scYK.nd rfl (Or.inl rfl) (pe_lst (pa_cons (pv 1) pa_nil)))
      (pss_cons (ps_while PassesOwn.never (pt_cmpR op_ne (pv 2) pe_str (nomark _))
        (pss_cons (ps_expr (pe_bm PySem.F.plainAttrs_list PySem.F.slot_list_append PySem.F.type_list_append mt_append (pv 3) (pa_cons (pv 2) pa_nil)))
        (pss_one (ps_set (i := 2) scYK.nd rfl (Or.inl rfl) (pe_mtT Ab hr (by decide) (pv 0) (pa_cons (pv 2) pa_nil))))))
      (pss_one (ps_ret (pv 3))))), ?_⟩
    refine ⟨_, rfl, p, dx, _, rfl, hp, nf, _, rfl, p, y, x, rfl, hy, Vh, hx, ?_⟩
    refine ⟨_, rfl, (by show 1 ≤ sizeLine; decide), fun G hG => ?_⟩
    have hy1 : ∀ xs : List V, YearAt C [] (upd H G (.lst xs)) p y := fun xs => hy.same (same_new hG)
    have hp1 : ∀ xs : List V, (upd H G (.lst xs)) p = some (.ins C dx (yf y.days l1 l2 l3)) := fun xs => same_new hG _ _ hp
    refine while_by (fun σ H' => ∃ (u : Str) (xs : List Str), σ = [some (.ref p), some (.str x), some (.str u), some (.ref G)] ∧ H' = upd H G (.lst (xs.map V.str)) ∧ xs ++ kn y.hs u = kn y.hs x ∧ (u = "" ∨ u ∈ nms y.hs))
      (fun σ _ => match σ with | [_, _, some (.str u), _] => rk y.hs u | _ => 0) ?_ ?_ ?_
    · refine ⟨up y.hs x, [x], rfl, rfl, ?_, (up_ok Vh hx).2⟩
      rw [kn_step Vh hx]; rfl
    · rintro σ H1 ⟨u, xs, rfl, rfl, he, hu⟩
      have hl : xs.length ≤ 8 := by
        have h1 := kn_len Vh x
        rw [← he, List.length_append] at h1
        omega
      refine ⟨_, rfl, rfl, _, rfl, ite2 (fun c => ?_) (fun c => ?_)⟩
      · have une : u ≠ "" := fun z => by rw [z] at c; exact absurd c (by decide +kernel)
        have hm : u ∈ nms y.hs := by
          rcases hu with z | z
          · exact absurd z une
          · exact z
        refine ⟨_, rfl, .inl ⟨rfl, _, SqL.of upd_same⟩, _, rfl, G, _, _, rfl, rfl, upd_same, (by rw [List.length_map]; omega), ?_⟩
        rw [upd_upd]
        refine ⟨_, rfl, p, dx, _, rfl, hp1 _, nf, _, rfl, p, y, u, rfl, hy1 _, Vh, hm, ?_⟩
        refine ⟨⟨up y.hs u, xs ++ [u], rfl, by rw [List.map_append]; rfl, ?_, (up_ok Vh hm).2⟩, (up_ok Vh hm).1⟩
        rw [← he, kn_step Vh hm, List.append_assoc]
        rfl
      · have ue : u = "" := by
          by_cases z : u = ""
          · exact z
          · exfalso
            apply c
            rw [decide_eq_false (fun q : V.str u = V.str "" => z (by injection q))]
            rfl
        subst ue
        rw [kn_nil, List.append_nil] at he
        rw [he]
        exact ⟨_, rfl, k G hG⟩
    · intro σ H1 Q1 Q2 hq h
      obtain ⟨v, e, h1, b, e2, h2⟩ := h
      exact ⟨v, e, h1, b, e2, hq _ _ h2⟩
theorem scYU : FnScope ["self", "name", "head"] ["self", "name"] (defScope sYU) := ⟨rfl, rfl, rfl, by decide +kernel, rfl, by decide +kernel, by decide +kernel⟩
theorem c_yu (T : YearF K mg C) (Ab : MetT P w K mg base 1 C "above" (spYA C)) (Nm : MetT P w K mg base 1 C "names" (spYN C)) (Kn : MetT P w K mg base 2 C "knots" (spYK C)) (D : MethT K C "under" "Year.under" sYU ["self", "name"]) : MetT P w K mg base 3 C "under" (spYU C) := by
  obtain ⟨f, fd, M, F, b⟩ := D.ex
  refine ⟨f, fd, _, T.cl, M, F.ok scYU (fun vs H Q E h => ?_) (fun cdv A outer s H vs Q E hr h => ?_), b⟩
  · obtain ⟨p, y, x, rfl, _⟩ := h
    rfl
  · obtain ⟨p, y, x, rfl, hy, Vh, hx, k⟩ := h
    obtain ⟨dx, l1, l2, l3, t1, t2, t3, hp, _⟩ := hy.ex
    have hz : sizeLine = 16777216 := by decide
    have nf1 : (yf y.days l1 l2 l3).lookup ("above" : Str) = none := yf_no (by decide +kernel) (by decide +kernel) (by decide +kernel) (by decide +kernel)
    have nf2 : (yf y.days l1 l2 l3).lookup ("names" : Str) = none := yf_no (by decide +kernel) (by decide +kernel) (by decide +kernel) (by decide +kernel)
    have nf3 : (yf y.days l1 l2 l3).lookup ("knots" : Str) = none := yf_no (by decide +kernel) (by decide +kernel) (by decide +kernel) (by decide +kernel)
    refine ⟨_, pss_cons (ps_expr (pe_mtT Ab hr (by decide) (pv 0) (pa_cons (pv 1) pa_nil)))
      (pss_one (ps_ret (pe_lc (own := [("head", 2)]) (g := gName 2) (tt := tTest (tOp (rIn K false) (tVar 1) (tMeth C "knots" (spYK C) [] E0 (tVar 0) (tCons (tVar 2) tNil)))) rfl scYU.nd (pi_list (pe_mtT0 Nm hr (by decide) (pv 0))) (blkOk_by (N := ["self", "name", "head"]) (sc := defScope sYU) (by decide +kernel))
        (fun _ _ _ _ _ => pg_name (i := 2) scYU.nd rfl (Or.inl rfl)) (fun _ _ _ _ _ => pts_one (pt_cmpR op_in_seq (pv 1) (pe_mtT Kn hr (by decide) (pv 0) (pa_cons (pv 2) pa_nil)) rfl)) (fun _ _ _ _ _ => pv 2)))), ?_⟩
    refine ⟨_, rfl, p, dx, _, rfl, hp, nf1, _, rfl, p, y, x, rfl, hy, Vh, hx, ?_⟩
    refine ⟨_, rfl, p, dx, _, rfl, hp, nf2, p, y, rfl, hy, Vh.l8, fun q hq => ?_⟩
    have sq : Same H (upd H q (.lst ((nms y.hs).map V.str))) := same_new hq
    have hq1 : upd H q (.lst ((nms y.hs).map V.str)) q = some (.lst ((nms y.hs).map V.str)) := upd_same
    generalize upd H q (.lst ((nms y.hs).map V.str)) = H1 at sq hq1
    refine ⟨q, rfl, ⟨_, SqL.of hq1⟩, fun D2 hD2 => lc_it (walk_list (xs := (nms y.hs).map V.str)) (fun i H' => Same H1 H' ∧ H' D2 = some (.lst ((((nms y.hs).take i).filter fun h => decide (x ∈ kn y.hs h)).map V.str))) ⟨same_new hD2, upd_same⟩ (fun i H' _ e => SqL.of (e.1 _ _ hq1)) ?_ ?_⟩
    · rintro i v H2 H3 hi ⟨s2, d2⟩ ⟨rfl, hv⟩
      obtain ⟨z, hz2, rfl⟩ : ∃ z, (nms y.hs)[i]? = some z ∧ v = V.str z := by
        rw [List.getElem?_map] at hv
        cases e : (nms y.hs)[i]? with
        | none => rw [e] at hv; cases hv
        | some z => rw [e] at hv; exact ⟨z, rfl, (Option.some.inj hv).symm⟩
      have hzm : z ∈ nms y.hs := List.mem_of_getElem? hz2
      have hi8 : i < 8 := by
        have h8 := Vh.l8
        rw [List.length_map] at hi
        unfold nms at hi
        rw [List.length_map] at hi
        omega
      have s3 := sq.trans s2
      refine ⟨rfl, _, rfl, _, rfl, p, dx, _, rfl, s3 _ _ hp, nf3, _, rfl, p, y, z, rfl, hy.same s3, Vh, hzm, fun u hu => ?_⟩
      have sm : Same H1 (upd H3 u (.lst ((kn y.hs z).map V.str))) := s2.trans (same_new hu)
      have d3 : upd H3 u (.lst ((kn y.hs z).map V.str)) D2 = some (.lst ((((nms y.hs).take i).filter fun h => decide (x ∈ kn y.hs h)).map V.str)) := same_new hu _ _ d2
      refine ⟨u, _, rfl, .inl (SqL.of upd_same), rfl, flat_strs, _, rfl, ?_⟩
      show if (inV (.str x) ((kn y.hs z).map V.str)) = true then _ else _
      rw [inV_str]
      have et := take_more hz2
      refine ite2 (fun c => ?_) (fun c => ?_)
      · refine ⟨_, rfl, _, d3, ?_, ?_, ?_⟩
        · have h1 : (((nms y.hs).take i).filter fun h => decide (x ∈ kn y.hs h)).length ≤ ((nms y.hs).take i).length := List.length_filter_le _ _
          rw [List.length_map]
          rw [List.length_take] at h1
          omega
        · intro b o e
          rw [upd_ne (ne_of_none e hD2)]
          exact sm _ _ e
        · rw [upd_same, et, List.filter_append, List.map_append, List.filter_cons, if_pos c]
          rfl
      · refine ⟨sm, ?_⟩
        rw [d3, et, List.filter_append, List.filter_cons, if_neg c]
        simp
    · rintro H2 ⟨s2, d2⟩
      rw [List.length_map, List.take_length] at d2
      exact k D2 H2 (sq.trans s2) (sq.free hD2) d2
end
end KP
namespace KP
open PySem L2
theorem cut_take {xs : List V} {k : Int} (h : 0 ≤ k) : cutV xs none (some k) = xs.take k.toNat := by
  obtain ⟨j, rfl⟩ : ∃ j : Nat, k = (j : Int) := ⟨k.toNat, by omega⟩
  unfold cutV
  rw [HT.sIx_none, HT.sIx_nat, List.drop_zero, Nat.sub_zero, Int.toNat_natCast]
  by_cases hj : j ≤ xs.length
  · rw [Nat.min_eq_left hj]
  · rw [Nat.min_eq_right (by omega), List.take_of_length_le (Nat.le_refl _), List.take_of_length_le (by omega)]
theorem free_ofB {a q : Addr} {H H1 : Hp} (w : WellAt H1 a) (s : SameB a H H1) (h : H1 q = none) : H q = none := by
  cases e : H q with
  | none => rfl
  | some o =>
    by_cases hq : q = a
    · subst hq
      obtain ⟨x, y, z, e1⟩ := w
      rw [h] at e1; cases e1
    · have := s q o e hq
      rw [h] at this; cases this
theorem paired_B {a : Addr} {H H' : Hp} {x y z : Int} (hw : H a = some (.lst [.int x, .int y, .int z])) (s : SameB a H H') {ts : List Addr} {rows : List (List V)} (p : Paired (fun t r => H t = some (.tup r)) ts rows) : Paired (fun t r => H' t = some (.tup r)) ts rows :=
  paired_mono (fun b r e => s b _ e (ne_of e hw (fun z => nomatch z))) p
theorem RowsAt.keepB {a : Addr} {H H' : Hp} {l : Addr} {ts : List Addr} {rows : List (List V)} (h : RowsAt H l ts rows) (wl : WellAt H a) (s : SameB a H H') (hl : l ≠ a) : RowsAt H' l ts rows := by
  obtain ⟨x, y, z, hw⟩ := wl
  exact ⟨s _ _ h.1 hl, paired_B hw s h.2⟩
abbrev sLHeads : Stmt := top 31
abbrev sLLimits : Stmt := top 32
abbrev sLRules : Stmt := top 33
abbrev sLParts : Stmt := top 34
def spLHeads : Sp := fun vs H Q _ => ∃ a : Addr, vs = [.ref a] ∧ WellAt H a ∧ ∀ (q : Addr) (ts : List Addr) (hs : List Hd) (H' : Hp), VH hs → RowsAt H' q ts (hs.map hv) → H q = none → WellAt H' a → SameB a H H' → Q (.ref q) H'
def spLLimits : Sp := fun vs H Q _ => ∃ (a lh : Addr) (th : List Addr) (hs : List Hd) (d : Int), vs = [.ref a, .ref lh, .int d] ∧ WellAt H a ∧ RowsAt H lh th (hs.map hv) ∧ lh ≠ a ∧ VH hs ∧ 1 ≤ d ∧ d ≤ 30 ∧
  ∀ (q : Addr) (ts : List Addr) (ls : List Rw4) (H' : Hp), (∀ r ∈ ls, LimOk d (nms hs) r) → ls.length ≤ 6 → RowsAt H' q ts (ls.map rv) → H q = none → WellAt H' a → SameB a H H' → Q (.ref q) H'
section
variable {P : Program} {w : World} {K : PySem.W.Frag} {mg : Str → Option Value} {base : Heap}
abbrev nLHeads : List Str := ["_law_well_here", "_law_names_here", "_law_found", "_law_k"]
theorem scLHeads : FnScope nLHeads ["_law_well_here"] (defScope sLHeads) := ⟨rfl, rfl, rfl, by decide +kernel, rfl, by decide +kernel, by decide +kernel⟩
theorem c_lheads (B : Base K mg) (Dr : Cal P w K mg base 1 "_law_draw" spDraw) (Ns : Cal P w K mg base 3 "_law_names" spNames) (D : DefT K mg "_law_heads" sLHeads ["_law_well_here"]) : Cal P w K mg base 4 "_law_heads" spLHeads := by
  refine cal D scLHeads (fun vs H Q E h => ?_) (fun f cdv A outer s H vs Q E hr h => ?_)
  · obtain ⟨a, rfl, _⟩ := h
    rfl
  · obtain ⟨a, rfl, ha, k⟩ := h
    have hz : sizeLine = 16777216 := by decide
    refine ⟨_, pss_cons (ps_set (i := 1) scLHeads.nd rfl (Or.inl rfl) (pe_cl Ns hr (by decide) (by rfl) (pa_cons (pv 0) (pa_cons (pe_ix ix_list (pe_lst (pa_cons (pe_op op_add pe_int (pe_cl Dr hr (by decide) (by rfl) (pa_cons (pv 0) (pa_cons pe_int pa_nil)))) (pa_cons pe_int pa_nil)))
        (pe_op op_fdiv (pe_cl Dr hr (by decide) (by rfl) (pa_cons (pv 0) (pa_cons pe_int pa_nil))) pe_int) (fun _ _ => rfl)) pa_nil))))
      (pss_cons (ps_set (i := 2) scLHeads.nd rfl (Or.inl rfl) (pe_lst pa_nil))
      (pss_cons (ps_for PassesOwn.never rfl (pi_range1 (by rfl) B.range (pa_cons (pe_callB call_len_seq (by rfl) B.len PySem.boot_len (pa_cons (pv 1) pa_nil)) pa_nil)) (pg_name (i := 3) scLHeads.nd rfl (Or.inl rfl))
        (pss_one (ps_expr (pe_bm PySem.F.plainAttrs_list PySem.F.slot_list_append PySem.F.type_list_append mt_append (pv 2) (pa_cons (pe_tup (pa_cons (pe_ix ix_list (pv 1) (pv 3) (fun _ _ => rfl))
          (pa_cons (pe_ix ix_list (pe_op op_cat (pe_lst (pa_cons pe_str pa_nil)) (pe_slice sl_list (pv 1) po_none (po_some (pv 3)))) (pe_cl Dr hr (by decide) (by rfl) (pa_cons (pv 0) (pa_cons (pe_op op_add (pv 3) pe_int) pa_nil))) (fun _ _ => rfl)) pa_nil))) pa_nil)))))
      (pss_one (ps_ret (pv 2))))), ?_⟩
    refine ⟨_, rfl, _, rfl, a, 8, rfl, ha, by decide, by decide, fun r1 H1 r10 r11 w1 s1 => ⟨_, _, rfl, rfl, (by show 2 ≤ sizeLine; decide), fun l hl => ?_⟩⟩
    refine ⟨_, rfl, a, 4, rfl, w1.new hl, by decide, by decide, fun r2 H2 r20 r21 w2 s2 => ⟨_, _, rfl, rfl, ⟨by decide, by decide⟩, ?_⟩⟩
    have hl2 := s2 l _ upd_same (w1.ne hl).symm
    have s2' : SameB a H H2 := (s1.trans (SameB.of (same_new hl))).trans s2
    obtain ⟨m, hm, hat⟩ : ∃ m : Nat, (1 ≤ m ∧ m ≤ 8) ∧ atI [V.int (1 + r1), V.int 8] (r2 / 3) = some (.int (m : Int)) := by
      rcases (by omega : r2 / 3 = 0 ∨ r2 / 3 = 1) with e | e
      · rw [e]; exact ⟨(1 + r1).toNat, by omega, by rw [show (((1 + r1).toNat : Nat) : Int) = 1 + r1 by omega]; rfl⟩
      · rw [e]; exact ⟨8, by omega, rfl⟩
    refine ⟨l, _, _, _, rfl, rfl, SqL.of hl2, hat, a, m, rfl, w2, hm.2, fun p xs H3 xl xw xn np hp w3 s3 => ?_⟩
    have s3' : SameB a H H3 := s2'.trans s3
    refine ⟨(by show 0 ≤ sizeLine; decide), fun G hG => ?_⟩
    have aG : a ≠ G := w3.ne hG
    have pa : p ≠ a := fun z => by subst z; obtain ⟨_, _, _, e⟩ := w2; rw [np] at e; cases e
    have pG : p ≠ G := ne_of_none hp hG
    refine ⟨_, rfl, p, _, rfl, .inl (SqL.of (same_new hG _ _ hp)), _, rfl, by omega, by rw [List.length_map]; omega, for_range (lo := 0) (n := (((xs.map V.str).length : Nat) : Int).toNat)
      (fun i σ H' => ∃ (v3 : Option V) (ts : List Addr) (hs : List Hd), σ = [some (.ref a), some (.ref p), some (.ref G), v3] ∧ hs.length = i ∧ nms hs = xs.take i ∧ (∀ (j : Nat) (r : Hd), hs[j]? = some r → r.2 = "" ∨ ∃ j', j' < j ∧ xs[j']? = some r.2) ∧ RowsAt H' G ts (hs.map hv) ∧ H' p = some (.lst (xs.map V.str)) ∧ WellAt H' a ∧ SameB a H H')
      ⟨none, [], [], rfl, rfl, rfl, (fun j r h => by simp at h), ⟨upd_same, .nil⟩, same_new hG _ _ hp, w3.new hG, s3'.trans (SameB.of (same_new hG))⟩ ?_ ?_⟩
    · rintro i σ H4 hi ⟨v3, ts, hs, rfl, hlen, hnm, hup, R, hp4, w4, s4⟩
      rw [List.length_map, Int.toNat_natCast] at hi
      have tl : ts.length = i := by rw [R.len, List.length_map, hlen]
      obtain ⟨x, hx⟩ : ∃ x, xs[i]? = some x := ⟨xs[i], List.getElem?_eq_getElem hi⟩
      have hat1 : atI (xs.map V.str) (0 + (i : Int)) = some (.str x) := at_of (j := i) (by omega) (by rw [List.getElem?_map, hx]; rfl)
      refine ⟨_, rfl, .inl ⟨rfl, _, SqL.of R.1⟩, _, rfl, _, rfl, p, _, _, _, rfl, rfl, SqL.of hp4, hat1, (by show 1 ≤ sizeLine; decide), fun l1 hl1 => ?_⟩
      refine ⟨_, rfl, _, rfl, _, rfl, p, _, rfl, SqL.of (same_new hl1 _ _ hp4), fun l2 hl2 => ?_⟩
      have ecut : cutV (xs.map V.str) none (some (0 + (i : Int))) = (xs.take i).map V.str := by
        rw [cut_take (by omega), List.map_take]
        congr 1
        omega
      rw [ecut]
      have l12 : l1 ≠ l2 := ne_of_none upd_same hl2
      refine ⟨l1, l2, _, _, rfl, rfl, (by rw [upd_ne l12]; exact upd_same), upd_same, (by rw [List.length_map, List.length_take]; show 1 + _ ≤ _; omega), fun l3 hl3 => ?_⟩
      have hp5 := same_new (o := .lst ([V.str ""] ++ (xs.take i).map V.str)) hl3 _ _ (same_new (o := .lst ((xs.take i).map V.str)) hl2 _ _ (same_new (o := .lst [V.str ""]) hl1 _ _ hp4))
      have w5 := ((w4.new (o := .lst [V.str ""]) hl1).new (o := .lst ((xs.take i).map V.str)) hl2).new (o := .lst ([V.str ""] ++ (xs.take i).map V.str)) hl3
      have sm5 : Same H4 _ := ((same_new (o := .lst [V.str ""]) hl1).trans (same_new (o := .lst ((xs.take i).map V.str)) hl2)).trans (same_new (o := .lst ([V.str ""] ++ (xs.take i).map V.str)) hl3)
      have hl5 : upd (upd (upd H4 l1 (.lst [V.str ""])) l2 (.lst ((xs.take i).map V.str))) l3 (.lst ([V.str ""] ++ (xs.take i).map V.str)) l3 = some (.lst ([V.str ""] ++ (xs.take i).map V.str)) := upd_same
      generalize upd (upd (upd H4 l1 (.lst [V.str ""])) l2 (.lst ((xs.take i).map V.str))) l3 (.lst ([V.str ""] ++ (xs.take i).map V.str)) = H5 at hp5 w5 sm5 hl5
      refine ⟨_, rfl, _, rfl, _, _, rfl, rfl, a, _, rfl, w5, (by omega), (by omega), fun r3 H6 r30 r31 w6 s6 => ?_⟩
      have l3a : l3 ≠ a := fun z => by subst z; obtain ⟨_, _, _, e⟩ := w5; rw [hl5] at e; injection e with e; injection e with e; simp at e
      have hl6 := s6 _ _ hl5 l3a
      obtain ⟨v, hvat, hvm⟩ : ∃ v, atI ([V.str ""] ++ (xs.take i).map V.str) r3 = some (.str v) ∧ (v = "" ∨ ∃ j', j' < i ∧ xs[j']? = some v) := by
        obtain ⟨j, rfl⟩ : ∃ j : Nat, r3 = (j : Int) := ⟨r3.toNat, by omega⟩
        cases j with
        | zero => exact ⟨"", atI_nat (j := 0) rfl, .inl rfl⟩
        | succ j =>
          have hj : j < i := by omega
          obtain ⟨v, hv⟩ : ∃ v, xs[j]? = some v := ⟨xs[j], List.getElem?_eq_getElem (by omega)⟩
          refine ⟨v, atI_nat (j := j + 1) ?_, .inr ⟨j, hj, hv⟩⟩
          show ((xs.take i).map V.str)[j]? = some (.str v)
          rw [List.getElem?_map, List.getElem?_take, if_pos hj, hv]
          rfl
      refine ⟨l3, _, r3, .str v, rfl, rfl, SqL.of hl6, hvat, (by show 2 ≤ sizeLine; decide), fun t ht => ?_⟩
      have R6 : RowsAt H6 G ts (hs.map hv) := (R.same sm5).keepB w5 s6 aG.symm
      refine ⟨G, _, _, rfl, rfl, same_new ht _ _ R6.1, (by rw [List.length_map]; omega), ?_⟩
      have s7 : SameB a H (upd H6 t (.tup [V.str x, V.str v])) := ((s4.trans (SameB.of sm5)).trans s6).trans (SameB.of (same_new ht))
      have R7 := R6.same (same_new (o := .tup [V.str x, V.str v]) ht)
      have t7 : upd H6 t (.tup [V.str x, V.str v]) t = some (.tup (hv (x, v))) := upd_same
      have w7 := w6.new (o := .tup [V.str x, V.str v]) ht
      have p7 := same_new (o := .tup [V.str x, V.str v]) ht _ _ (s6 _ _ hp5 pa)
      generalize upd H6 t (.tup [V.str x, V.str v]) = H7 at s7 R7 t7 w7 p7
      have tG : t ≠ G := ne_of t7 R7.1 (fun z => nomatch z)
      refine ⟨_, ts ++ [t], hs ++ [(x, v)], rfl, by rw [List.length_append, hlen]; rfl, ?_, ?_, ⟨by rw [upd_same, List.map_append]; rfl, ?_⟩, by rw [upd_ne pG]; exact p7, w7.up aG, ?_⟩
      · unfold nms at hnm ⊢
        rw [List.map_append, hnm, take_more hx]
        rfl
      · intro j r hjr
        by_cases hj : j < hs.length
        · rw [List.getElem?_append_left hj] at hjr
          exact hup j r hjr
        · rw [List.getElem?_append_right (by omega)] at hjr
          have hj0 : j - hs.length = 0 := by
            by_cases h0 : j - hs.length = 0
            · exact h0
            · rw [List.getElem?_eq_none (by simp; omega)] at hjr; cases hjr
          rw [hj0] at hjr
          have e := Option.some.inj hjr
          subst e
          have hji : j = i := by omega
          rcases hvm with e | ⟨j', h1, h2⟩
          · exact .inl e
          · exact .inr ⟨j', by omega, h2⟩
      · rw [List.map_append]
        refine paired_snoc (by rw [upd_ne tG]; exact t7) (paired_mono (fun b r e => ?_) R7.2)
        rw [upd_ne (ne_of e R7.1 (fun z => nomatch z))]
        exact e
      · intro b o e hb
        by_cases hbG : b = G
        · subst hbG
          have q1 := s3' b o e hb
          rw [hG] at q1; cases q1
        · rw [upd_ne hbG]; exact s7 b o e hb
    · rintro σ H4 ⟨v3, ts, hs, rfl, hlen, hnm, hup, R, hp4, w4, s4⟩
      rw [List.length_map, Int.toNat_natCast] at hlen hnm
      rw [List.take_length] at hnm
      refine ⟨_, rfl, k G ts hs H4 ⟨by rw [hnm]; exact xn, by rw [hnm]; exact xw, fun i r h => by rw [hnm]; exact hup i r h, by omega, by omega⟩ R ?_ w4 s4⟩
      exact free_ofB w3 s3' hG
end
end KP
namespace KP
open PySem L2
/-! ### entries as data -/
def okd (v : V) : Prop := (∃ x, v = .str x ∧ PyData.strOk x = true) ∨ ∃ i, v = .int i
def dat : V → PyData
  | .str x => .str x
  | .int i => .int i
  | _ => .none
theorem dp_flat {K : PySem.W.Frag} {H : Hp} : ∀ {vs : List V}, (∀ v ∈ vs, okd v) → DpAll K H vs (vs.map dat)
  | [], _ => .nil
  | v :: vs, h => by
    refine .cons ?_ (dp_flat fun u hu => h u (List.mem_cons_of_mem _ hu))
    rcases h v List.mem_cons_self with ⟨x, rfl, _⟩ | ⟨i, rfl⟩
    · exact .str x
    · exact .int i
theorem lay_flat : ∀ {vs : List V}, (∀ v ∈ vs, okd v) → PyData.canLayAll0 (vs.map dat) = true ∧ PyData.depthAll (vs.map dat) = 0
  | [], _ => ⟨rfl, rfl⟩
  | v :: vs, h => by
    obtain ⟨h1, h2⟩ := lay_flat (vs := vs) fun u hu => h u (List.mem_cons_of_mem _ hu)
    have hv : (dat v).canLay0 = true ∧ (dat v).depth = 0 := by
      rcases h v List.mem_cons_self with ⟨x, rfl, hx⟩ | ⟨i, rfl⟩
      · exact ⟨hx, rfl⟩
      · exact ⟨rfl, rfl⟩
    refine ⟨?_, ?_⟩
    · show ((dat v).canLay0 && PyData.canLayAll0 (vs.map dat)) = true
      rw [hv.1, h1]; rfl
    · show max (dat v).depth (PyData.depthAll (vs.map dat)) = 0
      rw [hv.2, h2]; rfl
theorem shaped_tup {vs : List V} (h : ∀ v ∈ vs, okd v) : SeqAt.shaped (.tuple (vs.map dat)) = true := by
  obtain ⟨h1, h2⟩ := lay_flat h
  have e1 : (PyData.tuple (vs.map dat)).canLay0 = true := h1
  have e2 : (PyData.tuple (vs.map dat)).depth ≤ 64 := by
    show PyData.depthAll (vs.map dat) + 1 ≤ 64
    rw [h2]; decide
  unfold SeqAt.shaped
  rw [e1, decide_eq_true e2]; rfl
theorem eqv_self {d : PyData} (h : SeqAt.shaped d = true) : PyData.eqv d d = true := SeqAt.eqv_refl d (SeqAt.canLay_of_shaped h)

theorem okd_W {x : Str} (h : IsW x) : okd (.str x) := .inl ⟨x, rfl, strOk_W h⟩
theorem okd_I {i : Int} : okd (.int i) := .inr ⟨i, rfl⟩
/-- a list of flat tuples, as data -/
def rowsD (rows : List (List V)) : PyData := .list (rows.map fun r => .tuple (r.map dat))
theorem dp_rowsAll {K : PySem.W.Frag} {H : Hp} : ∀ {ts : List Addr} {rows : List (List V)}, Paired (fun t r => H t = some (.tup r)) ts rows → (∀ r ∈ rows, ∀ v ∈ r, okd v) → DpAll K H (ts.map V.ref) (rows.map fun r => .tuple (r.map dat))
  | _, _, .nil, _ => .nil
  | _, _, .cons a p, h => .cons (.tup (SqT.of a) (dp_flat (h _ List.mem_cons_self))) (dp_rowsAll p fun r hr => h r (List.mem_cons_of_mem _ hr))
theorem lay_rows : ∀ {rows : List (List V)}, (∀ r ∈ rows, ∀ v ∈ r, okd v) → PyData.canLayAll0 (rows.map fun r => .tuple (r.map dat)) = true ∧ PyData.depthAll (rows.map fun r => .tuple (r.map dat)) ≤ 1
  | [], _ => ⟨rfl, Nat.zero_le _⟩
  | r :: rows, h => by
    obtain ⟨h1, h2⟩ := lay_rows (rows := rows) fun u hu => h u (List.mem_cons_of_mem _ hu)
    obtain ⟨g1, g2⟩ := lay_flat (h r List.mem_cons_self)
    refine ⟨?_, ?_⟩
    · show (PyData.canLayAll0 (r.map dat) && PyData.canLayAll0 (rows.map fun r => .tuple (r.map dat))) = true
      rw [g1, h1]; rfl
    · show max (PyData.depthAll (r.map dat) + 1) (PyData.depthAll (rows.map fun r => .tuple (r.map dat))) ≤ 1
      rw [g2]; omega
theorem shaped_rows {rows : List (List V)} (h : ∀ r ∈ rows, ∀ v ∈ r, okd v) : SeqAt.shaped (rowsD rows) = true := by
  obtain ⟨h1, h2⟩ := lay_rows h
  have e1 : (rowsD rows).canLay0 = true := h1
  have e2 : (rowsD rows).depth ≤ 64 := by
    show PyData.depthAll _ + 1 ≤ 64
    omega
  unfold SeqAt.shaped
  rw [e1, decide_eq_true e2]; rfl
theorem rows_ne {rows : List (List V)} (c : (!PyData.eqv (rowsD rows) (.list [])) = true) : 0 < rows.length := by
  cases rows with
  | nil => exact absurd c (by decide +kernel)
  | cons r rows => simp
theorem okd_rv {ns : List Str} {r : Rw4} (hw : ∀ x ∈ ns, IsW x) (h : r.1 ∈ ns) : ∀ v ∈ rv r, okd v := by
  intro v hv
  simp only [rv, List.mem_cons, List.not_mem_nil, or_false] at hv
  rcases hv with rfl | rfl | rfl | rfl
  · exact okd_W (hw _ h)
  · exact okd_I
  · exact okd_I
  · exact okd_I
theorem okd_rvs {ns : List Str} {rs : List Rw4} (hw : ∀ x ∈ ns, IsW x) (h : ∀ r ∈ rs, r.1 ∈ ns) : ∀ r ∈ rs.map rv, ∀ v ∈ r, okd v := by
  intro r hr
  obtain ⟨q, hq, rfl⟩ := List.mem_map.mp hr
  exact okd_rv hw (h q hq)
theorem pick2 {a b r : Int} (h0 : 0 ≤ r) (h1 : r < 4) : ∃ v, atI [V.int a, V.int b] (r / 3) = some (.int v) ∧ (v = a ∨ v = b) := by
  rcases (by omega : r / 3 = 0 ∨ r / 3 = 1) with e | e
  · rw [e]; exact ⟨a, rfl, .inl rfl⟩
  · rw [e]; exact ⟨b, rfl, .inr rfl⟩
section
variable {P : Program} {w : World} {K : PySem.W.Frag} {mg : Str → Option Value} {base : Heap}
abbrev nLLimits : List Str := ["_law_well_here", "_law_heads_here", "_law_days", "_law_found", "_law_k", "_law_first", "_law_last", "_law_most"]
theorem scLLimits : FnScope nLLimits ["_law_well_here", "_law_heads_here", "_law_days"] (defScope sLLimits) := ⟨rfl, rfl, rfl, by decide +kernel, rfl, by decide +kernel, by decide +kernel⟩
theorem c_llimits (B : Base K mg) (Dr : Cal P w K mg base 1 "_law_draw" spDraw) (D : DefT K mg "_law_limits" sLLimits ["_law_well_here", "_law_heads_here", "_law_days"]) : Cal P w K mg base 2 "_law_limits" spLLimits := by
  refine cal D scLLimits (fun vs H Q E h => ?_) (fun f cdv A outer s H vs Q E hr h => ?_)
  · obtain ⟨a, lh, th, hs, d, rfl, _⟩ := h
    rfl
  · obtain ⟨a, lh, th, hs, d, rfl, ha, Rh, lha, Vh, d1, d30, k⟩ := h
    have hz : sizeLine = 16777216 := by decide
    have thl : th.length = hs.length := by rw [Rh.len, List.length_map]
    have h1 := Vh.l1
    have h8 := Vh.l8
    refine ⟨_, pss_cons (ps_set (i := 3) scLLimits.nd rfl (Or.inl rfl) (pe_lst pa_nil))
      (pss_cons (ps_for PassesOwn.never rfl (pi_range1 (by rfl) B.range (pa_cons (pe_ix ix_list (pe_lst (pa_cons (pe_cl Dr hr (by decide) (by rfl) (pa_cons (pv 0) (pa_cons pe_int pa_nil))) (pa_cons pe_int pa_nil))) (pe_op op_fdiv (pe_cl Dr hr (by decide) (by rfl) (pa_cons (pv 0) (pa_cons pe_int pa_nil))) pe_int) (fun _ _ => rfl)) pa_nil)) (pg_name (i := 4) scLLimits.nd rfl (Or.inl rfl))
        (pss_cons (ps_set (i := 5) scLLimits.nd rfl (Or.inl rfl) (pe_op op_add pe_int (pe_cl Dr hr (by decide) (by rfl) (pa_cons (pv 0) (pa_cons (pv 2) pa_nil)))))
        (pss_cons (ps_set (i := 6) scLLimits.nd rfl (Or.inl rfl) (pe_op op_add (pv 5) (pe_cl Dr hr (by decide) (by rfl) (pa_cons (pv 0) (pa_cons (pe_op op_add (pe_op op_sub (pv 2) (pv 5)) pe_int) pa_nil)))))
        (pss_cons (ps_set (i := 7) scLLimits.nd rfl (Or.inl rfl) (pe_ix ix_list (pe_lst (pa_cons pe_int (pa_cons (pe_cl Dr hr (by decide) (by rfl) (pa_cons (pv 0) (pa_cons pe_int pa_nil))) (pa_cons (pe_cl Dr hr (by decide) (by rfl) (pa_cons (pv 0) (pa_cons (pe_op op_add (pe_op op_pow pe_int pe_int) pe_int) pa_nil))) (pa_cons (pe_op op_pow pe_int pe_int) pa_nil)))))
          (pe_cl Dr hr (by decide) (by rfl) (pa_cons (pv 0) (pa_cons pe_int pa_nil))) (fun _ _ => rfl)))
        (pss_one (ps_expr (pe_bm PySem.F.plainAttrs_list PySem.F.slot_list_append PySem.F.type_list_append mt_append (pv 3) (pa_cons (pe_tup (pa_cons (pe_ix ix_tup (pe_ix ix_list (pv 1) (pe_cl Dr hr (by decide) (by rfl) (pa_cons (pv 0) (pa_cons (pe_callB call_len_seq (by rfl) B.len PySem.boot_len (pa_cons (pv 1) pa_nil)) pa_nil))) (fun _ _ => rfl)) pe_int (fun _ _ => rfl))
          (pa_cons (pv 5) (pa_cons (pv 6) (pa_cons (pv 7) pa_nil))))) pa_nil))))))))
      (pss_cons (ps_if (PW.pt (pw_and (pt_cmpR (op_neD hr.units) (pv 3) (pe_lst pa_nil) (nomark _)) (pw_and (pt_cmpR op_lt (pe_callB call_len_seq (by rfl) B.len PySem.boot_len (pa_cons (pv 3) pa_nil)) pe_int (nomark _)) (pw_and1 (pt_cmpR op_eq (pe_cl Dr hr (by decide) (by rfl) (pa_cons (pv 0) (pa_cons pe_int pa_nil))) pe_int (nomark _))))))
        (pss_one (ps_expr (pe_bm PySem.F.plainAttrs_list PySem.F.slot_list_append PySem.F.type_list_append mt_append (pv 3) (pa_cons (pe_ix ix_list (pv 3) pe_int (fun _ _ => rfl)) pa_nil)))) pss_nil)
      (pss_one (ps_ret (pv 3))))), ?_⟩
    refine ⟨(by show 0 ≤ sizeLine; decide), fun G hG => ?_⟩
    have aG : a ≠ G := ha.ne hG
    have lhG : lh ≠ G := ne_of_none Rh.1 hG
    refine ⟨_, rfl, a, 7, rfl, ha.new hG, by decide, by decide, fun r1 H1 r10 r11 w1 s1 => ⟨(by show 2 ≤ sizeLine; decide), fun l hl => ?_⟩⟩
    refine ⟨_, rfl, a, 4, rfl, w1.new hl, by decide, by decide, fun r2 H2 r20 r21 w2 s2 => ⟨_, _, rfl, rfl, ⟨by decide, by decide⟩, ?_⟩⟩
    have hl2 := s2 l _ upd_same (w1.ne hl).symm
    have s2' : SameB a H H2 := (((SameB.of (same_new hG)).trans s1).trans (SameB.of (same_new hl))).trans s2
    have G2 : H2 G = some (.lst []) := s2 _ _ (same_new hl _ _ (s1 _ _ upd_same aG.symm)) aG.symm
    have Rh2 : RowsAt H2 lh th (hs.map hv) := Rh.keepB ha s2' lha
    obtain ⟨n, hn, hnv⟩ := pick2 (a := r1) (b := 6) r20 r21
    have hn6 : 0 ≤ n ∧ n ≤ 6 := by omega
    refine ⟨l, _, _, _, rfl, rfl, SqL.of hl2, hn, n, rfl, by omega, by omega, for_range (lo := 0) (n := n.toNat)
      (fun i σ H' => ∃ (v4 v5 v6 v7 : Option V) (ts : List Addr) (ls : List Rw4), σ = [some (.ref a), some (.ref lh), some (.int d), some (.ref G), v4, v5, v6, v7] ∧ ls.length = i ∧ (∀ r ∈ ls, LimOk d (nms hs) r) ∧ RowsAt H' G ts (ls.map rv) ∧ WellAt H' a ∧ SameB a H H')
      ⟨none, none, none, none, [], [], rfl, rfl, (fun _ z => nomatch z), ⟨G2, .nil⟩, w2, s2'⟩ ?_ ?_⟩
    · rintro i σ H3 hi ⟨v4, v5, v6, v7, ts, ls, rfl, hlen, hok, R, w3, s3⟩
      have tl : ts.length = i := by rw [R.len, List.length_map, hlen]
      refine ⟨_, rfl, _, rfl, a, d, rfl, w3, by omega, by omega, fun f1 H4 f10 f11 w4 s4 => ⟨_, _, rfl, rfl, ?_⟩⟩
      refine ⟨_, rfl, _, rfl, _, rfl, _, rfl, _, _, rfl, rfl, _, _, rfl, rfl, a, _, rfl, w4, by omega, by omega, fun f2 H5 f20 f21 w5 s5 => ⟨_, _, rfl, rfl, ?_⟩⟩
      refine ⟨_, rfl, a, 100, rfl, w5, by decide, by decide, fun m1 H6 m10 m11 w6 s6 => ?_⟩
      refine ⟨_, rfl, _, _, rfl, rfl, ⟨by decide, by decide, by decide⟩, _, _, rfl, rfl, a, _, rfl, w6, by decide, by decide, fun m2 H7 m20 m21 w7 s7 => ?_⟩
      have m21' : m2 < 1000000000000001 := m21
      refine ⟨_, _, rfl, rfl, ⟨by decide, by decide, by decide⟩, (by show 4 ≤ sizeLine; decide), fun lm hlm => ?_⟩
      refine ⟨_, rfl, a, 4, rfl, w7.new hlm, by decide, by decide, fun m3 H8 m30 m31 w8 s8 => ?_⟩
      have hlm8 := s8 _ _ upd_same (w7.ne hlm).symm
      obtain ⟨mo, hmo, hmb⟩ : ∃ mo : Int, atI [V.int 0, V.int m1, V.int m2, V.int 1000000000000000] m3 = some (.int mo) ∧ 0 ≤ mo ∧ mo ≤ 1000000000000000 := by
        rcases (by omega : m3 = 0 ∨ m3 = 1 ∨ m3 = 2 ∨ m3 = 3) with rfl | rfl | rfl | rfl
        · exact ⟨0, rfl, by omega, by omega⟩
        · exact ⟨m1, rfl, by omega, by omega⟩
        · exact ⟨m2, rfl, by omega, by omega⟩
        · exact ⟨1000000000000000, rfl, by omega, by omega⟩
      refine ⟨lm, _, _, _, rfl, rfl, SqL.of hlm8, hmo, ?_⟩
      have sB8 : SameB a H3 H8 := ((((s4.trans s5).trans s6).trans s7).trans (SameB.of (same_new hlm))).trans s8
      have R8 : RowsAt H8 G ts (ls.map rv) := R.keepB w3 sB8 aG.symm
      have Rh8 : RowsAt H8 lh th (hs.map hv) := Rh.keepB ha (s3.trans sB8) lha
      refine ⟨_, rfl, .inl ⟨rfl, _, SqL.of R8.1⟩, _, rfl, _, rfl, _, rfl, lh, _, rfl, .inl (SqL.of Rh8.1), a, _, rfl, w8, (by rw [List.length_map, thl]; omega), (by rw [List.length_map, thl]; omega), fun j H9 j0 j1 w9 s9 => ?_⟩
      obtain ⟨v, hv1, hv2⟩ := get_lt (l := th.map V.ref) j0 j1
      obtain ⟨jn, hjn⟩ := List.mem_iff_getElem?.mp hv2
      obtain ⟨tt, rr, rfl, hrr, htt, _⟩ := row_get Rh8 hjn
      have tta : tt ≠ a := by obtain ⟨_, _, _, e⟩ := w8; exact ne_of htt e (fun z => nomatch z)
      have Rh9 := Rh8.keepB w8 s9 lha
      refine ⟨lh, _, _, _, rfl, rfl, SqL.of Rh9.1, hv1, tt, _, 0, .str rr.1, rfl, rfl, SqT.of (s9 _ _ htt tta), rfl, _, rfl, _, rfl, _, rfl, (by show 4 ≤ sizeLine; decide), fun t ht => ?_⟩
      have R9 : RowsAt H9 G ts (ls.map rv) := R8.keepB w8 s9 aG.symm
      refine ⟨G, _, _, rfl, rfl, same_new ht _ _ R9.1, (by rw [List.length_map]; omega), ?_⟩
      have hnew : LimOk d (nms hs) (rr.1, 1 + f1, 1 + f1 + f2, mo) := ⟨List.mem_of_getElem? (nms_get hrr), ⟨(by show 1 ≤ 1 + f1; omega), (by show 1 + f1 ≤ d; omega)⟩, ⟨(by show 1 + f1 ≤ 1 + f1 + f2; omega), (by show 1 + f1 + f2 ≤ d; omega)⟩, hmb⟩
      have s10 : SameB a H (upd H9 t (.tup (rv (rr.1, 1 + f1, 1 + f1 + f2, mo)))) := ((s3.trans sB8).trans s9).trans (SameB.of (same_new ht))
      have R10 := R9.same (same_new (o := .tup (rv (rr.1, 1 + f1, 1 + f1 + f2, mo))) ht)
      have t10 : upd H9 t (.tup (rv (rr.1, 1 + f1, 1 + f1 + f2, mo))) t = some (.tup (rv (rr.1, 1 + f1, 1 + f1 + f2, mo))) := upd_same
      have w10 := w9.new (o := .tup (rv (rr.1, 1 + f1, 1 + f1 + f2, mo))) ht
      have eH : upd H9 t (.tup [V.str rr.1, V.int (1 + f1), V.int (1 + f1 + f2), V.int mo]) = upd H9 t (.tup (rv (rr.1, 1 + f1, 1 + f1 + f2, mo))) := rfl
      generalize hH10 : upd H9 t (.tup (rv (rr.1, 1 + f1, 1 + f1 + f2, mo))) = H10 at s10 R10 t10 w10
      have tG : t ≠ G := ne_of t10 R10.1 (fun z => nomatch z)
      show ∃ (v4 v5 v6 v7 : Option V) (ts : List Addr) (ls : List Rw4), _ = [some (.ref a), some (.ref lh), some (.int d), some (.ref G), v4, v5, v6, v7] ∧ ls.length = i + 1 ∧ (∀ r ∈ ls, LimOk d (nms hs) r) ∧ RowsAt (upd (upd H9 t (.tup (rv (rr.1, 1 + f1, 1 + f1 + f2, mo)))) G _) G ts (ls.map rv) ∧ WellAt (upd (upd H9 t (.tup (rv (rr.1, 1 + f1, 1 + f1 + f2, mo)))) G _) a ∧ SameB a H (upd (upd H9 t (.tup (rv (rr.1, 1 + f1, 1 + f1 + f2, mo)))) G _)
      rw [hH10]
      refine ⟨_, _, _, _, ts ++ [t], ls ++ [(rr.1, 1 + f1, 1 + f1 + f2, mo)], rfl, by rw [List.length_append, hlen]; rfl, ?_, ⟨by rw [upd_same, List.map_append]; rfl, ?_⟩, w10.up aG, ?_⟩
      · intro r hr
        rcases List.mem_append.mp hr with hr | hr
        · exact hok r hr
        · rw [List.mem_singleton.mp hr]; exact hnew
      · rw [List.map_append]
        refine paired_snoc (by rw [upd_ne tG]; exact t10) (paired_mono (fun b r e => ?_) R10.2)
        rw [upd_ne (ne_of e R10.1 (fun z => nomatch z))]
        exact e
      · intro b o e hb
        rw [upd_ne (ne_of_none e hG)]; exact s10 b o e hb
    · rintro σ H3 ⟨v4, v5, v6, v7, ts, ls, rfl, hlen, hok, R, w3, s3⟩
      have tl : ts.length = ls.length := by rw [R.len, List.length_map]
      have okr := okd_rvs (rs := ls) Vh.w (fun r hr => (hok r hr).1)
      refine ⟨_, rfl, (by show 0 ≤ sizeLine; decide), fun t ht => ?_⟩
      have R4 := R.same (same_new (o := .lst []) ht)
      have w4 := w3.new (o := .lst []) ht
      have s4 : SameB a H (upd H3 t (.lst [])) := s3.trans (SameB.of (same_new ht))
      have t4 : upd H3 t (.lst []) t = some (.lst []) := upd_same
      generalize upd H3 t (.lst []) = H4 at R4 w4 s4 t4
      refine ⟨rowsD (ls.map rv), .list [], .lst (SqL.of R4.1) (dp_rowsAll R4.2 okr), .lst (SqL.of t4) .nil, shaped_rows okr, by decide +kernel, _, rfl, ite2 (fun c => ?_) (fun _ => ?_)⟩
      · have hpos := rows_ne c
        rw [List.length_map] at hpos
        refine ⟨_, rfl, G, _, rfl, .inl (SqL.of R4.1), _, _, rfl, rfl, _, rfl, ite2 (fun c2 => ?_) (fun _ => ?_)⟩
        · have h6 : ls.length < 6 := by
            have := of_decide_eq_true c2
            rw [List.length_map, tl] at this
            omega
          refine ⟨_, rfl, a, 4, rfl, w4, by decide, by decide, fun r3 H5 r30 r31 w5 s5 => ⟨rfl, _, rfl, ite2 (fun _ => ?_) (fun _ => ?_)⟩⟩
          · have R5 := R4.keepB w4 s5 aG.symm
            obtain ⟨r0, hr0⟩ : ∃ r0, ls[0]? = some r0 := ⟨ls[0], List.getElem?_eq_getElem hpos⟩
            obtain ⟨t0, ht0⟩ : ∃ t0, ts[0]? = some t0 := ⟨ts[0], List.getElem?_eq_getElem (by omega)⟩
            obtain ⟨r', hr', ht0'⟩ := paired_get R5.2 ht0
            rw [List.getElem?_map, hr0] at hr'
            have er := Option.some.inj hr'
            subst er
            refine ⟨_, rfl, .inl ⟨rfl, _, SqL.of R5.1⟩, _, rfl, G, _, 0, .ref t0, rfl, rfl, SqL.of R5.1, at_of (j := 0) rfl (by rw [List.getElem?_map, ht0]; rfl), G, _, _, rfl, rfl, R5.1, (by rw [List.length_map]; omega), ?_⟩
            refine ⟨_, rfl, k G (ts ++ [t0]) (ls ++ [r0]) _ ?_ (by rw [List.length_append]; show _ + 1 ≤ 6; omega) ⟨by rw [upd_same, List.map_append]; rfl, ?_⟩ (free_ofB ha SameB.refl hG) (w5.up aG) ?_⟩
            · intro r hr
              rcases List.mem_append.mp hr with hr | hr
              · exact hok r hr
              · rw [List.mem_singleton.mp hr]; exact hok r0 (List.mem_of_getElem? hr0)
            · rw [List.map_append]
              have tG : t0 ≠ G := ne_of ht0' R5.1 (fun z => nomatch z)
              refine paired_snoc (by rw [upd_ne tG]; exact ht0') (paired_mono (fun b r e => ?_) R5.2)
              rw [upd_ne (ne_of e R5.1 (fun z => nomatch z))]
              exact e
            · intro b o e hb
              rw [upd_ne (ne_of_none e hG)]; exact (s4.trans s5) b o e hb
          · exact ⟨_, rfl, k G ts ls _ hok (by omega) (R4.keepB w4 s5 aG.symm) hG w5 (s4.trans s5)⟩
        · exact iteF ⟨_, rfl, k G ts ls _ hok (by omega) R4 hG w4 s4⟩
      · exact iteF ⟨_, rfl, k G ts ls _ hok (by omega) R4 hG w4 s4⟩
end
end KP
namespace KP
open PySem L2
/-- each head's fractions: from 0 to 1, the bottom bounded -/
def FB (rs : List Rw4) : Prop := ∀ x, 0 ≤ (fr rs x).1 ∧ (fr rs x).1 ≤ (fr rs x).2 ∧ 1 ≤ (fr rs x).2 ∧ (fr rs x).2 ≤ 1000 ^ rs.length
theorem FB.nil : FB [] := fun x => by
  show 0 ≤ (0 : Int) ∧ (0 : Int) ≤ 1 ∧ (1 : Int) ≤ 1 ∧ (1 : Int) ≤ 1000 ^ 0
  omega
theorem FB.snoc {rs : List Rw4} (h : FB rs) {r : Rw4} (hw : 1 ≤ r.2.2.1 ∧ r.2.2.1 ≤ 1000) (hp : 0 ≤ r.2.1) (hone : (fr rs r.1).1 * r.2.2.1 + r.2.1 * (fr rs r.1).2 ≤ (fr rs r.1).2 * r.2.2.1) : FB (rs ++ [r]) := fun x => by
  obtain ⟨h0, h1, h2, h3⟩ := h x
  have hpow : (1000 : Int) ^ (rs ++ [r]).length = 1000 ^ rs.length * 1000 := by rw [List.length_append]; exact Int.pow_succ ..
  have hp0 : (0 : Int) ≤ 1000 ^ rs.length := by omega
  rw [fr_snoc, hpow]
  unfold frS
  by_cases e : r.1 = x
  · rw [if_pos e]
    rw [e] at hone
    have a1 : 0 ≤ (fr rs x).1 * r.2.2.1 := Int.mul_nonneg h0 (by omega)
    have a2 : 0 ≤ r.2.1 * (fr rs x).2 := Int.mul_nonneg hp (by omega)
    have a3 : 1 * 1 ≤ (fr rs x).2 * r.2.2.1 := Int.mul_le_mul h2 hw.1 (by decide) (by omega)
    have a4 : (fr rs x).2 * r.2.2.1 ≤ 1000 ^ rs.length * 1000 := Int.mul_le_mul h3 hw.2 (by omega) hp0
    exact ⟨by show 0 ≤ (fr rs x).1 * r.2.2.1 + r.2.1 * (fr rs x).2; omega, hone, by show 1 ≤ (fr rs x).2 * r.2.2.1; omega, a4⟩
  · rw [if_neg e]
    exact ⟨h0, h1, h2, by omega⟩
theorem FB.small {rs : List Rw4} (h : FB rs) (hl : rs.length ≤ 4) (x : Str) : (fr rs x).2 ≤ 1000000000000 := by
  have h3 := (h x).2.2.2
  rcases (by omega : rs.length = 0 ∨ rs.length = 1 ∨ rs.length = 2 ∨ rs.length = 3 ∨ rs.length = 4) with e | e | e | e | e <;> rw [e] at h3 <;> omega
/-- part cut down to what is left -/
theorem cut_part {t b w : Int} (ht : 0 ≤ t) (htb : t ≤ b) (hb : 1 ≤ b) (hw : 1 ≤ w) : 0 ≤ (b - t) * w / b ∧ (b - t) * w / b ≤ w ∧ t * w + (b - t) * w / b * b ≤ b * w := by
  have h1 : 0 ≤ (b - t) * w := Int.mul_nonneg (by omega) (by omega)
  have h2 : (b - t) * w / b * b ≤ (b - t) * w := Int.ediv_mul_le _ (by omega)
  have h3 : (b - t) * w = b * w - t * w := Int.sub_mul _ _ _
  refine ⟨Int.ediv_nonneg h1 (by omega), Int.ediv_le_of_le_mul (by omega) ?_, by omega⟩
  rw [h3, Int.mul_comm w b]
  have : 0 ≤ t * w := Int.mul_nonneg ht (by omega)
  omega
def SumsAt (H : Hp) (S : Addr) (n : Nat) (rs : List Rw4) : Prop := ∃ kvs : List (Key × V), H S = some (.dK kvs) ∧ kvs.length ≤ n ∧ ∀ x : Str, (valV kvs (Sum.inr x) = none ∧ fr rs x = (0, 1)) ∨ ∃ t, valV kvs (Sum.inr x) = some (.ref t) ∧ H t = some (.tup [.int (fr rs x).1, .int (fr rs x).2])
theorem putK_len {kvs : List (Key × V)} {k : Key} {v : V} : (putK kvs k v).length ≤ kvs.length + 1 := by
  unfold putK
  split
  · rw [List.length_map]; omega
  · rw [List.length_append]; exact Nat.le_refl _
theorem SumsAt.keep {H H' : Hp} {S : Addr} {n : Nat} {rs : List Rw4} (h : SumsAt H S n rs) (h1 : ∀ kvs, H S = some (.dK kvs) → H' S = some (.dK kvs)) (h2 : ∀ b r, H b = some (.tup r) → H' b = some (.tup r)) : SumsAt H' S n rs := by
  obtain ⟨kvs, e, hl, hx⟩ := h
  refine ⟨kvs, h1 _ e, hl, fun x => ?_⟩
  rcases hx x with z | ⟨t, a, b⟩
  · exact .inl z
  · exact .inr ⟨t, a, h2 _ _ b⟩
theorem SumsAt.keepB {a : Addr} {H H' : Hp} {S : Addr} {n : Nat} {rs : List Rw4} (h : SumsAt H S n rs) (w : WellAt H a) (s : SameB a H H') : SumsAt H' S n rs := by
  obtain ⟨x, y, z, hw⟩ := w
  exact h.keep (fun kvs e => s _ _ e (ne_of e hw (fun z => nomatch z))) fun b r e => s _ _ e (ne_of e hw (fun z => nomatch z))
theorem SumsAt.same {H H' : Hp} {S : Addr} {n : Nat} {rs : List Rw4} (h : SumsAt H S n rs) (s : Same H H') : SumsAt H' S n rs := h.keep (fun _ e => s _ _ e) fun _ _ e => s _ _ e
theorem SumsAt.upl {H : Hp} {S G : Addr} {n : Nat} {rs : List Rw4} {xs ys : List V} (h : SumsAt H S n rs) (hG : H G = some (.lst xs)) : SumsAt (upd H G (.lst ys)) S n rs :=
  h.keep (fun kvs e => by rw [upd_ne (ne_of e hG (fun z => nomatch z))]; exact e) fun b r e => by rw [upd_ne (ne_of e hG (fun z => nomatch z))]; exact e
def spLRules : Sp := fun vs H Q _ => ∃ (a lh : Addr) (th : List Addr) (hs : List Hd) (d : Int), vs = [.ref a, .ref lh, .int d] ∧ WellAt H a ∧ RowsAt H lh th (hs.map hv) ∧ lh ≠ a ∧ VH hs ∧ 1 ≤ d ∧ d ≤ 30 ∧
  ∀ (q : Addr) (ts : List Addr) (rs : List Rw4) (H' : Hp), (∀ r ∈ rs, RulOk d (nms hs) r) → rs.length ≤ 4 → (∀ x, (fr rs x).1 ≤ (fr rs x).2) → RowsAt H' q ts (rs.map rv) → H q = none → WellAt H' a → SameB a H H' → Q (.ref q) H'
section
variable {P : Program} {w : World} {K : PySem.W.Frag} {mg : Str → Option Value} {base : Heap}
abbrev nLRules : List Str := ["_law_well_here", "_law_heads_here", "_law_days", "_law_found", "_law_sums", "_law_k", "_law_head", "_law_whole", "_law_part", "_law_top", "_law_bottom"]
theorem scLRules : FnScope nLRules ["_law_well_here", "_law_heads_here", "_law_days"] (defScope sLRules) := ⟨rfl, rfl, rfl, by decide +kernel, rfl, by decide +kernel, by decide +kernel⟩
theorem c_lrules (B : Base K mg) (Dr : Cal P w K mg base 1 "_law_draw" spDraw) (D : DefT K mg "_law_rules" sLRules ["_law_well_here", "_law_heads_here", "_law_days"]) : Cal P w K mg base 2 "_law_rules" spLRules := by
  refine cal D scLRules (fun vs H Q E h => ?_) (fun f cdv A outer s H vs Q E hr h => ?_)
  · obtain ⟨a, lh, th, hs, d, rfl, _⟩ := h
    rfl
  · obtain ⟨a, lh, th, hs, d, rfl, ha, Rh, lha, Vh, d1, d30, k⟩ := h
    have hz : sizeLine = 16777216 := by decide
    have thl : th.length = hs.length := by rw [Rh.len, List.length_map]
    have h1 := Vh.l1
    have h8 := Vh.l8
    refine ⟨_, pss_cons (ps_set (i := 3) scLRules.nd rfl (Or.inl rfl) (pe_lst pa_nil)) (pss_cons (ps_set (i := 4) scLRules.nd rfl (Or.inl rfl) pe_dnewK)
      (pss_cons (ps_for PassesOwn.never rfl (pi_range1 (by rfl) B.range (pa_cons (pe_ix ix_list (pe_lst (pa_cons (pe_cl Dr hr (by decide) (by rfl) (pa_cons (pv 0) (pa_cons pe_int pa_nil))) (pa_cons pe_int pa_nil))) (pe_op op_fdiv (pe_cl Dr hr (by decide) (by rfl) (pa_cons (pv 0) (pa_cons pe_int pa_nil))) pe_int) (fun _ _ => rfl)) pa_nil)) (pg_name (i := 5) scLRules.nd rfl (Or.inl rfl))
        (pss_cons (ps_set (i := 6) scLRules.nd rfl (Or.inl rfl) (pe_ix ix_tup (pe_ix ix_list (pv 1) (pe_cl Dr hr (by decide) (by rfl) (pa_cons (pv 0) (pa_cons (pe_callB call_len_seq (by rfl) B.len PySem.boot_len (pa_cons (pv 1) pa_nil)) pa_nil))) (fun _ _ => rfl)) pe_int (fun _ _ => rfl)))
        (pss_cons (ps_set (i := 7) scLRules.nd rfl (Or.inl rfl) (pe_op op_add pe_int (pe_cl Dr hr (by decide) (by rfl) (pa_cons (pv 0) (pa_cons (pe_ix ix_list (pe_lst (pa_cons pe_int (pa_cons pe_int pa_nil))) (pe_cl Dr hr (by decide) (by rfl) (pa_cons (pv 0) (pa_cons pe_int pa_nil))) (fun _ _ => rfl)) pa_nil)))))
        (pss_cons (ps_set (i := 8) scLRules.nd rfl (Or.inl rfl) (pe_ix ix_list (pe_lst (pa_cons (pe_cl Dr hr (by decide) (by rfl) (pa_cons (pv 0) (pa_cons (pe_op op_add (pv 7) pe_int) pa_nil))) (pa_cons (pv 7) pa_nil))) (pe_op op_fdiv (pe_cl Dr hr (by decide) (by rfl) (pa_cons (pv 0) (pa_cons pe_int pa_nil))) pe_int) (fun _ _ => rfl)))
        (pss_cons (ps_asg (pe_dget2 (hu_of hr) (pv 4) (pv 6) (pe_tup (pa_cons pe_int (pa_cons pe_int pa_nil))) ⟨rfl, rfl, rfl, rfl⟩) (pg_tup rfl (pgs_cons (pg_name (i := 9) scLRules.nd rfl (Or.inl rfl)) (pgs_cons (pg_name (i := 10) scLRules.nd rfl (Or.inl rfl)) pgs_nil))))
        (C8.pss_cut (ps_if (pt_cmpR op_gt (pe_op op_add (pe_op op_mul (pv 9) (pv 7)) (pe_op op_mul (pv 8) (pv 10))) (pe_op op_mul (pv 10) (pv 7)) (nomark _))
          (pss_one (ps_set (i := 8) scLRules.nd rfl (Or.inl rfl) (pe_op op_fdivW (pe_op op_mul (pe_op op_sub (pv 10) (pv 9)) (pv 7)) (pv 10)))) pss_nil)
        (pss_cons (ps_dput (hu_of hr) (pv 4) (pv 6) (pe_tup (pa_cons (pe_op op_add (pe_op op_mul (pv 9) (pv 7)) (pe_op op_mul (pv 8) (pv 10))) (pa_cons (pe_op op_mul (pv 10) (pv 7)) pa_nil))) rfl)
        (pss_one (ps_expr (pe_bm PySem.F.plainAttrs_list PySem.F.slot_list_append PySem.F.type_list_append mt_append (pv 3) (pa_cons (pe_tup (pa_cons (pv 6) (pa_cons (pv 8) (pa_cons (pv 7) (pa_cons (pe_op op_add pe_int (pe_cl Dr hr (by decide) (by rfl) (pa_cons (pv 0) (pa_cons (pv 2) pa_nil)))) pa_nil))))) pa_nil)))))))))))
      (pss_one (ps_ret (pv 3))))), ?_⟩
    refine ⟨(by show 0 ≤ sizeLine; decide), fun G hG S hS => ?_⟩
    have aG : a ≠ G := ha.ne hG
    have nS : H S = none := (same_new hG).free hS
    have GS : G ≠ S := ne_of_none upd_same hS
    have w0 := (ha.new (o := .lst []) hG).new (o := .dK []) hS
    refine ⟨_, rfl, a, 5, rfl, w0, by decide, by decide, fun r1 H1 r10 r11 w1 s1 => ⟨(by show 2 ≤ sizeLine; decide), fun l hl => ?_⟩⟩
    refine ⟨_, rfl, a, 4, rfl, w1.new hl, by decide, by decide, fun r2 H2 r20 r21 w2 s2 => ⟨_, _, rfl, rfl, ⟨by decide, by decide⟩, ?_⟩⟩
    have hl2 := s2 l _ upd_same (w1.ne hl).symm
    have sB : SameB a (upd (upd H G (.lst [])) S (.dK [])) H2 := (s1.trans (SameB.of (same_new hl))).trans s2
    have s2' : SameB a H H2 := ((SameB.of (same_new hG)).trans (SameB.of (same_new hS))).trans sB
    have G2 : H2 G = some (.lst []) := sB _ _ (same_new hS _ _ upd_same) aG.symm
    have S2 : SumsAt H2 S 0 [] := by
      have : SumsAt (upd (upd H G (.lst [])) S (.dK [])) S 0 [] := ⟨[], upd_same, Nat.le_refl _, fun x => .inl ⟨rfl, rfl⟩⟩
      exact this.keepB w0 sB
    obtain ⟨n, hn, hnv⟩ := pick2 (a := r1) (b := 4) r20 r21
    have hn4 : 0 ≤ n ∧ n ≤ 4 := by omega
    refine ⟨l, _, _, _, rfl, rfl, SqL.of hl2, hn, n, rfl, by omega, by omega, for_range (lo := 0) (n := n.toNat)
      (fun i σ H' => ∃ (v5 v6 v7 v8 v9 v10 : Option V) (ts : List Addr) (rs : List Rw4), σ = [some (.ref a), some (.ref lh), some (.int d), some (.ref G), some (.ref S), v5, v6, v7, v8, v9, v10] ∧ rs.length = i ∧ (∀ r ∈ rs, RulOk d (nms hs) r) ∧ FB rs ∧ RowsAt H' G ts (rs.map rv) ∧ SumsAt H' S i rs ∧ WellAt H' a ∧ SameB a H H')
      ⟨none, none, none, none, none, none, [], [], rfl, rfl, (fun _ z => nomatch z), FB.nil, ⟨G2, .nil⟩, S2, w2, s2'⟩ ?_ ?_⟩
    · rintro i σ H3 hi ⟨v5, v6, v7, v8, v9, v10, ts, rs, rfl, hlen, hok, fb, R, Sm, w3, s3⟩
      have tl : ts.length = i := by rw [R.len, List.length_map, hlen]
      have hi4 : i < 4 := by omega
      have Rh3 : RowsAt H3 lh th (hs.map hv) := Rh.keepB ha s3 lha
      refine ⟨_, rfl, _, rfl, _, rfl, lh, _, rfl, .inl (SqL.of Rh3.1), a, _, rfl, w3, (by rw [List.length_map, thl]; omega), (by rw [List.length_map, thl]; omega), fun j H4 j0 j1 w4 s4 => ?_⟩
      obtain ⟨v, hv1, hv2⟩ := get_lt (l := th.map V.ref) j0 j1
      obtain ⟨jn, hjn⟩ := List.mem_iff_getElem?.mp hv2
      obtain ⟨tt, rr, rfl, hrr, htt, _⟩ := row_get Rh3 hjn
      have tta : tt ≠ a := by obtain ⟨_, _, _, e⟩ := w3; exact ne_of htt e (fun z => nomatch z)
      have Rh4 := Rh3.keepB w3 s4 lha
      refine ⟨lh, _, _, _, rfl, rfl, SqL.of Rh4.1, hv1, tt, _, 0, .str rr.1, rfl, rfl, SqT.of (s4 _ _ htt tta), rfl, ?_⟩
      -- whole
      refine ⟨_, rfl, (by show 2 ≤ sizeLine; decide), fun l2 hl2 => ⟨_, rfl, a, 2, rfl, w4.new hl2, by decide, by decide, fun q1 H5 q10 q11 w5 s5 => ?_⟩⟩
      have hl5 := s5 l2 _ upd_same (w4.ne hl2).symm
      obtain ⟨mw, hmw, hmb⟩ : ∃ mw : Int, atI [V.int 10, V.int 1000] q1 = some (.int mw) ∧ (mw = 10 ∨ mw = 1000) := by
        rcases (by omega : q1 = 0 ∨ q1 = 1) with rfl | rfl
        · exact ⟨10, rfl, .inl rfl⟩
        · exact ⟨1000, rfl, .inr rfl⟩
      refine ⟨l2, _, _, _, rfl, rfl, SqL.of hl5, hmw, a, mw, rfl, w5, by omega, by omega, fun q2 H6 q20 q21 w6 s6 => ⟨_, _, rfl, rfl, ?_⟩⟩
      -- part
      refine ⟨_, rfl, _, rfl, _, _, rfl, rfl, a, _, rfl, w6, by omega, by omega, fun q3 H7 q30 q31 w7 s7 => ?_⟩
      refine ⟨_, rfl, (by show 2 ≤ sizeLine; decide), fun l3 hl3 => ⟨_, rfl, a, 5, rfl, w7.new hl3, by decide, by decide, fun q4 H8 q40 q41 w8 s8 => ⟨_, _, rfl, rfl, ⟨by decide, by decide⟩, ?_⟩⟩⟩
      have hl8 := s8 l3 _ upd_same (w7.ne hl3).symm
      obtain ⟨pt, hpt, hpb⟩ : ∃ pt : Int, atI [V.int q3, V.int (1 + q2)] (q4 / 4) = some (.int pt) ∧ 0 ≤ pt ∧ pt ≤ 1 + q2 := by
        rcases (by omega : q4 / 4 = 0 ∨ q4 / 4 = 1) with e | e
        · rw [e]; exact ⟨q3, rfl, by omega, by omega⟩
        · rw [e]; exact ⟨1 + q2, rfl, by omega, by omega⟩
      refine ⟨l3, _, _, _, rfl, rfl, SqL.of hl8, hpt, ?_⟩
      have s8' : SameB a H3 H8 := ((((s4.trans (SameB.of (same_new hl2))).trans s5).trans s6).trans s7).trans ((SameB.of (same_new hl3)).trans s8)
      have R8 : RowsAt H8 G ts (rs.map rv) := R.keepB w3 s8' aG.symm
      have Sm8 : SumsAt H8 S i rs := Sm.keepB w3 s8'
      -- top, bottom
      obtain ⟨kvs, hS8, kl, hval⟩ := id Sm8
      refine ⟨_, rfl, S, rfl, .inl ⟨kvs, .inl hS8⟩, _, rfl, (by show 2 ≤ sizeLine; decide), fun t0 ht0 => ?_⟩
      have sm9 : Same H8 (upd H8 t0 (.tup [V.int 0, V.int 1])) := same_new ht0
      have t09 : upd H8 t0 (.tup [V.int 0, V.int 1]) t0 = some (.tup [V.int 0, V.int 1]) := upd_same
      have w9 := w8.new (o := .tup [V.int 0, V.int 1]) ht0
      generalize upd H8 t0 (.tup [V.int 0, V.int 1]) = H9 at sm9 t09 w9
      have s9 : SameB a H H9 := (s3.trans s8').trans (SameB.of sm9)
      have R9 := R8.same sm9
      have Sm9 := Sm8.same sm9
      obtain ⟨t1, et1, ht1⟩ : ∃ t1, (valV kvs (Sum.inr rr.1)).getD (.ref t0) = .ref t1 ∧ H9 t1 = some (.tup [.int (fr rs rr.1).1, .int (fr rs rr.1).2]) := by
        rcases hval rr.1 with ⟨e1, e2⟩ | ⟨t, e1, e2⟩
        · exact ⟨t0, by rw [e1]; rfl, by rw [e2]; exact t09⟩
        · exact ⟨t, by rw [e1]; rfl, sm9 _ _ e2⟩
      refine ⟨_, DGet.k (k := Sum.inr rr.1) (sm9 _ _ hS8), ?_⟩
      rw [et1]
      obtain ⟨f0, f1, f2, _⟩ := fb rr.1
      have f3 := fb.small (by omega) rr.1
      generalize hT : (fr rs rr.1).1 = T at ht1 f0 f1
      generalize hBt : (fr rs rr.1).2 = Bt at ht1 f1 f2 f3
      have hwh : 1 ≤ 1 + q2 ∧ 1 + q2 ≤ 1000 := by omega
      refine ⟨t1, _, rfl, SqT.of ht1, rfl, _, _, rfl, _, _, rfl, rfl, ?_⟩
      refine ⟨fun σ' H' => ∃ (v5 : Option V) (pp : Int), σ' = [some (.ref a), some (.ref lh), some (.int d), some (.ref G), some (.ref S), v5, some (.str rr.1), some (.int (1 + q2)), some (.int pp), some (.int T), some (.int Bt)] ∧ 0 ≤ pp ∧ pp ≤ 1 + q2 ∧ T * (1 + q2) + pp * Bt ≤ Bt * (1 + q2) ∧ H9 = H', ?_, ?_⟩
      · refine ⟨_, rfl, _, rfl, _, _, rfl, rfl, Or.inr ⟨by omega, by omega⟩, _, rfl, _, rfl, _, _, rfl, rfl, Or.inl ⟨by omega, by omega⟩, _, _, rfl, rfl, _, rfl, _, rfl, _, _, rfl, rfl, Or.inr ⟨by omega, by omega⟩, _, _, rfl, rfl, _, rfl, ite2 (fun c => ?_) (fun c => ?_)⟩
        · obtain ⟨c0, c1, c2⟩ := cut_part f0 f1 f2 hwh.1
          refine ⟨_, rfl, _, rfl, _, _, rfl, rfl, _, rfl, _, _, rfl, rfl, Or.inr ⟨by omega, by omega⟩, _, rfl, _, _, rfl, rfl, wide_div (by omega) (b := 50) (by omega) (by decide) (by decide), ?_⟩
          exact ⟨_, _, rfl, c0, c1, c2, rfl⟩
        · have c' : ¬ Bt * (1 + q2) < T * (1 + q2) + pt * Bt := fun z => c (decide_eq_true z)
          exact ⟨_, _, rfl, hpb.1, hpb.2, by omega, rfl⟩
      · rintro σ' H9' ⟨v5', pp, rfl, pp0, ppW, hone, rfl⟩
        generalize hW : 1 + q2 = W at hwh ppW hone ⊢
        refine ⟨_, rfl, _, rfl, _, _, rfl, rfl, Or.inr ⟨by omega, by omega⟩, _, rfl, _, rfl, _, _, rfl, rfl, Or.inl ⟨by omega, by omega⟩, _, _, rfl, rfl, _, rfl, _, rfl, _, _, rfl, rfl, Or.inr ⟨by omega, by omega⟩, (by show 2 ≤ sizeLine; decide), fun t2 ht2 => ?_⟩
        have sm10 : Same H9 (upd H9 t2 (.tup [V.int (T * W + pp * Bt), V.int (Bt * W)])) := same_new ht2
        have t210 : upd H9 t2 (.tup [V.int (T * W + pp * Bt), V.int (Bt * W)]) t2 = some (.tup [V.int (T * W + pp * Bt), V.int (Bt * W)]) := upd_same
        have w10 := w9.new (o := .tup [V.int (T * W + pp * Bt), V.int (Bt * W)]) ht2
        refine ⟨_, rfl, _, rfl, S, _, rfl, DPut.k (k := Sum.inr rr.1) (sm10 _ _ (sm9 _ _ hS8)) (by omega), ?_⟩
        dsimp only
        have Sa : S ≠ a := by obtain ⟨_, _, _, e⟩ := w10; exact ne_of (sm10 _ _ (sm9 _ _ hS8)) e (fun z => nomatch z)
        have R10 := R9.same sm10
        have S10 := sm10 _ _ (sm9 _ _ hS8)
        have s10 : SameB a H _ := s9.trans (SameB.of sm10)
        generalize upd H9 t2 (.tup [V.int (T * W + pp * Bt), V.int (Bt * W)]) = H10 at sm10 t210 w10 R10 S10 s10
        have nSt : ∀ {b : Addr} {r : List V}, H10 b = some (.tup r) → b ≠ S := fun e => ne_of e S10 (fun z => nomatch z)
        have G11 : upd H10 S (.dK (putK kvs (Sum.inr rr.1) (.ref t2))) G = some (.lst (ts.map V.ref)) := by rw [upd_ne GS]; exact R10.1
        have R11 : RowsAt (upd H10 S (.dK (putK kvs (Sum.inr rr.1) (.ref t2)))) G ts (rs.map rv) := ⟨G11, paired_mono (fun b r e => by rw [upd_ne (nSt e)]; exact e) R10.2⟩
        have w11 : WellAt (upd H10 S (.dK (putK kvs (Sum.inr rr.1) (.ref t2)))) a := w10.up Sa.symm
        have s11 : SameB a H (upd H10 S (.dK (putK kvs (Sum.inr rr.1) (.ref t2)))) := fun b o e hb => by rw [upd_ne (ne_of_none e nS)]; exact s10 b o e hb
        have nr : RulOk d (nms hs) (rr.1, pp, W, 2) ∧ True := ⟨⟨List.mem_of_getElem? (nms_get hrr), hwh, ⟨pp0, ppW⟩, (by show 2 ≤ (2 : Int); decide), (by show 2 ≤ d + 1; omega)⟩, trivial⟩
        refine ⟨_, rfl, .inl ⟨rfl, _, SqL.of G11⟩, _, rfl, _, rfl, _, rfl, _, rfl, _, rfl, a, d, rfl, w11, by omega, by omega, fun u H12 u0 u1 w12 s12 => ⟨_, _, rfl, rfl, (by show 4 ≤ sizeLine; decide), fun t3 ht3 => ?_⟩⟩
        have frn : ∀ x, fr (rs ++ [(rr.1, pp, W, 2 + u)]) x = if rr.1 = x then (T * W + pp * Bt, Bt * W) else fr rs x := fun x => by
          rw [fr_snoc]
          unfold frS
          by_cases e : rr.1 = x
          · rw [if_pos e, if_pos e, ← e, hT, hBt]
          · rw [if_neg e, if_neg e]
        have Sm11 : SumsAt (upd H10 S (.dK (putK kvs (Sum.inr rr.1) (.ref t2)))) S (i + 1) (rs ++ [(rr.1, pp, W, 2 + u)]) := by
          refine ⟨_, upd_same, Nat.le_trans putK_len (by omega), fun x => ?_⟩
          rw [valV_put, frn]
          by_cases e : x = rr.1
          · rw [if_pos (by rw [e]), if_pos e.symm]
            exact .inr ⟨t2, rfl, by rw [upd_ne (nSt t210)]; exact t210⟩
          · rw [if_neg (fun z => e (by injection z)), if_neg (fun z => e z.symm)]
            rcases hval x with z | ⟨t, e1, e2⟩
            · exact .inl z
            · have e3 := sm10 _ _ (sm9 _ _ e2)
              exact .inr ⟨t, e1, by rw [upd_ne (nSt e3)]; exact e3⟩
        have R12 := R11.keepB w11 s12 aG.symm
        have Sm12 := Sm11.keepB w11 s12
        refine ⟨G, _, _, rfl, rfl, same_new ht3 _ _ R12.1, (by rw [List.length_map]; omega), ?_⟩
        have R13 := R12.same (same_new (o := .tup (rv (rr.1, pp, W, 2 + u))) ht3)
        have Sm13 := Sm12.same (same_new (o := .tup (rv (rr.1, pp, W, 2 + u))) ht3)
        have t13 : upd H12 t3 (.tup (rv (rr.1, pp, W, 2 + u))) t3 = some (.tup (rv (rr.1, pp, W, 2 + u))) := upd_same
        have w13 := w12.new (o := .tup (rv (rr.1, pp, W, 2 + u))) ht3
        have s13 : SameB a H (upd H12 t3 (.tup (rv (rr.1, pp, W, 2 + u)))) := (s11.trans s12).trans (SameB.of (same_new ht3))
        show ∃ (v5 v6 v7 v8 v9 v10 : Option V) (ts : List Addr) (rs : List Rw4), _ = [some (.ref a), some (.ref lh), some (.int d), some (.ref G), some (.ref S), v5, v6, v7, v8, v9, v10] ∧ rs.length = i + 1 ∧ (∀ r ∈ rs, RulOk d (nms hs) r) ∧ FB rs ∧ RowsAt (upd (upd H12 t3 (.tup (rv (rr.1, pp, W, 2 + u)))) G _) G ts (rs.map rv) ∧ SumsAt (upd (upd H12 t3 (.tup (rv (rr.1, pp, W, 2 + u)))) G _) S (i + 1) rs ∧ WellAt (upd (upd H12 t3 (.tup (rv (rr.1, pp, W, 2 + u)))) G _) a ∧ SameB a H (upd (upd H12 t3 (.tup (rv (rr.1, pp, W, 2 + u)))) G _)
        generalize upd H12 t3 (.tup (rv (rr.1, pp, W, 2 + u))) = H13 at R13 Sm13 t13 w13 s13
        have tG : t3 ≠ G := ne_of t13 R13.1 (fun z => nomatch z)
        refine ⟨_, _, _, _, _, _, ts ++ [t3], rs ++ [(rr.1, pp, W, 2 + u)], rfl, by rw [List.length_append, hlen]; rfl, ?_, ?_, ⟨by rw [upd_same, List.map_append]; rfl, ?_⟩, Sm13.upl R13.1, w13.up aG, ?_⟩
        · intro r hr
          rcases List.mem_append.mp hr with hr | hr
          · exact hok r hr
          · rw [List.mem_singleton.mp hr]
            exact ⟨nr.1.1, hwh, ⟨pp0, ppW⟩, (by show 2 ≤ 2 + u; omega), (by show 2 + u ≤ d + 1; omega)⟩
        · refine fb.snoc hwh pp0 ?_
          show (fr rs rr.1).1 * W + pp * (fr rs rr.1).2 ≤ (fr rs rr.1).2 * W
          rw [hT, hBt]; exact hone
        · rw [List.map_append]
          refine paired_snoc (by rw [upd_ne tG]; exact t13) (paired_mono (fun b r e => ?_) R13.2)
          rw [upd_ne (ne_of e R13.1 (fun z => nomatch z))]
          exact e
        · intro b o e hb
          rw [upd_ne (ne_of_none e hG)]; exact s13 b o e hb
    · rintro σ H3 ⟨v5, v6, v7, v8, v9, v10, ts, rs, rfl, hlen, hok, fb, R, Sm, w3, s3⟩
      exact ⟨_, rfl, k G ts rs H3 hok (by omega) (fun x => (fb x).2.1) R hG w3 s3⟩
end
end KP
namespace KP
open PySem L2
/-! ### data whose lists stand in S -/
mutual
inductive DM (S : Addr → Prop) (H : Hp) : V → PyData → Prop
  | int (i : Int) : DM S H (.int i) (.int i)
  | str (x : Str) : DM S H (.str x) (.str x)
  | lst {a : Addr} {xs : List V} {ds : List PyData} : S a → H a = some (.lst xs) → DMs S H xs ds → DM S H (.ref a) (.list ds)
  | tup {a : Addr} {xs : List V} {ds : List PyData} : H a = some (.tup xs) → DMs S H xs ds → DM S H (.ref a) (.tuple ds)
inductive DMs (S : Addr → Prop) (H : Hp) : List V → List PyData → Prop
  | nil : DMs S H [] []
  | cons {v : V} {vs : List V} {d : PyData} {ds : List PyData} : DM S H v d → DMs S H vs ds → DMs S H (v :: vs) (d :: ds)
end
def KeepS (S : Addr → Prop) (H H' : Hp) : Prop := ∀ b o, H b = some o → ((∃ xs, o = .lst xs) → S b) → H' b = some o
mutual
theorem DM.keep {S : Addr → Prop} {H H' : Hp} (k : KeepS S H H') : ∀ {v : V} {d : PyData}, DM S H v d → DM S H' v d
  | _, _, .int i => .int i
  | _, _, .str x => .str x
  | _, _, .lst s e t => .lst s (k _ _ e fun _ => s) (DMs.keep k t)
  | _, _, .tup e t => .tup (k _ _ e fun ⟨_, z⟩ => nomatch z) (DMs.keep k t)
theorem DMs.keep {S : Addr → Prop} {H H' : Hp} (k : KeepS S H H') : ∀ {v : List V} {d : List PyData}, DMs S H v d → DMs S H' v d
  | _, _, .nil => .nil
  | _, _, .cons a b => .cons (DM.keep k a) (DMs.keep k b)
end
mutual
theorem DM.mono {S S' : Addr → Prop} {H : Hp} (k : ∀ a o, H a = some o → S a → S' a) : ∀ {v : V} {d : PyData}, DM S H v d → DM S' H v d
  | _, _, .int i => .int i
  | _, _, .str x => .str x
  | _, _, .lst s e t => .lst (k _ _ e s) e (DMs.mono k t)
  | _, _, .tup e t => .tup e (DMs.mono k t)
theorem DMs.mono {S S' : Addr → Prop} {H : Hp} (k : ∀ a o, H a = some o → S a → S' a) : ∀ {v : List V} {d : List PyData}, DMs S H v d → DMs S' H v d
  | _, _, .nil => .nil
  | _, _, .cons a b => .cons (DM.mono k a) (DMs.mono k b)
end
mutual
theorem DM.dp {S : Addr → Prop} {K : PySem.W.Frag} {H : Hp} : ∀ {v : V} {d : PyData}, DM S H v d → Dp K H v d
  | _, _, .int i => .int i
  | _, _, .str x => .str x
  | _, _, .lst _ e t => .lst (SqL.of e) (DMs.dp t)
  | _, _, .tup e t => .tup (SqT.of e) (DMs.dp t)
theorem DMs.dp {S : Addr → Prop} {K : PySem.W.Frag} {H : Hp} : ∀ {v : List V} {d : List PyData}, DMs S H v d → DpAll K H v d
  | _, _, .nil => .nil
  | _, _, .cons a b => .cons (DM.dp a) (DMs.dp b)
end
theorem DM.ext {S : Addr → Prop} {H : Hp} {a : Addr} {v : V} {d : PyData} (h : DM S H v d) (ha : H a = none) : DM (fun b => S b ∧ b ≠ a) H v d := h.mono fun b o e s => ⟨s, ne_of_none e ha⟩
theorem DMs.ext {S : Addr → Prop} {H : Hp} {a : Addr} {v : List V} {d : List PyData} (h : DMs S H v d) (ha : H a = none) : DMs (fun b => S b ∧ b ≠ a) H v d := h.mono fun b o e s => ⟨s, ne_of_none e ha⟩
theorem DM.same {S : Addr → Prop} {H H' : Hp} {v : V} {d : PyData} (h : DM S H v d) (s : Same H H') : DM S H' v d := h.keep fun b o e _ => s b o e
theorem DMs.same {S : Addr → Prop} {H H' : Hp} {v : List V} {d : List PyData} (h : DMs S H v d) (s : Same H H') : DMs S H' v d := h.keep fun b o e _ => s b o e
theorem DMs.append {S : Addr → Prop} {H : Hp} : ∀ {v u : List V} {d e : List PyData}, DMs S H v d → DMs S H u e → DMs S H (v ++ u) (d ++ e)
  | _, _, _, _, .nil, q => q
  | _, _, _, _, .cons a b, q => .cons a (DMs.append b q)
theorem DMs.len {S : Addr → Prop} {H : Hp} : ∀ {v : List V} {d : List PyData}, DMs S H v d → v.length = d.length
  | _, _, .nil => rfl
  | _, _, .cons a b => congrArg (· + 1) (DMs.len b)
theorem DMs.strs {S : Addr → Prop} {H : Hp} : ∀ (xs : List Str), DMs S H (xs.map V.str) (xs.map PyData.str)
  | [] => .nil
  | x :: xs => .cons (.str x) (DMs.strs xs)
theorem DMs.flat {S : Addr → Prop} {H : Hp} : ∀ {vs : List V}, (∀ v ∈ vs, okd v) → DMs S H vs (vs.map dat)
  | [], _ => .nil
  | v :: vs, h => by
    refine .cons ?_ (DMs.flat fun u hu => h u (List.mem_cons_of_mem _ hu))
    rcases h v List.mem_cons_self with ⟨x, rfl, _⟩ | ⟨i, rfl⟩
    · exact .str x
    · exact .int i
theorem DMs.rows {S : Addr → Prop} {H : Hp} : ∀ {ts : List Addr} {rows : List (List V)}, Paired (fun t r => H t = some (.tup r)) ts rows → (∀ r ∈ rows, ∀ v ∈ r, okd v) → DMs S H (ts.map V.ref) (rows.map fun r => .tuple (r.map dat))
  | _, _, .nil, _ => .nil
  | _, _, .cons a p, h => .cons (.tup a (DMs.flat (h _ List.mem_cons_self))) (DMs.rows p fun r hr => h r (List.mem_cons_of_mem _ hr))
theorem DM.rows {S : Addr → Prop} {H : Hp} {l : Addr} {ts : List Addr} {rows : List (List V)} (h : RowsAt H l ts rows) (ok : ∀ r ∈ rows, ∀ v ∈ r, okd v) (s : S l) : DM S H (.ref l) (rowsD rows) := .lst s h.1 (DMs.rows h.2 ok)
/-! ### what a year tells, as data -/
def info (hs : List Hd) (x : Str) : PyData := .tuple [.str (up hs x), .list ((kn hs x).map PyData.str), .list ((und hs x).map PyData.str)]
def Yr.parts (y : Yr) : List PyData := [.int y.days, rowsD (y.hs.map hv), rowsD (y.ls.map rv), rowsD (y.rs.map rv)]
def Yr.due (y : Yr) : PyData := .list (y.parts ++ [.list ((nms y.hs).map PyData.str)] ++ (nms y.hs).map (info y.hs))
theorem okd_E : okd (.str "") := .inl ⟨"", rfl, by decide +kernel⟩
theorem okd_hv {hs : List Hd} (V : VH hs) : ∀ r ∈ hs.map hv, ∀ v ∈ r, okd v := by
  intro r hr
  obtain ⟨q, hq, rfl⟩ := List.mem_map.mp hr
  intro v hv
  obtain ⟨i, hi⟩ := List.mem_iff_getElem?.mp hq
  simp only [KP.hv, List.mem_cons, List.not_mem_nil, or_false] at hv
  rcases hv with rfl | rfl
  · exact okd_W (V.w _ (List.mem_of_getElem? (nms_get hi)))
  · rcases V.up i q hi with e | ⟨j, _, hj⟩
    · rw [e]; exact okd_E
    · exact okd_W (V.w _ (List.mem_of_getElem? hj))
theorem Yr.ok.hv {y : Yr} (h : y.ok) : ∀ r ∈ y.hs.map KP.hv, ∀ v ∈ r, okd v := okd_hv h.h
theorem Yr.ok.lv {y : Yr} (h : y.ok) : ∀ r ∈ y.ls.map rv, ∀ v ∈ r, okd v := okd_rvs h.h.w fun r hr => (h.l r hr).1
theorem Yr.ok.rv {y : Yr} (h : y.ok) : ∀ r ∈ y.rs.map KP.rv, ∀ v ∈ r, okd v := okd_rvs h.h.w fun r hr => (h.r r hr).1
/-- layable, and not too deep -/
def lay (n : Nat) (d : PyData) : Prop := d.canLay0 = true ∧ d.depth ≤ n
theorem lay_all {n : Nat} : ∀ {ds : List PyData}, (∀ d ∈ ds, lay n d) → PyData.canLayAll0 ds = true ∧ PyData.depthAll ds ≤ n
  | [], _ => ⟨rfl, Nat.zero_le _⟩
  | d :: ds, h => by
    obtain ⟨h1, h2⟩ := lay_all (ds := ds) fun u hu => h u (List.mem_cons_of_mem _ hu)
    obtain ⟨g1, g2⟩ := h d List.mem_cons_self
    refine ⟨?_, ?_⟩
    · show (d.canLay0 && PyData.canLayAll0 ds) = true
      rw [g1, h1]; rfl
    · show max d.depth (PyData.depthAll ds) ≤ n
      omega
theorem lay_list {n : Nat} {ds : List PyData} (h : ∀ d ∈ ds, lay n d) : lay (n + 1) (.list ds) := by
  obtain ⟨h1, h2⟩ := lay_all h
  exact ⟨h1, by show PyData.depthAll ds + 1 ≤ n + 1; omega⟩
theorem lay_tup {n : Nat} {ds : List PyData} (h : ∀ d ∈ ds, lay n d) : lay (n + 1) (.tuple ds) := by
  obtain ⟨h1, h2⟩ := lay_all h
  exact ⟨h1, by show PyData.depthAll ds + 1 ≤ n + 1; omega⟩
theorem lay_int {n : Nat} {i : Int} : lay n (.int i) := ⟨rfl, Nat.zero_le _⟩
theorem lay_str {n : Nat} {x : Str} (h : PyData.strOk x = true) : lay n (.str x) := ⟨h, Nat.zero_le _⟩
theorem lay.shaped {n : Nat} {d : PyData} (h : lay n d) (hn : n ≤ 64) : SeqAt.shaped d = true := by
  unfold SeqAt.shaped
  rw [h.1, decide_eq_true (Nat.le_trans h.2 hn)]; rfl
theorem lay.up {n m : Nat} {d : PyData} (h : lay n d) (hn : n ≤ m) : lay m d := ⟨h.1, Nat.le_trans h.2 hn⟩
theorem lay_strs {n : Nat} {xs : List Str} (h : ∀ x ∈ xs, PyData.strOk x = true) : lay (n + 1) (.list (xs.map PyData.str)) := lay_list fun d hd => by
  obtain ⟨x, hx, rfl⟩ := List.mem_map.mp hd
  exact lay_str (h x hx)
theorem lay_rowsD {rows : List (List V)} (h : ∀ r ∈ rows, ∀ v ∈ r, okd v) : lay 2 (rowsD rows) := by
  obtain ⟨h1, h2⟩ := lay_rows h
  exact ⟨h1, by show PyData.depthAll _ + 1 ≤ 2; omega⟩
theorem strOk_up {hs : List Hd} (V : VH hs) {x : Str} (h : x ∈ nms hs) : PyData.strOk (up hs x) = true := by
  rcases (up_ok V h).2 with e | e
  · rw [e]; decide +kernel
  · exact strOk_W (V.w _ e)
theorem lay_info {hs : List Hd} (V : VH hs) {x : Str} (h : x ∈ nms hs) : lay 2 (info hs x) := lay_tup fun d hd => by
  simp only [List.mem_cons, List.not_mem_nil, or_false] at hd
  rcases hd with rfl | rfl | rfl
  · exact lay_str (strOk_up V h)
  · exact lay_strs fun z hz => strOk_W (V.w _ (kn_mem V h hz))
  · exact lay_strs fun z hz => strOk_W (V.w _ (List.mem_filter.mp hz).1)
theorem lay_parts {y : Yr} (h : y.ok) : ∀ d ∈ y.parts, lay 2 d := by
  intro d hd
  simp only [Yr.parts, List.mem_cons, List.not_mem_nil, or_false] at hd
  rcases hd with rfl | rfl | rfl | rfl
  · exact lay_int
  · exact lay_rowsD h.hv
  · exact lay_rowsD h.lv
  · exact lay_rowsD h.rv
theorem lay_due {y : Yr} (h : y.ok) : lay 3 y.due := lay_list fun d hd => by
  rcases List.mem_append.mp hd with hd | hd
  · rcases List.mem_append.mp hd with hd | hd
    · exact lay_parts h d hd
    · rw [List.mem_singleton.mp hd]; exact lay_strs fun z hz => strOk_W (h.h.w _ hz)
  · obtain ⟨x, hx, rfl⟩ := List.mem_map.mp hd
    exact lay_info h.h hx
/-! ### dicts of texts -/
theorem merge_out {acc r : List (Key × V)} {k : Key} (h : ∀ kv ∈ r, kv.1 ≠ k) : valV (mergeK acc r) k = valV acc k := by
  unfold mergeK
  induction r generalizing acc with
  | nil => rfl
  | cons a r ih =>
    rw [List.foldl_cons, ih fun kv hk => h kv (List.mem_cons_of_mem _ hk), valV_put, if_neg fun e => h a List.mem_cons_self e.symm]
theorem merge_in {hs : List Hd} : ∀ {acc : List (Key × V)} {i : Nat} {r : Hd}, (nms hs).Nodup → hs[i]? = some r → valV (mergeK acc (hs.map fun r => ((Sum.inr r.1 : Key), V.str r.2))) (Sum.inr r.1) = some (.str r.2) := by
  induction hs with
  | nil => intro acc i r _ h; simp at h
  | cons a hs ih =>
    intro acc i r hn h
    have hn' := List.nodup_cons.mp (show (a.1 :: nms hs).Nodup from hn)
    show valV (mergeK (putK acc (Sum.inr a.1) (.str a.2)) (hs.map fun r => ((Sum.inr r.1 : Key), V.str r.2))) (Sum.inr r.1) = _
    cases i with
    | zero =>
      have e : a = r := Option.some.inj h
      subst e
      rw [merge_out, valV_put, if_pos rfl]
      intro kv hk
      obtain ⟨q, hq, rfl⟩ := List.mem_map.mp hk
      intro z
      have : q.1 = a.1 := by injection z
      exact hn'.1 (by rw [← this]; exact List.mem_map.mpr ⟨q, hq, rfl⟩)
    | succ i => exact ih hn'.2 h
theorem paired_map {α β γ δ : Type} {F : α → β → Prop} {G : α → γ → Prop} {f : δ → β} {g : δ → γ} (k : ∀ a d, F a (f d) → G a (g d)) : ∀ {ts : List α} {ds : List δ}, Paired F ts (ds.map f) → Paired G ts (ds.map g)
  | _, [], .nil => .nil
  | _, d :: ds, .cons a p => .cons (k _ _ a) (paired_map k p)
end KP
namespace KP
open PySem L2
abbrev sLKnots : Stmt := top 35
abbrev sLAll : Stmt := top 36
abbrev sLAsked : Stmt := top 37
abbrev sLDue : Stmt := top 38
abbrev sLaw : Stmt := top 40
def spLParts : Sp := fun vs H Q _ => ∃ a : Addr, vs = [.ref a] ∧ WellAt H a ∧ ∀ (q lh ll lr : Addr) (th tl tr : List Addr) (y : Yr) (H' : Hp), y.ok → H' q = some (.lst [.int y.days, .ref lh, .ref ll, .ref lr]) → RowsAt H' lh th (y.hs.map hv) → RowsAt H' ll tl (y.ls.map rv) → RowsAt H' lr tr (y.rs.map rv) →
  H q = none → H lh = none → H ll = none → H lr = none → WellAt H' a → SameB a H H' → Q (.ref q) H'
def spLKnots : Sp := fun vs H Q _ => ∃ (lh : Addr) (th : List Addr) (hs : List Hd) (x : Str), vs = [.ref lh, .str x] ∧ RowsAt H lh th (hs.map hv) ∧ VH hs ∧ x ∈ nms hs ∧ ∀ q H', Same H H' → H q = none → H' q = some (.lst ((kn hs x).map V.str)) → Q (.ref q) H'
def spLAll : Sp := fun vs H Q _ => ∃ (lh : Addr) (th : List Addr) (hs : List Hd), vs = [.ref lh] ∧ RowsAt H lh th (hs.map hv) ∧ VH hs ∧ ∀ (q : Addr) (xs : List V) (H' : Hp), Same H H' → H q = none → H' q = some (.lst xs) → DMs (fun a => H a = none) H' xs ((nms hs).map (info hs)) → Q (.ref q) H'
section
variable {P : Program} {w : World} {K : PySem.W.Frag} {mg : Str → Option Value} {base : Heap}
theorem scLParts : FnScope ["_law_well_here", "_law_days", "_law_heads_here"] ["_law_well_here"] (defScope sLParts) := ⟨rfl, rfl, rfl, by decide +kernel, rfl, by decide +kernel, by decide +kernel⟩
theorem c_lparts (Dr : Cal P w K mg base 1 "_law_draw" spDraw) (Hs : Cal P w K mg base 4 "_law_heads" spLHeads) (Li : Cal P w K mg base 2 "_law_limits" spLLimits) (Ru : Cal P w K mg base 2 "_law_rules" spLRules) (D : DefT K mg "_law_parts" sLParts ["_law_well_here"]) : Cal P w K mg base 5 "_law_parts" spLParts := by
  refine cal D scLParts (fun vs H Q E h => ?_) (fun f cdv A outer s H vs Q E hr h => ?_)
  · obtain ⟨a, rfl, _⟩ := h
    rfl
  · obtain ⟨a, rfl, ha, k⟩ := h
    refine ⟨_, pss_cons (ps_set (i := 1) scLParts.nd rfl (Or.inl rfl) (pe_ix ix_list (pe_lst (pa_cons (pe_op op_add pe_int (pe_cl Dr hr (by decide) (by rfl) (pa_cons (pv 0) (pa_cons pe_int pa_nil)))) (pa_cons pe_int (pa_cons pe_int pa_nil))))
        (pe_ix ix_list (pe_lst (pa_cons pe_int (pa_cons pe_int (pa_cons pe_int (pa_cons pe_int (pa_cons pe_int pa_nil)))))) (pe_cl Dr hr (by decide) (by rfl) (pa_cons (pv 0) (pa_cons pe_int pa_nil))) (fun _ _ => rfl)) (fun _ _ => rfl)))
      (pss_cons (ps_set (i := 2) scLParts.nd rfl (Or.inl rfl) (pe_cl Hs hr (by decide) (by rfl) (pa_cons (pv 0) pa_nil)))
      (pss_one (ps_ret (pe_lst (pa_cons (pv 1) (pa_cons (pv 2) (pa_cons (pe_cl Li hr (by decide) (by rfl) (pa_cons (pv 0) (pa_cons (pv 2) (pa_cons (pv 1) pa_nil)))) (pa_cons (pe_cl Ru hr (by decide) (by rfl) (pa_cons (pv 0) (pa_cons (pv 2) (pa_cons (pv 1) pa_nil)))) pa_nil)))))))), ?_⟩
    refine ⟨_, rfl, a, 30, rfl, ha, by decide, by decide, fun r1 H1 r10 r11 w1 s1 => ⟨_, _, rfl, rfl, (by show 3 ≤ sizeLine; decide), fun l hl => ⟨(by show 5 ≤ sizeLine; decide), fun l2 hl2 => ?_⟩⟩⟩
    refine ⟨_, rfl, a, 5, rfl, (w1.new hl).new hl2, by decide, by decide, fun r2 H2 r20 r21 w2 s2 => ?_⟩
    have hl22 := s2 l2 _ upd_same ((w1.new hl).ne hl2).symm
    have hll := s2 l _ (same_new hl2 _ _ upd_same) (w1.ne hl).symm
    have s2' : SameB a H H2 := ((s1.trans (SameB.of (same_new hl))).trans (SameB.of (same_new hl2))).trans s2
    obtain ⟨j, hj, hjb⟩ : ∃ j : Int, atI [V.int 0, V.int 0, V.int 0, V.int 1, V.int 2] r2 = some (.int j) ∧ (j = 0 ∨ j = 1 ∨ j = 2) := by
      rcases (by omega : r2 = 0 ∨ r2 = 1 ∨ r2 = 2 ∨ r2 = 3 ∨ r2 = 4) with rfl | rfl | rfl | rfl | rfl
      · exact ⟨0, rfl, .inl rfl⟩
      · exact ⟨0, rfl, .inl rfl⟩
      · exact ⟨0, rfl, .inl rfl⟩
      · exact ⟨1, rfl, .inr (.inl rfl)⟩
      · exact ⟨2, rfl, .inr (.inr rfl)⟩
    obtain ⟨d, hd, hdb⟩ : ∃ d : Int, atI [V.int (1 + r1), V.int 30, V.int 1] j = some (.int d) ∧ 1 ≤ d ∧ d ≤ 30 := by
      rcases hjb with rfl | rfl | rfl
      · exact ⟨1 + r1, rfl, by omega, by omega⟩
      · exact ⟨30, rfl, by omega, by omega⟩
      · exact ⟨1, rfl, by omega, by omega⟩
    refine ⟨l2, _, _, _, rfl, rfl, SqL.of hl22, hj, l, _, _, _, rfl, rfl, SqL.of hll, hd, ?_⟩
    refine ⟨_, rfl, a, rfl, w2, fun lh th hs H3 Vh R3 nlh w3 s3 => ?_⟩
    have lha : lh ≠ a := fun z => by subst z; obtain ⟨_, _, _, e⟩ := w2; rw [nlh] at e; cases e
    refine ⟨_, rfl, _, rfl, _, rfl, _, rfl, _, rfl, a, lh, th, hs, d, rfl, w3, R3, lha, Vh, hdb.1, hdb.2, fun ll tl ls H4 lok l6 R4 nll w4 s4 => ?_⟩
    have lla : ll ≠ a := fun z => by subst z; obtain ⟨_, _, _, e⟩ := w3; rw [nll] at e; cases e
    refine ⟨_, rfl, _, rfl, _, rfl, a, lh, th, hs, d, rfl, w4, R3.keepB w3 s4 lha, lha, Vh, hdb.1, hdb.2, fun lr tr rs H5 rok r4 one R5 nlr w5 s5 => ⟨(by show 4 ≤ sizeLine; decide), fun q hq => ?_⟩⟩
    have sq : Same H5 _ := same_new (o := .lst [V.int d, V.ref lh, V.ref ll, V.ref lr]) hq
    have s3' := s2'.trans s3
    have s4' := s3'.trans s4
    refine k q lh ll lr th tl tr ⟨d, hs, ls, rs⟩ _ ⟨hdb, Vh, lok, l6, rok, r4, one⟩ upd_same (((R3.keepB w3 s4 lha).keepB w4 s5 lha).same sq) ((R4.keepB w4 s5 lla).same sq) (R5.same sq) ?_ ?_ ?_ ?_ (w5.new hq) ((s4'.trans s5).trans (SameB.of sq))
    · exact free_ofB w5 (s4'.trans s5) hq
    · exact free_ofB w2 s2' nlh
    · exact free_ofB w3 s3' nll
    · exact free_ofB w4 s4' nlr
abbrev nLKnots : List Str := ["_law_heads_here", "_law_name_here", "_law_above", "_law_found", "_law_k"]
theorem scLKnots : FnScope nLKnots ["_law_heads_here", "_law_name_here"] (defScope sLKnots) := ⟨rfl, rfl, rfl, by decide +kernel, rfl, by decide +kernel, by decide +kernel⟩
theorem c_lknots (B : Base K mg) (D : DefT K mg "_law_knots" sLKnots ["_law_heads_here", "_law_name_here"]) : Cal P w K mg base 1 "_law_knots" spLKnots := by
  refine cal D scLKnots (fun vs H Q E h => ?_) (fun f cdv A outer s H vs Q E hr h => ?_)
  · obtain ⟨lh, th, hs, x, rfl, _⟩ := h
    rfl
  · obtain ⟨lh, th, hs, x, rfl, R, Vh, hx, k⟩ := h
    have hz : sizeLine = 16777216 := by decide
    have thl : th.length = hs.length := by rw [R.len, List.length_map]
    have h8 := Vh.l8
    refine ⟨_, pss_cons (ps_set (i := 2) scLKnots.nd rfl (Or.inl rfl) (pe_callTy (call_dictP rfl) (by rfl) B.dict (by decide +kernel) (pa_cons (pv 0) pa_nil)))
      (pss_cons (ps_set (i := 3) scLKnots.nd rfl (Or.inl rfl) (pe_lst pa_nil))
      (pss_cons (ps_for PassesOwn.never rfl (pi_range1 (by rfl) B.range (pa_cons (pe_callB call_len_seq (by rfl) B.len PySem.boot_len (pa_cons (pv 0) pa_nil)) pa_nil)) (pg_name (i := 4) scLKnots.nd rfl (Or.inl rfl))
        (pss_one (ps_if (pt_cmpR op_ne (pv 1) pe_str (nomark _)) (pss_cons (ps_expr (pe_bm PySem.F.plainAttrs_list PySem.F.slot_list_append PySem.F.type_list_append mt_append (pv 3) (pa_cons (pv 1) pa_nil)))
          (pss_one (ps_set (i := 1) scLKnots.nd rfl (Or.inl rfl) (pe_dget (hu_of hr) (pv 2) (pv 1) (fun _ _ => rfl))))) pss_nil)))
      (pss_one (ps_ret (pv 3))))), ?_⟩
    have PD : Paired (fun p (kv : Key × V) => SqT K H p [kV kv.1, kv.2]) th (hs.map fun r : Hd => ((Sum.inr r.1 : Key), V.str r.2)) := paired_map (F := fun t r => H t = some (.tup r)) (f := hv) (g := fun r => ((Sum.inr r.1 : Key), V.str r.2)) (fun a d e => SqT.of e) R.2
    refine ⟨_, rfl, lh, th, hs.map (fun r : Hd => ((Sum.inr r.1 : Key), V.str r.2)), rfl, SqL.of R.1, PD, fun d hd => ⟨(by show 0 ≤ sizeLine; decide), fun G hG => ?_⟩⟩
    have hdG : d ≠ G := ne_of_none upd_same hG
    have nG : H G = none := (same_new hd).free hG
    have s0 : Same H _ := (same_new hd).trans (same_new (o := .lst []) hG)
    refine ⟨_, rfl, lh, _, rfl, .inl (SqL.of (s0 _ _ R.1)), _, rfl, by omega, by rw [List.length_map, thl]; omega, for_range (lo := 0) (n := ((th.map V.ref).length : Int).toNat)
      (fun i σ H' => ∃ (u : Str) (xs : List Str) (v4 : Option V), σ = [some (.ref lh), some (.str u), some (.ref d), some (.ref G), v4] ∧ xs.length ≤ i ∧ xs ++ chain hs (hs.length - i) u = kn hs x ∧ (u = "" ∨ u ∈ nms hs) ∧ H' = upd (upd H d (.dK (mergeK [] (hs.map fun r : Hd => ((Sum.inr r.1 : Key), V.str r.2))))) G (.lst (xs.map V.str)))
      ⟨x, [], none, rfl, Nat.le_refl _, rfl, .inr hx, rfl⟩ ?_ ?_⟩
    · rintro i σ H1 hi ⟨u, xs, v4, rfl, hl, hc, hu, rfl⟩
      rw [List.length_map, thl, Int.toNat_natCast] at hi
      refine ⟨_, rfl, rfl, _, rfl, ite2 (fun c => ?_) (fun c => ?_)⟩
      · have une : u ≠ "" := fun z => by rw [z] at c; exact absurd c (by decide +kernel)
        have hm : u ∈ nms hs := by
          rcases hu with z | z
          · exact absurd z une
          · exact z
        obtain ⟨iu, uu, hiu⟩ := mem_nms hm
        have eu : up hs u = uu := up_at Vh.nd hiu
        refine ⟨_, rfl, .inl ⟨rfl, _, SqL.of upd_same⟩, _, rfl, G, _, _, rfl, rfl, upd_same, (by rw [List.length_map]; omega), ?_⟩
        rw [upd_upd]
        have hg : DGet (upd (upd H d (.dK (mergeK [] (hs.map fun r : Hd => ((Sum.inr r.1 : Key), V.str r.2))))) G (.lst (xs.map V.str ++ [V.str u]))) d (.str u) (some (.str uu)) := by
          have h1 := DGet.k (k := Sum.inr u) (show (upd (upd H d (.dK (mergeK [] (hs.map fun r : Hd => ((Sum.inr r.1 : Key), V.str r.2))))) G (.lst (xs.map V.str ++ [V.str u]))) d = some (.dK _) by rw [upd_ne hdG]; exact upd_same)
          rw [merge_in Vh.nd hiu] at h1
          exact h1
        refine ⟨_, rfl, _, rfl, d, _, rfl, hg, ?_⟩
        refine ⟨uu, xs ++ [u], _, rfl, by rw [List.length_append]; show _ + 1 ≤ _; omega, ?_, by rw [← eu]; exact (up_ok Vh hm).2, by rw [List.map_append]; rfl⟩
        obtain ⟨m, hm2⟩ : ∃ m, hs.length - i = m + 1 := ⟨hs.length - i - 1, by omega⟩
        rw [hm2, chain_cons une, eu] at hc
        rw [← hc, List.append_assoc, show hs.length - (i + 1) = m by omega]
        rfl
      · have ue : u = "" := by
          by_cases z : u = ""
          · exact z
          · exfalso
            apply c
            rw [decide_eq_false (fun q : V.str u = V.str "" => z (by injection q))]
            rfl
        subst ue
        refine ⟨"", xs, _, rfl, by omega, ?_, .inl rfl, rfl⟩
        rw [chain_nil] at hc ⊢
        exact hc
    · rintro σ H1 ⟨u, xs, v4, rfl, hl, hc, hu, rfl⟩
      rw [List.length_map, thl, Int.toNat_natCast, Nat.sub_self] at hc
      have e : xs = kn hs x := by rw [← hc]; show xs = xs ++ []; rw [List.append_nil]
      rw [e]
      exact ⟨_, rfl, k G _ ((same_new hd).trans (same_new hG)) nG upd_same⟩
abbrev nLAll : List Str := ["_law_heads_here", "_law_names_here", "_law_found", "_law_name_here", "_law_above", "_law_one"]
theorem scLAll : FnScope nLAll ["_law_heads_here"] (defScope sLAll) := ⟨rfl, rfl, rfl, by decide +kernel, rfl, by decide +kernel, by decide +kernel⟩
theorem c_lall (Kn : Cal P w K mg base 1 "_law_knots" spLKnots) (D : DefT K mg "_law_all" sLAll ["_law_heads_here"]) : Cal P w K mg base 2 "_law_all" spLAll := by
  refine cal D scLAll (fun vs H Q E h => ?_) (fun f cdv A outer s H vs Q E hr h => ?_)
  · obtain ⟨lh, th, hs, rfl, _⟩ := h
    rfl
  · obtain ⟨lh, th, hs, rfl, R, Vh, k⟩ := h
    have hz : sizeLine = 16777216 := by decide
    have thl : th.length = hs.length := by rw [R.len, List.length_map]
    have h8 := Vh.l8
    have nl : (nms hs).length = hs.length := by unfold nms; rw [List.length_map]
    refine ⟨_, pss_cons (ps_setLc (i := 1) (own := [("_law_name_here", 3), ("_law_above", 4)]) (g := gTup K 2 (gCons (gName 3) (gCons (gName 4) gNil))) (tt := tYes) (te := tVar 3) rfl scLAll.nd rfl (by first | rfl | decide +kernel) (sw_true rfl (by first | rfl | decide +kernel) rfl (by decide +kernel)) (pi_list (pv 0)) (blkOk_by (N := nLAll) (sc := defScope sLAll) (by decide +kernel))
        (fun _ _ _ _ _ => pg_tup rfl (pgs_cons (pg_name (i := 3) scLAll.nd rfl (Or.inl rfl)) (pgs_cons (pg_name (i := 4) scLAll.nd rfl (Or.inl rfl)) pgs_nil))) (fun _ _ _ _ _ => pts_nil) (fun _ _ _ _ _ => pv 3))
      (pss_cons (ps_set (i := 2) scLAll.nd rfl (Or.inl rfl) (pe_lst pa_nil))
      (pss_cons (ps_for PassesOwn.never rfl (pi_list (pv 0)) (pg_tup rfl (pgs_cons (pg_name (i := 3) scLAll.nd rfl (by first | exact Or.inl rfl | exact Or.inr rfl)) (pgs_cons (pg_name (i := 4) scLAll.nd rfl (by first | exact Or.inl rfl | exact Or.inr rfl)) pgs_nil)))
        (pss_one (ps_expr (pe_bm PySem.F.plainAttrs_list PySem.F.slot_list_append PySem.F.type_list_append mt_append (pv 2) (pa_cons (pe_tup (pa_cons (pv 4) (pa_cons (pe_cl Kn hr (by decide) (by rfl) (pa_cons (pv 0) (pa_cons (pv 3) pa_nil)))
          (pa_cons (pe_lc (own := [("_law_one", 5)]) (g := gName 5) (tt := tTest (tOp (rIn K false) (tVar 3) (tCall spLKnots [] E0 (tCons (tVar 0) (tCons (tVar 5) tNil))))) rfl scLAll.nd (pi_list (pv 1)) (blkOk_by (N := nLAll) (sc := defScope sLAll) (by decide +kernel))
            (fun _ _ _ _ _ => pg_name (i := 5) scLAll.nd rfl (Or.inl rfl)) (fun _ _ _ _ _ => pts_one (pt_cmpR op_in_seq (pv 3) (pe_cl Kn hr (by decide) (by rfl) (pa_cons (pv 0) (pa_cons (pv 5) pa_nil))) rfl)) (fun _ _ _ _ _ => pv 5)) pa_nil)))) pa_nil)))))
      (pss_one (ps_ret (pv 2))))), ?_⟩
    refine ⟨_, rfl, lh, rfl, ⟨_, SqL.of R.1⟩, fun D2 hD2 => lc_it (walk_list (xs := th.map V.ref)) (fun i H' => H' = upd H D2 (.lst (((nms hs).take i).map V.str))) rfl (fun i H' _ e => by rw [e]; exact SqL.of (same_new hD2 _ _ R.1)) ?_ ?_⟩
    · rintro i v H2 H3 hi rfl ⟨rfl, hv⟩
      obtain ⟨t, r, rfl, hr1, ht, hti⟩ := row_get R hv
      refine ⟨t, _, rfl, SqT.of (same_new hD2 _ _ ht), rfl, _, _, rfl, _, _, rfl, rfl, rfl, yes (iteT ⟨_, rfl, _, upd_same, ?_, ?_⟩)⟩
      · rw [List.length_map, List.length_take]
        rw [List.length_map, thl] at hi
        omega
      · rw [upd_upd, take_more (nms_get hr1), List.map_append]
        rfl
    · rintro H2 rfl
      have el : (nms hs).take (th.map V.ref).length = nms hs := List.take_of_length_le (by rw [List.length_map, nl, thl]; exact Nat.le_refl _)
      rw [el]
      have s1 : Same H (upd H D2 (.lst ((nms hs).map V.str))) := same_new hD2
      have d1 : upd H D2 (.lst ((nms hs).map V.str)) D2 = some (.lst ((nms hs).map V.str)) := upd_same
      generalize upd H D2 (.lst ((nms hs).map V.str)) = H1 at s1 d1
      refine ⟨(by show 0 ≤ sizeLine; decide), fun G hG => ?_⟩
      have nG : H G = none := s1.free hG
      have R1 := R.same s1
      refine ⟨_, rfl, lh, rfl, ⟨_, SqL.of (same_new hG _ _ R1.1)⟩, for_list (K := K) (a := lh) (xs := th.map V.ref) (fun i σ H' => ∃ (v3 v4 : Option V) (xs : List V), σ = [some (.ref lh), some (.ref D2), some (.ref G), v3, v4, none] ∧ Same H1 H' ∧ xs.length = i ∧ H' G = some (.lst xs) ∧ DMs (fun a => H a = none ∧ a ≠ G) H' xs (((nms hs).take i).map (info hs)))
        ⟨none, none, [], rfl, same_new hG, rfl, upd_same, .nil⟩ (fun i σ H' _ ⟨_, _, _, _, z, _⟩ => SqL.of (z _ _ R1.1)) ?_ ?_⟩
      · rintro i v σ H3 hi ⟨v3, v4, xs, rfl, s3, hxl, g3, dm3⟩
        obtain ⟨t, r, rfl, hr1, ht, hti⟩ := row_get R1 hi
        have hi8 : i < th.length := (List.getElem?_eq_some_iff.mp hti).1
        have hm : r.1 ∈ nms hs := List.mem_of_getElem? (nms_get hr1)
        have eu : up hs r.1 = r.2 := up_at Vh.nd hr1
        have R3 := R1.same s3
        refine ⟨t, _, rfl, SqT.of (s3 _ _ ht), rfl, _, _, rfl, _, _, rfl, rfl, ?_⟩
        refine ⟨_, rfl, .inl ⟨rfl, _, SqL.of g3⟩, _, rfl, _, rfl, _, rfl, lh, th, hs, r.1, rfl, R3, Vh, hm, fun u1 H4 s4 nu1 hu1 => ?_⟩
        have d4 := s4 _ _ (s3 _ _ d1)
        refine ⟨_, rfl, D2, rfl, ⟨_, SqL.of d4⟩, fun u2 hu2 => lc_it (walk_list (xs := (nms hs).map V.str)) (fun j H' => Same H4 H' ∧ H' u2 = some (.lst ((((nms hs).take j).filter fun h => decide (r.1 ∈ kn hs h)).map V.str))) ⟨same_new hu2, upd_same⟩ (fun j H' _ e => SqL.of (e.1 _ _ d4)) ?_ ?_⟩
        · rintro j v5 H5 H6 hj ⟨s5, d5⟩ ⟨rfl, hv5⟩
          obtain ⟨z, hz2, rfl⟩ : ∃ z, (nms hs)[j]? = some z ∧ v5 = V.str z := by
            rw [List.getElem?_map] at hv5
            cases e : (nms hs)[j]? with
            | none => rw [e] at hv5; cases hv5
            | some z => rw [e] at hv5; exact ⟨z, rfl, (Option.some.inj hv5).symm⟩
          have hzm : z ∈ nms hs := List.mem_of_getElem? hz2
          refine ⟨rfl, _, rfl, _, rfl, _, rfl, lh, th, hs, z, rfl, (R3.same s4).same s5, Vh, hzm, fun u3 H7 s7 nu3 hu3 => ?_⟩
          have d7 := s7 _ _ d5
          refine ⟨u3, _, rfl, .inl (SqL.of hu3), rfl, flat_strs, _, rfl, ?_⟩
          show if (inV (.str r.1) ((kn hs z).map V.str)) = true then _ else _
          rw [inV_str]
          have et := take_more hz2
          refine ite2 (fun c => ?_) (fun c => ?_)
          · refine ⟨_, rfl, _, d7, ?_, ?_, ?_⟩
            · have h1 : (((nms hs).take j).filter fun h => decide (r.1 ∈ kn hs h)).length ≤ ((nms hs).take j).length := List.length_filter_le _ _
              rw [List.length_map]
              rw [List.length_take] at h1
              omega
            · intro b o e
              rw [upd_ne (ne_of_none e hu2)]
              exact s7 _ _ (s5 _ _ e)
            · rw [upd_same, et, List.filter_append, List.map_append, List.filter_cons, if_pos c]
              rfl
          · refine ⟨s5.trans s7, ?_⟩
            rw [d7, et, List.filter_append, List.filter_cons, if_neg c]
            simp
        · rintro H5 ⟨s5, d5⟩
          rw [List.length_map, List.take_length] at d5
          refine ⟨(by show 3 ≤ sizeLine; decide), fun tt htt => ?_⟩
          have s6 : Same H3 (upd H5 tt (.tup [V.str r.2, V.ref u1, V.ref u2])) := (s4.trans s5).trans (same_new htt)
          have t6 : upd H5 tt (.tup [V.str r.2, V.ref u1, V.ref u2]) tt = some (.tup [V.str r.2, V.ref u1, V.ref u2]) := upd_same
          have a6 : upd H5 tt (.tup [V.str r.2, V.ref u1, V.ref u2]) u1 = some (.lst ((kn hs r.1).map V.str)) := same_new htt _ _ (s5 _ _ hu1)
          have b6 : upd H5 tt (.tup [V.str r.2, V.ref u1, V.ref u2]) u2 = some (.lst ((und hs r.1).map V.str)) := same_new htt _ _ d5
          refine ⟨G, _, _, rfl, rfl, s6 _ _ g3, (by omega), ?_⟩
          have n1 : H u1 = none := (s1.trans s3).free nu1
          have n2 : H u2 = none := ((s1.trans s3).trans s4).free hu2
          have g1 : u1 ≠ G := fun z => by subst z; rw [nu1] at g3; cases g3
          have g2 : u2 ≠ G := fun z => by
            have := s4 _ _ g3
            subst z
            rw [hu2] at this; cases this
          generalize upd H5 tt (.tup [V.str r.2, V.ref u1, V.ref u2]) = H6 at s6 t6 a6 b6
          refine ⟨_, _, xs ++ [.ref tt], rfl, fun b o e => ?_, by rw [List.length_append, hxl]; rfl, upd_same, ?_⟩
          · rw [upd_ne (ne_of_none e hG)]
            exact s6 _ _ (s3 _ _ e)
          · rw [take_more (nms_get hr1), List.map_append]
            have ks : KeepS (fun a => H a = none ∧ a ≠ G) H6 (upd H6 G (.lst (xs ++ [V.ref tt]))) := fun b o e z => by
              by_cases hb : b = G
              · subst hb
                have e2 := s6 _ _ g3
                rw [e] at e2
                exact absurd rfl (z ⟨_, Option.some.inj e2⟩).2
              · rw [upd_ne hb]; exact e
            refine DMs.append ((dm3.same s6).keep ks) (.cons (DM.keep ks ?_) .nil)
            show DM _ H6 (.ref tt) (.tuple [.str (up hs r.1), .list ((kn hs r.1).map PyData.str), .list ((und hs r.1).map PyData.str)])
            rw [eu]
            exact .tup t6 (.cons (.str _) (.cons (.lst ⟨n1, g1⟩ a6 (DMs.strs _)) (.cons (.lst ⟨n2, g2⟩ b6 (DMs.strs _)) .nil)))
      · rintro σ H3 ⟨v3, v4, xs, rfl, s3, hxl, g3, dm3⟩
        rw [List.length_map, thl, ← nl, List.take_length] at dm3
        exact ⟨_, rfl, k G xs H3 (s1.trans s3) nG g3 (dm3.mono fun _ _ _ z => z.1)⟩
end
end KP
namespace KP
open PySem L2
def spLDue : Sp := fun vs H Q _ => ∃ (q lh ll lr : Addr) (th tl tr : List Addr) (y : Yr), vs = [.ref q] ∧ H q = some (.lst [.int y.days, .ref lh, .ref ll, .ref lr]) ∧ RowsAt H lh th (y.hs.map hv) ∧ RowsAt H ll tl (y.ls.map rv) ∧ RowsAt H lr tr (y.rs.map rv) ∧ y.ok ∧
  ∀ (p : Addr) (xs : List V) (H' : Hp), Same H H' → H p = none → H' p = some (.lst (.int y.days :: .ref lh :: xs)) → DM (fun a => H a = none ∨ a = lh ∨ a = ll ∨ a = lr) H' (.ref p) y.due → Q (.ref p) H'
def spLAsked (C : Addr) : Sp := fun vs H Q _ => ∃ (p : Addr) (y : Yr), vs = [.ref p] ∧ YearAt C [] H p y ∧ y.ok ∧ ∀ (q : Addr) (xs : List V) (H' : Hp), Same H H' → H q = none → H' q = some (.lst (.int y.days :: xs)) → DM (fun _ => True) H' (.ref q) y.due → Q (.ref q) H'
section
variable {P : Program} {w : World} {K : PySem.W.Frag} {mg : Str → Option Value} {base : Heap} {C : Addr}
abbrev nLDue : List Str := ["_law_parts_here", "_law_days", "_law_heads_here", "_law_limits_here", "_law_rules_here", "_law_name_here", "_law_above"]
theorem scLDue : FnScope nLDue ["_law_parts_here"] (defScope sLDue) := ⟨rfl, rfl, rfl, by decide +kernel, rfl, by decide +kernel, by decide +kernel⟩
theorem c_ldue (Al : Cal P w K mg base 2 "_law_all" spLAll) (D : DefT K mg "_law_due" sLDue ["_law_parts_here"]) : Cal P w K mg base 3 "_law_due" spLDue := by
  refine cal D scLDue (fun vs H Q E h => ?_) (fun f cdv A outer s H vs Q E hr h => ?_)
  · obtain ⟨q, lh, ll, lr, th, tl, tr, y, rfl, _⟩ := h
    rfl
  · obtain ⟨q, lh, ll, lr, th, tl, tr, y, rfl, hq, r1, r2, r3, ok, k⟩ := h
    have hz : sizeLine = 16777216 := by decide
    have thl : th.length = y.hs.length := by rw [r1.len, List.length_map]
    have h8 := ok.h.l8
    have nl : (nms y.hs).length = y.hs.length := by unfold nms; rw [List.length_map]
    refine ⟨_, pss_cons (ps_asg (pv 0) (pg_unl rfl (pgs_cons (pg_name (i := 1) scLDue.nd rfl (Or.inl rfl)) (pgs_cons (pg_name (i := 2) scLDue.nd rfl (Or.inl rfl)) (pgs_cons (pg_name (i := 3) scLDue.nd rfl (Or.inl rfl)) (pgs_cons (pg_name (i := 4) scLDue.nd rfl (Or.inl rfl)) pgs_nil))))))
      (pss_one (ps_ret (pe_op op_cat (pe_lst (pa_cons (pv 1) (pa_cons (pv 2) (pa_cons (pv 3) (pa_cons (pv 4) (pa_cons (pe_lc (own := [("_law_name_here", 5), ("_law_above", 6)]) (g := gTup K 2 (gCons (gName 5) (gCons (gName 6) gNil))) (tt := tYes) (te := tVar 5) rfl scLDue.nd (pi_list (pv 2)) (blkOk_by (N := nLDue) (sc := defScope sLDue) (by decide +kernel))
        (fun _ _ _ _ _ => pg_tup rfl (pgs_cons (pg_name (i := 5) scLDue.nd rfl (Or.inl rfl)) (pgs_cons (pg_name (i := 6) scLDue.nd rfl (Or.inl rfl)) pgs_nil))) (fun _ _ _ _ _ => pts_nil) (fun _ _ _ _ _ => pv 5)) pa_nil)))))) (pe_cl Al hr (by decide) (by rfl) (pa_cons (pv 2) pa_nil))))), ?_⟩
    refine ⟨_, rfl, q, _, rfl, SqL.of hq, rfl, _, _, rfl, _, _, rfl, _, _, rfl, _, _, rfl, rfl, ?_⟩
    refine ⟨_, rfl, _, rfl, _, rfl, _, rfl, _, rfl, lh, rfl, ⟨_, SqL.of r1.1⟩, fun D2 hD2 => lc_it (walk_list (xs := th.map V.ref)) (fun i H' => H' = upd H D2 (.lst (((nms y.hs).take i).map V.str))) rfl (fun i H' _ e => by rw [e]; exact SqL.of (same_new hD2 _ _ r1.1)) ?_ ?_⟩
    · rintro i v H2 H3 hi rfl ⟨rfl, hv⟩
      obtain ⟨t, r, rfl, hr1, ht, hti⟩ := row_get r1 hv
      refine ⟨t, _, rfl, SqT.of (same_new hD2 _ _ ht), rfl, _, _, rfl, _, _, rfl, rfl, rfl, yes (iteT ⟨_, rfl, _, upd_same, ?_, ?_⟩)⟩
      · rw [List.length_map, List.length_take]
        rw [List.length_map, thl] at hi
        omega
      · rw [upd_upd, take_more (nms_get hr1), List.map_append]
        rfl
    · rintro H2 rfl
      have el : (nms y.hs).take (th.map V.ref).length = nms y.hs := List.take_of_length_le (by rw [List.length_map, nl, thl]; exact Nat.le_refl _)
      rw [el]
      refine ⟨(by show 5 ≤ sizeLine; decide), fun l hl => ?_⟩
      have s1 : Same H (upd (upd H D2 (.lst ((nms y.hs).map V.str))) l (.lst [V.int y.days, V.ref lh, V.ref ll, V.ref lr, V.ref D2])) := (same_new hD2).trans (same_new hl)
      have d1 : upd (upd H D2 (.lst ((nms y.hs).map V.str))) l (.lst [V.int y.days, V.ref lh, V.ref ll, V.ref lr, V.ref D2]) D2 = some (.lst ((nms y.hs).map V.str)) := same_new hl _ _ upd_same
      have l1 : upd (upd H D2 (.lst ((nms y.hs).map V.str))) l (.lst [V.int y.days, V.ref lh, V.ref ll, V.ref lr, V.ref D2]) l = some (.lst [V.int y.days, V.ref lh, V.ref ll, V.ref lr, V.ref D2]) := upd_same
      generalize upd (upd H D2 (.lst ((nms y.hs).map V.str))) l (.lst [V.int y.days, V.ref lh, V.ref ll, V.ref lr, V.ref D2]) = H1 at s1 d1 l1
      refine ⟨_, rfl, lh, th, y.hs, rfl, r1.same s1, ok.h, fun a xs H3 s3 na ha dm => ?_⟩
      have xl : xs.length ≤ 8 := by rw [dm.len, List.length_map, nl]; exact h8
      refine ⟨l, a, _, _, rfl, rfl, s3 _ _ l1, ha, (by show 5 + _ ≤ _; omega), fun p hp => ?_⟩
      have s4 : Same H (upd H3 p (.lst ([V.int y.days, V.ref lh, V.ref ll, V.ref lr, V.ref D2] ++ xs))) := (s1.trans s3).trans (same_new hp)
      have np : H p = none := (s1.trans s3).free hp
      have sp := same_new (o := .lst ([V.int y.days, V.ref lh, V.ref ll, V.ref lr, V.ref D2] ++ xs)) hp
      refine k p _ _ s4 np upd_same (.lst (.inl np) upd_same ?_)
      refine DMs.append (.cons (.int _) (.cons (DM.rows (r1.same s4) ok.hv (.inr (.inl rfl))) (.cons (DM.rows (r2.same s4) ok.lv (.inr (.inr (.inl rfl)))) (.cons (DM.rows (r3.same s4) ok.rv (.inr (.inr (.inr rfl)))) (.cons (.lst (.inl hD2) (sp _ _ (s3 _ _ d1)) (DMs.strs _)) .nil))))) ?_
      exact (dm.same sp).mono fun b o e z => .inl (s1.free z)
abbrev nLAsked : List Str := ["_law_year", "_law_names_here", "_law_found", "_law_name_here", "_law_some"]
theorem scLAsked : FnScope nLAsked ["_law_year"] (defScope sLAsked) := ⟨rfl, rfl, rfl, by decide +kernel, rfl, by decide +kernel, by decide +kernel⟩
theorem c_lasked (B : Base K mg) (T : YearF K mg C) (Ab : MetT P w K mg base 1 C "above" (spYA C)) (Nm : MetT P w K mg base 1 C "names" (spYN C)) (Kn : MetT P w K mg base 2 C "knots" (spYK C)) (Un : MetT P w K mg base 3 C "under" (spYU C)) (D : DefT K mg "_law_asked" sLAsked ["_law_year"]) : Cal P w K mg base 4 "_law_asked" (spLAsked C) := by
  refine cal D scLAsked (fun vs H Q E h => ?_) (fun f cdv A outer s H vs Q E hr h => ?_)
  · obtain ⟨p, y, rfl, _⟩ := h
    rfl
  · obtain ⟨p, y, rfl, hy, ok, k⟩ := h
    obtain ⟨dx, l1, l2, l3, t1, t2, t3, hp, r1, r2, r3, _⟩ := hy.ex
    have hz : sizeLine = 16777216 := by decide
    have h8 := ok.h.l8
    have nl : (nms y.hs).length = y.hs.length := by unfold nms; rw [List.length_map]
    have nfa : (yf y.days l1 l2 l3).lookup ("above" : Str) = none := yf_no (by decide +kernel) (by decide +kernel) (by decide +kernel) (by decide +kernel)
    have nfn : (yf y.days l1 l2 l3).lookup ("names" : Str) = none := yf_no (by decide +kernel) (by decide +kernel) (by decide +kernel) (by decide +kernel)
    have nfk : (yf y.days l1 l2 l3).lookup ("knots" : Str) = none := yf_no (by decide +kernel) (by decide +kernel) (by decide +kernel) (by decide +kernel)
    have nfu : (yf y.days l1 l2 l3).lookup ("under" : Str) = none := yf_no (by decide +kernel) (by decide +kernel) (by decide +kernel) (by decide +kernel)
    refine ⟨_, pss_cons (ps_set (i := 1) scLAsked.nd rfl (Or.inl rfl) (pe_mtT0 Nm hr (by decide) (pv 0)))
      (pss_cons (ps_set (i := 2) scLAsked.nd rfl (Or.inl rfl) (pe_lst (pa_cons (pe_fld (pv 0) rfl) (pa_cons (pe_callTy call_list_of (by rfl) B.list (by decide +kernel) (pa_cons (pe_fld (pv 0) rfl) pa_nil)) (pa_cons (pe_callTy call_list_of (by rfl) B.list (by decide +kernel) (pa_cons (pe_fld (pv 0) rfl) pa_nil))
        (pa_cons (pe_callTy call_list_of (by rfl) B.list (by decide +kernel) (pa_cons (pe_fld (pv 0) rfl) pa_nil)) (pa_cons (pe_callTy call_list_of (by rfl) B.list (by decide +kernel) (pa_cons (pv 1) pa_nil)) pa_nil)))))))
      (pss_cons (ps_for PassesOwn.never rfl (pi_list (pe_callTy call_list_of (by rfl) B.list (by decide +kernel) (pa_cons (pv 1) pa_nil))) (pg_name (i := 3) scLAsked.nd rfl (Or.inl rfl))
        (pss_cons (ps_set (i := 4) scLAsked.nd rfl (Or.inl rfl) (pe_lst (pa_cons (pe_mtT Kn hr (by decide) (pv 0) (pa_cons (pv 3) pa_nil)) (pa_cons (pe_mtT Un hr (by decide) (pv 0) (pa_cons (pv 3) pa_nil)) pa_nil))))
        (pss_cons (ps_expr (pe_bm PySem.F.plainAttrs_list PySem.F.slot_list_append PySem.F.type_list_append mt_append (pv 2) (pa_cons (pe_tup (pa_cons (pe_mtT Ab hr (by decide) (pv 0) (pa_cons (pv 3) pa_nil))
          (pa_cons (pe_callTy call_list_of (by rfl) B.list (by decide +kernel) (pa_cons (pe_ix ix_list (pv 4) pe_int (fun _ _ => rfl)) pa_nil)) (pa_cons (pe_callTy call_list_of (by rfl) B.list (by decide +kernel) (pa_cons (pe_ix ix_list (pv 4) pe_int (fun _ _ => rfl)) pa_nil)) pa_nil)))) pa_nil)))
        (pss_cons (ps_expr (pe_bm PySem.F.plainAttrs_list PySem.F.slot_list_append PySem.F.type_list_append mt_append (pe_ix ix_list (pv 4) pe_int (fun _ _ => rfl)) (pa_cons pe_str pa_nil)))
        (pss_one (ps_expr (pe_bm PySem.F.plainAttrs_list PySem.F.slot_list_append PySem.F.type_list_append mt_append (pe_ix ix_list (pv 4) pe_int (fun _ _ => rfl)) (pa_cons pe_str pa_nil))))))))
      (pss_cons (ps_expr (pe_bm PySem.F.plainAttrs_list PySem.F.slot_list_append PySem.F.type_list_append mt_append (pv 1) (pa_cons pe_str pa_nil)))
      (pss_one (ps_ret (pv 2)))))), ?_⟩
    refine ⟨_, rfl, p, dx, _, rfl, hp, nfn, p, y, rfl, hy, h8, fun N hN => ?_⟩
    have sN : Same H (upd H N (.lst ((nms y.hs).map V.str))) := same_new hN
    have hN1 : upd H N (.lst ((nms y.hs).map V.str)) N = some (.lst ((nms y.hs).map V.str)) := upd_same
    generalize upd H N (.lst ((nms y.hs).map V.str)) = H1 at sN hN1
    refine ⟨_, rfl, p, C, dx, _, _, rfl, sN _ _ hp, T.cl, T.nd, rfl, _, rfl, p, C, dx, _, _, rfl, sN _ _ hp, T.cl, T.nh, rfl, l1, _, rfl, .inl (SqL.of (sN _ _ r1.1)), fun a1 ha1 => ?_⟩
    have q1 : Same H1 (upd H1 a1 (.lst (t1.map V.ref))) := same_new ha1
    have R1 : RowsAt (upd H1 a1 (.lst (t1.map V.ref))) a1 t1 (y.hs.map hv) := ⟨upd_same, ((r1.same sN).same q1).2⟩
    generalize upd H1 a1 (.lst (t1.map V.ref)) = H2 at q1 R1
    have s2 := sN.trans q1
    refine ⟨_, rfl, p, C, dx, _, _, rfl, s2 _ _ hp, T.cl, T.nl, rfl, l2, _, rfl, .inl (SqL.of (s2 _ _ r2.1)), fun a2 ha2 => ?_⟩
    have q2 : Same H2 (upd H2 a2 (.lst (t2.map V.ref))) := same_new ha2
    have R2 : RowsAt (upd H2 a2 (.lst (t2.map V.ref))) a2 t2 (y.ls.map rv) := ⟨upd_same, ((r2.same s2).same q2).2⟩
    generalize upd H2 a2 (.lst (t2.map V.ref)) = H3 at q2 R2
    have s3 := s2.trans q2
    refine ⟨_, rfl, p, C, dx, _, _, rfl, s3 _ _ hp, T.cl, T.nr, rfl, l3, _, rfl, .inl (SqL.of (s3 _ _ r3.1)), fun a3 ha3 => ?_⟩
    have q3 : Same H3 (upd H3 a3 (.lst (t3.map V.ref))) := same_new ha3
    have R3 : RowsAt (upd H3 a3 (.lst (t3.map V.ref))) a3 t3 (y.rs.map rv) := ⟨upd_same, ((r3.same s3).same q3).2⟩
    generalize upd H3 a3 (.lst (t3.map V.ref)) = H4 at q3 R3
    have s4 := s3.trans q3
    have hN4 := q3 _ _ (q2 _ _ (q1 _ _ hN1))
    refine ⟨_, rfl, N, _, rfl, .inl (SqL.of hN4), fun a4 ha4 => ⟨(by show 5 ≤ sizeLine; decide), fun F hF => ?_⟩⟩
    have s5a : Same H4 (upd H4 a4 (.lst ((nms y.hs).map V.str))) := same_new ha4
    have s5 : Same H4 (upd (upd H4 a4 (.lst ((nms y.hs).map V.str))) F (.lst [V.int y.days, V.ref a1, V.ref a2, V.ref a3, V.ref a4])) := s5a.trans (same_new hF)
    have hF5 : upd (upd H4 a4 (.lst ((nms y.hs).map V.str))) F (.lst [V.int y.days, V.ref a1, V.ref a2, V.ref a3, V.ref a4]) F = some (.lst ([V.int y.days, V.ref a1, V.ref a2, V.ref a3, V.ref a4] ++ [])) := upd_same
    have h45 : upd (upd H4 a4 (.lst ((nms y.hs).map V.str))) F (.lst [V.int y.days, V.ref a1, V.ref a2, V.ref a3, V.ref a4]) a4 = some (.lst ((nms y.hs).map V.str)) := same_new hF _ _ upd_same
    have nF : H4 F = none := s5a.free hF
    have F4 : a4 ≠ F := ne_of_none upd_same hF
    generalize upd (upd H4 a4 (.lst ((nms y.hs).map V.str))) F (.lst [V.int y.days, V.ref a1, V.ref a2, V.ref a3, V.ref a4]) = H5 at s5 hF5 h45
    have hN5 := s5 _ _ hN4
    have FN : F ≠ N := fun z => by subst z; rw [nF] at hN4; cases hN4
    have N1 : a1 ≠ N := fun z => by subst z; rw [ha1] at hN1; cases hN1
    have N2 : a2 ≠ N := fun z => by have := q1 _ _ hN1; subst z; rw [ha2] at this; cases this
    have N3 : a3 ≠ N := fun z => by have := q2 _ _ (q1 _ _ hN1); subst z; rw [ha3] at this; cases this
    have N4 : a4 ≠ N := fun z => by subst z; rw [ha4] at hN4; cases hN4
    have F1 : a1 ≠ F := fun z => by have := q3 _ _ (q2 _ _ R1.1); subst z; rw [nF] at this; cases this
    have F2 : a2 ≠ F := fun z => by have := q3 _ _ R2.1; subst z; rw [nF] at this; cases this
    have F3 : a3 ≠ F := fun z => by have := R3.1; subst z; rw [nF] at this; cases this
    have dm5 : DMs (fun a => a ≠ F ∧ a ≠ N) H5 [V.int y.days, V.ref a1, V.ref a2, V.ref a3, V.ref a4] (y.parts ++ [.list ((nms y.hs).map PyData.str)]) :=
      .cons (.int _) (.cons (DM.rows (((R1.same q2).same q3).same s5) ok.hv ⟨F1, N1⟩) (.cons (DM.rows ((R2.same q3).same s5) ok.lv ⟨F2, N2⟩) (.cons (DM.rows (R3.same s5) ok.rv ⟨F3, N3⟩) (.cons (.lst ⟨F4, N4⟩ h45 (DMs.strs _)) .nil))))
    have s5' := s4.trans s5
    refine ⟨_, rfl, N, _, rfl, .inl (SqL.of hN5), fun I hI => ?_⟩
    have s6 : Same H5 (upd H5 I (.lst ((nms y.hs).map V.str))) := same_new hI
    have hI6 : upd H5 I (.lst ((nms y.hs).map V.str)) I = some (.lst ((nms y.hs).map V.str)) := upd_same
    have nI : H I = none := s5'.free hI
    have IF : I ≠ F := fun z => by subst z; rw [hI] at hF5; cases hF5
    generalize upd H5 I (.lst ((nms y.hs).map V.str)) = H6 at s6 hI6
    have nFH : H F = none := s4.free nF
    refine ⟨I, rfl, ⟨_, SqL.of hI6⟩, for_list (K := K) (a := I) (xs := (nms y.hs).map V.str) (fun i σ H' => ∃ (v3 v4 : Option V) (xs : List V), σ = [some (.ref p), some (.ref N), some (.ref F), v3, v4] ∧ Same H H' ∧ H' N = some (.lst ((nms y.hs).map V.str)) ∧ H' I = some (.lst ((nms y.hs).map V.str)) ∧ xs.length = i ∧ H' F = some (.lst ([V.int y.days, V.ref a1, V.ref a2, V.ref a3, V.ref a4] ++ xs)) ∧
        DMs (fun a => a ≠ F ∧ a ≠ N) H' ([V.int y.days, V.ref a1, V.ref a2, V.ref a3, V.ref a4] ++ xs) (y.parts ++ [.list ((nms y.hs).map PyData.str)] ++ ((nms y.hs).take i).map (info y.hs)))
      ⟨none, none, [], rfl, s5'.trans s6, s6 _ _ hN5, hI6, rfl, s6 _ _ hF5, by rw [List.append_nil]; exact DMs.append (dm5.same s6) .nil⟩ (fun i σ H' _ ⟨_, _, _, _, _, _, z, _⟩ => SqL.of z) ?_ ?_⟩
    · rintro i v σ H7 hi ⟨v3, v4, xs, rfl, s7, n7, i7, xl, f7, dm7⟩
      obtain ⟨x, hx, rfl⟩ : ∃ x, (nms y.hs)[i]? = some x ∧ v = V.str x := by
        rw [List.getElem?_map] at hi
        cases e : (nms y.hs)[i]? with
        | none => rw [e] at hi; cases hi
        | some z => rw [e] at hi; exact ⟨z, rfl, (Option.some.inj hi).symm⟩
      have hxm : x ∈ nms y.hs := List.mem_of_getElem? hx
      have hi8 : i < 8 := by have := (List.getElem?_eq_some_iff.mp hx).1; omega
      refine ⟨_, rfl, p, dx, _, rfl, s7 _ _ hp, nfk, _, rfl, p, y, x, rfl, hy.same s7, ok.h, hxm, fun k1 hk1 => ?_⟩
      have s8 : Same H7 (upd H7 k1 (.lst ((kn y.hs x).map V.str))) := same_new hk1
      have k18 : upd H7 k1 (.lst ((kn y.hs x).map V.str)) k1 = some (.lst ((kn y.hs x).map V.str)) := upd_same
      generalize upd H7 k1 (.lst ((kn y.hs x).map V.str)) = H8 at s8 k18
      refine ⟨_, rfl, p, dx, _, rfl, (s7.trans s8) _ _ hp, nfu, _, rfl, p, y, x, rfl, hy.same (s7.trans s8), ok.h, hxm, fun k2 H9 s9 nk2 hk2 => ⟨(by show 2 ≤ sizeLine; decide), fun so hso => ?_⟩⟩
      have s10 : Same H7 (upd H9 so (.lst [V.ref k1, V.ref k2])) := (s8.trans s9).trans (same_new hso)
      have so10 : upd H9 so (.lst [V.ref k1, V.ref k2]) so = some (.lst [V.ref k1, V.ref k2]) := upd_same
      have k110 : upd H9 so (.lst [V.ref k1, V.ref k2]) k1 = some (.lst ((kn y.hs x).map V.str)) := same_new hso _ _ (s9 _ _ k18)
      have k210 : upd H9 so (.lst [V.ref k1, V.ref k2]) k2 = some (.lst ((und y.hs x).map V.str)) := same_new hso _ _ hk2
      have nk2' : H7 k2 = none := s8.free nk2
      have k12 : k1 ≠ k2 := fun z => by subst z; rw [nk2] at k18; cases k18
      have kso1 : k1 ≠ so := fun z => by subst z; have := s9 _ _ k18; rw [hso] at this; cases this
      have kso2 : k2 ≠ so := fun z => by subst z; rw [hso] at hk2; cases hk2
      generalize upd H9 so (.lst [V.ref k1, V.ref k2]) = H10 at s10 so10 k110 k210
      have dm10 : DMs (fun a => ((a ≠ F ∧ a ≠ N) ∧ a ≠ k1) ∧ a ≠ k2) H10 ([V.int y.days, V.ref a1, V.ref a2, V.ref a3, V.ref a4] ++ xs) (y.parts ++ [.list ((nms y.hs).map PyData.str)] ++ ((nms y.hs).take i).map (info y.hs)) := ((dm7.ext hk1).ext nk2').same s10
      have f10 := s10 _ _ f7
      have sH10 := s7.trans s10
      refine ⟨_, rfl, .inl ⟨rfl, _, SqL.of f10⟩, _, rfl, p, dx, _, rfl, sH10 _ _ hp, nfa, _, rfl, p, y, x, rfl, hy.same sH10, ok.h, hxm, ?_⟩
      refine ⟨_, rfl, so, _, 0, .ref k1, rfl, rfl, SqL.of so10, rfl, k1, _, rfl, .inl (SqL.of k110), fun b1 hb1 => ?_⟩
      have s11 : Same H10 (upd H10 b1 (.lst ((kn y.hs x).map V.str))) := same_new hb1
      have b11 : upd H10 b1 (.lst ((kn y.hs x).map V.str)) b1 = some (.lst ((kn y.hs x).map V.str)) := upd_same
      generalize upd H10 b1 (.lst ((kn y.hs x).map V.str)) = H11 at s11 b11
      refine ⟨_, rfl, so, _, 1, .ref k2, rfl, rfl, SqL.of (s11 _ _ so10), rfl, k2, _, rfl, .inl (SqL.of (s11 _ _ k210)), fun b2 hb2 => ⟨(by show 3 ≤ sizeLine; decide), fun tt htt => ?_⟩⟩
      have s12a : Same H11 (upd H11 b2 (.lst ((und y.hs x).map V.str))) := same_new hb2
      have s12 : Same H10 (upd (upd H11 b2 (.lst ((und y.hs x).map V.str))) tt (.tup [V.str (up y.hs x), V.ref b1, V.ref b2])) := (s11.trans s12a).trans (same_new htt)
      have b112 : upd (upd H11 b2 (.lst ((und y.hs x).map V.str))) tt (.tup [V.str (up y.hs x), V.ref b1, V.ref b2]) b1 = some (.lst ((kn y.hs x).map V.str)) := same_new htt _ _ (s12a _ _ b11)
      have b212 : upd (upd H11 b2 (.lst ((und y.hs x).map V.str))) tt (.tup [V.str (up y.hs x), V.ref b1, V.ref b2]) b2 = some (.lst ((und y.hs x).map V.str)) := same_new htt _ _ upd_same
      have tt12 : upd (upd H11 b2 (.lst ((und y.hs x).map V.str))) tt (.tup [V.str (up y.hs x), V.ref b1, V.ref b2]) tt = some (.tup [V.str (up y.hs x), V.ref b1, V.ref b2]) := upd_same
      generalize upd (upd H11 b2 (.lst ((und y.hs x).map V.str))) tt (.tup [V.str (up y.hs x), V.ref b1, V.ref b2]) = H12 at s12 b112 b212 tt12
      have o1 : ∀ {c : Addr} {o : HO}, H10 c = some o → b1 ≠ c := fun e z => by subst z; rw [hb1] at e; cases e
      have o2 : ∀ {c : Addr} {o : HO}, H10 c = some o → b2 ≠ c := fun e z => by have := s11 _ _ e; subst z; rw [hb2] at this; cases this
      have n10 := s10 _ _ n7
      have f12 := s12 _ _ f10
      refine ⟨F, _, _, rfl, rfl, f12, (by rw [List.length_append]; show 5 + _ < _; omega), ?_⟩
      have dmN : DMs (fun a => ((a ≠ F ∧ a ≠ N) ∧ a ≠ k1) ∧ a ≠ k2) H12 (([V.int y.days, V.ref a1, V.ref a2, V.ref a3, V.ref a4] ++ xs) ++ [V.ref tt]) ((y.parts ++ [.list ((nms y.hs).map PyData.str)] ++ ((nms y.hs).take i).map (info y.hs)) ++ [info y.hs x]) :=
        DMs.append (dm10.same s12) (.cons (.tup tt12 (.cons (.str _) (.cons (.lst ⟨⟨⟨o1 f10, o1 n10⟩, o1 k110⟩, o1 k210⟩ b112 (DMs.strs _)) (.cons (.lst ⟨⟨⟨o2 f10, o2 n10⟩, o2 k110⟩, o2 k210⟩ b212 (DMs.strs _)) .nil)))) .nil)
      have kS : ∀ {Hx : Hp} {c : Addr} {us vs : List V}, Hx c = some (.lst us) → (c = F ∨ c = k1 ∨ c = k2) → KeepS (fun a => ((a ≠ F ∧ a ≠ N) ∧ a ≠ k1) ∧ a ≠ k2) Hx (upd Hx c (.lst vs)) := fun {Hx c us vs} hc hcc b o e z => by
        by_cases hb : b = c
        · subst hb
          rw [hc] at e
          have zz := z ⟨_, (Option.some.inj e).symm⟩
          rcases hcc with rfl | rfl | rfl
          · exact absurd rfl zz.1.1.1
          · exact absurd rfl zz.1.2
          · exact absurd rfl zz.2
        · rw [upd_ne hb]; exact e
      have so12 := s12 _ _ so10
      have k112 := s12 _ _ k110
      have k212 := s12 _ _ k210
      have i12 := s12 _ _ (s10 _ _ i7)
      have n12 := s12 _ _ n10
      have nFk1 : k1 ≠ F := fun z => by subst z; rw [hk1] at f7; cases f7
      have nFk2 : k2 ≠ F := fun z => by subst z; rw [nk2'] at f7; cases f7
      have nNk1 : k1 ≠ N := fun z => by subst z; rw [hk1] at n7; cases n7
      have nNk2 : k2 ≠ N := fun z => by subst z; rw [nk2'] at n7; cases n7
      have nIk1 : k1 ≠ I := fun z => by subst z; rw [hk1] at i7; cases i7
      have nIk2 : k2 ≠ I := fun z => by subst z; rw [nk2'] at i7; cases i7
      have nFso : F ≠ so := fun z => by have := (s8.trans s9) _ _ f7; subst z; rw [hso] at this; cases this
      have sH12 : Same H H12 := sH10.trans s12
      have kF := kS (vs := ([V.int y.days, V.ref a1, V.ref a2, V.ref a3, V.ref a4] ++ xs) ++ [V.ref tt]) f12 (.inl rfl)
      have dm13 := dmN.keep kF
      have so13 : upd H12 F (.lst (([V.int y.days, V.ref a1, V.ref a2, V.ref a3, V.ref a4] ++ xs) ++ [V.ref tt])) so = some (.lst [V.ref k1, V.ref k2]) := by rw [upd_ne nFso.symm]; exact so12
      have k113 : upd H12 F (.lst (([V.int y.days, V.ref a1, V.ref a2, V.ref a3, V.ref a4] ++ xs) ++ [V.ref tt])) k1 = some (.lst ((kn y.hs x).map V.str)) := by rw [upd_ne nFk1]; exact k112
      have k213 : upd H12 F (.lst (([V.int y.days, V.ref a1, V.ref a2, V.ref a3, V.ref a4] ++ xs) ++ [V.ref tt])) k2 = some (.lst ((und y.hs x).map V.str)) := by rw [upd_ne nFk2]; exact k212
      have i13 : upd H12 F (.lst (([V.int y.days, V.ref a1, V.ref a2, V.ref a3, V.ref a4] ++ xs) ++ [V.ref tt])) I = some (.lst ((nms y.hs).map V.str)) := by rw [upd_ne IF]; exact i12
      have n13 : upd H12 F (.lst (([V.int y.days, V.ref a1, V.ref a2, V.ref a3, V.ref a4] ++ xs) ++ [V.ref tt])) N = some (.lst ((nms y.hs).map V.str)) := by rw [upd_ne FN.symm]; exact n12
      have f13 : upd H12 F (.lst (([V.int y.days, V.ref a1, V.ref a2, V.ref a3, V.ref a4] ++ xs) ++ [V.ref tt])) F = some (.lst (([V.int y.days, V.ref a1, V.ref a2, V.ref a3, V.ref a4] ++ xs) ++ [V.ref tt])) := upd_same
      have sH13 : Same H (upd H12 F (.lst (([V.int y.days, V.ref a1, V.ref a2, V.ref a3, V.ref a4] ++ xs) ++ [V.ref tt]))) := fun b o e => by rw [upd_ne (ne_of_none e nFH)]; exact sH12 b o e
      generalize upd H12 F (.lst (([V.int y.days, V.ref a1, V.ref a2, V.ref a3, V.ref a4] ++ xs) ++ [V.ref tt])) = H13 at dm13 so13 k113 k213 i13 n13 f13 sH13
      have nHk1 : H k1 = none := s7.free hk1
      have nHk2 : H k2 = none := s7.free nk2'
      have knl := kn_len ok.h x
      have unl : (und y.hs x).length ≤ 8 := Nat.le_trans (List.length_filter_le _ _) (by omega)
      refine ⟨_, rfl, so, _, 0, .ref k1, rfl, rfl, SqL.of so13, rfl, .inl ⟨rfl, _, SqL.of k113⟩, k1, _, _, rfl, rfl, k113, (by rw [List.length_map]; omega), ?_⟩
      have so14 : upd H13 k1 (.lst ((kn y.hs x).map V.str ++ [V.str "other"])) so = some (.lst [V.ref k1, V.ref k2]) := by rw [upd_ne kso1.symm]; exact so13
      have k214 : upd H13 k1 (.lst ((kn y.hs x).map V.str ++ [V.str "other"])) k2 = some (.lst ((und y.hs x).map V.str)) := by rw [upd_ne k12.symm]; exact k213
      have dm14 := dm13.keep (kS (vs := (kn y.hs x).map V.str ++ [V.str "other"]) k113 (.inr (.inl rfl)))
      refine ⟨_, rfl, so, _, 1, .ref k2, rfl, rfl, SqL.of so14, rfl, .inl ⟨rfl, _, SqL.of k214⟩, k2, _, _, rfl, rfl, k214, (by rw [List.length_map]; omega), ?_⟩
      have dm15 := dm14.keep (kS (vs := (und y.hs x).map V.str ++ [V.str "other"]) k214 (.inr (.inr rfl)))
      refine ⟨_, _, xs ++ [V.ref tt], rfl, fun b o e => ?_, ?_, ?_, by rw [List.length_append, xl]; rfl, ?_, ?_⟩
      · rw [upd_ne (ne_of_none e nHk2), upd_ne (ne_of_none e nHk1)]; exact sH13 b o e
      · rw [upd_ne nNk2.symm, upd_ne nNk1.symm]; exact n13
      · rw [upd_ne nIk2.symm, upd_ne nIk1.symm]; exact i13
      · rw [upd_ne nFk2.symm, upd_ne nFk1.symm, ← List.append_assoc]; exact f13
      · rw [take_more hx, List.map_append, ← List.append_assoc, ← List.append_assoc]
        exact dm15.mono fun b o e z => z.1.1
    · rintro σ H7 ⟨v3, v4, xs, rfl, s7, n7, i7, xl, f7, dm7⟩
      rw [List.length_map, List.take_length] at dm7
      refine ⟨_, rfl, .inl ⟨rfl, _, SqL.of n7⟩, N, _, _, rfl, rfl, n7, (by rw [List.length_map]; omega), ?_⟩
      have f8 : upd H7 N (.lst ((nms y.hs).map V.str ++ [V.str "other"])) F = some (.lst ([V.int y.days, V.ref a1, V.ref a2, V.ref a3, V.ref a4] ++ xs)) := by rw [upd_ne FN]; exact f7
      have ks : KeepS (fun a => a ≠ F ∧ a ≠ N) H7 (upd H7 N (.lst ((nms y.hs).map V.str ++ [V.str "other"]))) := fun b o e z => by
        by_cases hb : b = N
        · subst hb
          rw [n7] at e
          exact absurd rfl (z ⟨_, (Option.some.inj e).symm⟩).2
        · rw [upd_ne hb]; exact e
      refine ⟨_, rfl, k F _ _ (fun b o e => ?_) nFH f8 (.lst trivial f8 ((dm7.keep ks).mono fun _ _ _ _ => trivial))⟩
      rw [upd_ne (ne_of_none e hN)]
      exact s7 b o e
end
end KP
namespace KP
open PySem L2
theorem KeepM.mono {M M' : List Addr} {H H' : Hp} (k : KeepM M H H') (s : ∀ a, a ∈ M → a ∈ M') : KeepM M' H H' := fun b o e n => k b o e fun hb => n (s b hb)
theorem KeepM.up {M : List Addr} {H : Hp} {a : Addr} {xs ys : List V} (h : H a = some (.lst xs)) (ha : a ∈ M) : KeepM M H (upd H a (.lst ys)) := KeepM.ofB (fun b o e hb => by rw [upd_ne hb]; exact e) h ha
theorem KeepM.S {M : List Addr} {H H' : Hp} (k : KeepM M H H') : KeepS (fun a => a ∉ M) H H' := fun b o e z => k b o e fun hb xs hx => z ⟨xs, hx⟩ hb
theorem cut_drop1 {xs : List V} : cutV xs (some 1) none = xs.drop 1 := by
  unfold cutV
  rw [HT.sIx_none]
  have h := HT.sIx_nat xs.length 0 1
  rw [show ((1 : Nat) : Int) = 1 from rfl] at h
  rw [h]
  by_cases hx : 1 ≤ xs.length
  · rw [Nat.min_eq_left hx]
    exact List.take_of_length_le (by rw [List.length_drop]; exact Nat.le_refl _)
  · have : xs = [] := List.length_eq_zero_iff.mp (by omega)
    subst this
    rfl
theorem cut_last {xs : List V} : cutV xs none (some (-1)) = xs.dropLast := by
  unfold cutV
  rw [HT.sIx_none, List.drop_zero, Nat.sub_zero, List.dropLast_eq_take]
  congr 1
  show (if (-1 : Int) < 0 then ((-1 : Int) + (xs.length : Int)).toNat else min (-1 : Int).toNat xs.length) = xs.length - 1
  rw [if_pos (by decide)]
  omega
theorem cut_intV {vs : List V} (hv : ∀ v ∈ vs, ∃ c, v = .int c) {lo hi : Option Int} : (cutV vs lo hi).length ≤ vs.length ∧ ∀ v ∈ cutV vs lo hi, ∃ c, v = .int c :=
  ⟨cutV_length vs lo hi, fun v h => by unfold cutV at h; exact hv v (List.mem_of_mem_drop (List.mem_of_mem_take h))⟩
/-! rows taken otherwise -/
theorem paired_drop {α β : Type} {F : α → β → Prop} : ∀ {xs : List α} {ys : List β} (n : Nat), Paired F xs ys → Paired F (xs.drop n) (ys.drop n)
  | _, _, 0, p => p
  | _, _, _ + 1, .nil => .nil
  | _, _, n + 1, .cons _ p => paired_drop n p
theorem paired_take {α β : Type} {F : α → β → Prop} : ∀ {xs : List α} {ys : List β} (n : Nat), Paired F xs ys → Paired F (xs.take n) (ys.take n)
  | _, _, 0, _ => .nil
  | _, _, _ + 1, .nil => .nil
  | _, _, n + 1, .cons a p => .cons a (paired_take n p)
theorem paired_app {α β : Type} {F : α → β → Prop} : ∀ {xs us : List α} {ys vs : List β}, Paired F xs ys → Paired F us vs → Paired F (xs ++ us) (ys ++ vs)
  | _, _, _, _, .nil, q => q
  | _, _, _, _, .cons a p, q => .cons a (paired_app p q)
theorem paired_len {α β : Type} {F : α → β → Prop} {xs : List α} {ys : List β} (p : Paired F xs ys) : xs.length = ys.length := Paired.length p
theorem fr_less {rs : List Rw4} {r : Rw4} (hw : 1 ≤ r.2.2.1) (hp : 0 ≤ r.2.1) (hb : ∀ x, 1 ≤ (fr rs x).2) (h : ∀ x, (fr (rs ++ [r]) x).1 ≤ (fr (rs ++ [r]) x).2) : ∀ x, (fr rs x).1 ≤ (fr rs x).2 := fun x => by
  have h1 := h x
  rw [fr_snoc] at h1
  unfold frS at h1
  by_cases e : r.1 = x
  · rw [if_pos e] at h1
    have h2 : (fr rs x).1 * r.2.2.1 + r.2.1 * (fr rs x).2 ≤ (fr rs x).2 * r.2.2.1 := h1
    have h3 : 0 ≤ r.2.1 * (fr rs x).2 := Int.mul_nonneg hp (by have := hb x; omega)
    exact Int.le_of_mul_le_mul_right (a := r.2.2.1) (by omega) (by omega)
  · rw [if_neg e] at h1
    exact h1
theorem fr_pos : ∀ {rs : List Rw4}, (∀ r ∈ rs, 1 ≤ r.2.2.1) → ∀ x, 1 ≤ (fr rs x).2 := by
  intro rs
  have g : ∀ (l : List Rw4) (p : Int × Int) (x : Str), (∀ r ∈ l, 1 ≤ r.2.2.1) → 1 ≤ p.2 → 1 ≤ (l.foldl (frS x) p).2 := by
    intro l
    induction l with
    | nil => intro p x _ h; exact h
    | cons r l ih =>
      intro p x hr hp
      refine ih _ x (fun q hq => hr q (List.mem_cons_of_mem _ hq)) ?_
      unfold frS
      by_cases e : r.1 = x
      · rw [if_pos e]
        have := Int.mul_le_mul hp (hr r List.mem_cons_self) (by decide) (by omega : (0 : Int) ≤ p.2)
        show 1 ≤ p.2 * r.2.2.1
        omega
      · rw [if_neg e]; exact hp
  exact fun h x => g rs (0, 1) x h (by decide)
theorem one_dropLast {rs : List Rw4} (hr : ∀ r ∈ rs, 1 ≤ r.2.2.1 ∧ 0 ≤ r.2.1) (h : ∀ x, (fr rs x).1 ≤ (fr rs x).2) : ∀ x, (fr rs.dropLast x).1 ≤ (fr rs.dropLast x).2 := by
  rcases List.eq_nil_or_concat rs with e | ⟨l, r, e⟩
  · subst e; exact h
  · rw [List.concat_eq_append] at e
    subst e
    rw [List.dropLast_concat]
    have hrr := hr r (by simp)
    exact fr_less hrr.1 hrr.2 (fr_pos fun q hq => (hr q (by simp [hq])).1) h
abbrev sNear : Stmt := top 39
def flatH (hs : List Hd) : List Hd := hs.map fun r => (r.1, "")
theorem nms_flat {hs : List Hd} : nms (flatH hs) = nms hs := by unfold nms flatH; rw [List.map_map]; rfl
theorem VH.flat {hs : List Hd} (V : VH hs) : VH (flatH hs) where
  nd := by rw [nms_flat]; exact V.nd
  w := by rw [nms_flat]; exact V.w
  up := fun i r h => by
    unfold flatH at h
    rw [List.getElem?_map] at h
    cases e : hs[i]? with
    | none => rw [e] at h; cases h
    | some q => rw [e] at h; exact .inl (by rw [← Option.some.inj h])
  l1 := by unfold flatH; rw [List.length_map]; exact V.l1
  l8 := by unfold flatH; rw [List.length_map]; exact V.l8
def spNear : Sp := fun vs H Q _ => ∃ (b q lh ll lr : Addr) (th tl tr : List Addr) (y : Yr), vs = [.ref b, .ref q] ∧ WellAt H b ∧ H q = some (.lst [.int y.days, .ref lh, .ref ll, .ref lr]) ∧ RowsAt H lh th (y.hs.map hv) ∧ RowsAt H ll tl (y.ls.map rv) ∧ RowsAt H lr tr (y.rs.map rv) ∧ y.ok ∧ q ≠ b ∧ lh ≠ b ∧ ll ≠ b ∧ lr ≠ b ∧
  ∀ (q' lh' ll' lr' : Addr) (th' tl' tr' : List Addr) (y' : Yr) (H' : Hp), y'.ok → H' q' = some (.lst [.int y'.days, .ref lh', .ref ll', .ref lr']) → RowsAt H' lh' th' (y'.hs.map hv) → RowsAt H' ll' tl' (y'.ls.map rv) → RowsAt H' lr' tr' (y'.rs.map rv) → H q' = none → (lh' = lh ∨ H lh' = none) → (ll' = ll ∨ H ll' = none) → (lr' = lr ∨ H lr' = none) → WellAt H' b → SameB b H H' → Q (.ref q') H'
section
variable {P : Program} {w : World} {K : PySem.W.Frag} {mg : Str → Option Value} {base : Heap}
abbrev nNear : List Str := ["_law_well_here", "_law_parts_here", "_law_found", "_law_lot", "_law_names_here", "_law_name_here", "_law_above"]
theorem scNear : FnScope nNear ["_law_well_here", "_law_parts_here"] (defScope sNear) := ⟨rfl, rfl, rfl, by decide +kernel, rfl, by decide +kernel, by decide +kernel⟩
theorem c_near (B : Base K mg) (Dr : Cal P w K mg base 1 "_law_draw" spDraw) (D : DefT K mg "_law_near" sNear ["_law_well_here", "_law_parts_here"]) : Cal P w K mg base 2 "_law_near" spNear := by
  refine cal D scNear (fun vs H Q E h => ?_) (fun f cdv A outer s H vs Q E hr h => ?_)
  · obtain ⟨b, q, lh, ll, lr, th, tl, tr, y, rfl, _⟩ := h
    rfl
  · obtain ⟨b, q, lh, ll, lr, th, tl, tr, y, rfl, hb, hq, r1, r2, r3, ok, qb, lhb, llb, lrb, k⟩ := h
    have hz : sizeLine = 16777216 := by decide
    have thl : th.length = y.hs.length := by rw [r1.len, List.length_map]
    have tll : tl.length = y.ls.length := by rw [r2.len, List.length_map]
    have h8 := ok.h.l8
    have l6 := ok.l6
    have nl : (nms y.hs).length = y.hs.length := by unfold nms; rw [List.length_map]
    refine ⟨_, pss_cons (ps_set (i := 2) scNear.nd rfl (Or.inl rfl) (pe_callTy call_list_of (by rfl) B.list (by decide +kernel) (pa_cons (pv 1) pa_nil)))
      (pss_cons (ps_set (i := 3) scNear.nd rfl (Or.inl rfl) (pe_cl Dr hr (by decide) (by rfl) (pa_cons (pv 0) (pa_cons pe_int pa_nil))))
      (pss_cons (ps_setLc (i := 4) (own := [("_law_name_here", 5), ("_law_above", 6)]) (g := gTup K 2 (gCons (gName 5) (gCons (gName 6) gNil))) (tt := tYes) (te := tVar 5) rfl scNear.nd rfl rfl (sw_true rfl rfl rfl (by decide +kernel)) (pi_list (pe_ix ix_list (pv 1) pe_int (fun _ _ => rfl))) (blkOk_by (N := nNear) (sc := defScope sNear) (by decide +kernel))
        (fun _ _ _ _ _ => pg_tup rfl (pgs_cons (pg_name (i := 5) scNear.nd rfl (Or.inl rfl)) (pgs_cons (pg_name (i := 6) scNear.nd rfl (Or.inl rfl)) pgs_nil))) (fun _ _ _ _ _ => pts_nil) (fun _ _ _ _ _ => pv 5))
      (pss_cons (ps_if (PW.pt (pw_and (pt_cmpR op_eq (pv 3) pe_int (nomark _)) (pw_and1 (pt_cmpR op_lt (pe_ix ix_list (pv 1) pe_int (fun _ _ => rfl)) pe_int (nomark _)))))
        (pss_one (ps_asg (pe_op op_add (pe_ix ix_list (pv 1) pe_int (fun _ _ => rfl)) pe_int) (pg_sub (pv 2) pe_int set_list)))
        (pss_one (ps_if (pt_cmpR op_eq (pv 3) pe_int (nomark _))
          (pss_one (ps_asg (pe_lc (own := [("_law_name_here", 5)]) (g := gName 5) (tt := tYes) rfl scNear.nd (pi_list (pv 4)) (blkOk_by (N := nNear) (sc := defScope sNear) (by decide +kernel)) (fun _ _ _ _ _ => pg_name (i := 5) scNear.nd rfl (Or.inl rfl)) (fun _ _ _ _ _ => pts_nil) (fun _ _ _ _ _ => pe_tup (pa_cons (pv 5) (pa_cons pe_str pa_nil)))) (pg_sub (pv 2) pe_int set_list)))
          (pss_one (ps_if (pt_cmpR op_eq (pv 3) pe_int (nomark _))
            (pss_one (ps_asg (pe_op op_cat (pe_slice sl_list (pe_ix ix_list (pv 1) pe_int (fun _ _ => rfl)) (po_some pe_int) po_none) (pe_slice sl_list (pe_ix ix_list (pv 1) pe_int (fun _ _ => rfl)) po_none (po_some pe_int))) (pg_sub (pv 2) pe_int set_list)))
            (pss_one (ps_asg (pe_slice sl_list (pe_ix ix_list (pv 1) pe_int (fun _ _ => rfl)) po_none (po_some (pe_un un_neg pe_int))) (pg_sub (pv 2) pe_int set_list))))))))
      (pss_one (ps_ret (pv 2)))))), ?_⟩
    refine ⟨_, rfl, q, _, rfl, .inl (SqL.of hq), fun G hG => ?_⟩
    have bG : b ≠ G := hb.ne hG
    refine ⟨_, rfl, b, 4, rfl, hb.new hG, by decide, by decide, fun lot H1 lot0 lot4 w1 s1 => ?_⟩
    have s1' : SameB b H H1 := (SameB.of (same_new hG)).trans s1
    have G1 : H1 G = some (.lst [V.int y.days, V.ref lh, V.ref ll, V.ref lr]) := s1 _ _ upd_same bG.symm
    have q1 := s1' _ _ hq qb
    have R1 := r1.keepB hb s1' lhb
    refine ⟨_, rfl, q, _, 1, _, rfl, rfl, SqL.of q1, rfl, lh, rfl, ⟨_, SqL.of R1.1⟩, fun D2 hD2 => lc_it (walk_list (xs := th.map V.ref)) (fun i H' => H' = upd H1 D2 (.lst (((nms y.hs).take i).map V.str))) rfl (fun i H' _ e => by rw [e]; exact SqL.of (same_new hD2 _ _ R1.1)) ?_ ?_⟩
    · rintro i v H2 H3 hi rfl ⟨rfl, hv⟩
      obtain ⟨t, r, rfl, hr1, ht, hti⟩ := row_get R1 hv
      refine ⟨t, _, rfl, SqT.of (same_new hD2 _ _ ht), rfl, _, _, rfl, _, _, rfl, rfl, rfl, yes (iteT ⟨_, rfl, _, upd_same, ?_, ?_⟩)⟩
      · rw [List.length_map, List.length_take]
        rw [List.length_map, thl] at hi
        omega
      · rw [upd_upd, take_more (nms_get hr1), List.map_append]
        rfl
    rintro H2 rfl
    have el : (nms y.hs).take (th.map V.ref).length = nms y.hs := List.take_of_length_le (by rw [List.length_map, nl, thl]; exact Nat.le_refl _)
    rw [el]
    have sD : Same H1 (upd H1 D2 (.lst ((nms y.hs).map V.str))) := same_new hD2
    have d2 : upd H1 D2 (.lst ((nms y.hs).map V.str)) D2 = some (.lst ((nms y.hs).map V.str)) := upd_same
    have w2 := w1.new (o := .lst ((nms y.hs).map V.str)) hD2
    generalize upd H1 D2 (.lst ((nms y.hs).map V.str)) = H2 at sD d2 w2
    have s2 : SameB b H H2 := s1'.trans (SameB.of sD)
    have G2 := sD _ _ G1
    have q2 := sD _ _ q1
    have R12 := r1.keepB hb s2 lhb
    have R22 := r2.keepB hb s2 llb
    have R32 := r3.keepB hb s2 lrb
    have fin : ∀ (y' : Yr) (lh' ll' lr' : Addr) (th' tl' tr' : List Addr) (H4 : Hp), y'.ok → Same H2 H4 → RowsAt H4 lh' th' (y'.hs.map hv) → RowsAt H4 ll' tl' (y'.ls.map rv) → RowsAt H4 lr' tr' (y'.rs.map rv) → lh' ≠ G → ll' ≠ G → lr' ≠ G → (lh' = lh ∨ H lh' = none) → (ll' = ll ∨ H ll' = none) → (lr' = lr ∨ H lr' = none) → Q (.ref G) (upd H4 G (.lst [.int y'.days, .ref lh', .ref ll', .ref lr'])) := by
      intro y' lh' ll' lr' th' tl' tr' H4 ok' s4 p1 p2 p3 g1 g2 g3 f1 f2 f3
      have G4 := s4 _ _ G2
      have up : ∀ {l : Addr} {ts : List Addr} {rows : List (List V)}, RowsAt H4 l ts rows → l ≠ G → RowsAt (upd H4 G (.lst [.int y'.days, .ref lh', .ref ll', .ref lr'])) l ts rows := fun p hl => ⟨by rw [upd_ne hl]; exact p.1, paired_mono (fun b' r e => by rw [upd_ne (ne_of e G4 (fun z => nomatch z))]; exact e) p.2⟩
      have w4 : WellAt H4 b := by obtain ⟨p1, p2, p3, e⟩ := w2; exact ⟨p1, p2, p3, s4 _ _ e⟩
      refine k G lh' ll' lr' th' tl' tr' y' _ ok' upd_same (up p1 g1) (up p2 g2) (up p3 g3) hG f1 f2 f3 (w4.up bG) fun b' o e hb' => ?_
      rw [upd_ne (ne_of_none e hG)]
      exact s4 _ _ (s2 b' o e hb')
    have lhG : lh ≠ G := ne_of_none r1.1 hG
    have llG : ll ≠ G := ne_of_none r2.1 hG
    have lrG : lr ≠ G := ne_of_none r3.1 hG
    have frH : ∀ {c : Addr}, H2 c = none → H c = none := fun hc => free_ofB w2 s2 hc
    refine ⟨_, rfl, rfl, _, rfl, ite2 (fun e0 => ⟨_, rfl, q, _, 0, _, rfl, rfl, SqL.of q2, rfl, _, _, rfl, rfl, _, rfl, ite2 (fun hd => ?leaf) (fun hd => ?c1)⟩) (fun e0 => iteF ?c2)⟩
    case leaf =>
      have hd' : y.days < 30 := of_decide_eq_true hd
      refine ⟨_, rfl, q, _, 0, _, rfl, rfl, SqL.of q2, rfl, _, _, rfl, rfl, _, rfl, G, _, 0, 0, rfl, rfl, G2, rfl, ?_⟩
      refine ⟨_, rfl, fin ⟨y.days + 1, y.hs, y.ls, y.rs⟩ lh ll lr th tl tr H2 ?_ (Same.refl _) R12 R22 R32 lhG llG lrG (.inl rfl) (.inl rfl) (.inl rfl)⟩
      refine ⟨⟨by have := ok.d; show 1 ≤ y.days + 1; omega, by show y.days + 1 ≤ 30; omega⟩, ok.h, fun r hr => ?_, ok.l6, fun r hr => ?_, ok.r4, ok.one⟩
      · obtain ⟨a1, a2, a3, a4⟩ := ok.l r hr
        exact ⟨a1, ⟨a2.1, by show _ ≤ y.days + 1; omega⟩, ⟨a3.1, by show _ ≤ y.days + 1; omega⟩, a4⟩
      · obtain ⟨a1, a2, a3, a4⟩ := ok.r r hr
        exact ⟨a1, a2, a3, a4.1, by show _ ≤ y.days + 1 + 1; omega⟩
    all_goals (
      refine ⟨_, rfl, rfl, _, rfl, ite2 (fun e1 => ?_) (fun e1 => ⟨_, rfl, rfl, _, rfl, ite2 (fun e2 => ?_) (fun e2 => ?_)⟩)⟩
      · refine ⟨_, rfl, D2, rfl, ⟨_, SqL.of d2⟩, fun D3 hD3 => lc_it (walk_list (xs := (nms y.hs).map V.str)) (fun i H' => ∃ ts, Same H2 H' ∧ ts.length = i ∧ RowsAt H' D3 ts ((flatH (y.hs.take i)).map hv)) ⟨[], same_new hD3, rfl, upd_same, .nil⟩ (fun i H' _ ⟨_, z, _⟩ => SqL.of (z _ _ d2)) ?_ ?_⟩
        · rintro i v H3 H4 hi ⟨ts, s3, tsl, R3⟩ ⟨rfl, hv1⟩
          rw [List.length_map, nl] at hi
          obtain ⟨r, hr⟩ : ∃ r, y.hs[i]? = some r := ⟨y.hs[i], List.getElem?_eq_getElem hi⟩
          have ev : v = V.str r.1 := by
            rw [List.getElem?_map, nms_get hr] at hv1
            exact (Option.some.inj hv1).symm
          subst ev
          refine ⟨rfl, yes (iteT ⟨_, rfl, (by show 2 ≤ sizeLine; decide), fun t ht => ⟨_, same_new ht _ _ R3.1, (by rw [List.length_map]; omega), ?_⟩⟩)⟩
          have R4 := R3.same (same_new (o := .tup [V.str r.1, V.str ""]) ht)
          have t4 : upd H4 t (.tup [V.str r.1, V.str ""]) t = some (.tup (hv (r.1, ""))) := upd_same
          have s4 : Same H2 (upd H4 t (.tup [V.str r.1, V.str ""])) := s3.trans (same_new ht)
          generalize upd H4 t (.tup [V.str r.1, V.str ""]) = H5 at R4 t4 s4
          have tD : t ≠ D3 := ne_of t4 R4.1 (fun z => nomatch z)
          refine ⟨ts ++ [t], fun b' o e => ?_, by rw [List.length_append, tsl]; rfl, by rw [upd_same, List.map_append]; rfl, ?_⟩
          · rw [upd_ne (ne_of_none e hD3)]; exact s4 _ _ e
          · have e5 : (flatH (y.hs.take (i + 1))).map hv = (flatH (y.hs.take i)).map hv ++ [hv (r.1, "")] := by
              unfold flatH
              rw [take_more hr, List.map_append, List.map_append]
              rfl
            rw [e5]
            refine paired_snoc (by rw [upd_ne tD]; exact t4) (paired_mono (fun b' r' e => ?_) R4.2)
            rw [upd_ne (ne_of e R4.1 (fun z => nomatch z))]
            exact e
        · rintro H3 ⟨ts, s3, tsl, R3⟩
          rw [List.length_map, nl, List.take_length] at R3
          have D3G : D3 ≠ G := fun z => by subst z; rw [hD3] at G2; cases G2
          refine ⟨_, rfl, G, _, 1, 1, rfl, rfl, s3 _ _ G2, rfl, ?_⟩
          refine ⟨_, rfl, fin ⟨y.days, flatH y.hs, y.ls, y.rs⟩ D3 ll lr ts tl tr H3 ?_ s3 R3 (R22.same s3) (R32.same s3) D3G llG lrG (.inr (frH hD3)) (.inl rfl) (.inl rfl)⟩
          refine ⟨ok.d, ok.h.flat, fun r hr => ?_, ok.l6, fun r hr => ?_, ok.r4, ok.one⟩
          · show LimOk y.days (nms (flatH y.hs)) r
            rw [nms_flat]; exact ok.l r hr
          · show RulOk y.days (nms (flatH y.hs)) r
            rw [nms_flat]; exact ok.r r hr
      · refine ⟨_, rfl, q, _, 2, _, rfl, rfl, SqL.of q2, rfl, _, rfl, ll, _, rfl, SqL.of R22.1, fun p1 hp1 => ?_⟩
        refine ⟨_, rfl, q, _, 2, _, rfl, rfl, SqL.of (same_new hp1 _ _ q2), rfl, _, rfl, ll, _, rfl, SqL.of (same_new hp1 _ _ R22.1), fun p2 hp2 => ?_⟩
        have p12 : p1 ≠ p2 := ne_of_none upd_same hp2
        refine ⟨p1, p2, _, _, rfl, rfl, (by rw [upd_ne p12]; exact upd_same), upd_same, ?_, fun p3 hp3 => ?_⟩
        · have c1 := cutV_length (tl.map V.ref) (some 1) none
          have c2 := cutV_length (tl.map V.ref) none (some 1)
          rw [List.length_map] at c1 c2
          omega
        · have ec : cutV (tl.map V.ref) (some 1) none ++ cutV (tl.map V.ref) none (some 1) = (tl.drop 1 ++ tl.take 1).map V.ref := by
            rw [cut_drop1, cut_take (by decide), List.map_append, List.map_drop, List.map_take]
            rfl
          rw [ec]
          have s3 : Same H2 (upd (upd (upd H2 p1 (.lst (cutV (tl.map V.ref) (some 1) none))) p2 (.lst (cutV (tl.map V.ref) none (some 1)))) p3 (.lst ((tl.drop 1 ++ tl.take 1).map V.ref))) := ((same_new hp1).trans (same_new hp2)).trans (same_new hp3)
          have p33 : upd (upd (upd H2 p1 (.lst (cutV (tl.map V.ref) (some 1) none))) p2 (.lst (cutV (tl.map V.ref) none (some 1)))) p3 (.lst ((tl.drop 1 ++ tl.take 1).map V.ref)) p3 = some (.lst ((tl.drop 1 ++ tl.take 1).map V.ref)) := upd_same
          have np3 : H2 p3 = none := ((same_new hp1).trans (same_new hp2)).free hp3
          generalize upd (upd (upd H2 p1 (.lst (cutV (tl.map V.ref) (some 1) none))) p2 (.lst (cutV (tl.map V.ref) none (some 1)))) p3 (.lst ((tl.drop 1 ++ tl.take 1).map V.ref)) = H3 at s3 p33
          have p3G : p3 ≠ G := fun z => by subst z; rw [np3] at G2; cases G2
          refine ⟨_, rfl, G, _, 2, 2, rfl, rfl, s3 _ _ G2, rfl, ?_⟩
          have Rn : RowsAt H3 p3 (tl.drop 1 ++ tl.take 1) ((y.ls.drop 1 ++ y.ls.take 1).map rv) := ⟨p33, by
            rw [List.map_append, List.map_drop, List.map_take]
            exact paired_app (paired_drop 1 (R22.same s3).2) (paired_take 1 (R22.same s3).2)⟩
          refine ⟨_, rfl, fin ⟨y.days, y.hs, y.ls.drop 1 ++ y.ls.take 1, y.rs⟩ lh p3 lr th _ tr H3 ?_ s3 (R12.same s3) Rn (R32.same s3) lhG p3G lrG (.inl rfl) (.inr (frH np3)) (.inl rfl)⟩
          refine ⟨ok.d, ok.h, fun r hr => ?_, ?_, ok.r, ok.r4, ok.one⟩
          · rcases List.mem_append.mp hr with hr | hr
            · exact ok.l r (List.mem_of_mem_drop hr)
            · exact ok.l r (List.mem_of_mem_take hr)
          · show (y.ls.drop 1 ++ y.ls.take 1).length ≤ 6
            rw [List.length_append, List.length_drop, List.length_take]; omega
      · refine ⟨_, rfl, q, _, 3, _, rfl, rfl, SqL.of q2, rfl, _, rfl, _, rfl, lr, _, rfl, SqL.of R32.1, fun p1 hp1 => ?_⟩
        have ec : cutV (tr.map V.ref) none (some (-1)) = tr.dropLast.map V.ref := by rw [cut_last, List.map_dropLast]
        rw [ec]
        have s3 : Same H2 (upd H2 p1 (.lst (tr.dropLast.map V.ref))) := same_new hp1
        have p11 : upd H2 p1 (.lst (tr.dropLast.map V.ref)) p1 = some (.lst (tr.dropLast.map V.ref)) := upd_same
        generalize upd H2 p1 (.lst (tr.dropLast.map V.ref)) = H3 at s3 p11
        have p1G : p1 ≠ G := fun z => by subst z; rw [hp1] at G2; cases G2
        refine ⟨_, rfl, G, _, 3, 3, rfl, rfl, s3 _ _ G2, rfl, ?_⟩
        have Rn : RowsAt H3 p1 tr.dropLast (y.rs.dropLast.map rv) := ⟨p11, by
          have hl : tr.length = (y.rs.map rv).length := R32.len
          rw [List.map_dropLast, List.dropLast_eq_take, List.dropLast_eq_take, hl]
          exact paired_take _ (R32.same s3).2⟩
        refine ⟨_, rfl, fin ⟨y.days, y.hs, y.ls, y.rs.dropLast⟩ lh ll p1 th tl _ H3 ?_ s3 (R12.same s3) (R22.same s3) Rn lhG llG p1G (.inl rfl) (.inl rfl) (.inr (frH hp1))⟩
        have r4 := ok.r4
        refine ⟨ok.d, ok.h, ok.l, ok.l6, fun r hr => ok.r r (by rw [List.dropLast_eq_take] at hr; exact List.mem_of_mem_take hr), ?_, one_dropLast (fun r hr => ?_) ok.one⟩
        · show y.rs.dropLast.length ≤ 4
          rw [List.length_dropLast]; omega
        · obtain ⟨_, a2, a3, _⟩ := ok.r r hr
          omega)
end
end KP
namespace KP
open PySem L2
def rListOf (K : PySem.W.Frag) : List V → Hp → VK → Prop := fun xs H Q => ∃ p ys, xs = [.ref p] ∧ (SqL K H p ys ∨ SqT K H p ys) ∧ ∀ l, H l = none → Q (.ref l) (upd H l (.lst ys))
structure Item (C : Addr) (M : List Addr) (H : Hp) (p d : Addr) : Prop where
  ex : ∃ (y : Yr) (lh : Addr) (th : List Addr) (xs : List V), y.ok ∧ YearAt C M H p y ∧ DM (fun a => a ∉ M) H (.ref d) y.due ∧ H d = some (.lst (.int y.days :: .ref lh :: xs)) ∧ RowsAt H lh th (y.hs.map hv) ∧ d ∉ M ∧ lh ∉ M
theorem Item.keep {C : Addr} {M : List Addr} {H H' : Hp} {p d : Addr} (i : Item C M H p d) (k : KeepM M H H') : Item C M H' p d := by
  obtain ⟨y, lh, th, xs, a, b, c, e, f, g, h⟩ := i.ex
  exact ⟨y, lh, th, xs, a, b.keep k, c.keep k.S, k.lst e g, f.keep k h, g, h⟩
theorem Item.sub {C : Addr} {M M' : List Addr} {H : Hp} {p d : Addr} (i : Item C M H p d) (s : ∀ a, a ∈ M' → a ∈ M) : Item C M' H p d := by
  obtain ⟨y, lh, th, xs, a, b, c, e, f, g, h⟩ := i.ex
  exact ⟨y, lh, th, xs, a, b.sub s, c.mono fun x o _ z hx => z (s x hx), e, f, fun z => g (s _ z), fun z => h (s _ z)⟩
theorem Item.ext {C : Addr} {M : List Addr} {H : Hp} {p d c : Addr} (i : Item C M H p d) (hc : H c = none) : Item C (c :: M) H p d := by
  obtain ⟨y, lh, th, xs, a, b, dm, e, f, g, h⟩ := i.ex
  have n : ∀ {l : Addr} {o : HO}, H l = some o → l ∉ M → l ∉ c :: M := fun e n z => by
    rcases List.mem_cons.mp z with z | z
    · exact ne_of_none e hc z
    · exact n z
  exact ⟨y, lh, th, xs, a, b.ext hc, dm.mono fun x o e z => n e z, e, f, n e g, n f.1 h⟩
theorem pmono {α β : Type} {F G : α → β → Prop} (k : ∀ a b, F a b → G a b) : ∀ {xs : List α} {ys : List β}, Paired F xs ys → Paired G xs ys
  | _, _, .nil => .nil
  | _, _, .cons a p => .cons (k _ _ a) (pmono k p)
theorem pget {α β : Type} {F : α → β → Prop} : ∀ {xs : List α} {ys : List β} {j : Nat} {x : α}, Paired F xs ys → xs[j]? = some x → ∃ y, ys[j]? = some y ∧ F x y
  | _, _, _, _, .nil, h => by simp at h
  | _, _, 0, x, .cons a p, h => by
    have e := Option.some.inj h
    subst e
    exact ⟨_, rfl, a⟩
  | _, _, j + 1, x, .cons a p, h => pget (j := j) (x := x) p (by simpa using h)
/-- Year(..), made -/
theorem mk_year {C : Addr} {Hx : Hp} {y : Yr} {c1 c2 c3 : Addr} {th tl tr : List Addr} (Q1 : RowsAt Hx c1 th (y.hs.map hv)) (Q2 : RowsAt Hx c2 tl (y.ls.map rv)) (Q3 : RowsAt Hx c3 tr (y.rs.map rv)) (ok : y.ok) {R : Addr → Hp → Prop}
    (k : ∀ (x : Addr) (H8 : Hp), Same Hx H8 → (∀ M : List Addr, (∀ a ∈ M, Hx a ≠ none) → YearAt C M H8 x y) → R x H8) :
    ∀ x dx, Hx x = none → Hx dx = none → dx ≠ x → spYear C (.ref x :: ([.int y.days, .ref c1, .ref c2, .ref c3] ++ [])) (upd (upd Hx dx (.own x)) x (.ins C dx [])) (fun v H2 => v = .non ∧ R x H2) E0 := by
  intro x dx nx ndx nex
  have sm : Same Hx (upd (upd Hx dx (.own x)) x (.ins C dx [])) := fun b' o e => by
    rw [upd_ne (ne_of_none e nx), upd_ne (ne_of_none e ndx)]
    exact e
  refine ⟨x, dx, c1, c2, c3, th, tl, tr, y, rfl, upd_same, Q1.same sm, Q2.same sm, Q3.same sm, ok, fun H8 l1 l2 l3 hx8 R1 R2 R3 nl1 nl2 nl3 k8 => ⟨rfl, ?_⟩⟩
  refine k x H8 (Same.made nx ndx k8) fun M hM => ⟨dx, l1, l2, l3, th, tl, tr, hx8, R1, R2, R3, fun z => hM _ z (sm.free nl1), fun z => hM _ z (sm.free nl2), fun z => hM _ z (sm.free nl3)⟩
theorem eqv_hv : ∀ {hs hs' : List Hd}, PyData.eqvAll ((hs.map hv).map fun r => .tuple (r.map dat)) ((hs'.map hv).map fun r => .tuple (r.map dat)) = true → hs = hs'
  | [], [], _ => rfl
  | [], _ :: _, h => by exact absurd h (by simp [PyData.eqvAll])
  | _ :: _, [], h => by exact absurd h (by simp [PyData.eqvAll])
  | a :: hs, b :: hs', h => by
    have h' : (((a.1 == b.1) && ((a.2 == b.2) && true)) && PyData.eqvAll ((hs.map hv).map fun r => .tuple (r.map dat)) ((hs'.map hv).map fun r => .tuple (r.map dat))) = true := h
    simp only [Bool.and_eq_true, beq_iff_eq, and_true] at h'
    rw [eqv_hv h'.2]
    congr 1
    exact Prod.ext h'.1.1 h'.1.2
theorem cut_drop1c {v : V} {xs : List V} : cutV (v :: xs) (some 1) none = xs := cut_drop1
def spLaw (K : PySem.W.Frag) : Sp := fun vs H Q _ => ∃ (a : Addr) (ns : List Int), vs = [.ref a] ∧ SqL K H a (ns.map V.int) ∧ ns.length ≤ 63 ∧ ∀ H', Q (.bl true) H'
theorem und_get {hs : List Hd} {H : Hp} {S : Addr → Prop} : ∀ {xs : List V} {l : List Str} {j : Nat} {x : Str}, DMs S H xs (l.map (info hs)) → l[j]? = some x → ∃ t u1 u2, xs[j]? = some (.ref t) ∧ H t = some (.tup [.str (up hs x), .ref u1, .ref u2]) ∧ DM S H (.ref u2) (.list ((und hs x).map PyData.str))
  | _, [], _, _, _, h => by simp at h
  | _, a :: l, 0, x, .cons d _, h => by
    have e := Option.some.inj h
    subst e
    cases d with
    | tup e t =>
      cases t with
      | cons d1 t =>
        cases d1
        cases t with
        | cons d2 t =>
          cases t with
          | cons d3 t =>
            cases t
            cases d2 with
            | lst s2 e2 t2 =>
              cases d3 with
              | lst s3 e3 t3 => exact ⟨_, _, _, rfl, e, .lst s3 e3 t3⟩
  | _, a :: l, j + 1, x, .cons _ t, h => und_get (j := j) (x := x) t (by simpa using h)
section
variable {P : Program} {w : World} {K : PySem.W.Frag} {mg : Str → Option Value} {base : Heap} {C : Addr}
abbrev nLaw : List Str := ["_law_script", "_law_years", "_law_dues", "_law_cell", "_law_well_here", "_law_parts_here", "_law_near_here", "_law_handed", "_law_shared", "_law_some", "_law_k", "_law_heads_here", "_law_name_here", "_law_at", "_law_one", "_law_above"]
theorem scLaw : FnScope nLaw ["_law_script"] (defScope sLaw) := ⟨rfl, rfl, rfl, by decide +kernel, rfl, by decide +kernel, by decide +kernel⟩
theorem ok_law {f : Addr} {fd : FuncData} (F : Fun K "law" "law" sLaw f fd) (B : Base K mg) (T : YearF K mg C) (Wc : Cal P w K mg base 1 "_law_well" spWell) (Dr : Cal P w K mg base 1 "_law_draw" spDraw) (Pc : Cal P w K mg base 5 "_law_parts" spLParts) (Nc : Cal P w K mg base 2 "_law_near" spNear) (Yc : MakT P w K mg base 4 "Year" C (spYear C))
    (Dc : Cal P w K mg base 3 "_law_due" spLDue) (Ac : Cal P w K mg base 4 "_law_asked" (spLAsked C)) (Al : Cal P w K mg base 2 "_law_all" spLAll) (Un : MetT P w K mg base 3 C "under" (spYU C)) :
    FnOk P w K mg base CX0 6 f fd ["_law_script"] (spLaw K) := by
  refine F.ok scLaw (fun vs H Q E h => ?_) (fun cdv A outer s H vs Q E2 hr h => ?_)
  · obtain ⟨a, ns, rfl, _⟩ := h
    rfl
  · obtain ⟨a, ns, rfl, hS, hlen, k⟩ := h
    have hz : sizeLine = 16777216 := by decide
    refine ⟨_, (pss_cons (ps_set (i := 1) scLaw.nd rfl (Or.inl rfl) (pe_lst pa_nil))
        (pss_cons (ps_set (i := 2) scLaw.nd rfl (Or.inl rfl) (pe_lst pa_nil))
        (pss_cons (ps_for PassesOwn.never rfl (pi_list (pe_slice sl_list (pe_op op_cat (pe_slice sl_list (pv 0) po_none (po_some pe_int)) (pe_lst (pa_cons pe_int (pa_cons pe_int (pa_cons pe_int pa_nil))))) po_none (po_some pe_int))) (pg_name (i := 3) scLaw.nd rfl (Or.inl rfl))
        (pss_cons (ps_set (i := 4) scLaw.nd rfl (Or.inl rfl) (pe_cl Wc hr (by decide) (by rfl) (pa_cons (pv 3) pa_nil)))
        (pss_cons (ps_set (i := 5) scLaw.nd rfl (Or.inl rfl) (pe_cl Pc hr (by decide) (by rfl) (pa_cons (pv 4) pa_nil)))
        (pss_cons (ps_set (i := 6) scLaw.nd rfl (Or.inl rfl) (pe_cl Nc hr (by decide) (by rfl) (pa_cons (pv 4) (pa_cons (pv 5) pa_nil))))
        (pss_cons (ps_setLc (i := 7) (own := [("_law_some", 9)]) (g := gName 9) (tt := tYes) (te := tCB (rListOf K) (tCons (tVar 9) tNil)) rfl scLaw.nd rfl rfl (sw_true rfl rfl rfl (by decide +kernel)) (pi_list (pe_slice sl_list (pv 5) (po_some pe_int) po_none)) (blkOk_by (N := nLaw) (sc := defScope sLaw) (by decide +kernel)) (fun _ _ _ _ _ => pg_name (i := 9) scLaw.nd rfl (Or.inl rfl)) (fun _ _ _ _ _ => pts_nil) (fun _ _ _ _ _ => (pe_callTy call_list_of (by rfl) B.list (by decide +kernel) (pa_cons (pv 9) pa_nil))))
        (pss_cons (ps_expr (pe_bm PySem.F.plainAttrs_list PySem.F.slot_list_append PySem.F.type_list_append mt_append (pv 1) (pa_cons (pe_mkT Yc hr (by decide) (by rfl) (pa_cons (pe_ix ix_list (pv 5) pe_int (fun _ _ => rfl)) (pa_cons (pe_ix ix_list (pv 7) pe_int (fun _ _ => rfl)) (pa_cons (pe_ix ix_list (pv 7) pe_int (fun _ _ => rfl)) (pa_cons (pe_ix ix_list (pv 7) pe_int (fun _ _ => rfl)) pa_nil))))) pa_nil)))
        (pss_cons (ps_set (i := 8) scLaw.nd rfl (Or.inl rfl) (pe_ix ix_list (pe_lst (pa_cons (pe_ix ix_list (pv 7) pe_int (fun _ _ => rfl)) (pa_cons (pe_callTy call_list_of (by rfl) B.list (by decide +kernel) (pa_cons (pe_ix ix_list (pv 6) pe_int (fun _ _ => rfl)) pa_nil)) pa_nil))) (pe_callTy call_int1 (by rfl) B.int (by decide +kernel) (pa_cons (pe_cmpR (op_neD hr.units) (pe_ix ix_list (pv 6) pe_int (fun _ _ => rfl)) (pe_ix ix_list (pv 5) pe_int (fun _ _ => rfl)) (nomark _)) pa_nil)) (fun _ _ => rfl)))
        (pss_cons (ps_expr (pe_bm PySem.F.plainAttrs_list PySem.F.slot_list_append PySem.F.type_list_append mt_append (pv 1) (pa_cons (pe_mkT Yc hr (by decide) (by rfl) (pa_cons (pe_ix ix_list (pv 6) pe_int (fun _ _ => rfl)) (pa_cons (pv 8) (pa_cons (pe_callTy call_list_of (by rfl) B.list (by decide +kernel) (pa_cons (pe_ix ix_list (pv 6) pe_int (fun _ _ => rfl)) pa_nil)) (pa_cons (pe_callTy call_list_of (by rfl) B.list (by decide +kernel) (pa_cons (pe_ix ix_list (pv 6) pe_int (fun _ _ => rfl)) pa_nil)) pa_nil))))) pa_nil)))
        (pss_cons (ps_expr (pe_bm PySem.F.plainAttrs_list PySem.F.slot_list_append PySem.F.type_list_append mt_append (pv 1) (pa_cons (pe_mkT Yc hr (by decide) (by rfl) (pa_cons (pe_ix ix_list (pv 5) pe_int (fun _ _ => rfl)) (pa_cons (pe_ix ix_list (pv 7) pe_int (fun _ _ => rfl)) (pa_cons (pe_ix ix_list (pv 7) pe_int (fun _ _ => rfl)) (pa_cons (pe_ix ix_list (pv 7) pe_int (fun _ _ => rfl)) pa_nil))))) pa_nil)))
        (pss_cons (ps_set (i := 2) scLaw.nd rfl (Or.inl rfl) (pe_op op_cat (pv 2) (pe_lst (pa_cons (pe_cl Dc hr (by decide) (by rfl) (pa_cons (pv 5) pa_nil)) (pa_cons (pe_cl Dc hr (by decide) (by rfl) (pa_cons (pv 6) pa_nil)) (pa_cons (pe_cl Dc hr (by decide) (by rfl) (pa_cons (pv 5) pa_nil)) pa_nil))))))
        (pss_cons (ps_if (pt_cmpR (op_neD hr.units) (pv 7) (pe_slice sl_list (pv 5) (po_some pe_int) po_none) (nomark _)) (pss_one (ps_ret pe_bl)) pss_nil)
        (pss_one (ps_for PassesOwn.never rfl (pi_list (pv 7)) (pg_name (i := 9) scLaw.nd rfl (Or.inl rfl))
        (pss_one (ps_expr (pe_bm0 PySem.F.plainAttrs_list PySem.F.slot_list_clear PySem.F.type_list_clear mt_clear (pv 9)))))))))))))))))
        (pss_cons (ps_for PassesOwn.never rfl (pi_list (pe_op op_cat (pe_slice sl_list (pv 0) (po_some pe_int) (po_some pe_int)) (pe_lst (pa_cons pe_int (pa_cons pe_int (pa_cons pe_int pa_nil)))))) (pg_name (i := 3) scLaw.nd rfl (Or.inl rfl))
        (pss_cons (ps_set (i := 4) scLaw.nd rfl (Or.inl rfl) (pe_cl Wc hr (by decide) (by rfl) (pa_cons (pv 3) pa_nil)))
        (pss_cons (ps_set (i := 10) scLaw.nd rfl (Or.inl rfl) (pe_cl Dr hr (by decide) (by rfl) (pa_cons (pv 4) (pa_cons (pe_callB call_len_seq (by rfl) B.len PySem.boot_len (pa_cons (pv 1) pa_nil)) pa_nil))))
        (pss_cons (ps_set (i := 11) scLaw.nd rfl (Or.inl rfl) (pe_ix ix_list (pe_ix ix_list (pv 2) (pv 10) (fun _ _ => rfl)) pe_int (fun _ _ => rfl)))
        (pss_cons (ps_set (i := 12) scLaw.nd rfl (Or.inl rfl) (pe_ix ix_tup (pe_ix ix_list (pv 11) (pe_cl Dr hr (by decide) (by rfl) (pa_cons (pv 4) (pa_cons (pe_callB call_len_seq (by rfl) B.len PySem.boot_len (pa_cons (pv 11) pa_nil)) pa_nil))) (fun _ _ => rfl)) pe_int (fun _ _ => rfl)))
        (pss_cons (ps_if (pt_cmpR (op_neD hr.units) (pe_mtT Un hr (by decide) (pe_ix ix_list (pv 1) (pv 10) (fun _ _ => rfl)) (pa_cons (pv 12) pa_nil)) (pe_ix ix_tup (pe_ix ix_list (pe_cl Al hr (by decide) (by rfl) (pa_cons (pv 11) pa_nil)) (pe_bm PySem.F.plainAttrs_list PySem.F.slot_list_index PySem.F.type_list_index mt_index (pe_lc (own := [("_law_one", 14), ("_law_above", 15)]) (g := gTup K 2 (gCons (gName 14) (gCons (gName 15) gNil))) (tt := tYes) (te := tVar 14) rfl scLaw.nd (pi_list (pv 11)) (blkOk_by (N := nLaw) (sc := defScope sLaw) (by decide +kernel)) (fun _ _ _ _ _ => pg_tup rfl (pgs_cons (pg_name (i := 14) scLaw.nd rfl (Or.inl rfl)) (pgs_cons (pg_name (i := 15) scLaw.nd rfl (Or.inl rfl)) pgs_nil))) (fun _ _ _ _ _ => pts_nil) (fun _ _ _ _ _ => pv 14)) (pa_cons (pv 12) pa_nil)) (fun _ _ => rfl)) pe_int (fun _ _ => rfl)) (nomark _)) (pss_one (ps_ret pe_bl)) pss_nil)
        (pss_one (ps_for PassesOwn.never rfl (pi_list (pe_lst (pa_cons (pv 10) (pa_cons (pe_cl Dr hr (by decide) (by rfl) (pa_cons (pv 4) (pa_cons (pe_callB call_len_seq (by rfl) B.len PySem.boot_len (pa_cons (pv 1) pa_nil)) pa_nil))) (pa_cons (pv 10) pa_nil))))) (pg_name (i := 13) scLaw.nd rfl (Or.inl rfl))
        (pss_one (ps_if (pt_cmpR (op_neD hr.units) (pe_cl Ac hr (by decide) (by rfl) (pa_cons (pe_ix ix_list (pv 1) (pv 13) (fun _ _ => rfl)) pa_nil)) (pe_ix ix_list (pv 2) (pv 13) (fun _ _ => rfl)) (nomark _)) (pss_one (ps_ret pe_bl)) pss_nil))))))))))
        (pss_one (ps_ret pe_bl)))))), ?_⟩
    refine ⟨(by show 0 ≤ sizeLine; decide), fun Ly hLy => ⟨(by show 0 ≤ sizeLine; decide), fun Ld hLd => ?_⟩⟩
    have LyLd : Ly ≠ Ld := ne_of_none upd_same hLd
    have sA : Same H (upd (upd H Ly (.lst [])) Ld (.lst [])) := (same_new hLy).trans (same_new hLd)
    have ly0 : upd (upd H Ly (.lst [])) Ld (.lst []) Ly = some (.lst (([] : List Addr).map V.ref)) := by rw [upd_ne LyLd]; exact upd_same
    have ld0 : upd (upd H Ly (.lst [])) Ld (.lst []) Ld = some (.lst (([] : List Addr).map V.ref)) := upd_same
    generalize upd (upd H Ly (.lst [])) Ld (.lst []) = H0 at sA ly0 ld0
    refine ⟨_, rfl, _, rfl, a, _, rfl, sA.seq hS, fun p0 hp0 => ⟨(by show 3 ≤ sizeLine; decide), fun q0 hq0 => ?_⟩⟩
    have pq : p0 ≠ q0 := ne_of_none upd_same hq0
    have nsint : ∀ v ∈ ns.map V.int, ∃ c, v = V.int c := fun v hv => by obtain ⟨c, _, rfl⟩ := List.mem_map.mp hv; exact ⟨c, rfl⟩
    obtain ⟨cl, ci⟩ := cut_intV nsint (lo := none) (hi := some 3)
    rw [List.length_map] at cl
    refine ⟨p0, q0, _, _, rfl, rfl, (by rw [upd_ne pq]; exact upd_same), upd_same, (by show _ + 3 ≤ _; omega), fun r0 hr0 => ?_⟩
    have ii : ∀ v ∈ cutV (ns.map V.int) none (some 3) ++ [V.int 6, V.int 13, V.int 21], ∃ c, v = V.int c := fun v hv => by
      rcases List.mem_append.mp hv with hv | hv
      · exact ci v hv
      · simp at hv
        rcases hv with rfl | rfl | rfl <;> exact ⟨_, rfl⟩
    refine ⟨_, rfl, r0, _, rfl, SqL.of upd_same, fun t0 ht0 => ?_⟩
    obtain ⟨il, ii2⟩ := cut_intV ii (lo := none) (hi := some 3)
    have il3 : (cutV (cutV (ns.map V.int) none (some 3) ++ [V.int 6, V.int 13, V.int 21]) none (some 3)).length = 3 := by
      rw [cut_take (by decide), List.length_take, List.length_append]
      show min 3 (_ + 3) = 3
      omega
    generalize cutV (cutV (ns.map V.int) none (some 3) ++ [V.int 6, V.int 13, V.int 21]) none (some 3) = items at il3 ii2
    have sB : Same H0 (upd (upd (upd (upd H0 p0 (.lst (cutV (ns.map V.int) none (some 3)))) q0 (.lst [V.int 6, V.int 13, V.int 21])) r0 (.lst (cutV (ns.map V.int) none (some 3) ++ [V.int 6, V.int 13, V.int 21]))) t0 (.lst items)) := (((same_new hp0).trans (same_new hq0)).trans (same_new hr0)).trans (same_new ht0)
    have t01 : upd (upd (upd (upd H0 p0 (.lst (cutV (ns.map V.int) none (some 3)))) q0 (.lst [V.int 6, V.int 13, V.int 21])) r0 (.lst (cutV (ns.map V.int) none (some 3) ++ [V.int 6, V.int 13, V.int 21]))) t0 (.lst items) t0 = some (.lst items) := upd_same
    have nt0 : H0 t0 = none := (((same_new hp0).trans (same_new hq0)).trans (same_new hr0)).free ht0
    generalize upd (upd (upd (upd H0 p0 (.lst (cutV (ns.map V.int) none (some 3)))) q0 (.lst [V.int 6, V.int 13, V.int 21])) r0 (.lst (cutV (ns.map V.int) none (some 3) ++ [V.int 6, V.int 13, V.int 21]))) t0 (.lst items) = H1 at sB t01
    have t0Ly : t0 ≠ Ly := fun z => by subst z; rw [nt0] at ly0; cases ly0
    refine ⟨t0, rfl, ⟨_, SqL.of t01⟩, for_list (K := K) (a := t0) (xs := items) (fun i σ H' => ∃ (ys ds : List Addr) (Ld : Addr) (v3 v4 v5 v6 v7 v8 v9 : Option V), σ = [some (.ref a), some (.ref Ly), some (.ref Ld), v3, v4, v5, v6, v7, v8, v9, none, none, none, none, none, none] ∧ H' t0 = some (.lst items) ∧ Ld ≠ Ly ∧ H' Ly = some (.lst (ys.map V.ref)) ∧ H' Ld = some (.lst (ds.map V.ref)) ∧ ys.length = 3 * i ∧ Paired (Item C [Ly] H') ys ds ∧ Same H H' )
      ⟨[], [], Ld, none, none, none, none, none, none, none, rfl, t01, LyLd.symm, sB _ _ ly0, sB _ _ ld0, rfl, .nil, sA.trans sB⟩ (fun i σ H' _ ⟨_, _, _, _, _, _, _, _, _, _, _, z, _⟩ => SqL.of z) ?_ ?_⟩
    · rintro i v σ H3 hi ⟨ys, ds, Ld, v3, v4, v5, v6, v7, v8, v9, rfl, t03, LdLy, ly3, ld3, yl, I3, sH3⟩
      have hi3 : i < 3 := by have := (List.getElem?_eq_some_iff.mp hi).1; omega
      have dl : ds.length = 3 * i := by rw [← paired_len I3]; exact yl
      obtain ⟨cc, rfl⟩ := ii2 v (List.mem_of_getElem? hi)
      -- well, parts, near
      refine ⟨_, rfl, cc, rfl, fun b H4 s4 nb wb => ?_⟩
      refine ⟨_, rfl, b, rfl, wb, fun q lh ll lr th tl tr y H5 ok hq r1 r2 r3 nq nlh nll nlr w5 s5 => ?_⟩
      have nbx : ∀ {c : Addr}, H4 c = none → c ≠ b := fun hc z => by subst z; obtain ⟨_, _, _, e⟩ := wb; rw [hc] at e; cases e
      refine ⟨_, rfl, _, rfl, b, q, lh, ll, lr, th, tl, tr, y, rfl, w5, hq, r1, r2, r3, ok, nbx nq, nbx nlh, nbx nll, nbx nlr, fun q' lh' ll' lr' th' tl' tr' y' H6 ok' hq' p1 p2 p3 nq' f1 f2 f3 w6 s6 => ?_⟩
      have S36 : Same H3 H6 := fun c o e => by
        have cb : c ≠ b := ne_of_none e nb
        exact s6 _ _ (s5 _ _ (s4 _ _ e) cb) cb
      have hq6 := s6 _ _ hq (nbx nq)
      have r16 := r1.keepB w5 s6 (nbx nlh)
      have r26 := r2.keepB w5 s6 (nbx nll)
      have r36 := r3.keepB w5 s6 (nbx nlr)
      have fr6 : ∀ {c : Addr}, H6 c = none → H3 c = none := fun hc => S36.free hc
      have thl : th.length = y.hs.length := by rw [r1.len, List.length_map]
      have tll : tl.length = y.ls.length := by rw [r2.len, List.length_map]
      have trl : tr.length = y.rs.length := by rw [r3.len, List.length_map]
      have h8 := ok.h.l8
      have l6 := ok.l6
      have r4 := ok.r4
      have I6 : Paired (Item C [Ly] H6) ys ds := pmono (fun _ _ z => z.keep (KeepM.of S36)) I3
      have ly6 := S36 _ _ ly3
      have ld6 := S36 _ _ ld3
      have t06 := S36 _ _ t03
      -- handed
      refine ⟨_, rfl, _, rfl, q, _, rfl, SqL.of hq6, fun u2 hu2 => ?_⟩
      rw [cut_drop1c]
      have s66 : Same H6 (upd H6 u2 (.lst [V.ref lh, V.ref ll, V.ref lr])) := same_new hu2
      have u26 : upd H6 u2 (.lst [V.ref lh, V.ref ll, V.ref lr]) u2 = some (.lst [V.ref lh, V.ref ll, V.ref lr]) := upd_same
      generalize upd H6 u2 (.lst [V.ref lh, V.ref ll, V.ref lr]) = H6b at s66 u26
      refine ⟨u2, rfl, ⟨_, SqL.of u26⟩, fun D2 hD2 => lc_it (walk_list (xs := [V.ref lh, V.ref ll, V.ref lr])) (fun i H' => ∃ cs : List Addr, cs.length = i ∧ Same H6b H' ∧ H' D2 = some (.lst (cs.map V.ref)) ∧ (∀ c ∈ cs, H6b c = none ∧ c ≠ D2) ∧ cs.Nodup ∧ ∀ (j : Nat) (c : Addr) (t : List Addr), cs[j]? = some c → [th, tl, tr][j]? = some t → H' c = some (.lst (t.map V.ref)))
        ⟨[], rfl, same_new hD2, upd_same, (fun _ z => nomatch z), List.nodup_nil, fun j c t z => by simp at z⟩ (fun i H' _ ⟨_, _, z, _⟩ => SqL.of (z _ _ u26)) ?_ ?_⟩
      · rintro j v H7 H7' hj ⟨cs, hcl, s7, d7, hc7, nd7, ct7⟩ ⟨rfl, hv⟩
        obtain ⟨l, t, rfl, htj, hl⟩ : ∃ l t, v = V.ref l ∧ [th, tl, tr][j]? = some t ∧ H6 l = some (.lst (t.map V.ref)) := by
          match j, hv with
          | 0, hv => exact ⟨lh, th, (Option.some.inj hv).symm, rfl, r16.1⟩
          | 1, hv => exact ⟨ll, tl, (Option.some.inj hv).symm, rfl, r26.1⟩
          | 2, hv => exact ⟨lr, tr, (Option.some.inj hv).symm, rfl, r36.1⟩
          | j + 3, hv => simp at hv
        have hj3 : j < 3 := hj
        refine ⟨rfl, yes (iteT ⟨_, rfl, l, _, rfl, .inl (SqL.of (s7 _ _ (s66 _ _ hl))), fun c hc => ⟨_, same_new hc _ _ d7, (by rw [List.length_map]; omega), ?_⟩⟩)⟩
        have cD : c ≠ D2 := fun z => by subst z; rw [hc] at d7; cases d7
        have c5 : H6b c = none := s7.free hc
        refine ⟨cs ++ [c], by rw [List.length_append, hcl]; rfl, fun x o e => ?_, by rw [upd_same, List.map_append]; rfl, ?_, ?_, ?_⟩
        · rw [upd_ne (ne_of_none e hD2), upd_ne (ne_of_none e c5)]; exact s7 _ _ e
        · intro x hx
          rcases List.mem_append.mp hx with hx | hx
          · exact hc7 x hx
          · rw [List.mem_singleton.mp hx]; exact ⟨c5, cD⟩
        · refine List.nodup_append.mpr ⟨nd7, by simp, fun x hx u hu => ?_⟩
          rw [List.mem_singleton.mp hu]
          intro e
          subst e
          obtain ⟨jx, hjx⟩ := List.mem_iff_getElem?.mp hx
          have hjl := (List.getElem?_eq_some_iff.mp hjx).1
          obtain ⟨t', ht'⟩ : ∃ t', [th, tl, tr][jx]? = some t' := ⟨[th, tl, tr][jx]'(by show jx < 3; omega), List.getElem?_eq_getElem _⟩
          have := ct7 jx x t' hjx ht'
          rw [hc] at this; cases this
        · intro jx x t' hx ht'
          by_cases hlt : jx < cs.length
          · rw [List.getElem?_append_left hlt] at hx
            have xD := (hc7 x (List.mem_of_getElem? hx)).2
            have := ct7 jx x t' hx ht'
            rw [upd_ne xD, upd_ne (ne_of_none this hc)]
            exact this
          · rw [List.getElem?_append_right (by omega)] at hx
            have h0 : jx - cs.length = 0 := by
              by_cases h0 : jx - cs.length = 0
              · exact h0
              · rw [List.getElem?_eq_none (by simp; omega)] at hx; cases hx
            rw [h0] at hx
            have e := Option.some.inj hx
            subst e
            have ej : jx = j := by omega
            subst ej
            rw [htj] at ht'
            have e2 := Option.some.inj ht'
            subst e2
            rw [upd_ne cD]; exact upd_same
      rintro H7 ⟨cs, hcl, s7, d7, hc7, nd7, ct7⟩
      obtain ⟨c1, c2, c3, rfl⟩ : ∃ c1 c2 c3, cs = [c1, c2, c3] := by
        match cs, hcl with
        | [c1, c2, c3], _ => exact ⟨c1, c2, c3, rfl⟩
      have x1 := ct7 0 c1 th rfl rfl
      have x2 := ct7 1 c2 tl rfl rfl
      have x3 := ct7 2 c3 tr rfl rfl
      have m1 : H6 c1 = none := s66.free (hc7 c1 (by simp)).1
      have m2 : H6 c2 = none := s66.free (hc7 c2 (by simp)).1
      have m3 : H6 c3 = none := s66.free (hc7 c3 (by simp)).1
      have mD : H6 D2 = none := s66.free hD2
      have S67 : Same H6 H7 := s66.trans s7
      have Dcs : ∀ c ∈ [c1, c2, c3], D2 ≠ c := fun c hc z => (hc7 c hc).2 z.symm
      have ne6 : ∀ {l c : Addr} {o : HO}, H6 l = some o → H6 c = none → l ≠ c := fun e n => ne_of_none e n
      have nM : ∀ {l : Addr} {o : HO}, H6 l = some o → l ≠ Ly → l ∉ [c1, c2, c3, Ly] := fun e n z => by
        simp at z
        rcases z with z | z | z | z
        · exact ne6 e m1 z
        · exact ne6 e m2 z
        · exact ne6 e m3 z
        · exact n z
      have lyx : ∀ {l : Addr}, H3 l = none → l ≠ Ly := fun n z => by subst z; rw [n] at ly3; cases ly3
      have o34 : ∀ {l : Addr}, H4 l = none → l ≠ Ly := fun n => lyx (s4.free n)
      have oq := nM hq6 (o34 nq)
      have olh := nM r16.1 (o34 nlh)
      have oll := nM r26.1 (o34 nll)
      have olr := nM r36.1 (o34 nlr)
      have fr5 : ∀ {c : Addr}, H5 c = none → c ≠ Ly := fun {c} n z => by
        subst z
        have := s5 _ _ (s4 _ _ ly3) (ne_of_none ly3 nb)
        rw [n] at this; cases this
      have oq' := nM hq' (fr5 nq')
      have olh' : lh' ∉ [c1, c2, c3, Ly] := nM p1.1 (f1.elim (fun z => z ▸ o34 nlh) fr5)
      have oll' : ll' ∉ [c1, c2, c3, Ly] := nM p2.1 (f2.elim (fun z => z ▸ o34 nll) fr5)
      have olr' : lr' ∉ [c1, c2, c3, Ly] := nM p3.1 (f3.elim (fun z => z ▸ o34 nlr) fr5)
      have oD : D2 ∉ [c1, c2, c3, Ly] := fun z => by
        simp at z
        rcases z with z | z | z | z
        · exact Dcs c1 (by simp) z
        · exact Dcs c2 (by simp) z
        · exact Dcs c3 (by simp) z
        · exact lyx (fr6 mD) z
      have I7 : Paired (Item C [c1, c2, c3, Ly] H7) ys ds := pmono (fun _ _ z => (((z.ext m3).ext m2).ext m1).keep (KeepM.of S67)) I6
      have ly7 := S67 _ _ ly6
      have tM : ∀ {Hx : Hp}, (∃ us, Hx c1 = some (.lst us)) → (∃ us, Hx c2 = some (.lst us)) → (∃ us, Hx c3 = some (.lst us)) → (∃ us, Hx Ly = some (.lst us)) → ∀ a ∈ [c1, c2, c3, Ly], Hx a ≠ none := fun a1 a2 a3 a4 c hc z => by
        simp at hc
        rcases hc with rfl | rfl | rfl | rfl
        · obtain ⟨_, e⟩ := a1; rw [z] at e; cases e
        · obtain ⟨_, e⟩ := a2; rw [z] at e; cases e
        · obtain ⟨_, e⟩ := a3; rw [z] at e; cases e
        · obtain ⟨_, e⟩ := a4; rw [z] at e; cases e
      have cLy : ∀ c ∈ [c1, c2, c3], c ∉ [Ly] := fun c hc z => by
        rw [List.mem_singleton] at z
        subst z
        simp at hc
        rcases hc with rfl | rfl | rfl
        · rw [m1] at ly6; cases ly6
        · rw [m2] at ly6; cases ly6
        · rw [m3] at ly6; cases ly6
      have sb : ∀ a', a' ∈ [Ly] → a' ∈ [c1, c2, c3, Ly] := fun a' h => by rw [List.mem_singleton] at h; subst h; simp
      have nL : ∀ {l : Addr}, l ∉ [c1, c2, c3, Ly] → l ∉ [Ly] := fun h z => h (sb _ z)
      -- Year 1
      refine ⟨_, rfl, .inl ⟨rfl, _, SqL.of ly7⟩, _, rfl, q, _, 0, _, rfl, rfl, SqL.of (S67 _ _ hq6), rfl, _, rfl, D2, _, 0, _, rfl, rfl, SqL.of d7, rfl, _, rfl, D2, _, 1, _, rfl, rfl, SqL.of d7, rfl, _, rfl, D2, _, 2, _, rfl, rfl, SqL.of d7, rfl, mk_year (Hx := H7) (y := y) ⟨x1, (r16.same S67).2⟩ ⟨x2, (r26.same S67).2⟩ ⟨x3, (r36.same S67).2⟩ ok fun y1 H8 s8 Y1 => ?_⟩
      refine ⟨Ly, _, _, rfl, rfl, s8 _ _ ly7, (by rw [List.length_map]; omega), ?_⟩
      have kL9 : KeepM [Ly] H7 (upd H8 Ly (.lst (ys.map V.ref ++ [V.ref y1]))) := (KeepM.of s8).trans (KeepM.up (s8 _ _ ly7) (by simp))
      have Y1' : YearAt C [c1, c2, c3, Ly] (upd H8 Ly (.lst (ys.map V.ref ++ [V.ref y1]))) y1 y := (Y1 _ (tM ⟨_, x1⟩ ⟨_, x2⟩ ⟨_, x3⟩ ⟨_, ly7⟩)).keep (KeepM.up (s8 _ _ ly7) (by simp))
      have ly9 : upd H8 Ly (.lst (ys.map V.ref ++ [V.ref y1])) Ly = some (.lst ((ys ++ [y1]).map V.ref)) := by rw [upd_same, List.map_append]; rfl
      generalize upd H8 Ly (.lst (ys.map V.ref ++ [V.ref y1])) = H9 at kL9 Y1' ly9
      have k9 := kL9.mono sb
      have d9 := kL9.lst d7 (nL oD)
      have q9 := kL9.lst (S67 _ _ hq6) (nL oq)
      have q'9 := kL9.lst (S67 _ _ hq') (nL oq')
      -- shared
      refine ⟨_, rfl, D2, _, 0, _, rfl, rfl, SqL.of d9, rfl, _, rfl, q', _, 1, _, rfl, rfl, SqL.of q'9, rfl, lh', _, rfl, .inl (SqL.of ((p1.same S67).keep kL9 (nL olh')).1), fun e1 he1 => ⟨(by show 2 ≤ sizeLine; decide), fun w1 hw1 => ?_⟩⟩
      have s10 : Same H9 (upd (upd H9 e1 (.lst (th'.map V.ref))) w1 (.lst [V.ref c1, V.ref e1])) := (same_new he1).trans (same_new hw1)
      have e110 : upd (upd H9 e1 (.lst (th'.map V.ref))) w1 (.lst [V.ref c1, V.ref e1]) e1 = some (.lst (th'.map V.ref)) := same_new hw1 _ _ upd_same
      have w110 : upd (upd H9 e1 (.lst (th'.map V.ref))) w1 (.lst [V.ref c1, V.ref e1]) w1 = some (.lst [V.ref c1, V.ref e1]) := upd_same
      generalize upd (upd H9 e1 (.lst (th'.map V.ref))) w1 (.lst [V.ref c1, V.ref e1]) = H10 at s10 e110 w110
      have kL10 := kL9.trans (KeepM.of s10)
      have P1 : RowsAt H10 lh' th' (y'.hs.map hv) := (p1.same S67).keep kL10 (nL olh')
      have R1 : RowsAt H10 lh th (y.hs.map hv) := (r16.same S67).keep kL10 (nL olh)
      refine ⟨_, rfl, q', _, 1, _, rfl, rfl, SqL.of (s10 _ _ q'9), rfl, _, rfl, q, _, 1, _, rfl, rfl, SqL.of (s10 _ _ q9), rfl, rowsD (y'.hs.map hv), rowsD (y.hs.map hv), (DM.rows (S := fun _ => True) P1 ok'.hv trivial).dp, (DM.rows (S := fun _ => True) R1 ok.hv trivial).dp, shaped_rows ok'.hv, shaped_rows ok.hv, .inr ⟨_, rfl, ?_⟩⟩
      have E1 : RowsAt H10 e1 th' (y'.hs.map hv) := ⟨e110, P1.2⟩
      have C1 : RowsAt H10 c1 th (y.hs.map hv) := RowsAt.keep (M := [Ly]) ⟨x1, (r16.same S67).2⟩ kL10 (cLy c1 (by simp))
      obtain ⟨sh, tsh, hat, Rsh, shd⟩ : ∃ (sh : Addr) (tsh : List Addr), atI [V.ref c1, V.ref e1] (if (!PyData.eqv (rowsD (y'.hs.map hv)) (rowsD (y.hs.map hv))) = true then 1 else 0) = some (.ref sh) ∧ RowsAt H10 sh tsh (y'.hs.map hv) ∧ (sh = c1 ∨ sh = e1) := by
        cases he : PyData.eqv (rowsD (y'.hs.map hv)) (rowsD (y.hs.map hv)) with
        | true =>
          have e := eqv_hv (hs := y'.hs) (hs' := y.hs) he
          refine ⟨c1, th, rfl, ?_, .inl rfl⟩
          rw [e]; exact C1
        | false => exact ⟨e1, th', rfl, E1, .inr rfl⟩
      refine ⟨w1, _, _, _, rfl, rfl, SqL.of w110, hat, ?_⟩
      -- Year 2
      have ly10 := s10 _ _ ly9
      have q'10 := s10 _ _ q'9
      refine ⟨_, rfl, .inl ⟨rfl, _, SqL.of ly10⟩, _, rfl, q', _, 0, _, rfl, rfl, SqL.of q'10, rfl, _, rfl, _, rfl, q', _, 2, _, rfl, rfl, SqL.of q'10, rfl, ll', _, rfl, .inl (SqL.of ((p2.same S67).keep kL10 (nL oll')).1), fun e2 he2 => ?_⟩
      have s11a : Same H10 (upd H10 e2 (.lst (tl'.map V.ref))) := same_new he2
      have e211 : upd H10 e2 (.lst (tl'.map V.ref)) e2 = some (.lst (tl'.map V.ref)) := upd_same
      generalize upd H10 e2 (.lst (tl'.map V.ref)) = H11 at s11a e211
      refine ⟨_, rfl, q', _, 3, _, rfl, rfl, SqL.of (s11a _ _ q'10), rfl, lr', _, rfl, .inl (SqL.of (s11a _ _ ((p3.same S67).keep kL10 (nL olr')).1)), fun e3 he3 => ?_⟩
      have s11b : Same H11 (upd H11 e3 (.lst (tr'.map V.ref))) := same_new he3
      have e311 : upd H11 e3 (.lst (tr'.map V.ref)) e3 = some (.lst (tr'.map V.ref)) := upd_same
      generalize upd H11 e3 (.lst (tr'.map V.ref)) = H11' at s11b e311
      have s11 := s11a.trans s11b
      have kL11 := kL10.trans (KeepM.of s11)
      have k11 := kL11.mono sb
      have ly11 := s11 _ _ ly10
      refine mk_year (Hx := H11') (y := y') (Rsh.same s11) (tl := tl') ⟨s11b _ _ e211, ((p2.same S67).keep kL11 (nL oll')).2⟩ (tr := tr') ⟨e311, ((p3.same S67).keep kL11 (nL olr')).2⟩ ok' fun y2 H12 s12 Y2 => ?_
      refine ⟨Ly, _, _, rfl, rfl, s12 _ _ ly11, (by rw [List.length_map, List.length_append]; show _ + 1 < _; omega), ?_⟩
      have C1' := kL11.lst x1 (cLy c1 (by simp))
      have C2' := kL11.lst x2 (cLy c2 (by simp))
      have C3' := kL11.lst x3 (cLy c3 (by simp))
      have kL13 : KeepM [Ly] H11' (upd H12 Ly (.lst ((ys ++ [y1]).map V.ref ++ [V.ref y2]))) := (KeepM.of s12).trans (KeepM.up (s12 _ _ ly11) (by simp))
      have Y2' : YearAt C [c1, c2, c3, Ly] (upd H12 Ly (.lst ((ys ++ [y1]).map V.ref ++ [V.ref y2]))) y2 y' := (Y2 _ (tM ⟨_, C1'⟩ ⟨_, C2'⟩ ⟨_, C3'⟩ ⟨_, ly11⟩)).keep (KeepM.up (s12 _ _ ly11) (by simp))
      have ly13 : upd H12 Ly (.lst ((ys ++ [y1]).map V.ref ++ [V.ref y2])) Ly = some (.lst ((ys ++ [y1] ++ [y2]).map V.ref)) := by rw [upd_same, List.map_append (l₂ := [y2])]; rfl
      generalize upd H12 Ly (.lst ((ys ++ [y1]).map V.ref ++ [V.ref y2])) = H13 at kL13 Y2' ly13
      have kL713 := kL11.trans kL13
      -- Year 3
      have d13 := kL713.lst d7 (nL oD)
      have q13 := kL713.lst (S67 _ _ hq6) (nL oq)
      have Z1 := kL713.lst x1 (cLy c1 (by simp))
      have Z2 := kL713.lst x2 (cLy c2 (by simp))
      have Z3 := kL713.lst x3 (cLy c3 (by simp))
      have G1 : RowsAt H13 c1 th (y.hs.map hv) := ⟨Z1, ((r16.same S67).keep kL713 (nL olh)).2⟩
      have G2 : RowsAt H13 c2 tl (y.ls.map rv) := ⟨Z2, ((r26.same S67).keep kL713 (nL oll)).2⟩
      have G3 : RowsAt H13 c3 tr (y.rs.map rv) := ⟨Z3, ((r36.same S67).keep kL713 (nL olr)).2⟩
      refine ⟨_, rfl, .inl ⟨rfl, _, SqL.of ly13⟩, _, rfl, q, _, 0, _, rfl, rfl, SqL.of q13, rfl, _, rfl, D2, _, 0, _, rfl, rfl, SqL.of d13, rfl, _, rfl, D2, _, 1, _, rfl, rfl, SqL.of d13, rfl, _, rfl, D2, _, 2, _, rfl, rfl, SqL.of d13, rfl, mk_year (Hx := H13) (y := y) G1 G2 G3 ok fun y3 H14 s14 Y3 => ?_⟩
      refine ⟨Ly, _, _, rfl, rfl, s14 _ _ ly13, (by rw [List.length_map, List.length_append, List.length_append]; show _ + 1 + 1 < _; omega), ?_⟩
      have kL15 : KeepM [Ly] H13 (upd H14 Ly (.lst ((ys ++ [y1] ++ [y2]).map V.ref ++ [V.ref y3]))) := (KeepM.of s14).trans (KeepM.up (s14 _ _ ly13) (by simp))
      have Y3' : YearAt C [c1, c2, c3, Ly] (upd H14 Ly (.lst ((ys ++ [y1] ++ [y2]).map V.ref ++ [V.ref y3]))) y3 y := (Y3 _ (tM ⟨_, Z1⟩ ⟨_, Z2⟩ ⟨_, Z3⟩ ⟨_, ly13⟩)).keep (KeepM.up (s14 _ _ ly13) (by simp))
      have ly15 : upd H14 Ly (.lst ((ys ++ [y1] ++ [y2]).map V.ref ++ [V.ref y3])) Ly = some (.lst ((ys ++ [y1] ++ [y2] ++ [y3]).map V.ref)) := by rw [upd_same, List.map_append (l₂ := [y3])]; rfl
      generalize upd H14 Ly (.lst ((ys ++ [y1] ++ [y2]).map V.ref ++ [V.ref y3])) = H15 at kL15 Y3' ly15
      have kL := kL713.trans kL15
      have k15 := kL.mono sb
      have Y1'' := Y1'.keep (((KeepM.of s10).trans ((KeepM.of s11).trans (kL13.trans kL15))).mono (M' := [c1, c2, c3, Ly]) sb)
      have Y2'' := Y2'.keep (kL15.mono sb)
      have W1 := kL.lst x1 (cLy c1 (by simp))
      have W2 := kL.lst x2 (cLy c2 (by simp))
      have W3 := kL.lst x3 (cLy c3 (by simp))
      have ld15 : H15 Ld = some (.lst (ds.map V.ref)) := kL.lst (S67 _ _ ld6) (by rw [List.mem_singleton]; exact LdLy)
      have qA : H15 q = some (.lst [V.int y.days, V.ref lh, V.ref ll, V.ref lr]) := kL.lst (S67 _ _ hq6) (nL oq)
      have qB : H15 q' = some (.lst [V.int y'.days, V.ref lh', V.ref ll', V.ref lr']) := kL.lst (S67 _ _ hq') (nL oq')
      have A1 := (r16.same S67).keep kL (nL olh)
      have A2 := (r26.same S67).keep kL (nL oll)
      have A3 := (r36.same S67).keep kL (nL olr)
      have B1 := (p1.same S67).keep kL (nL olh')
      have B2 := (p2.same S67).keep kL (nL oll')
      have B3 := (p3.same S67).keep kL (nL olr')
      have I15 : Paired (Item C [c1, c2, c3, Ly] H15) ys ds := pmono (fun _ _ z => z.keep k15) I7
      have tk := tM ⟨_, W1⟩ ⟨_, W2⟩ ⟨_, W3⟩ ⟨_, ly15⟩
      -- dues
      refine ⟨_, rfl, _, rfl, q, lh, ll, lr, th, tl, tr, y, rfl, qA, A1, A2, A3, ok, fun d1 xs1 H16 s16 nd1 hd1 dm1 => ?_⟩
      refine ⟨_, rfl, q', lh', ll', lr', th', tl', tr', y', rfl, s16 _ _ qB, B1.same s16, B2.same s16, B3.same s16, ok', fun d2 xs2 H17 s17 nd2 hd2 dm2 => ?_⟩
      have s157 := s16.trans s17
      refine ⟨_, rfl, q, lh, ll, lr, th, tl, tr, y, rfl, s157 _ _ qA, A1.same s157, A2.same s157, A3.same s157, ok, fun d3 xs3 H18 s18 nd3 hd3 dm3 => ⟨(by show 3 ≤ sizeLine; decide), fun v2 hv2 => ?_⟩⟩
      have s158 := s157.trans s18
      have v2l : V.ref v2 = V.ref v2 := rfl
      refine ⟨Ld, v2, _, _, rfl, rfl, same_new hv2 _ _ (s158 _ _ ld15), upd_same, (by rw [List.length_map]; show _ + 3 ≤ _; omega), fun Ld' hLd' => ?_⟩
      have s19 : Same H15 (upd (upd H18 v2 (.lst [V.ref d1, V.ref d2, V.ref d3])) Ld' (.lst (ds.map V.ref ++ [V.ref d1, V.ref d2, V.ref d3]))) := (s158.trans (same_new hv2)).trans (same_new hLd')
      have s189 : Same H18 (upd (upd H18 v2 (.lst [V.ref d1, V.ref d2, V.ref d3])) Ld' (.lst (ds.map V.ref ++ [V.ref d1, V.ref d2, V.ref d3]))) := (same_new hv2).trans (same_new hLd')
      have ld19 : upd (upd H18 v2 (.lst [V.ref d1, V.ref d2, V.ref d3])) Ld' (.lst (ds.map V.ref ++ [V.ref d1, V.ref d2, V.ref d3])) Ld' = some (.lst ((ds ++ [d1, d2, d3]).map V.ref)) := by rw [upd_same, List.map_append]; rfl
      have nLd' : H15 Ld' = none := (s158.trans (same_new hv2)).free hLd'
      generalize upd (upd H18 v2 (.lst [V.ref d1, V.ref d2, V.ref d3])) Ld' (.lst (ds.map V.ref ++ [V.ref d1, V.ref d2, V.ref d3])) = H19 at s19 s189 ld19
      have tk16 : ∀ a' ∈ [c1, c2, c3, Ly], H16 a' ≠ none := fun a' ha' z => by
        have := tk a' ha'
        cases e : H15 a' with
        | none => exact this e
        | some o => have := s16 _ _ e; rw [z] at this; cases this
      have tk17 : ∀ a' ∈ [c1, c2, c3, Ly], H17 a' ≠ none := fun a' ha' z => by
        have := tk a' ha'
        cases e : H15 a' with
        | none => exact this e
        | some o => have := s157 _ _ e; rw [z] at this; cases this
      have i1 : Item C [c1, c2, c3, Ly] H19 y1 d1 := ⟨y, lh, th, xs1, ok, Y1''.same s19, (dm1.mono fun x o e z => by
          rcases z with z | rfl | rfl | rfl
          · exact fun hx => tk x hx z
          · exact olh
          · exact oll
          · exact olr).same (s17.trans (s18.trans s189)), (s17.trans (s18.trans s189)) _ _ hd1, A1.same s19, fun z => tk _ z nd1, olh⟩
      have i2 : Item C [c1, c2, c3, Ly] H19 y2 d2 := ⟨y', lh', th', xs2, ok', Y2''.same s19, (dm2.mono fun x o e z => by
          rcases z with z | rfl | rfl | rfl
          · exact fun hx => tk16 x hx z
          · exact olh'
          · exact oll'
          · exact olr').same (s18.trans s189), (s18.trans s189) _ _ hd2, B1.same s19, fun z => tk16 _ z nd2, olh'⟩
      have i3 : Item C [c1, c2, c3, Ly] H19 y3 d3 := ⟨y, lh, th, xs3, ok, Y3'.same s19, (dm3.mono fun x o e z => by
          rcases z with z | rfl | rfl | rfl
          · exact fun hx => tk17 x hx z
          · exact olh
          · exact oll
          · exact olr).same s189, s189 _ _ hd3, A1.same s19, fun z => tk17 _ z nd3, olh⟩
      have I19 : Paired (Item C [c1, c2, c3, Ly] H19) (ys ++ [y1] ++ [y2] ++ [y3]) (ds ++ [d1, d2, d3]) := by
        rw [List.append_assoc, List.append_assoc]
        exact paired_app (pmono (fun _ _ z => z.keep (KeepM.of s19)) I15) (.cons i1 (.cons i2 (.cons i3 .nil)))
      -- handed != parts[1:]
      have D19 : H19 D2 = some (.lst [V.ref c1, V.ref c2, V.ref c3]) := s19 _ _ (kL.lst d7 (nL oD))
      refine ⟨_, rfl, _, rfl, _, rfl, q, _, rfl, SqL.of (s19 _ _ qA), fun u4 hu4 => ?_⟩
      rw [cut_drop1c]
      have s20 : Same H19 (upd H19 u4 (.lst [V.ref lh, V.ref ll, V.ref lr])) := same_new hu4
      have u420 : upd H19 u4 (.lst [V.ref lh, V.ref ll, V.ref lr]) u4 = some (.lst [V.ref lh, V.ref ll, V.ref lr]) := upd_same
      generalize upd H19 u4 (.lst [V.ref lh, V.ref ll, V.ref lr]) = H20 at s20 u420
      have s1520 := s19.trans s20
      have E1 : RowsAt H20 c1 th (y.hs.map hv) := ⟨s1520 _ _ W1, (A1.same s1520).2⟩
      have E2 : RowsAt H20 c2 tl (y.ls.map rv) := ⟨s1520 _ _ W2, (A2.same s1520).2⟩
      have E3 : RowsAt H20 c3 tr (y.rs.map rv) := ⟨s1520 _ _ W3, (A3.same s1520).2⟩
      have shp : SeqAt.shaped (.list [rowsD (y.hs.map hv), rowsD (y.ls.map rv), rowsD (y.rs.map rv)]) = true := (lay_list (n := 2) fun d hd => by
        simp only [List.mem_cons, List.not_mem_nil, or_false] at hd
        rcases hd with rfl | rfl | rfl
        · exact lay_rowsD ok.hv
        · exact lay_rowsD ok.lv
        · exact lay_rowsD ok.rv).shaped (by decide)
      have dA : DMs (fun _ => True) H20 [V.ref c1, V.ref c2, V.ref c3] [rowsD (y.hs.map hv), rowsD (y.ls.map rv), rowsD (y.rs.map rv)] := .cons (DM.rows E1 ok.hv trivial) (.cons (DM.rows E2 ok.lv trivial) (.cons (DM.rows E3 ok.rv trivial) .nil))
      have dB : DMs (fun _ => True) H20 [V.ref lh, V.ref ll, V.ref lr] [rowsD (y.hs.map hv), rowsD (y.ls.map rv), rowsD (y.rs.map rv)] := .cons (DM.rows (A1.same s1520) ok.hv trivial) (.cons (DM.rows (A2.same s1520) ok.lv trivial) (.cons (DM.rows (A3.same s1520) ok.rv trivial) .nil))
      refine ⟨_, _, .lst (SqL.of (s20 _ _ D19)) dA.dp, .lst (SqL.of u420) dB.dp, shp, shp, _, rfl, ?_⟩
      rw [eqv_self shp]
      refine iteF ?_
      -- clear
      have D20 := s20 _ _ D19
      have hD3 : D2 ∉ [c1, c2, c3] := fun z => Dcs D2 z rfl
      refine ⟨_, rfl, D2, rfl, ⟨_, SqL.of D20⟩, for_list (K := K) (a := D2) (xs := [V.ref c1, V.ref c2, V.ref c3]) (fun j σ H' => ∃ v9 : Option V, σ = [some (.ref a), some (.ref Ly), some (.ref Ld'), some (.int cc), some (.ref b), some (.ref q), some (.ref q'), some (.ref D2), some (.ref sh), v9, none, none, none, none, none, none] ∧ KeepM [c1, c2, c3] H20 H' ∧ ∀ c ∈ [c1, c2, c3], ∃ us, H' c = some (.lst us))
        ⟨_, rfl, KeepM.of (Same.refl _), fun c hc => ?_⟩ (fun j σ H' _ ⟨_, _, z, _⟩ => SqL.of (z.lst D20 hD3)) ?_ ?_⟩
      · simp at hc
        rcases hc with rfl | rfl | rfl
        · exact ⟨_, E1.1⟩
        · exact ⟨_, E2.1⟩
        · exact ⟨_, E3.1⟩
      · rintro j v σ H21 hj ⟨v9, rfl, k21, hus⟩
        obtain ⟨c, hc, rfl⟩ : ∃ c, c ∈ [c1, c2, c3] ∧ v = V.ref c := by
          have hm := List.mem_of_getElem? hj
          simp at hm
          rcases hm with rfl | rfl | rfl
          · exact ⟨c1, by simp, rfl⟩
          · exact ⟨c2, by simp, rfl⟩
          · exact ⟨c3, by simp, rfl⟩
        obtain ⟨us, hu⟩ := hus c hc
        refine ⟨_, rfl, .inl ⟨rfl, _, SqL.of hu⟩, c, us, rfl, rfl, hu, ?_⟩
        refine ⟨_, rfl, k21.trans (KeepM.up hu hc), fun c' hc' => ?_⟩
        by_cases e : c' = c
        · subst e; exact ⟨_, upd_same⟩
        · obtain ⟨us', h1'⟩ := hus c' hc'
          exact ⟨us', by rw [upd_ne e]; exact h1'⟩
      · rintro σ H21 ⟨v9, rfl, k21, hus⟩
        have kE : KeepM [c1, c2, c3, Ly] H20 H21 := k21.mono fun x hx => by simp at hx ⊢; rcases hx with h | h | h <;> simp [h]
        have nc3 : ∀ {x : Addr} {o : HO}, H6 x = some o → x ∉ [c1, c2, c3] := fun e z => by
          simp at z
          rcases z with z | z | z
          · exact ne6 e m1 z
          · exact ne6 e m2 z
          · exact ne6 e m3 z
        have nLd3 : Ld' ∉ [c1, c2, c3] := fun z => tk Ld' (by simp at z ⊢; rcases z with h | h | h <;> simp [h]) nLd'
        refine ⟨ys ++ [y1] ++ [y2] ++ [y3], ds ++ [d1, d2, d3], Ld', _, _, _, _, _, _, _, rfl, k21.lst (s1520 _ _ (kL.lst (S67 _ _ t06) (by rw [List.mem_singleton]; exact t0Ly))) (nc3 t06), (fun z => absurd (z ▸ nLd' : H15 Ly = none) (by rw [ly15]; exact fun h => nomatch h)), k21.lst (s1520 _ _ ly15) (nc3 ly6), k21.lst (s20 _ _ ld19) nLd3, ?_, ?_, ?_⟩
        · rw [List.length_append, List.length_append, List.length_append, yl]; show _ + 1 + 1 + 1 = _; omega
        · exact pmono (fun _ _ z => ((z.keep (KeepM.of s20)).keep kE).sub sb) I19
        · intro x o e
          have xLy : x ≠ Ly := ne_of_none e hLy
          have e3 := sH3 _ _ e
          have e6 := S36 _ _ e3
          have e15 : H15 x = some o := kL x o (S67 _ _ e6) fun hx => absurd (List.mem_singleton.mp hx) xLy
          exact k21 x o (s1520 _ _ e15) fun hx => absurd hx (nc3 e6)
    · rintro σ H3 ⟨ys, ds, Ld, v3, v4, v5, v6, v7, v8, v9, rfl, _, LdLy, ly3, ld3, yl, I3, sH3⟩
      rw [il3] at yl
      have dl : ds.length = 9 := by rw [← paired_len I3]; omega
      refine ⟨_, rfl, _, rfl, _, rfl, a, _, rfl, sH3.seq hS, fun p5 hp5 => ⟨(by show 3 ≤ sizeLine; decide), fun q5 hq5 => ?_⟩⟩
      have pq5 : p5 ≠ q5 := ne_of_none upd_same hq5
      obtain ⟨cl5, ci5⟩ := cut_intV nsint (lo := some 3) (hi := some 20)
      rw [List.length_map] at cl5
      refine ⟨p5, q5, _, _, rfl, rfl, (by rw [upd_ne pq5]; exact upd_same), upd_same, (by show _ + 3 ≤ _; omega), fun t5 ht5 => ?_⟩
      have ii5 : ∀ v ∈ cutV (ns.map V.int) (some 3) (some 20) ++ [V.int 1, V.int 4, V.int 7], ∃ c, v = V.int c := fun v hv => by
        rcases List.mem_append.mp hv with hv | hv
        · exact ci5 v hv
        · simp at hv
          rcases hv with rfl | rfl | rfl <;> exact ⟨_, rfl⟩
      generalize cutV (ns.map V.int) (some 3) (some 20) ++ [V.int 1, V.int 4, V.int 7] = its at ii5
      have s4 : Same H3 (upd (upd (upd H3 p5 (.lst (cutV (ns.map V.int) (some 3) (some 20)))) q5 (.lst [V.int 1, V.int 4, V.int 7])) t5 (.lst its)) := ((same_new hp5).trans (same_new hq5)).trans (same_new ht5)
      have t54 : upd (upd (upd H3 p5 (.lst (cutV (ns.map V.int) (some 3) (some 20)))) q5 (.lst [V.int 1, V.int 4, V.int 7])) t5 (.lst its) t5 = some (.lst its) := upd_same
      generalize upd (upd (upd H3 p5 (.lst (cutV (ns.map V.int) (some 3) (some 20)))) q5 (.lst [V.int 1, V.int 4, V.int 7])) t5 (.lst its) = H4 at s4 t54
      refine ⟨t5, rfl, ⟨_, SqL.of t54⟩, for_list (K := K) (a := t5) (xs := its) (fun i σ H' => ∃ (v3 v4 v10 v11 v12 v13 : Option V), σ = [some (.ref a), some (.ref Ly), some (.ref Ld), v3, v4, v5, v6, v7, v8, v9, v10, v11, v12, v13, none, none] ∧ Same H4 H')
        ⟨_, _, none, none, none, none, rfl, Same.refl _⟩ (fun i σ H' _ ⟨_, _, _, _, _, _, _, z⟩ => SqL.of (z _ _ t54)) ?_ ?_⟩
      · rintro i v σ H5 hi ⟨v3, v4, v10, v11, v12, v13, rfl, s5⟩
        obtain ⟨cc, rfl⟩ := ii5 v (List.mem_of_getElem? hi)
        have S35 := s4.trans s5
        refine ⟨_, rfl, cc, rfl, fun b H6 s6 nb wb => ?_⟩
        have S36 := S35.trans s6
        have xb : ∀ {x : Addr} {o : HO}, H3 x = some o → x ≠ b := fun e => ne_of_none (S35 _ _ e) nb
        refine ⟨_, rfl, _, rfl, Ly, _, rfl, .inl (SqL.of (S36 _ _ ly3)), b, _, rfl, wb, (by rw [List.length_map, yl]; decide), (by rw [List.length_map, yl]; decide), fun r H7 r0 r1 w7 s7 => ?_⟩
        have S57 : Same H5 H7 := fun x o e => s7 _ _ (s6 _ _ e) (ne_of_none e nb)
        have S37 := S35.trans S57
        have getj : ∀ {z : Int}, 0 ≤ z → z < (((ys.map V.ref).length : Nat) : Int) → ∃ p d, atI (ys.map V.ref) z = some (.ref p) ∧ atI (ds.map V.ref) z = some (.ref d) ∧ Item C [Ly] H3 p d := fun {z} h0 h1 => by
          obtain ⟨j, rfl⟩ : ∃ j : Nat, z = (j : Int) := ⟨z.toNat, by omega⟩
          rw [List.length_map] at h1
          obtain ⟨p, hp⟩ : ∃ p, ys[j]? = some p := ⟨ys[j]'(by omega), List.getElem?_eq_getElem _⟩
          obtain ⟨d, hd, it⟩ := pget I3 hp
          exact ⟨p, d, atI_nat (by rw [List.getElem?_map, hp]; rfl), atI_nat (by rw [List.getElem?_map, hd]; rfl), it⟩
        obtain ⟨p, d, atp, atd, it⟩ := getj r0 r1
        obtain ⟨y, lh, th, xs, ok, hy, dm, hd, R, _, _⟩ := it.ex
        have h8 := ok.h.l8
        have h1 := ok.h.l1
        have thl : th.length = y.hs.length := by rw [R.len, List.length_map]
        have nl : (nms y.hs).length = y.hs.length := by unfold nms; rw [List.length_map]
        refine ⟨_, rfl, _, rfl, Ld, _, _, _, rfl, rfl, SqL.of (S37 _ _ ld3), atd, d, _, 1, .ref lh, rfl, rfl, SqL.of (S37 _ _ hd), atI_nat (j := 1) rfl, ?_⟩
        have R7 := R.same S37
        refine ⟨_, rfl, _, rfl, _, rfl, lh, _, rfl, .inl (SqL.of R7.1), b, _, rfl, w7, (by rw [List.length_map, thl]; omega), (by rw [List.length_map, thl]; omega), fun r2 H8 r20 r21 w8 s8 => ?_⟩
        have S58 : Same H5 H8 := fun x o e => s8 _ _ (S57 _ _ e) (ne_of_none e nb)
        have S38 := S35.trans S58
        have R8 := R.same S38
        obtain ⟨vv, hv1, hv2⟩ := get_lt (l := th.map V.ref) r20 r21
        obtain ⟨jn, hjn⟩ := List.mem_iff_getElem?.mp hv2
        obtain ⟨tt, rr, rfl, hrr, htt, _⟩ := row_get R8 hjn
        have hxm : rr.1 ∈ nms y.hs := List.mem_of_getElem? (nms_get hrr)
        refine ⟨lh, _, _, _, rfl, rfl, SqL.of R8.1, hv1, tt, _, 0, .str rr.1, rfl, rfl, SqT.of htt, rfl, ?_⟩
        -- under against all
        obtain ⟨dx, l1, l2, l3, t1, t2, t3, hp, _⟩ := (hy.same S38).ex
        have nfu : (yf y.days l1 l2 l3).lookup ("under" : Str) = none := yf_no (by decide +kernel) (by decide +kernel) (by decide +kernel) (by decide +kernel)
        refine ⟨_, rfl, _, rfl, Ly, _, _, _, rfl, rfl, SqL.of (S38 _ _ ly3), atp, p, dx, _, rfl, hp, nfu, _, rfl, p, y, rr.1, rfl, (hy.same S38).nil, ok.h, hxm, fun u H9 s9 nu hu => ?_⟩
        refine ⟨_, rfl, lh, th, y.hs, rfl, R8.same s9, ok.h, fun aa xa H10 s10 na ha dma => ?_⟩
        have S310 := (S38.trans s9).trans s10
        have R10 := R.same S310
        refine ⟨_, rfl, lh, rfl, ⟨_, SqL.of R10.1⟩, fun D3 hD3 => lc_it (walk_list (xs := th.map V.ref)) (fun i H' => H' = upd H10 D3 (.lst (((nms y.hs).take i).map V.str))) rfl (fun i H' _ e => by rw [e]; exact SqL.of (same_new hD3 _ _ R10.1)) ?_ ?_⟩
        · rintro i v H11 H12 hi rfl ⟨rfl, hv⟩
          obtain ⟨t, r, rfl, hr1, ht, hti⟩ := row_get R10 hv
          refine ⟨t, _, rfl, SqT.of (same_new hD3 _ _ ht), rfl, _, _, rfl, _, _, rfl, rfl, rfl, yes (iteT ⟨_, rfl, _, upd_same, ?_, ?_⟩)⟩
          · rw [List.length_map, List.length_take]
            rw [List.length_map, thl] at hi
            omega
          · rw [upd_upd, take_more (nms_get hr1), List.map_append]
            rfl
        rintro H11 rfl
        have el : (nms y.hs).take (th.map V.ref).length = nms y.hs := List.take_of_length_le (by rw [List.length_map, nl, thl]; exact Nat.le_refl _)
        rw [el]
        have s11 : Same H10 (upd H10 D3 (.lst ((nms y.hs).map V.str))) := same_new hD3
        have d311 : upd H10 D3 (.lst ((nms y.hs).map V.str)) D3 = some (.lst ((nms y.hs).map V.str)) := upd_same
        generalize upd H10 D3 (.lst ((nms y.hs).map V.str)) = H11 at s11 d311
        obtain ⟨tu, u1, u2, hxa, htu, dmu⟩ := und_get dma (nms_get hrr)
        have hjx : ((nms y.hs).map V.str)[jn]? = some (.str rr.1) := by rw [List.getElem?_map, nms_get hrr]; rfl
        refine ⟨.inl ⟨rfl, _, SqL.of d311⟩, _, rfl, D3, _, .str rr.1, jn, .str rr.1, rfl, rfl, SqL.of d311, rfl, flat_strs, hjx, (by show (rr.1 == rr.1) = true; simp), ?_, aa, _, _, .ref tu, rfl, rfl, SqL.of (s11 _ _ ha), atI_nat hxa, tu, _, 2, .ref u2, rfl, rfl, SqT.of (s11 _ _ htu), rfl, ?_⟩
        · intro m z' hm hz'
          rw [List.getElem?_map] at hz'
          cases e : (nms y.hs)[m]? with
          | none => rw [e] at hz'; cases hz'
          | some z =>
            rw [e] at hz'
            have ez := Option.some.inj hz'
            subst ez
            show (z == rr.1) = false
            refine beq_eq_false_iff_ne.mpr fun ee => ?_
            subst ee
            have := nd_ix ok.h.nd e (nms_get hrr)
            omega
        have shu : SeqAt.shaped (.list ((und y.hs rr.1).map PyData.str)) = true := shaped_strs fun z hz => strOk_W (ok.h.w _ (List.mem_filter.mp hz).1)
        refine ⟨_, _, .lst (SqL.of (s11 _ _ (s10 _ _ hu))) (dp_strs _), (dmu.same s11).dp, shu, shu, _, rfl, ?_⟩
        rw [eqv_self shu]
        refine iteF ?_
        have S5b : Same H5 H11 := ((S58.trans s9).trans s10).trans s11
        have S3b := S35.trans S5b
        have w11 : WellAt H11 b := by obtain ⟨a1, a2, a3, e⟩ := w8; exact ⟨a1, a2, a3, s11 _ _ (s10 _ _ (s9 _ _ e))⟩
        -- asked by turns
        refine ⟨_, rfl, _, rfl, _, rfl, Ly, _, rfl, .inl (SqL.of (S3b _ _ ly3)), b, _, rfl, w11, (by rw [List.length_map, yl]; decide), (by rw [List.length_map, yl]; decide), fun r5 H12 r50 r51 w12 s12 => ⟨_, rfl, (by show 3 ≤ sizeLine; decide), fun I hI => ?_⟩⟩
        have S512 : Same H5 H12 := fun x o e => s12 _ _ (S5b _ _ e) (ne_of_none e nb)
        have S513 : Same H5 (upd H12 I (.lst [V.int r, V.int r5, V.int r])) := S512.trans (same_new hI)
        have i13 : upd H12 I (.lst [V.int r, V.int r5, V.int r]) I = some (.lst [V.int r, V.int r5, V.int r]) := upd_same
        generalize upd H12 I (.lst [V.int r, V.int r5, V.int r]) = H13 at S513 i13
        refine ⟨I, rfl, ⟨_, SqL.of i13⟩, for_list (K := K) (a := I) (xs := [V.int r, V.int r5, V.int r]) (fun j σ H' => ∃ v13 : Option V, σ = [some (.ref a), some (.ref Ly), some (.ref Ld), some (.int cc), some (.ref b), v5, v6, v7, v8, v9, some (.int r), some (.ref lh), some (.str rr.1), v13, none, none] ∧ Same H13 H')
          ⟨_, rfl, Same.refl _⟩ (fun j σ H' _ ⟨_, _, z⟩ => SqL.of (z _ _ i13)) ?_ ?_⟩
        · rintro j v σ H14 hj ⟨v13, rfl, s14⟩
          obtain ⟨z, rfl, z0, z1⟩ : ∃ z, v = V.int z ∧ 0 ≤ z ∧ z < (((ys.map V.ref).length : Nat) : Int) := by
            have hm := List.mem_of_getElem? hj
            simp only [List.mem_cons, List.not_mem_nil, or_false] at hm
            rcases hm with rfl | rfl | rfl
            · exact ⟨r, rfl, r0, r1⟩
            · exact ⟨r5, rfl, r50, r51⟩
            · exact ⟨r, rfl, r0, r1⟩
          have S314 := S35.trans (S513.trans s14)
          obtain ⟨p2, d2, atp2, atd2, it2⟩ := getj z0 z1
          obtain ⟨y2, lh2, th2, xs2, ok2, hy2, dm2, hd2, R2, _, _⟩ := it2.ex
          refine ⟨_, rfl, _, rfl, Ly, _, _, _, rfl, rfl, SqL.of (S314 _ _ ly3), atp2, p2, y2, rfl, (hy2.same S314).nil, ok2, fun qq xq H15 s15 nq hq dmq => ?_⟩
          have sh := (lay_due ok2).shaped (by decide)
          refine ⟨_, rfl, _, rfl, Ld, _, _, _, rfl, rfl, SqL.of (s15 _ _ (S314 _ _ ld3)), atd2, y2.due, y2.due, dmq.dp, ((dm2.same S314).same s15).dp, sh, sh, _, rfl, ?_⟩
          rw [eqv_self sh]
          exact iteF ⟨_, rfl, s14.trans s15⟩
        · rintro σ H14 ⟨v13, rfl, s14⟩
          exact ⟨_, _, _, _, _, _, rfl, s5.trans (S513.trans s14)⟩
      · rintro σ H5 _
        exact k _
end
end KP
namespace KP
open PySem L2
/-! ### from what the top has written -/
section
variable {K : PySem.W.Frag} {h : Heap} {mg : Str → Option Value}
theorem defT {x : Str} {st : Stmt} {ps : List Str} {f : Addr} {oc : Value} {od an : Option Addr} {sl : Array (Option Value)} {kV dc pm cd ct : Value} (X : K.In h) (G : h.Ns mainGlobals mg) (a : PySem.W.nsIn K mainGlobals x = some (some (.ref f)))
    (l : K.lookup f = some ⟨oc, od, .func (PySem.W.fnOf x x (defArgs st) (defBody st) (defScope st) .none kV dc pm an cd ct), sl⟩) (c : PySem.W.codeIn K cd x = true) (k : PySem.W.keepIn K (.ref f) = true)
    (hb : ∀ (kV doc pm : Value) (an : Option Addr) (cdv ct : Value) (us : List Value), us.length = ps.length → bindArgs (PySem.W.fnOf x x (defArgs st) (defBody st) (defScope st) .none kV doc pm an cdv ct) ⟨us, []⟩ = pure (ps.zip us)) : DefT K mg x st ps :=
  ⟨f, _, fun_mk l c k, (fun_mk l c k).binds hb, PySem.W.mg_of X G a⟩
/-- law itself -/
structure LawT (K : PySem.W.Frag) (mg : Str → Option Value) : Prop where
  ex : ∃ f fd, Fun K "law" "law" sLaw f fd ∧ mg "law" = some (.ref f) ∧ ∀ (s : Shared) (v : Value), BindsTo s fd ⟨[v], []⟩ [("_law_script", v)]
theorem lawT {f : Addr} {oc : Value} {od an : Option Addr} {sl : Array (Option Value)} {kV dc pm cd ct : Value} (X : K.In h) (G : h.Ns mainGlobals mg) (a : PySem.W.nsIn K mainGlobals "law" = some (some (.ref f)))
    (l : K.lookup f = some ⟨oc, od, .func (PySem.W.fnOf "law" "law" (defArgs sLaw) (defBody sLaw) (defScope sLaw) .none kV dc pm an cd ct), sl⟩) (c : PySem.W.codeIn K cd "law" = true) (k : PySem.W.keepIn K (.ref f) = true) : LawT K mg :=
  ⟨f, _, fun_mk l c k, PySem.W.mg_of X G a, fun s v => .of_eq rfl⟩
theorem methT {m qn : Str} {C f : Addr} {st : Stmt} {ps : List Str} {oc : Value} {od an : Option Addr} {sl : Array (Option Value)} {kV dc pm cd ct : Value}
    (a : PySem.W.findIn K (.ref C) m = some (some (.ref f))) (i : PySem.W.isFn K (.ref f) = true) (l : K.lookup f = some ⟨oc, od, .func (PySem.W.fnOf m qn (defArgs st) (defBody st) (defScope st) .none kV dc pm an cd ct), sl⟩) (c : PySem.W.codeIn K cd qn = true) (k : PySem.W.keepIn K (.ref f) = true)
    (hb : ∀ (kV doc pm : Value) (an : Option Addr) (cdv ct : Value) (us : List Value), us.length = ps.length → bindArgs (PySem.W.fnOf m qn (defArgs st) (defBody st) (defScope st) .none kV doc pm an cdv ct) ⟨us, []⟩ = pure (ps.zip us)) : MethT K C m qn st ps :=
  ⟨f, _, ⟨a, i, k⟩, fun_mk l c k, (fun_mk l c k).binds hb⟩
theorem initT {qn : Str} {C f : Addr} {st : Stmt} {ps : List Str} {oc : Value} {od an : Option Addr} {sl : Array (Option Value)} {kV dc pm cd ct : Value} (mk : PySem.W.makesIn K C = true) (kc : PySem.W.keepIn K (.ref C) = true)
    (a : PySem.W.findIn K (.ref C) "__init__" = some (some (.ref f))) (i : PySem.W.isFn K (.ref f) = true) (l : K.lookup f = some ⟨oc, od, .func (PySem.W.fnOf "__init__" qn (defArgs st) (defBody st) (defScope st) .none kV dc pm an cd ct), sl⟩) (c : PySem.W.codeIn K cd qn = true) (k : PySem.W.keepIn K (.ref f) = true)
    (hb : ∀ (kV doc pm : Value) (an : Option Addr) (cdv ct : Value) (us : List Value), us.length = ps.length → bindArgs (PySem.W.fnOf "__init__" qn (defArgs st) (defBody st) (defScope st) .none kV doc pm an cdv ct) ⟨us, []⟩ = pure (ps.zip us)) : InitT K C qn st ps :=
  ⟨f, _, ⟨mk, a, i, kc⟩, fun_mk l c k, (fun_mk l c k).binds hb⟩
end
theorem all_mk {P : Program} {w : World} {K : PySem.W.Frag} {h : Heap} {mg : Str → Option Value} {fa C : Addr}
    (X : K.In h) (G : h.Ns mainGlobals mg) (hfa : mg "law" = some (.ref fa))
    (aC : PySem.W.nsIn K mainGlobals "Year" = some (some (.ref C)))
    (T : YearF K mg C)
    (yi : InitT K C "Year.__init__" sYI ["self", "days", "heads", "limits", "rules"])
    (yn : MethT K C "names" "Year.names" sYN ["self"])
    (ya : MethT K C "above" "Year.above" sYA ["self", "name"])
    (yk : MethT K C "knots" "Year.knots" sYK ["self", "name"])
    (yu : MethT K C "under" "Year.under" sYU ["self", "name"])
    (B : Base K mg) (L : LawT K mg)
    (d0 : DefT K mg "is_whole" sWhole ["value", "least", "most"])
    (d1 : DefT K mg "is_word" sWord ["value"])
    (d2 : DefT K mg "is_list" sList ["value", "least", "most"])
    (d3 : DefT K mg "is_row" sRow ["value", "many"])
    (d4 : DefT K mg "are_heads" sHeadsP ["heads"])
    (d5 : DefT K mg "is_limit" sLimit ["row", "days", "names"])
    (d6 : DefT K mg "is_rule" sRule ["row", "days", "names"])
    (d7 : DefT K mg "is_at_most_one" sOne ["rules", "name"])
    (d8 : DefT K mg "are_limits" sLimitsP ["limits", "days", "names"])
    (d9 : DefT K mg "are_rules" sRulesP ["rules", "days", "names"])
    (d10 : DefT K mg "_law_well" sWell ["_law_cell"])
    (d11 : DefT K mg "_law_draw" sDraw ["_law_well_here", "_law_many"])
    (d12 : DefT K mg "_law_name" sName ["_law_well_here"])
    (d13 : DefT K mg "_law_names" sNames ["_law_well_here", "_law_many"])
    (d14 : DefT K mg "_law_heads" sLHeads ["_law_well_here"])
    (d15 : DefT K mg "_law_limits" sLLimits ["_law_well_here", "_law_heads_here", "_law_days"])
    (d16 : DefT K mg "_law_rules" sLRules ["_law_well_here", "_law_heads_here", "_law_days"])
    (d17 : DefT K mg "_law_parts" sLParts ["_law_well_here"])
    (d18 : DefT K mg "_law_knots" sLKnots ["_law_heads_here", "_law_name_here"])
    (d19 : DefT K mg "_law_all" sLAll ["_law_heads_here"])
    (d20 : DefT K mg "_law_asked" sLAsked ["_law_year"])
    (d21 : DefT K mg "_law_due" sLDue ["_law_parts_here"])
    (d22 : DefT K mg "_law_near" sNear ["_law_well_here", "_law_parts_here"]) :
    ∃ fd : FuncData, (∀ (s : Shared) (v : Value), BindsTo s fd ⟨[v], []⟩ [("_law_script", v)]) ∧ ∀ base : Heap, K.In base → base.Ns mainGlobals mg → FnOk P w K mg base CX0 6 fa fd ["_law_script"] (spLaw K) := by
  obtain ⟨f, fd, F, hm, hb⟩ := L.ex
  have ef : fa = f := by
    have e := hfa.symm.trans hm
    injection e with e
    injection e
  subst ef
  refine ⟨fd, hb, fun base _ _ => ?_⟩
  have kWh : Cal P w K mg base 1 "is_whole" spWhole := c_whole B d0
  have kWo : Cal P w K mg base 1 "is_word" spWord := c_word B d1
  have kLs : Cal P w K mg base 1 "is_list" spList := c_list B d2
  have kRo : Cal P w K mg base 1 "is_row" spRow := c_row B d3
  have kHs : Cal P w K mg base 2 "are_heads" spHeadsP := c_headsP B kLs kRo kWo d4
  have kLi : Cal P w K mg base 2 "is_limit" spLimit := c_limit B kRo kWh d5
  have kRu : Cal P w K mg base 2 "is_rule" spRule := c_rule B kRo kWh d6
  have kOn : Cal P w K mg base 1 "is_at_most_one" spOne := c_one d7
  have kLs2 : Cal P w K mg base 3 "are_limits" spLimitsP := c_limitsP B kLs kLi d8
  have kRs2 : Cal P w K mg base 3 "are_rules" spRulesP := c_rulesP B kLs kRu kOn d9
  have kY : MakT P w K mg base 4 "Year" C (spYear C) := c_year B T kWh kHs kLs2 kRs2 yi
  have kYn : MetT P w K mg base 1 C "names" (spYN C) := c_yn T yn
  have kYa : MetT P w K mg base 1 C "above" (spYA C) := c_ya T ya
  have kYk : MetT P w K mg base 2 C "knots" (spYK C) := c_yk T kYa yk
  have kYu : MetT P w K mg base 3 C "under" (spYU C) := c_yu T kYa kYn kYk yu
  have kWl : Cal P w K mg base 1 "_law_well" spWell := c_well B d10
  have kDr : Cal P w K mg base 1 "_law_draw" spDraw := c_draw d11
  have kNm : Cal P w K mg base 2 "_law_name" spName := c_name B kDr d12
  have kNs : Cal P w K mg base 3 "_law_names" spNames := c_names B kDr kNm d13
  have kLH : Cal P w K mg base 4 "_law_heads" spLHeads := c_lheads B kDr kNs d14
  have kLL : Cal P w K mg base 2 "_law_limits" spLLimits := c_llimits B kDr d15
  have kLR : Cal P w K mg base 2 "_law_rules" spLRules := c_lrules B kDr d16
  have kP : Cal P w K mg base 5 "_law_parts" spLParts := c_lparts kDr kLH kLL kLR d17
  have kK : Cal P w K mg base 1 "_law_knots" spLKnots := c_lknots B d18
  have kA : Cal P w K mg base 2 "_law_all" spLAll := c_lall kK d19
  have kD : Cal P w K mg base 3 "_law_due" spLDue := c_ldue kA d21
  have kAs : Cal P w K mg base 4 "_law_asked" (spLAsked C) := c_lasked B T kYa kYn kYk kYu d20
  have kNr : Cal P w K mg base 2 "_law_near" spNear := c_near B kDr d22
  exact ok_law F B T kWl kDr kP kNr kY kD kAs kA kYu
theorem walk {l : PySem.W.OpenLaw} {q : Program} {loose : List Str} {XP : (Str → Option Value) → Heap → Prop} {YP : World → Heap → Prop} {d : DefRec} {K : Params → PySem.W.Frag} (hn : l.most = some 63) (hdf : d.params.defaults = [])
    (hY : ∀ (w : World) (h : Heap), YP w h → (K w.params).In h)
    (F : ∀ (w : World) (mg : Str → Option Value) (fa : Addr) (h : Heap), (K w.params).In h → h.Ns mainGlobals mg → mg d.name = some (.ref fa) →
      ∃ fd : FuncData, (∀ (s : Shared) (u : Value), BindsTo s fd ⟨[u], []⟩ [("_law_script", u)]) ∧ ∀ base : Heap, (K w.params).In base → base.Ns mainGlobals mg → FnOk l.prog w (K w.params) mg base CX0 6 fa fd ["_law_script"] (spLaw (K w.params))) :
    PySem.W.WalkO q loose XP YP l.row.toRowW d [] (fun f vs => PySem.call f vs) :=
  L2.walk_of (n := 63) (k := 6) (x := "_law_script") (CX := fun _ => CX0) (sp := fun w => spLaw (K w.params)) hn (by decide) hdf ⟨rfl, by decide, by decide⟩ hY F (fun _ _ a ns hl _ hS => ⟨a, ns, rfl, hS, hl, fun _ => rfl⟩) fun _ _ _ _ _ z => z
end KP
open PySem PySem.W PyProof.Rows
set_option maxRecDepth 100000 in
set_option maxHeartbeats 0 in
theorem PySem.Challenge.cw_knotpurse_k08_whole_years_by_turns_holds : PySem.Challenge.rw_knotpurse_k08_whole_years_by_turns.Holds := by
  w_on; o_law; k_head; (case hw => w_witness2)
  k_fill
  refine KP.walk (l := PySem.Challenge.rw_knotpurse_k08_whole_years_by_turns) rfl rfl (fun w h Y => PySem.W.kIn_of Y) ?F
  case F =>
    intro w mg fa h KX G hmg
    refine' KP.all_mk KX G hmg ?aC ?T ?yi ?yn ?ya ?yk ?yu ?B ?L ?d0 ?d1 ?d2 ?d3 ?d4 ?d5 ?d6 ?d7 ?d8 ?d9 ?d10 ?d11 ?d12 ?d13 ?d14 ?d15 ?d16 ?d17 ?d18 ?d19 ?d20 ?d21 ?d22
    (case aC => k_is)
    (case T => refine' ⟨⟨?p1, ?p2, ?p3, ?p4⟩, PySem.W.mg_of KX G ?p5, ?p6, ?p7, ?p8, ?p9⟩; (case p1 => k_is); (case p2 => k_is); (case p3 => k_is); (case p4 => k_is); (case p5 => k_is); (case p6 => show PySem.W.findIn _ _ _ = _; k_is); (case p7 => show PySem.W.findIn _ _ _ = _; k_is); (case p8 => show PySem.W.findIn _ _ _ = _; k_is); (case p9 => show PySem.W.findIn _ _ _ = _; k_is))
    (case yi => refine' KP.initT ?m ?kc ?a ?i ?l ?c ?k (fun _ _ _ _ _ _ us hl => match us, hl with | [_, _, _, _, _], _ => rfl); (case m => k_is); (case kc => k_is); (case a => k_is); (case i => k_is); (case l => k_is); (case c => k_is); (case k => k_is))
    (case yn => refine' KP.methT ?a ?i ?l ?c ?k (fun _ _ _ _ _ _ us hl => match us, hl with | [_], _ => rfl); (case a => k_is); (case i => k_is); (case l => k_is); (case c => k_is); (case k => k_is))
    (case ya => refine' KP.methT ?a ?i ?l ?c ?k (fun _ _ _ _ _ _ us hl => match us, hl with | [_, _], _ => rfl); (case a => k_is); (case i => k_is); (case l => k_is); (case c => k_is); (case k => k_is))
    (case yk => refine' KP.methT ?a ?i ?l ?c ?k (fun _ _ _ _ _ _ us hl => match us, hl with | [_, _], _ => rfl); (case a => k_is); (case i => k_is); (case l => k_is); (case c => k_is); (case k => k_is))
    (case yu => refine' KP.methT ?a ?i ?l ?c ?k (fun _ _ _ _ _ _ us hl => match us, hl with | [_, _], _ => rfl); (case a => k_is); (case i => k_is); (case l => k_is); (case c => k_is); (case k => k_is))
    (case B => exact ⟨PySem.W.mg_none_of KX G (by k_is), PySem.W.mg_none_of KX G (by k_is), PySem.W.mg_none_of KX G (by k_is), PySem.W.mg_none_of KX G (by k_is), PySem.W.mg_none_of KX G (by k_is), PySem.W.mg_none_of KX G (by k_is), PySem.W.mg_none_of KX G (by k_is), PySem.W.mg_none_of KX G (by k_is), ⟨_, PySem.W.mg_of KX G (by k_is)⟩, ⟨_, PySem.W.mg_of KX G (by k_is)⟩, PySem.W.mg_none_of KX G (by k_is), PySem.W.mg_none_of KX G (by k_is), ⟨_, PySem.W.mg_of KX G (by k_is)⟩, ⟨_, PySem.W.mg_of KX G (by k_is)⟩, ⟨_, PySem.W.mg_of KX G (by k_is)⟩, ⟨_, PySem.W.mg_of KX G (by k_is)⟩, ⟨_, PySem.W.mg_of KX G (by k_is)⟩, ⟨_, PySem.W.mg_of KX G (by k_is)⟩⟩)
    (case L => refine' KP.lawT KX G ?a ?l ?c ?k; (case a => k_is); (case l => k_is); (case c => k_is); (case k => k_is))
    (case d0 => refine' KP.defT KX G ?a ?l ?c ?k (fun _ _ _ _ _ _ us hl => match us, hl with | [_, _, _], _ => rfl); (case a => k_is); (case l => k_is); (case c => k_is); (case k => k_is))
    (case d1 => refine' KP.defT KX G ?a ?l ?c ?k (fun _ _ _ _ _ _ us hl => match us, hl with | [_], _ => rfl); (case a => k_is); (case l => k_is); (case c => k_is); (case k => k_is))
    (case d2 => refine' KP.defT KX G ?a ?l ?c ?k (fun _ _ _ _ _ _ us hl => match us, hl with | [_, _, _], _ => rfl); (case a => k_is); (case l => k_is); (case c => k_is); (case k => k_is))
    (case d3 => refine' KP.defT KX G ?a ?l ?c ?k (fun _ _ _ _ _ _ us hl => match us, hl with | [_, _], _ => rfl); (case a => k_is); (case l => k_is); (case c => k_is); (case k => k_is))
    (case d4 => refine' KP.defT KX G ?a ?l ?c ?k (fun _ _ _ _ _ _ us hl => match us, hl with | [_], _ => rfl); (case a => k_is); (case l => k_is); (case c => k_is); (case k => k_is))
    (case d5 => refine' KP.defT KX G ?a ?l ?c ?k (fun _ _ _ _ _ _ us hl => match us, hl with | [_, _, _], _ => rfl); (case a => k_is); (case l => k_is); (case c => k_is); (case k => k_is))
    (case d6 => refine' KP.defT KX G ?a ?l ?c ?k (fun _ _ _ _ _ _ us hl => match us, hl with | [_, _, _], _ => rfl); (case a => k_is); (case l => k_is); (case c => k_is); (case k => k_is))
    (case d7 => refine' KP.defT KX G ?a ?l ?c ?k (fun _ _ _ _ _ _ us hl => match us, hl with | [_, _], _ => rfl); (case a => k_is); (case l => k_is); (case c => k_is); (case k => k_is))
    (case d8 => refine' KP.defT KX G ?a ?l ?c ?k (fun _ _ _ _ _ _ us hl => match us, hl with | [_, _, _], _ => rfl); (case a => k_is); (case l => k_is); (case c => k_is); (case k => k_is))
    (case d9 => refine' KP.defT KX G ?a ?l ?c ?k (fun _ _ _ _ _ _ us hl => match us, hl with | [_, _, _], _ => rfl); (case a => k_is); (case l => k_is); (case c => k_is); (case k => k_is))
    (case d10 => refine' KP.defT KX G ?a ?l ?c ?k (fun _ _ _ _ _ _ us hl => match us, hl with | [_], _ => rfl); (case a => k_is); (case l => k_is); (case c => k_is); (case k => k_is))
    (case d11 => refine' KP.defT KX G ?a ?l ?c ?k (fun _ _ _ _ _ _ us hl => match us, hl with | [_, _], _ => rfl); (case a => k_is); (case l => k_is); (case c => k_is); (case k => k_is))
    (case d12 => refine' KP.defT KX G ?a ?l ?c ?k (fun _ _ _ _ _ _ us hl => match us, hl with | [_], _ => rfl); (case a => k_is); (case l => k_is); (case c => k_is); (case k => k_is))
    (case d13 => refine' KP.defT KX G ?a ?l ?c ?k (fun _ _ _ _ _ _ us hl => match us, hl with | [_, _], _ => rfl); (case a => k_is); (case l => k_is); (case c => k_is); (case k => k_is))
    (case d14 => refine' KP.defT KX G ?a ?l ?c ?k (fun _ _ _ _ _ _ us hl => match us, hl with | [_], _ => rfl); (case a => k_is); (case l => k_is); (case c => k_is); (case k => k_is))
    (case d15 => refine' KP.defT KX G ?a ?l ?c ?k (fun _ _ _ _ _ _ us hl => match us, hl with | [_, _, _], _ => rfl); (case a => k_is); (case l => k_is); (case c => k_is); (case k => k_is))
    (case d16 => refine' KP.defT KX G ?a ?l ?c ?k (fun _ _ _ _ _ _ us hl => match us, hl with | [_, _, _], _ => rfl); (case a => k_is); (case l => k_is); (case c => k_is); (case k => k_is))
    (case d17 => refine' KP.defT KX G ?a ?l ?c ?k (fun _ _ _ _ _ _ us hl => match us, hl with | [_], _ => rfl); (case a => k_is); (case l => k_is); (case c => k_is); (case k => k_is))
    (case d18 => refine' KP.defT KX G ?a ?l ?c ?k (fun _ _ _ _ _ _ us hl => match us, hl with | [_, _], _ => rfl); (case a => k_is); (case l => k_is); (case c => k_is); (case k => k_is))
    (case d19 => refine' KP.defT KX G ?a ?l ?c ?k (fun _ _ _ _ _ _ us hl => match us, hl with | [_], _ => rfl); (case a => k_is); (case l => k_is); (case c => k_is); (case k => k_is))
    (case d20 => refine' KP.defT KX G ?a ?l ?c ?k (fun _ _ _ _ _ _ us hl => match us, hl with | [_], _ => rfl); (case a => k_is); (case l => k_is); (case c => k_is); (case k => k_is))
    (case d21 => refine' KP.defT KX G ?a ?l ?c ?k (fun _ _ _ _ _ _ us hl => match us, hl with | [_], _ => rfl); (case a => k_is); (case l => k_is); (case c => k_is); (case k => k_is))
    (case d22 => refine' KP.defT KX G ?a ?l ?c ?k (fun _ _ _ _ _ _ us hl => match us, hl with | [_, _], _ => rfl); (case a => k_is); (case l => k_is); (case c => k_is); (case k => k_is))
