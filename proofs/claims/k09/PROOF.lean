import PyProof.Rows.All
import Wide.All
import OpenK.AllK
import Wide.FinOn
import HandS.ForMost
import HandS.Walk
import HandS.Wide
import HandS.IsInst
import HandS.NoneIn
import HandS.Style
import HandS.Codes
import HandS.ForExc
import HandS.TupAny
import PyProof.NeKinds
import HandS.ExcIs
import PyProof.Rows.IntBool
import HandS.More
import PySem.Challenge.RW_knotpurse_k09_whole_years_spoilt_anywher
set_option Elab.async false
set_option maxRecDepth 100000
set_option linter.all false
namespace KP
open PySem L2
def top (i : Nat) : Stmt := PySem.Challenge.pw_knotpurse_k09_whole_years_spoilt_anywher.main.body.getD i (.Pass ⟨0, 0, 0, 0⟩)
/-! ### how a def of the text is known, and called -/
structure DefT (K : PySem.W.Frag) (mg : Str → Option Value) (x : Str) (st : Stmt) (ps : List Str) : Prop where
  ex : ∃ f fd, Fun K x x st f fd ∧ Binds K fd ps [] ∧ mg x = some (.ref f)
structure Cal (P : Program) (w : World) (K : PySem.W.Frag) (mg : Str → Option Value) (base : Heap) (k : Nat) (x : Str) (sp : Sp) : Prop where
  ex : ∃ f fd ps, FnOk P w K mg base CX0 k f fd ps sp ∧ mg x = some (.ref f) ∧ PySem.W.keepIn K (.ref f) = true ∧ Binds K fd ps []
section
variable {P : Program} {w : World} {K : PySem.W.Frag} {mg : Str → Option Value} {base : Heap}
theorem cal {x : Str} {st : Stmt} {N ps : List Str} {k : Nat} {sp : Sp} (D : DefT K mg x st ps) (S : FnScope N ps (defScope st)) (len : ∀ vs H Q E, sp vs H Q E → vs.length = ps.length)
    (hbody : ∀ (f : Addr) (cdv : Value) (A : Around) (outer : List Env) (s : Shared) (H : Hp) (vs : List V) (Q : VK) (E : XK), Room k (A.deeper (PyProof.Rows.envOfC x (defScope st) s.heap.objs.size f cdv)) → sp vs H Q E →
      ∃ t, PSs (cxOf CX0 P w K mg base N x (defScope st) f cdv A outer s H E).nox (defBody st) t ∧ t { nx := fun _ H' => Q .non H', rt := Q } (start N vs) H) : Cal P w K mg base (k + 1) x sp := by
  obtain ⟨f, fd, F, b, m⟩ := D.ex
  exact ⟨f, fd, ps, F.ok S len (hbody f), m, F.kp, b⟩
end
section
variable {X : Cx} {k j : Nat} {x : Str} {sp : Sp} {p pos : Pos} {e : Expr} {es : List Expr} {t : TA}
/-- f(e, ..) -/
theorem pe_cl (c : Cal X.prog X.w X.K X.mg X.base k x sp) (hr : Room j X.A) (hk : k ≤ j) (hg : Gl X x) (ha : PA X (e :: es) t)
    (hdb : (x == ("__debug__" : Str)) = false := by decide) (he : starEach (e :: es) X.env = (false, eval e X.env) :: starEach es X.env := by rfl) (hpl : (backTo pos (starEach es X.env)).any (·.1) = false := by rfl) :
    PE X (.Call (.Name x p) (e :: es) [] pos) (tCall sp [] E0 t) := by
  obtain ⟨f, fd, ps, F, m, kp, b⟩ := c.ex
  exact pe_call F (hr.mono hk) hg m kp b .nil pass0 ha hdb he hpl
end
theorem yes {σ : L2.St} {H : Hp} {Q : Bool → Hp → Prop} (h : Q true H) : tYes σ H Q := h
/-! ### texts of letters -/
def letters : Str := "abcdefghijklmnopqrstuvwxyz"
def Ltr (c : Nat) : Prop := c ∈ letters.cps.toList
def IsW (x : Str) : Prop := (∀ c ∈ x.cps.toList, Ltr c) ∧ 1 ≤ x.length ∧ x.length ≤ 8
def IsN (x : Str) : Prop := x = "" ∨ IsW x
/-! ### the written part: what of it the walk asks -/
structure Base (K : PySem.W.Frag) (mg : Str → Option Value) : Prop where
  isi : mg "isinstance" = none
  bool : mg "bool" = none
  int : mg "int" = none
  str : mg "str" = none
  tuple : mg "tuple" = none
  len : mg "len" = none
  all : mg "all" = none
  range : mg "range" = none
  letters : ∃ t, mg "LETTERS" = some (.str letters t)
  mostL : ∃ t, mg "MOST_LETTERS" = some (.int 8 t)
  list : mg "list" = none
  dict : mg "dict" = none
  mostD : ∃ t, mg "MOST_DAYS" = some (.int 30 t)
  mostH : ∃ t, mg "MOST_HEADS" = some (.int 8 t)
  mostLi : ∃ t, mg "MOST_LIMITS" = some (.int 6 t)
  mostR : ∃ t, mg "MOST_RULES" = some (.int 4 t)
  mostM : ∃ t, mg "MOST_LIMIT" = some (.int 1000000000000000 t)
  mostW : ∃ t, mg "MOST_WHOLE" = some (.int 1000 t)
abbrev sWhole : Stmt := top 17
abbrev sWord : Stmt := top 18
def spWhole : Sp := fun vs H Q _ => ∃ v lo hi : Int, vs = [.int v, .int lo, .int hi] ∧ Q (.bl (decide (lo ≤ v ∧ v ≤ hi))) H
def spWord : Sp := fun vs H Q _ => ∃ x : Str, vs = [.str x] ∧ IsW x ∧ ∀ H', Same H H' → Q (.bl true) H'
section
variable {P : Program} {w : World} {K : PySem.W.Frag} {mg : Str → Option Value} {base : Heap}
theorem scWhole : FnScope ["value", "least", "most"] ["value", "least", "most"] (defScope sWhole) := ⟨rfl, rfl, rfl, by decide +kernel, rfl, by decide +kernel, by decide +kernel⟩
theorem c_whole (B : Base K mg) (D : DefT K mg "is_whole" sWhole ["value", "least", "most"]) : Cal P w K mg base 1 "is_whole" spWhole := by
  refine cal D scWhole (fun vs H Q E h => ?_) (fun f cdv A outer s H vs Q E hr h => ?_)
  · obtain ⟨v, lo, hi, rfl, _⟩ := h
    rfl
  · obtain ⟨v, lo, hi, rfl, k⟩ := h
    refine ⟨_, pss_cons (ps_if (PW.pt (pw_or (pt_val (pe_callB call_isi (by rfl) B.isi (by decide +kernel) (pa_cons (pv 0) (pa_cons (pe_bltn (v := .ty "bool") (by rfl) B.bool (by decide +kernel) rfl) pa_nil))))
        (pw_or1 (pt_not (pt_val (pe_callB call_isi (by rfl) B.isi (by decide +kernel) (pa_cons (pv 0) (pa_cons (pe_bltn (v := .ty "int") (by rfl) B.int (by decide +kernel) rfl) pa_nil)))))))) (pss_one (ps_ret pe_bl)) pss_nil)
      (pss_one (ps_ret (pe_chain op_le op_le (pv 1) (pv 0) (pv 2)))), ?_⟩
    refine ⟨_, rfl, _, _, _, _, false, rfl, .ty _, .base (.int _), kit_ty (by decide +kernel), _, rfl, iteF ?_⟩
    refine ⟨_, rfl, _, _, _, _, true, rfl, .ty _, .base (.int _), kit_ty (by decide +kernel), _, rfl, iteF ?_⟩
    refine ⟨_, rfl, _, rfl, _, _, rfl, rfl, _, rfl, ?_⟩
    by_cases h1 : lo ≤ v
    · rw [if_pos (decide_eq_true h1)]
      refine ⟨_, rfl, _, _, rfl, rfl, ?_⟩
      by_cases h2 : v ≤ hi
      · show Q (.bl (decide (v ≤ hi))) H
        rw [decide_eq_true h2]
        rw [decide_eq_true ⟨h1, h2⟩] at k
        exact k
      · show Q (.bl (decide (v ≤ hi))) H
        rw [decide_eq_false h2]
        rw [decide_eq_false fun z => h2 z.2] at k
        exact k
    · rw [if_neg (by rw [decide_eq_false h1]; exact Bool.false_ne_true)]
      rw [decide_eq_false fun z => h1 z.1] at k
      exact k
/-- a new object leaves the rest as it was -/
theorem same_new {H : Hp} {a : Addr} {o : HO} (h : H a = none) : Same H (upd H a o) := fun b u e => by
  rw [upd_ne (ne_of_none e h)]
  exact e
theorem map_rep {n : Nat} : (List.replicate n true).map V.bl = List.replicate n (V.bl true) := by simp
theorem all_rep {n : Nat} : (List.replicate n true).all id = true := by
  rw [List.all_eq_true]
  intro x hx
  exact (List.mem_replicate.mp hx).2
theorem scWord : FnScope ["value", "sign"] ["value"] (defScope sWord) := ⟨rfl, rfl, rfl, by decide +kernel, rfl, by decide +kernel, by decide +kernel⟩
theorem c_word (B : Base K mg) (D : DefT K mg "is_word" sWord ["value"]) : Cal P w K mg base 1 "is_word" spWord := by
  obtain ⟨tL, hL⟩ := B.letters
  obtain ⟨tM, hM⟩ := B.mostL
  refine cal D scWord (fun vs H Q E h => ?_) (fun f cdv A outer s H vs Q E hr h => ?_)
  · obtain ⟨x, rfl, _⟩ := h
    rfl
  · obtain ⟨x, rfl, ⟨hl, h1, h8⟩, k⟩ := h
    refine ⟨_, pss_cons (ps_if (PW.pt (pw_or (pt_not (pt_val (pe_callB call_isi (by rfl) B.isi (by decide +kernel) (pa_cons (pv 0) (pa_cons (pe_bltn (v := .ty "str") (by rfl) B.str (by decide +kernel) rfl) pa_nil)))))
        (pw_or1 (pt_not (pt_chain op_le op_le pe_int (pe_callB call_len_str (by rfl) B.len (by decide +kernel) (pa_cons (pv 0) pa_nil)) (pe_glob (v := .int 8) rfl hM ⟨_, rfl⟩)))))) (pss_one (ps_ret pe_bl)) pss_nil)
      (pss_one (ps_ret (pe_callB (cr_all rfl) (by rfl) B.all (by decide +kernel) (pa_cons (pe_lc (own := [("sign", 1)]) (g := gName 1) (tt := tYes) rfl scWord.nd (pi_str (pv 0)) (blkOk_by (N := ["value", "sign"]) (sc := defScope sWord) (by decide +kernel))
        (fun _ _ _ _ _ => pg_name (i := 1) scWord.nd rfl (Or.inl rfl)) (fun _ _ _ _ _ => pts_nil) (fun _ _ _ _ _ => pe_cmpR op_in_sign (pv 1) (pe_glob (v := .str letters) rfl hL ⟨_, rfl⟩) rfl)) pa_nil)))), ?_⟩
    refine ⟨_, rfl, _, _, _, _, true, rfl, .ty _, .base (.str _), kit_ty (by decide +kernel), _, rfl, iteF ?_⟩
    have hs : x.length ≤ sizeLine := Nat.le_trans h8 (by decide)
    refine ⟨_, rfl, _, rfl, hs, _, _, rfl, rfl, _, rfl, ?_⟩
    rw [if_pos (decide_eq_true (show (1 : Int) ≤ ((x.length : Nat) : Int) by omega))]
    refine ⟨_, _, rfl, rfl, _, rfl, ?_⟩
    have e8 : decide (((x.length : Nat) : Int) ≤ 8) = true := decide_eq_true (by omega)
    rw [e8]
    refine iteF ?_
    refine ⟨_, rfl, x, rfl, fun D hD => lc_it walk_str (fun i H' => H' = upd H D (.lst (List.replicate i (V.bl true)))) rfl (fun _ _ _ _ => trivial) ?_ ?_⟩
    · rintro i v H1 H2 hi rfl ⟨rfl, c, hc, rfl⟩
      refine ⟨rfl, yes (iteT ⟨_, rfl, c, letters, rfl, rfl, _, upd_same, ?_, ?_⟩)⟩
      · rw [List.length_replicate]
        have : x.cps.size ≤ 8 := h8
        have e : sizeLine = 16777216 := by decide
        omega
      · have ec : decide (c ∈ letters.cps.toList) = true := decide_eq_true (hl c (by
          have := Array.mem_of_getElem? hc
          simpa using this))
        rw [ec, upd_upd]
        congr 2
        exact (List.replicate_succ' (n := i) (a := V.bl true)).symm ▸ rfl
    · rintro H1 rfl
      refine ⟨D, List.replicate x.cps.size true, rfl, SqL.of (by rw [upd_same, map_rep]), ?_⟩
      rw [all_rep]
      exact k _ (same_new hD)
end
end KP
namespace KP
open PySem L2
/-! ### numbers drawn -/
def WellAt (H : Hp) (a : Addr) : Prop := ∃ x y z : Int, H a = some (.lst [.int x, .int y, .int z])
/-- all but a is as it was -/
def SameB (a : Addr) (H H' : Hp) : Prop := ∀ b o, H b = some o → b ≠ a → H' b = some o
theorem SameB.trans {a : Addr} {H H1 H2 : Hp} (p : SameB a H H1) (q : SameB a H1 H2) : SameB a H H2 := fun b o e hb => q b o (p b o e hb) hb
theorem SameB.refl {a : Addr} {H : Hp} : SameB a H H := fun _ _ e _ => e
theorem SameB.of {a : Addr} {H H' : Hp} (s : Same H H') : SameB a H H' := fun b o e _ => s b o e
theorem SameB.newD {a D : Addr} {H H1 H2 : Hp} {o : HO} (hD : H D = none) (p : SameB a H H1) : SameB a H (upd H1 D o) := fun b u e hb => by
  rw [upd_ne (ne_of_none e hD)]
  exact p b u e hb
theorem WellAt.up {H : Hp} {a D : Addr} {o : HO} (h : WellAt H a) (hn : a ≠ D) : WellAt (upd H D o) a := by
  obtain ⟨x, y, z, e⟩ := h
  exact ⟨x, y, z, by rw [upd_ne hn]; exact e⟩
theorem WellAt.new {H : Hp} {a D : Addr} {o : HO} (h : WellAt H a) (hD : H D = none) : WellAt (upd H D o) a := by
  obtain ⟨x, y, z, e⟩ := id h
  exact h.up (ne_of_none e hD)
theorem WellAt.ne {H : Hp} {a D : Addr} (h : WellAt H a) (hD : H D = none) : a ≠ D := by
  obtain ⟨x, y, z, e⟩ := h
  exact ne_of_none e hD
abbrev sWell : Stmt := top 37
abbrev sDraw : Stmt := top 38
abbrev sName : Stmt := top 39
def spWell : Sp := fun vs H Q _ => ∃ c : Int, vs = [.int c] ∧ ∀ a H', Same H H' → H a = none → WellAt H' a → Q (.ref a) H'
def spDraw : Sp := fun vs H Q _ => ∃ (a : Addr) (m : Int), vs = [.ref a, .int m] ∧ WellAt H a ∧ 0 < m ∧ m < 1180591620717411303424 ∧ ∀ r H', 0 ≤ r → r < m → WellAt H' a → SameB a H H' → Q (.int r) H'
def spName : Sp := fun vs H Q _ => ∃ a : Addr, vs = [.ref a] ∧ WellAt H a ∧ ∀ x H', IsW x → WellAt H' a → SameB a H H' → Q (.str x) H'
section
variable {P : Program} {w : World} {K : PySem.W.Frag} {mg : Str → Option Value} {base : Heap}
theorem scWell : FnScope ["_law_cell"] ["_law_cell"] (defScope sWell) := ⟨rfl, rfl, rfl, by decide +kernel, rfl, by decide +kernel, by decide +kernel⟩
theorem c_well (B : Base K mg) (D : DefT K mg "_law_well" sWell ["_law_cell"]) : Cal P w K mg base 1 "_law_well" spWell := by
  refine cal D scWell (fun vs H Q E h => ?_) (fun f cdv A outer s H vs Q E hr h => ?_)
  · obtain ⟨c, rfl, _⟩ := h
    rfl
  · obtain ⟨c, rfl, k⟩ := h
    refine ⟨_, pss_one (ps_ret (pe_lst (pa_cons (pe_op op_mul (pv 0) (pe_callTy call_int1 (by rfl) B.int (by decide +kernel) (pa_cons (pe_cmpR op_ge (pv 0) (pe_op op_pow pe_int pe_int) (nomark _)) pa_nil)))
      (pa_cons (pe_op op_mod (pv 0) pe_int) (pa_cons pe_int pa_nil))))), ?_⟩
    refine ⟨_, rfl, _, rfl, _, _, rfl, rfl, ⟨by decide, by decide, by decide⟩, _, _, rfl, rfl, Or.inr ⟨_, rfl, _, _, rfl, rfl, Or.inr ?_, ?_⟩⟩
    · split <;> constructor <;> decide
    · refine ⟨_, rfl, _, _, rfl, rfl, (by show (0 : Int) < 2147483647; decide), (by show 3 ≤ sizeLine; decide), fun l hl => ?_⟩
      exact k l _ (same_new hl) hl ⟨_, _, _, upd_same⟩
theorem scDraw : FnScope ["_law_well_here", "_law_many", "_law_found", "_law_number"] ["_law_well_here", "_law_many"] (defScope sDraw) := ⟨rfl, rfl, rfl, by decide +kernel, rfl, by decide +kernel, by decide +kernel⟩
theorem c_draw (D : DefT K mg "_law_draw" sDraw ["_law_well_here", "_law_many"]) : Cal P w K mg base 1 "_law_draw" spDraw := by
  refine cal D scDraw (fun vs H Q E h => ?_) (fun f cdv A outer s H vs Q E hr h => ?_)
  · obtain ⟨a, m, rfl, _⟩ := h
    rfl
  · obtain ⟨a, m, rfl, ⟨x, y, z, ha⟩, m0, m1, k⟩ := h
    refine ⟨_, pss_cons (ps_if (pt_cmpR op_gt (pe_ix ix_list (pv 0) pe_int (fun _ _ => rfl)) pe_int (nomark _))
        (pss_cons (ps_set (i := 2) scDraw.nd rfl (Or.inl rfl) (pe_op op_mod (pe_ix ix_list (pv 0) pe_int (fun _ _ => rfl)) (pv 1)))
        (pss_cons (ps_asg (pe_op op_fdivW (pe_ix ix_list (pv 0) pe_int (fun _ _ => rfl)) (pv 1)) (pg_sub (pv 0) pe_int set_list))
        (pss_one (ps_ret (pv 2))))) pss_nil)
      (pss_cons (ps_asg (pe_op op_add (pe_ix ix_list (pv 0) pe_int (fun _ _ => rfl)) pe_int) (pg_sub (pv 0) pe_int set_list))
      (pss_cons (ps_set (i := 3) scDraw.nd rfl (Or.inl rfl) (pe_op op_mod (pe_op op_mul (pe_op op_add (pe_op op_add (pe_ix ix_list (pv 0) pe_int (fun _ _ => rfl)) (pe_op op_mul pe_int (pe_ix ix_list (pv 0) pe_int (fun _ _ => rfl)))) pe_int) pe_int) pe_int))
      (pss_cons (ps_set (i := 3) scDraw.nd rfl (Or.inl rfl) (pe_op op_mod (pe_op op_mul (pv 3) (pe_op op_add (pe_op op_fdiv (pv 3) pe_int) pe_int)) pe_int))
      (pss_one (ps_ret (pe_op op_mod (pe_op op_mod (pe_op op_mul (pv 3) (pe_op op_add (pe_op op_fdiv (pv 3) pe_int) pe_int)) pe_int) (pv 1))))))), ?_⟩
    refine ⟨_, rfl, a, _, 0, .int x, rfl, rfl, SqL.of ha, rfl, _, _, rfl, rfl, _, rfl, ite2 (fun c => ?_) (fun c => ?_)⟩
    · refine ⟨_, rfl, a, _, 0, .int x, rfl, rfl, SqL.of ha, rfl, _, rfl, _, _, rfl, rfl, m0, ?_⟩
      refine ⟨_, rfl, a, _, 0, .int x, rfl, rfl, SqL.of ha, rfl, _, rfl, _, _, rfl, rfl, wide_div m0 (b := 70) (by omega) (by decide) (by decide), ?_⟩
      refine ⟨_, rfl, a, _, 0, 0, rfl, rfl, ha, rfl, ?_⟩
      refine ⟨_, rfl, k _ _ (Int.emod_nonneg _ (by omega)) (Int.emod_lt_of_pos _ m0) ⟨_, _, _, upd_same⟩ fun b o e hb => ?_⟩
      rw [upd_ne hb]
      exact e
    · refine ⟨_, rfl, a, _, 2, .int z, rfl, rfl, SqL.of ha, rfl, _, _, rfl, rfl, _, rfl, a, _, 2, 2, rfl, rfl, ha, rfl, ?_⟩
      have h1 : ∀ n : Int, -(2 ^ 64) < n % 2147483647 ∧ n % 2147483647 < 2 ^ 64 := fun n => by omega
      refine ⟨_, rfl, a, _, 1, .int y, rfl, rfl, SqL.of upd_same, rfl, _, rfl, a, _, 2, .int (z + 1), rfl, rfl, SqL.of upd_same, rfl, _, _, rfl, rfl, Or.inl ⟨by decide, by decide⟩, _, _, rfl, rfl, _, _, rfl, rfl, _, _, rfl, rfl, Or.inr ⟨by decide, by decide⟩, _, _, rfl, rfl, (by show (0 : Int) < 2147483647; decide), ?_⟩
      refine ⟨_, rfl, _, rfl, _, _, rfl, rfl, ⟨by decide, by decide⟩, _, _, rfl, rfl, _, _, rfl, rfl, Or.inl (h1 _), _, _, rfl, rfl, (by show (0 : Int) < 2147483647; decide), ?_⟩
      refine ⟨_, rfl, _, rfl, _, _, rfl, rfl, ⟨by decide, by decide⟩, _, _, rfl, rfl, _, _, rfl, rfl, Or.inl (h1 _), _, _, rfl, rfl, (by show (0 : Int) < 2147483399; decide), _, rfl, _, _, rfl, rfl, m0, ?_⟩
      refine k _ _ (Int.emod_nonneg _ (by omega)) (Int.emod_lt_of_pos _ m0) ⟨_, _, _, upd_same⟩ fun b o e hb => ?_
      rw [upd_ne hb]
      exact e
theorem join_signs : ∀ cs : List Nat, TL.joinL [] (cs.map fun c => [c]) = cs
  | [] => rfl
  | [c] => rfl
  | c :: d :: r => by
    show [c] ++ ([] ++ TL.joinL [] ((d :: r).map fun c => [c])) = c :: d :: r
    rw [join_signs (d :: r)]
    rfl
theorem join_is (cs : List Nat) : Txt.join "" (cs.map fun c => (⟨#[c]⟩ : Str)) = SX.S cs := by
  have h := SX.join_S [] (cs.map fun c => [c])
  rw [join_signs, List.map_map] at h
  exact h
theorem isW_S {cs : List Nat} (h : ∀ c ∈ cs, Ltr c) (h1 : 1 ≤ cs.length) (h8 : cs.length ≤ 8) : IsW (SX.S cs) := ⟨fun c hc => h c (by simpa using hc), by rw [SX.S_len]; exact h1, by rw [SX.S_len]; exact h8⟩
def names16 : List Str := ["in", "year", "head", "limit", "rule", "back", "right", "give", "hold", "move", "spend", "promise", "lessen", "out", "none", "carried"]
def wordB (x : Str) : Bool := x.cps.toList.all (fun c => decide (c ∈ letters.cps.toList)) && decide (1 ≤ x.length) && decide (x.length ≤ 8)
theorem isW_of {x : Str} (h : wordB x = true) : IsW x := by
  unfold wordB at h
  simp only [Bool.and_eq_true, List.all_eq_true, decide_eq_true_eq] at h
  exact ⟨h.1.1, h.1.2, h.2⟩
theorem names16_ok : ∀ x ∈ names16, IsW x := by
  have h : names16.all wordB = true := by decide +kernel
  intro x hx
  exact isW_of (List.all_eq_true.mp h x hx)
theorem get_lt {α : Type} {l : List α} {r : Int} (h0 : 0 ≤ r) (h1 : r < (l.length : Int)) : ∃ v, atI l r = some v ∧ v ∈ l := by
  obtain ⟨j, rfl⟩ : ∃ j : Nat, r = (j : Int) := ⟨r.toNat, by omega⟩
  have hj : j < l.length := by omega
  exact ⟨l[j], atI_nat (List.getElem?_eq_getElem hj), List.getElem_mem hj⟩
theorem let_get {r : Int} (h0 : 0 ≤ r) (h1 : r < 26) : ∃ c, letters.cps[r.toNat]? = some c ∧ Ltr c := by
  have e : letters.cps.size = 26 := by decide +kernel
  have hj : r.toNat < letters.cps.size := by omega
  refine ⟨letters.cps[r.toNat], by simp [hj], ?_⟩
  show _ ∈ letters.cps.toList
  simp
theorem scName : FnScope ["_law_well_here", "_law_some", "_law_signs", "_law_k"] ["_law_well_here"] (defScope sName) := ⟨rfl, rfl, rfl, by decide +kernel, rfl, by decide +kernel, by decide +kernel⟩
theorem c_name (B : Base K mg) (Dr : Cal P w K mg base 1 "_law_draw" spDraw) (D : DefT K mg "_law_name" sName ["_law_well_here"]) : Cal P w K mg base 2 "_law_name" spName := by
  refine cal D scName (fun vs H Q E h => ?_) (fun f cdv A outer s H vs Q E hr h => ?_)
  · obtain ⟨a, rfl, _⟩ := h
    rfl
  · obtain ⟨a, rfl, ha, k⟩ := h
    refine ⟨_, pss_cons (ps_if (pt_cmpR op_eq (pe_cl Dr hr (by decide) (by rfl) (pa_cons (pv 0) (pa_cons pe_int pa_nil))) pe_int (nomark _))
        (pss_cons (ps_set (i := 1) scName.nd rfl (Or.inl rfl) (pe_lst (pa_cons pe_str (pa_cons pe_str (pa_cons pe_str (pa_cons pe_str (pa_cons pe_str (pa_cons pe_str (pa_cons pe_str (pa_cons pe_str (pa_cons pe_str (pa_cons pe_str (pa_cons pe_str (pa_cons pe_str pa_nil))))))))))))))
        (pss_one (ps_ret (pe_ix ix_list (pe_op op_cat (pv 1) (pe_lst (pa_cons pe_str (pa_cons pe_str (pa_cons pe_str (pa_cons pe_str pa_nil)))))) (pe_cl Dr hr (by decide) (by rfl) (pa_cons (pv 0) (pa_cons pe_int pa_nil))) (fun _ _ => rfl))))) pss_nil)
      (pss_cons (ps_set (i := 2) scName.nd rfl (by first | exact Or.inl rfl | exact Or.inr rfl) pe_str)
      (pss_one (ps_ret (pe_join pe_str (pe_lc (own := [("_law_k", 3)]) (g := gName 3) (tt := tYes) rfl scName.nd (pi_range1 (by rfl) B.range (pa_cons (pe_op op_add pe_int (pe_cl Dr hr (by decide) (by rfl) (pa_cons (pv 0) (pa_cons pe_int pa_nil)))) pa_nil))
        (blkOk_by (N := ["_law_well_here", "_law_some", "_law_signs", "_law_k"]) (sc := defScope sName) (by decide +kernel)) (fun _ _ _ _ _ => pg_name (i := 3) scName.nd rfl (Or.inl rfl)) (fun _ _ _ _ _ => pts_nil)
        (fun _ _ _ _ _ => pe_item_str (pv 2) (pe_cl Dr hr (by decide) (by rfl) (pa_cons (pv 0) (pa_cons pe_int pa_nil))) (fun _ _ => rfl))))))), ?_⟩
    refine ⟨_, rfl, a, 8, rfl, ha, by decide, by decide, fun r H1 r0 r8 w1 s1 => ⟨rfl, _, rfl, ite2 (fun _ => ?_) (fun _ => ?_)⟩⟩
    · refine ⟨(by show 12 ≤ sizeLine; decide), fun p hp => ?_⟩
      refine ⟨_, rfl, (by show 4 ≤ sizeLine; decide), fun q hq => ?_⟩
      have pq : p ≠ q := ne_of_none upd_same hq
      refine ⟨p, q, _, _, rfl, rfl, (by rw [upd_ne pq]; exact upd_same), upd_same, (by show 12 + 4 ≤ sizeLine; decide), fun t ht => ?_⟩
      refine ⟨_, rfl, a, 16, rfl, ((w1.new hp).new hq).new ht, by decide, by decide, fun r2 H2 r20 r216 w2 s2 => ?_⟩
      obtain ⟨v, hv, hm⟩ := get_lt (l := names16.map V.str) r20 (by show r2 < 16; exact r216)
      obtain ⟨x, hx, rfl⟩ := List.mem_map.mp hm
      have ta : a ≠ t := ((w1.new hp).new hq).ne ht
      refine ⟨t, _, r2, .str x, rfl, rfl, SqL.of (s2 t _ upd_same ta.symm), hv, ?_⟩
      refine k x H2 (names16_ok x hx) w2 (s1.trans fun b o e hb => s2 b o ?_ hb)
      exact same_new ht b o (same_new hq b o (same_new hp b o e))
    · refine ⟨⟨_, rfl⟩, _, rfl, a, 8, rfl, w1, by decide, by decide, fun r2 H2 r20 r28 w2 s2 => ?_⟩
      have hn : (1 + r2).toNat ≤ 8 := by omega
      refine ⟨_, _, rfl, rfl, (1 + r2), rfl, by omega, by omega, fun D hD => lc_range (lo := 0) (n := (1 + r2).toNat)
        (fun i H' => ∃ cs : List Nat, cs.length = i ∧ (∀ c ∈ cs, Ltr c) ∧ H' D = some (.lst (cs.map fun c => V.str ⟨#[c]⟩)) ∧ WellAt H' a ∧ SameB a H H')
        ⟨[], rfl, (fun _ h => nomatch h), upd_same, w2.new hD, ?_⟩ ?_ ?_⟩
      · exact (s1.trans s2).trans (SameB.of (same_new hD))
      · rintro i H3 hi ⟨cs, hl, hL, hd, wd, sd⟩
        refine ⟨rfl, yes (iteT ⟨_, rfl, _, rfl, a, 26, rfl, wd, by decide, by decide, fun r3 H4 r30 r326 w4 s4 => ?_⟩)⟩
        obtain ⟨c, hc, hcl⟩ := let_get r30 r326
        have e26 : (letters.length : Int) = 26 := by decide +kernel
        refine ⟨letters, r3, c, rfl, rfl, r30, by omega, by rw [e26]; exact r326, hc, _, s4 D _ hd (w2.ne hD).symm, ?_, cs ++ [c], by simp [hl], ?_, ?_, w4.up (w2.ne hD), ?_⟩
        · rw [List.length_map, hl]
          have e : sizeLine = 16777216 := by decide
          omega
        · intro x hx
          rcases List.mem_append.mp hx with hx | hx
          · exact hL x hx
          · rw [List.mem_singleton.mp hx]; exact hcl
        · rw [upd_same, List.map_append]; rfl
        · intro b o e hb
          by_cases hbD : b = D
          · subst hbD
            have q1 := (s1.trans s2) b o e hb
            rw [hD] at q1; cases q1
          · rw [upd_ne hbD]; exact (sd.trans s4) b o e hb
      · rintro H3 ⟨cs, hl, hL, hd, wd, sd⟩
        refine ⟨_, D, cs.map fun c => (⟨#[c]⟩ : Str), rfl, rfl, Or.inl (SqL.of (by rw [hd, List.map_map]; rfl)), ?_, ?_⟩
        · rw [List.map_map, List.length_map, hl]
          have e1 : ∀ l : List Nat, (l.map (Function.comp (fun x : Str => x.length) fun c => (⟨#[c]⟩ : Str))).sum = l.length := by
            intro l
            induction l with
            | nil => rfl
            | cons c l ih => rw [List.map_cons, List.sum_cons, ih]; show 1 + l.length = _; rw [List.length_cons]; omega
          rw [e1, hl]
          show _ + _ * 0 ≤ _
          omega
        · rw [join_is]
          exact k _ H3 (isW_S hL (by omega) (by omega)) wd sd
end
end KP
namespace KP
open PySem L2
/-! ### the mathematics of names -/
theorem len_le_of_sub {α : Type} [DecidableEq α] : ∀ {l m : List α}, l.Nodup → (∀ x ∈ l, x ∈ m) → l.length ≤ m.length
  | [], _, _, _ => Nat.zero_le _
  | a :: l, m, hn, hs => by
    have ha : a ∈ m := hs a List.mem_cons_self
    have hn' := List.nodup_cons.mp hn
    have ih := len_le_of_sub (l := l) (m := m.erase a) hn'.2 (fun x hx => (List.mem_erase_of_ne (fun (e : x = a) => hn'.1 (e ▸ hx))).mpr (hs x (List.mem_cons_of_mem _ hx)))
    have e := List.length_erase_of_mem ha
    have p := List.length_pos_of_mem ha
    rw [List.length_cons]
    omega
def stem (y : Str) : Str := cutS y none (some 7)
def cands (y : Str) : List Str := y :: letters.cps.toList.map fun c => stem y ++ (⟨#[c]⟩ : Str)
theorem stem_S (y : Str) : stem y = SX.S (y.cps.toList.take 7) := by
  unfold stem
  rw [C8.cutS_slice]
  have h := SX.slice_to (a := y.cps.toList) (i := 7) (by decide)
  rw [SX.S_tl] at h
  exact h
theorem cand_S (y : Str) (c : Nat) : stem y ++ (⟨#[c]⟩ : Str) = SX.S (y.cps.toList.take 7 ++ [c]) := by
  rw [stem_S]
  exact SX.S_cat _ [c]
theorem cands_ok {y : Str} (h : IsW y) : ∀ x ∈ cands y, IsW x := by
  intro x hx
  rcases List.mem_cons.mp hx with rfl | hx
  · exact h
  · obtain ⟨c, hc, rfl⟩ := List.mem_map.mp hx
    rw [cand_S]
    refine isW_S (fun d hd => ?_) (by simp) (by simp; omega)
    rcases List.mem_append.mp hd with hd | hd
    · exact h.1 d (List.mem_of_mem_take hd)
    · rw [List.mem_singleton.mp hd]; exact hc
theorem letters_nd : letters.cps.toList.Nodup := by decide +kernel
theorem letters_len : letters.cps.toList.length = 26 := by decide +kernel
theorem nodup_map {α β : Type} {f : α → β} (hf : ∀ a b, f a = f b → a = b) : ∀ {l : List α}, l.Nodup → (l.map f).Nodup
  | [], _ => List.nodup_nil
  | a :: l, h => by
    have h' := List.nodup_cons.mp h
    rw [List.map_cons, List.nodup_cons]
    refine ⟨fun hm => ?_, nodup_map hf h'.2⟩
    obtain ⟨b, hb, e⟩ := List.mem_map.mp hm
    exact h'.1 (hf b a e ▸ hb)
def fresh (y : Str) (xs : List Str) : List Str := (cands y).filter fun c => !decide (c ∈ xs)
theorem fresh_ne {y : Str} {xs : List Str} (h : xs.length ≤ 8) : ∃ z zs, fresh y xs = z :: zs ∧ z ∈ cands y ∧ ¬ z ∈ xs := by
  cases e : fresh y xs with
  | nil =>
    exfalso
    have nd : (letters.cps.toList.map fun c => stem y ++ (⟨#[c]⟩ : Str)).Nodup := nodup_map (fun a b q => by
      rw [cand_S, cand_S] at q
      have := List.append_cancel_left (SX.S_inj q)
      simpa using this) letters_nd
    have hle := len_le_of_sub (m := xs) nd (fun x hx => by
      by_cases hm : x ∈ xs
      · exact hm
      · have : x ∈ fresh y xs := List.mem_filter.mpr ⟨List.mem_cons_of_mem _ hx, by simp [hm]⟩
        rw [e] at this
        cases this)
    rw [List.length_map, letters_len] at hle
    omega
  | cons z zs =>
    have hz : z ∈ fresh y xs := by rw [e]; exact List.mem_cons_self
    have h2 := List.mem_filter.mp hz
    exact ⟨z, zs, rfl, h2.1, by simpa using h2.2⟩
theorem strOk_W {x : Str} (h : IsW x) : PyData.strOk x = true := by
  have hb : letters.cps.toList.all (· < 0x110000) = true := by decide +kernel
  unfold PyData.strOk
  rw [← Array.all_toList, List.all_eq_true]
  intro c hc
  exact List.all_eq_true.mp hb c (h.1 c hc)
theorem canLay_strs : ∀ {xs : List Str}, (∀ x ∈ xs, PyData.strOk x = true) → PyData.canLayAll0 (xs.map PyData.str) = true
  | [], _ => rfl
  | x :: xs, h => by
    show (PyData.strOk x && PyData.canLayAll0 (xs.map PyData.str)) = true
    rw [h x List.mem_cons_self, canLay_strs fun y hy => h y (List.mem_cons_of_mem _ hy)]
    rfl
theorem depth_strs : ∀ {xs : List Str}, PyData.depthAll (xs.map PyData.str) = 0
  | [] => rfl
  | x :: xs => by
    show max 0 (PyData.depthAll (xs.map PyData.str)) = 0
    rw [depth_strs]
    rfl
theorem shaped_strs {xs : List Str} (h : ∀ x ∈ xs, PyData.strOk x = true) : SeqAt.shaped (.list (xs.map PyData.str)) = true := by
  have h1 : (PyData.list (xs.map PyData.str)).canLay0 = true := canLay_strs h
  have h2 : (PyData.list (xs.map PyData.str)).depth ≤ 64 := by
    show PyData.depthAll (xs.map PyData.str) + 1 ≤ 64
    rw [depth_strs]; decide
  unfold SeqAt.shaped
  rw [h1, decide_eq_true h2]
  rfl
theorem dp_strs {K : PySem.W.Frag} {H : Hp} : ∀ (xs : List Str), DpAll K H (xs.map V.str) (xs.map PyData.str)
  | [] => .nil
  | x :: xs => .cons (.str x) (dp_strs xs)
theorem inV_str {x : Str} : ∀ {xs : List Str}, inV (.str x) (xs.map V.str) = decide (x ∈ xs)
  | [] => by simp [inV]
  | y :: xs => by
    have ih := inV_str (x := x) (xs := xs)
    unfold inV at ih ⊢
    rw [List.map_cons, List.any_cons, ih]
    show ((y == x) || decide (x ∈ xs)) = decide (x ∈ y :: xs)
    by_cases h : y = x
    · subst h; simp
    · have h' : (y == x) = false := beq_eq_false_iff_ne.mpr h
      have h'' : ¬ x = y := fun e => h e.symm
      rw [h']; simp [h'']
theorem flat_strs {xs : List Str} : (xs.map V.str).all flatV = true := by
  rw [List.all_eq_true]
  intro v hv
  obtain ⟨x, _, rfl⟩ := List.mem_map.mp hv
  rfl
theorem take_more {α : Type} : ∀ {l : List α} {i : Nat} {x : α}, l[i]? = some x → l.take (i + 1) = l.take i ++ [x]
  | [], i, x, h => by simp at h
  | a :: l, 0, x, h => by
    have e : a = x := Option.some.inj h
    subst e
    rfl
  | a :: l, i + 1, x, h => by
    have ih := take_more (l := l) (i := i) (x := x) h
    show a :: l.take (i + 1) = a :: l.take i ++ [x]
    rw [ih]
    rfl
abbrev sNames : Stmt := top 40
def spNames : Sp := fun vs H Q _ => ∃ (a : Addr) (m : Nat), vs = [.ref a, .int (m : Int)] ∧ WellAt H a ∧ m ≤ 8 ∧ ∀ (p : Addr) (xs : List Str) (H' : Hp), xs.length = m → (∀ x ∈ xs, IsW x) → xs.Nodup → H p = none → H' p = some (.lst (xs.map V.str)) → WellAt H' a → SameB a H H' → Q (.ref p) H'
section
variable {P : Program} {w : World} {K : PySem.W.Frag} {mg : Str → Option Value} {base : Heap}
abbrev nNames : List Str := ["_law_well_here", "_law_many", "_law_found", "_law_k", "_law_name_here", "_law_some", "_law_sign", "_law_one"]
theorem scNames : FnScope nNames ["_law_well_here", "_law_many"] (defScope sNames) := ⟨rfl, rfl, rfl, by decide +kernel, rfl, by decide +kernel, by decide +kernel⟩
theorem c_names (B : Base K mg) (Dr : Cal P w K mg base 1 "_law_draw" spDraw) (Nm : Cal P w K mg base 2 "_law_name" spName) (D : DefT K mg "_law_names" sNames ["_law_well_here", "_law_many"]) : Cal P w K mg base 3 "_law_names" spNames := by
  refine cal D scNames (fun vs H Q E h => ?_) (fun f cdv A outer s H vs Q E hr h => ?_)
  · obtain ⟨a, m, rfl, _⟩ := h
    rfl
  · obtain ⟨a, m, rfl, ha, m8, k⟩ := h
    refine ⟨_, pss_cons (ps_set (i := 2) scNames.nd rfl (by first | exact Or.inl rfl | exact Or.inr rfl) (pe_lst pa_nil))
      (pss_cons (ps_for PassesOwn.never rfl (pi_range1 (by rfl) B.range (pa_cons (pv 1) pa_nil)) (pg_name (i := 3) scNames.nd rfl (Or.inl rfl))
        (pss_cons (ps_set (i := 4) scNames.nd rfl (by first | exact Or.inl rfl | exact Or.inr rfl) (pe_cl Nm hr (by decide) (by rfl) (pa_cons (pv 0) pa_nil)))
        (C8.pss_cut (ps_if (PW.pt (pw_and (pt_cmpR (op_neD hr.units) (pv 2) (pe_lst pa_nil) (nomark _)) (pw_and1 (pt_cmpR op_eq (pe_cl Dr hr (by decide) (by rfl) (pa_cons (pv 0) (pa_cons pe_int pa_nil))) pe_int (nomark _)))))
          (pss_one (ps_set (i := 4) scNames.nd rfl (by first | exact Or.inl rfl | exact Or.inr rfl) (pe_ix ix_list (pv 2) (pe_cl Dr hr (by decide) (by rfl) (pa_cons (pv 0) (pa_cons (pe_callB call_len_seq (by rfl) B.len PySem.boot_len (pa_cons (pv 2) pa_nil)) pa_nil))) (fun _ _ => rfl)))) pss_nil)
        (pss_cons (ps_set (i := 5) scNames.nd rfl (by first | exact Or.inl rfl | exact Or.inr rfl) (pe_op op_cat (pe_lst (pa_cons (pv 4) pa_nil))
          (pe_lc (own := [("_law_sign", 6)]) (g := gName 6) (tt := tYes) rfl scNames.nd (pi_str pe_str) (blkOk_by (N := nNames) (sc := defScope sNames) (by decide +kernel)) (fun _ _ _ _ _ => pg_name (i := 6) scNames.nd rfl (Or.inl rfl)) (fun _ _ _ _ _ => pts_nil)
            (fun _ _ _ _ _ => pe_op op_add_str (pe_slice sl_str (pv 4) po_none (po_some pe_int)) (pv 6)))))
        (pss_one (ps_expr (pe_bm PySem.F.plainAttrs_list PySem.F.slot_list_append PySem.F.type_list_append mt_append (pv 2) (pa_cons (pe_ix ix_list
          (pe_lc (own := [("_law_one", 7)]) (g := gName 7) (tt := tTest (tOp (rIn K true) (tVar 7) (tVar 2))) rfl scNames.nd (pi_list (pv 5)) (blkOk_by (N := nNames) (sc := defScope sNames) (by decide +kernel)) (fun _ _ _ _ _ => pg_name (i := 7) scNames.nd rfl (Or.inl rfl))
            (fun _ _ _ _ _ => pts_one (pt_cmpR op_notIn_seq (pv 7) (pv 2) rfl)) (fun _ _ _ _ _ => pv 7)) pe_int (fun _ _ => rfl)) pa_nil))))))))
      (pss_one (ps_ret (pv 2)))), ?_⟩
    refine ⟨(by show 0 ≤ sizeLine; decide), fun F hF => ?_⟩
    have aF : a ≠ F := ha.ne hF
    refine ⟨_, rfl, _, rfl, by omega, by omega, for_range (lo := 0) (n := (m : Int).toNat) (fun i σ H' => ∃ (xs : List Str) (v3 v4 v5 : Option V), σ = [some (.ref a), some (.int (m : Int)), some (.ref F), v3, v4, v5, none, none] ∧ xs.length = i ∧ (∀ x ∈ xs, IsW x) ∧ xs.Nodup ∧ H' F = some (.lst (xs.map V.str)) ∧ WellAt H' a ∧ SameB a H H')
      ⟨[], none, none, none, rfl, rfl, (fun _ h => nomatch h), List.nodup_nil, upd_same, ha.new hF, SameB.of (same_new hF)⟩ ?_ ?_⟩
    · rintro i σ H1 hi ⟨xs, v3, v4, v5, rfl, hl, hw, hnd, hx, w1, s1⟩
      have hl8 : xs.length ≤ 8 := by omega
      have hz : sizeLine = 16777216 := by decide
      refine ⟨_, rfl, a, rfl, w1, fun y H2 hy w2 s2 => ?_⟩
      have hx2 : H2 F = some (.lst (xs.map V.str)) := s2 F _ hx aF.symm
      refine ⟨fun σ' H' => ∃ (y : Str) (v3 v5 : Option V), σ' = [some (.ref a), some (.int (m : Int)), some (.ref F), v3, some (.str y), v5, none, none] ∧ IsW y ∧ H' F = some (.lst (xs.map V.str)) ∧ WellAt H' a ∧ SameB a H H', ?_, ?_⟩
      · refine ⟨_, rfl, (by show 0 ≤ sizeLine; decide), fun t ht => ?_⟩
        have Ft : F ≠ t := ne_of_none hx2 ht
        refine ⟨.list (xs.map PyData.str), .list [], .lst (SqL.of (by rw [upd_ne Ft]; exact hx2)) (dp_strs xs), .lst (SqL.of upd_same) .nil, shaped_strs (fun x h => strOk_W (hw x h)), by decide +kernel, _, rfl, ?_⟩
        have s3 : SameB a H (upd H2 t (.lst [])) := (s1.trans s2).trans (SameB.of (same_new ht))
        have w3 : WellAt (upd H2 t (.lst [])) a := w2.new ht
        have hx3 : (upd H2 t (.lst [])) F = some (.lst (xs.map V.str)) := by rw [upd_ne Ft]; exact hx2
        refine ite2 (fun c => ?_) (fun _ => ?_)
        · refine ⟨_, rfl, a, 3, rfl, w3, by decide, by decide, fun r H4 r0 r3 w4 s4 => ⟨rfl, _, rfl, ite2 (fun _ => ?_) (fun _ => ?_)⟩⟩
          · have hx4 : H4 F = some (.lst (xs.map V.str)) := s4 F _ hx3 aF.symm
            have hp : 0 < xs.length := by
              rcases Nat.eq_zero_or_pos xs.length with e | e
              · have e2 := List.length_eq_zero_iff.mp e
                subst e2
                exact absurd c (by decide +kernel)
              · exact e
            refine ⟨_, rfl, _, rfl, _, rfl, F, _, rfl, .inl (SqL.of hx4), a, _, rfl, w4, (by rw [List.length_map]; omega), (by rw [List.length_map]; omega), fun r2 H5 r20 r21 w5 s5 => ?_⟩
            obtain ⟨v, hv, hm⟩ := get_lt (l := xs.map V.str) r20 r21
            obtain ⟨z, hzm, rfl⟩ := List.mem_map.mp hm
            exact ⟨F, _, r2, .str z, rfl, rfl, SqL.of (s5 F _ hx4 aF.symm), hv, z, _, _, rfl, hw z hzm, s5 F _ hx4 aF.symm, w5, (s3.trans s4).trans s5⟩
          · exact ⟨y, _, _, rfl, hy, s4 F _ hx3 aF.symm, w4, s3.trans s4⟩
        · exact iteF ⟨y, _, _, rfl, hy, hx3, w3, s3⟩
      · rintro σ H3 ⟨y, v3, v5, rfl, hy, hx3, w3, s3⟩
        refine ⟨_, rfl, (by show 1 ≤ sizeLine; decide), fun l hl2 => ?_⟩
        refine ⟨_, rfl, fun D hD => lc_it walk_str (fun i H' => H' = upd (upd H3 l (.lst [.str y])) D (.lst ((letters.cps.toList.take i).map fun c => V.str (stem y ++ (⟨#[c]⟩ : Str))))) rfl (fun _ _ _ _ => trivial) ?_ ?_⟩
        · rintro i v H4 H5 hi rfl ⟨rfl, c, hc, rfl⟩
          have hi26 : i < 26 := by
            have e : (Str.cps "abcdefghijklmnopqrstuvwxyz").size = 26 := by decide +kernel
            omega
          have hst : (stem y).length ≤ 8 := Nat.le_trans (cutS_length y none (some 7)) hy.2.2
          refine ⟨rfl, yes (iteT ⟨_, rfl, _, rfl, y, rfl, (by have := hy.2.2; omega), _, rfl, _, _, rfl, rfl, ?_, _, upd_same, ?_, ?_⟩)⟩
          · show (stem y).length + 1 ≤ sizeLine
            omega
          · rw [List.length_map, List.length_take]
            omega
          · rw [upd_upd]
            congr 2
            rw [take_more (l := letters.cps.toList) (x := c) (by rw [← hc]; exact Array.getElem?_toList ..), List.map_append]
            rfl
        · rintro H4 rfl
          have lD : l ≠ D := ne_of_none upd_same hD
          have e26 : (letters.cps.toList.take (Str.cps "abcdefghijklmnopqrstuvwxyz").size) = letters.cps.toList := List.take_of_length_le (by rw [letters_len]; decide +kernel)
          rw [e26]
          refine ⟨l, D, _, _, rfl, rfl, (by rw [upd_ne lD]; exact upd_same), upd_same, (by rw [List.length_map, letters_len]; show 1 + 26 ≤ sizeLine; decide), fun p hp => ?_⟩
          have hxl : (upd H3 l (.lst [.str y])) F = some (.lst (xs.map V.str)) := same_new hl2 _ _ hx3
          have hxD := same_new (o := .lst (letters.cps.toList.map fun c => V.str (stem y ++ (⟨#[c]⟩ : Str)))) hD _ _ hxl
          have hxp := same_new (o := .lst ([V.str y] ++ letters.cps.toList.map fun c => V.str (stem y ++ (⟨#[c]⟩ : Str)))) hp _ _ hxD
          have w4 := ((w3.new (o := .lst [.str y]) hl2).new (o := .lst (letters.cps.toList.map fun c => V.str (stem y ++ (⟨#[c]⟩ : Str)))) hD).new (o := .lst ([V.str y] ++ letters.cps.toList.map fun c => V.str (stem y ++ (⟨#[c]⟩ : Str)))) hp
          have s4 : SameB a H _ := ((s3.trans (SameB.of (same_new (o := .lst [.str y]) hl2))).trans (SameB.of (same_new (o := .lst (letters.cps.toList.map fun c => V.str (stem y ++ (⟨#[c]⟩ : Str)))) hD))).trans (SameB.of (same_new (o := .lst ([V.str y] ++ letters.cps.toList.map fun c => V.str (stem y ++ (⟨#[c]⟩ : Str)))) hp))
          have ec : [V.str y] ++ letters.cps.toList.map (fun c => V.str (stem y ++ (⟨#[c]⟩ : Str))) = (cands y).map V.str := by
            unfold cands
            rw [List.map_cons, List.map_map]
            rfl
          generalize hH4 : upd (upd (upd H3 l (.lst [.str y])) D (.lst (letters.cps.toList.map fun c => V.str (stem y ++ (⟨#[c]⟩ : Str))))) p (.lst ([V.str y] ++ letters.cps.toList.map fun c => V.str (stem y ++ (⟨#[c]⟩ : Str)))) = H4 at *
          have hp4 : H4 p = some (.lst ((cands y).map V.str)) := by rw [← hH4, upd_same, ec]
          refine ⟨_, rfl, .inl ⟨rfl, _, SqL.of hxp⟩, _, rfl, p, rfl, ⟨_, SqL.of hp4⟩, fun D2 hD2 => lc_it (walk_list (xs := (cands y).map V.str))
            (fun i H' => H' = upd H4 D2 (.lst ((((cands y).take i).filter fun c => !decide (c ∈ xs)).map V.str))) rfl (fun i H' _ e => by rw [e]; exact SqL.of (same_new hD2 _ _ hp4)) ?_ ?_⟩
          · rintro i v H5 H6 hi rfl ⟨rfl, hv⟩
            obtain ⟨z, hz2, rfl⟩ : ∃ z, (cands y)[i]? = some z ∧ v = V.str z := by
              rw [List.getElem?_map] at hv
              cases e : (cands y)[i]? with
              | none => rw [e] at hv; cases hv
              | some z => rw [e] at hv; exact ⟨z, rfl, (Option.some.inj hv).symm⟩
            refine ⟨rfl, _, rfl, _, rfl, F, _, rfl, .inl (SqL.of (same_new hD2 _ _ hxp)), rfl, flat_strs, _, rfl, ?_⟩
            show if (!inV (.str z) (xs.map V.str)) = true then _ else _
            rw [inV_str]
            have et := take_more hz2
            refine ite2 (fun c => ?_) (fun c => ?_)
            · refine ⟨_, rfl, _, upd_same, ?_, ?_⟩
              · have h1 : (((cands y).take i).filter fun c => !decide (c ∈ xs)).length ≤ ((cands y).take i).length := List.length_filter_le _ _
                rw [List.length_map]
                rw [List.length_take] at h1
                have h2 : (cands y).length = 27 := by unfold cands; rw [List.length_cons, List.length_map, letters_len]
                omega
              · rw [upd_upd, et, List.filter_append, List.map_append]
                congr 2
                rw [List.filter_cons, if_pos c]
                rfl
            · rw [et, List.filter_append, List.filter_cons, if_neg c]
              simp
          · rintro H5 rfl
            rw [List.length_map, List.take_length]
            obtain ⟨z, zs, ef, hzc, hzn⟩ := fresh_ne (y := y) hl8
            have ef2 : (cands y).filter (fun c => !decide (c ∈ xs)) = z :: zs := ef
            rw [ef2]
            refine ⟨D2, _, 0, .str z, rfl, rfl, SqL.of upd_same, atI_nat (j := 0) rfl, F, _, _, rfl, rfl, same_new hD2 _ _ hxp, (by rw [List.length_map]; omega), ?_⟩
            refine ⟨xs ++ [z], _, _, _, rfl, by rw [List.length_append, hl]; rfl, ?_, ?_, ?_, ?_, ?_⟩
            · intro x hx
              rcases List.mem_append.mp hx with hx | hx
              · exact hw x hx
              · rw [List.mem_singleton.mp hx]; exact cands_ok hy z hzc
            · refine List.nodup_append.mpr ⟨hnd, by simp, fun x hx u hu => ?_⟩
              rw [List.mem_singleton.mp hu]
              intro e
              exact hzn (e ▸ hx)
            · rw [upd_same, List.map_append]; rfl
            · exact (w4.new hD2).up aF
            · intro b o e hb
              have hbF : b ≠ F := ne_of_none e hF
              rw [upd_ne hbF]
              exact same_new hD2 _ _ (s4 b o e hb)
    · rintro σ H1 ⟨xs, v3, v4, v5, rfl, hl, hw, hnd, hx, w1, s1⟩
      exact ⟨_, rfl, k F xs H1 (by rw [hl]; rfl) hw hnd hF hx w1 s1⟩
end
end KP
/-! years: the mathematics -/
namespace KP
open PySem L2
abbrev Hd := Str × Str
abbrev Rw4 := Str × Int × Int × Int
def nms (hs : List Hd) : List Str := hs.map (·.1)
def up (hs : List Hd) (x : Str) : Str := ((hs.find? fun r => decide (r.1 = x)).map (·.2)).getD ""
structure VH (hs : List Hd) : Prop where
  nd : (nms hs).Nodup
  w : ∀ x ∈ nms hs, IsW x
  up : ∀ (i : Nat) (r : Hd), hs[i]? = some r → r.2 = "" ∨ ∃ j, j < i ∧ (nms hs)[j]? = some r.2
  l1 : 1 ≤ hs.length
  l8 : hs.length ≤ 8
theorem isW_ne {x : Str} (h : IsW x) : x ≠ "" := fun e => by
  have h1 := h.2.1
  rw [e] at h1
  exact absurd h1 (by decide)
theorem nms_get {hs : List Hd} {i : Nat} {r : Hd} (h : hs[i]? = some r) : (nms hs)[i]? = some r.1 := by
  unfold nms
  rw [List.getElem?_map, h]
  rfl
theorem get_nms {hs : List Hd} {i : Nat} {x : Str} (h : (nms hs)[i]? = some x) : ∃ u, hs[i]? = some (x, u) := by
  unfold nms at h
  rw [List.getElem?_map] at h
  cases e : hs[i]? with
  | none => rw [e] at h; cases h
  | some r =>
    rw [e] at h
    have : r.1 = x := Option.some.inj h
    exact ⟨r.2, by rw [← this]⟩
theorem mem_nms {hs : List Hd} {x : Str} (h : x ∈ nms hs) : ∃ (i : Nat) (u : Str), hs[i]? = some (x, u) := by
  obtain ⟨i, hi⟩ := List.mem_iff_getElem?.mp h
  obtain ⟨u, hu⟩ := get_nms hi
  exact ⟨i, u, hu⟩
theorem up_at : ∀ {hs : List Hd} {i : Nat} {r : Hd}, (nms hs).Nodup → hs[i]? = some r → up hs r.1 = r.2
  | [], i, r, _, h => by simp at h
  | a :: hs, 0, r, _, h => by
    have e : a = r := Option.some.inj h
    subst e
    unfold up
    rw [List.find?_cons_of_pos (by simp)]
    rfl
  | a :: hs, i + 1, r, hn, h => by
    have hn' := List.nodup_cons.mp (show (a.1 :: nms hs).Nodup from hn)
    have h' : hs[i]? = some r := h
    have ne : ¬ a.1 = r.1 := fun e => hn'.1 (by rw [e]; exact List.mem_iff_getElem?.mpr ⟨i, nms_get h'⟩)
    have ih := up_at hn'.2 h'
    unfold up at ih ⊢
    rw [List.find?_cons_of_neg (by simpa using ne)]
    exact ih
def rk (hs : List Hd) (x : Str) : Nat := if x = "" then 0 else (nms hs).idxOf x + 1
theorem idx_of {l : List Str} (hn : l.Nodup) {i : Nat} {x : Str} (h : l[i]? = some x) : l.idxOf x = i := by
  have hm : x ∈ l := List.mem_of_getElem? h
  have hlt : l.idxOf x < l.length := List.idxOf_lt_length_of_mem hm
  have e : l[l.idxOf x]? = some x := by
    rw [List.getElem?_eq_getElem hlt]
    simp
  exact nd_ix hn e h
theorem rk_at {hs : List Hd} (V : VH hs) {i : Nat} {x : Str} (h : (nms hs)[i]? = some x) : rk hs x = i + 1 := by
  unfold rk
  rw [if_neg (isW_ne (V.w x (List.mem_of_getElem? h))), idx_of V.nd h]
theorem rk_nil {hs : List Hd} : rk hs "" = 0 := by unfold rk; rw [if_pos rfl]
theorem up_ok {hs : List Hd} (V : VH hs) {x : Str} (h : x ∈ nms hs) : rk hs (up hs x) < rk hs x ∧ (up hs x = "" ∨ up hs x ∈ nms hs) := by
  obtain ⟨i, u, hi⟩ := mem_nms h
  have e1 := up_at V.nd hi
  dsimp only at e1
  rw [e1, rk_at V (nms_get hi)]
  rcases V.up i _ hi with e | ⟨j, hj, hu⟩
  · dsimp only at e
    subst e
    exact ⟨by rw [rk_nil]; omega, .inl rfl⟩
  · dsimp only at hu
    exact ⟨by rw [rk_at V hu]; omega, .inr (List.mem_of_getElem? hu)⟩
def chain (hs : List Hd) : Nat → Str → List Str
  | 0, _ => []
  | n + 1, x => if x = "" then [] else x :: chain hs n (up hs x)
theorem chain_nil {hs : List Hd} : ∀ n, chain hs n "" = []
  | 0 => rfl
  | n + 1 => by unfold chain; rw [if_pos rfl]
theorem chain_cons {hs : List Hd} {n : Nat} {x : Str} (h : x ≠ "") : chain hs (n + 1) x = x :: chain hs n (up hs x) := by
  show (if x = "" then [] else x :: chain hs n (up hs x)) = _
  rw [if_neg h]
theorem rk_pos {hs : List Hd} (V : VH hs) {x : Str} (h : x ∈ nms hs) : 1 ≤ rk hs x := by
  unfold rk
  rw [if_neg (isW_ne (V.w x h))]
  omega
theorem chain_eq {hs : List Hd} (V : VH hs) : ∀ {n m : Nat} {x : Str}, (x = "" ∨ x ∈ nms hs) → rk hs x ≤ n → rk hs x ≤ m → chain hs n x = chain hs m x
  | 0, m, x, hx, hn, hm => by
    rcases hx with rfl | hx
    · rw [chain_nil, chain_nil]
    · have := rk_pos V hx
      omega
  | n + 1, m, x, hx, hn, hm => by
    rcases hx with rfl | hx
    · rw [chain_nil, chain_nil]
    · have hp := rk_pos V hx
      obtain ⟨m', rfl⟩ : ∃ m', m = m' + 1 := ⟨m - 1, by omega⟩
      have hne := isW_ne (V.w x hx)
      have hu := up_ok V hx
      rw [chain_cons hne, chain_cons hne, chain_eq V (m := m') hu.2 (by omega) (by omega)]
def kn (hs : List Hd) (x : Str) : List Str := chain hs hs.length x
theorem rk_le {hs : List Hd} (V : VH hs) {x : Str} (h : x ∈ nms hs) : rk hs x ≤ hs.length := by
  obtain ⟨i, hi⟩ := List.mem_iff_getElem?.mp h
  rw [rk_at V hi]
  have := (List.getElem?_eq_some_iff.mp hi).1
  unfold nms at this
  rw [List.length_map] at this
  omega
theorem kn_nil {hs : List Hd} : kn hs "" = [] := chain_nil _
theorem kn_step {hs : List Hd} (V : VH hs) {x : Str} (h : x ∈ nms hs) : kn hs x = x :: kn hs (up hs x) := by
  have h1 := rk_le V h
  have h2 := rk_pos V h
  have hu := up_ok V h
  obtain ⟨m, hm⟩ : ∃ m, hs.length = m + 1 := ⟨hs.length - 1, by omega⟩
  unfold kn
  rw [hm, chain_cons (isW_ne (V.w x h))]
  congr 1
  exact chain_eq V hu.2 (by omega) (by omega)
theorem chain_mem {hs : List Hd} (V : VH hs) : ∀ {n : Nat} {x z : Str}, (x = "" ∨ x ∈ nms hs) → z ∈ chain hs n x → z ∈ nms hs
  | 0, x, z, _, h => by cases h
  | n + 1, x, z, hx, h => by
    rcases hx with rfl | hx
    · rw [chain_nil] at h; cases h
    · rw [chain_cons (isW_ne (V.w x hx))] at h
      rcases List.mem_cons.mp h with rfl | h
      · exact hx
      · exact chain_mem V (up_ok V hx).2 h
theorem chain_len {hs : List Hd} : ∀ (n : Nat) (x : Str), (chain hs n x).length ≤ n
  | 0, x => by simp [chain]
  | n + 1, x => by
    by_cases h : x = ""
    · subst h; rw [chain_nil]; simp
    · rw [chain_cons h, List.length_cons]; have := chain_len (hs := hs) n (up hs x); omega
theorem kn_mem {hs : List Hd} (V : VH hs) {x z : Str} (h : x ∈ nms hs) (hz : z ∈ kn hs x) : z ∈ nms hs := chain_mem V (.inr h) hz
theorem kn_len {hs : List Hd} (V : VH hs) (x : Str) : (kn hs x).length ≤ 8 := Nat.le_trans (chain_len _ _) V.l8
def und (hs : List Hd) (x : Str) : List Str := (nms hs).filter fun h => decide (x ∈ kn hs h)
/-! limits and rules -/
def LimOk (days : Int) (ns : List Str) (r : Rw4) : Prop := r.1 ∈ ns ∧ (1 ≤ r.2.1 ∧ r.2.1 ≤ days) ∧ (r.2.1 ≤ r.2.2.1 ∧ r.2.2.1 ≤ days) ∧ (0 ≤ r.2.2.2 ∧ r.2.2.2 ≤ 1000000000000000)
def RulOk (days : Int) (ns : List Str) (r : Rw4) : Prop := r.1 ∈ ns ∧ (1 ≤ r.2.2.1 ∧ r.2.2.1 ≤ 1000) ∧ (0 ≤ r.2.1 ∧ r.2.1 ≤ r.2.2.1) ∧ (2 ≤ r.2.2.2 ∧ r.2.2.2 ≤ days + 1)
def frS (x : Str) (p : Int × Int) (r : Rw4) : Int × Int := if r.1 = x then (p.1 * r.2.2.1 + r.2.1 * p.2, p.2 * r.2.2.1) else p
def fr (rs : List Rw4) (x : Str) : Int × Int := rs.foldl (frS x) (0, 1)
theorem fr_snoc (rs : List Rw4) (x : Str) (r : Rw4) : fr (rs ++ [r]) x = frS x (fr rs x) r := by unfold fr; rw [List.foldl_append]; rfl
structure Yr where
  days : Int
  hs : List Hd
  ls : List Rw4
  rs : List Rw4
structure Yr.ok (y : Yr) : Prop where
  d : 1 ≤ y.days ∧ y.days ≤ 30
  h : VH y.hs
  l : ∀ r ∈ y.ls, LimOk y.days (nms y.hs) r
  l6 : y.ls.length ≤ 6
  r : ∀ r ∈ y.rs, RulOk y.days (nms y.hs) r
  r4 : y.rs.length ≤ 4
  one : ∀ x, (fr y.rs x).1 ≤ (fr y.rs x).2
/-! rows in the heap -/
def hv (r : Hd) : List V := [.str r.1, .str r.2]
def rv (r : Rw4) : List V := [.str r.1, .int r.2.1, .int r.2.2.1, .int r.2.2.2]
/-- a list of tuples -/
def RowsAt (H : Hp) (l : Addr) (ts : List Addr) (rows : List (List V)) : Prop := H l = some (.lst (ts.map V.ref)) ∧ Paired (fun t r => H t = some (.tup r)) ts rows
theorem paired_mono {H H' : Hp} (h : ∀ b r, H b = some (.tup r) → H' b = some (.tup r)) : ∀ {ts : List Addr} {rows : List (List V)}, Paired (fun t r => H t = some (.tup r)) ts rows → Paired (fun t r => H' t = some (.tup r)) ts rows
  | _, _, .nil => .nil
  | _, _, .cons a p => .cons (h _ _ a) (paired_mono h p)
theorem paired_get {H : Hp} : ∀ {ts : List Addr} {rows : List (List V)} {i : Nat} {t : Addr}, Paired (fun t r => H t = some (.tup r)) ts rows → ts[i]? = some t → ∃ r, rows[i]? = some r ∧ H t = some (.tup r)
  | _, _, _, _, .nil, h => by simp at h
  | _, _, 0, t, .cons a p, h => by
    have e := Option.some.inj h
    subst e
    exact ⟨_, rfl, a⟩
  | _, _, i + 1, t, .cons a p, h => paired_get (i := i) (t := t) p (by simpa using h)
theorem paired_snoc {H : Hp} {t : Addr} {r : List V} (h : H t = some (.tup r)) : ∀ {ts : List Addr} {rows : List (List V)}, Paired (fun t r => H t = some (.tup r)) ts rows → Paired (fun t r => H t = some (.tup r)) (ts ++ [t]) (rows ++ [r])
  | _, _, .nil => .cons h .nil
  | _, _, .cons a p => .cons a (paired_snoc h p)
end KP
namespace KP
open PySem L2
theorem ifT {c A B : Prop} [Decidable c] (h : c) (ha : A) : if c then A else B := by
  rw [if_pos h]
  exact ha
theorem ifF {c A B : Prop} [Decidable c] (h : ¬ c) (hb : B) : if c then A else B := by
  rw [if_neg h]
  exact hb
abbrev sList : Stmt := top 19
abbrev sRow : Stmt := top 20
abbrev sHeadsP : Stmt := top 28
abbrev sLimit : Stmt := top 29
abbrev sRule : Stmt := top 30
abbrev sOne : Stmt := top 31
abbrev sLimitsP : Stmt := top 32
abbrev sRulesP : Stmt := top 33
def spList : Sp := fun vs H Q _ => ∃ (l : Addr) (xs : List V) (a b : Int), vs = [.ref l, .int a, .int b] ∧ H l = some (.lst xs) ∧ Q (.bl (decide (a ≤ (xs.length : Int) ∧ (xs.length : Int) ≤ b))) H
def spRow : Sp := fun vs H Q _ => ∃ (t : Addr) (xs : List V) (m : Int), vs = [.ref t, .int m] ∧ H t = some (.tup xs) ∧ Q (.bl (decide ((xs.length : Int) = m))) H
def spHeadsP : Sp := fun vs H Q _ => ∃ (l : Addr) (ts : List Addr) (hs : List Hd), vs = [.ref l] ∧ RowsAt H l ts (hs.map hv) ∧ VH hs ∧ ∀ H', Same H H' → Q (.bl true) H'
def spLimit : Sp := fun vs H Q _ => ∃ (t n : Addr) (d : Int) (ns : List Str) (r : Rw4), vs = [.ref t, .int d, .ref n] ∧ H t = some (.tup (rv r)) ∧ H n = some (.lst (ns.map V.str)) ∧ LimOk d ns r ∧ Q (.bl true) H
def spRule : Sp := fun vs H Q _ => ∃ (t n : Addr) (d : Int) (ns : List Str) (r : Rw4), vs = [.ref t, .int d, .ref n] ∧ H t = some (.tup (rv r)) ∧ H n = some (.lst (ns.map V.str)) ∧ RulOk d ns r ∧ Q (.bl true) H
def spOne : Sp := fun vs H Q _ => ∃ (l : Addr) (ts : List Addr) (x : Str) (rs : List Rw4), vs = [.ref l, .str x] ∧ RowsAt H l ts (rs.map rv) ∧ (∀ r ∈ rs, (0 ≤ r.2.1 ∧ r.2.1 ≤ 1000) ∧ 1 ≤ r.2.2.1 ∧ r.2.2.1 ≤ 1000) ∧ (fr rs x).1 ≤ (fr rs x).2 ∧ Q (.bl true) H
def spLimitsP : Sp := fun vs H Q _ => ∃ (l n : Addr) (ts : List Addr) (d : Int) (ns : List Str) (rs : List Rw4), vs = [.ref l, .int d, .ref n] ∧ RowsAt H l ts (rs.map rv) ∧ H n = some (.lst (ns.map V.str)) ∧ (∀ r ∈ rs, LimOk d ns r) ∧ rs.length ≤ 6 ∧ ∀ H', Same H H' → Q (.bl true) H'
def spRulesP : Sp := fun vs H Q _ => ∃ (l n : Addr) (ts : List Addr) (d : Int) (ns : List Str) (rs : List Rw4), vs = [.ref l, .int d, .ref n] ∧ RowsAt H l ts (rs.map rv) ∧ H n = some (.lst (ns.map V.str)) ∧ (∀ r ∈ rs, RulOk d ns r) ∧ rs.length ≤ 4 ∧ ns.length ≤ 8 ∧ (∀ x, (fr rs x).1 ≤ (fr rs x).2) ∧ ∀ H', Same H H' → Q (.bl true) H'
theorem RowsAt.same {H H' : Hp} {l : Addr} {ts : List Addr} {rows : List (List V)} (h : RowsAt H l ts rows) (s : Same H H') : RowsAt H' l ts rows := ⟨s _ _ h.1, paired_mono (fun _ _ e => s _ _ e) h.2⟩
theorem RowsAt.len {H : Hp} {l : Addr} {ts : List Addr} {rows : List (List V)} (h : RowsAt H l ts rows) : ts.length = rows.length := Paired.length h.2
/-- the i-th item of a list of rows -/
theorem row_get {α : Type} {H : Hp} {l : Addr} {ts : List Addr} {rs : List α} {f : α → List V} {i : Nat} {y : V} (h : RowsAt H l ts (rs.map f)) (hy : (ts.map V.ref)[i]? = some y) : ∃ t r, y = .ref t ∧ rs[i]? = some r ∧ H t = some (.tup (f r)) ∧ ts[i]? = some t := by
  rw [List.getElem?_map] at hy
  cases e : ts[i]? with
  | none => rw [e] at hy; cases hy
  | some t =>
    rw [e] at hy
    obtain ⟨r', hr', ht⟩ := paired_get h.2 e
    rw [List.getElem?_map] at hr'
    cases e2 : rs[i]? with
    | none => rw [e2] at hr'; cases hr'
    | some r =>
      rw [e2] at hr'
      have := Option.some.inj hr'
      subst this
      exact ⟨t, r, (Option.some.inj hy).symm, rfl, ht, rfl⟩
section
variable {P : Program} {w : World} {K : PySem.W.Frag} {mg : Str → Option Value} {base : Heap}
theorem scList : FnScope ["value", "least", "most"] ["value", "least", "most"] (defScope sList) := ⟨rfl, rfl, rfl, by decide +kernel, rfl, by decide +kernel, by decide +kernel⟩
theorem c_list (B : Base K mg) (D : DefT K mg "is_list" sList ["value", "least", "most"]) : Cal P w K mg base 1 "is_list" spList := by
  refine cal D scList (fun vs H Q E h => ?_) (fun f cdv A outer s H vs Q E hr h => ?_)
  · obtain ⟨l, xs, a, b, rfl, _⟩ := h
    rfl
  · obtain ⟨l, xs, a, b, rfl, hl, k⟩ := h
    refine ⟨_, pss_one (ps_ret (pe_and (pe_callB call_isi (by rfl) B.isi (by decide +kernel) (pa_cons (pv 0) (pa_cons (pe_bltn (v := .ty "list") (by rfl) B.list (by decide +kernel) rfl) pa_nil)))
      (pe_one (pe_chain op_le op_le (pv 1) (pe_callB call_len_seq (by rfl) B.len PySem.boot_len (pa_cons (pv 0) pa_nil)) (pv 2))))), ?_⟩
    refine ⟨_, rfl, _, _, _, _, true, rfl, .ty _, .base (.lst hl), kit_ty (by decide +kernel), _, rfl, iteT ?_⟩
    refine ⟨_, rfl, _, rfl, l, _, rfl, .inl (SqL.of hl), _, _, rfl, rfl, _, rfl, ?_⟩
    by_cases h1 : a ≤ (xs.length : Int)
    · refine ifT (decide_eq_true h1) ⟨_, rfl, _, _, rfl, rfl, ?_⟩
      show Q (.bl (decide ((xs.length : Int) ≤ b))) H
      by_cases h2 : (xs.length : Int) ≤ b
      · rw [decide_eq_true h2]
        rw [decide_eq_true ⟨h1, h2⟩] at k
        exact k
      · rw [decide_eq_false h2]
        rw [decide_eq_false fun z => h2 z.2] at k
        exact k
    · refine ifF (by rw [decide_eq_false h1]; exact Bool.false_ne_true) ?_
      rw [decide_eq_false fun z => h1 z.1] at k
      exact k
theorem scRow : FnScope ["value", "many"] ["value", "many"] (defScope sRow) := ⟨rfl, rfl, rfl, by decide +kernel, rfl, by decide +kernel, by decide +kernel⟩
theorem c_row (B : Base K mg) (D : DefT K mg "is_row" sRow ["value", "many"]) : Cal P w K mg base 1 "is_row" spRow := by
  refine cal D scRow (fun vs H Q E h => ?_) (fun f cdv A outer s H vs Q E hr h => ?_)
  · obtain ⟨l, xs, m, rfl, _⟩ := h
    rfl
  · obtain ⟨l, xs, m, rfl, hl, k⟩ := h
    refine ⟨_, pss_one (ps_ret (pe_and (pe_callB call_isi (by rfl) B.isi (by decide +kernel) (pa_cons (pv 0) (pa_cons (pe_bltn (v := .ty "tuple") (by rfl) B.tuple (by decide +kernel) rfl) pa_nil)))
      (pe_one (pe_cmpR op_eq (pe_callB call_len_seq (by rfl) B.len PySem.boot_len (pa_cons (pv 0) pa_nil)) (pv 1) (nomark _))))), ?_⟩
    refine ⟨_, rfl, _, _, _, _, true, rfl, .ty _, .base (.tup hl), kit_ty (by decide +kernel), _, rfl, iteT ?_⟩
    refine ⟨_, rfl, l, _, rfl, .inr (SqT.of hl), _, rfl, rfl, ?_⟩
    have e : decide (V.int (xs.length : Int) = V.int m) = decide ((xs.length : Int) = m) := by
      by_cases h : (xs.length : Int) = m
      · rw [h]; simp
      · rw [decide_eq_false h, decide_eq_false fun z => h (by injection z)]
    show Q (.bl (decide (V.int (xs.length : Int) = V.int m))) H
    rw [e]
    exact k
abbrev nHeadsP : List Str := ["heads", "ahead", "row", "name", "upper"]
theorem scHeadsP : FnScope nHeadsP ["heads"] (defScope sHeadsP) := ⟨rfl, rfl, rfl, by decide +kernel, rfl, by decide +kernel, by decide +kernel⟩
theorem c_headsP (B : Base K mg) (Ls : Cal P w K mg base 1 "is_list" spList) (Ro : Cal P w K mg base 1 "is_row" spRow) (Wo : Cal P w K mg base 1 "is_word" spWord) (D : DefT K mg "are_heads" sHeadsP ["heads"]) : Cal P w K mg base 2 "are_heads" spHeadsP := by
  obtain ⟨tH, hH⟩ := B.mostH
  refine cal D scHeadsP (fun vs H Q E h => ?_) (fun f cdv A outer s H vs Q E hr h => ?_)
  · obtain ⟨l, ts, hs, rfl, _⟩ := h
    rfl
  · obtain ⟨l, ts, hs, rfl, R, Vh, k⟩ := h
    have hz : sizeLine = 16777216 := by decide
    have tl : ts.length = hs.length := by rw [R.len, List.length_map]
    have h1 := Vh.l1
    have h8 := Vh.l8
    refine ⟨_, pss_cons (ps_if (pt_not (pt_val (pe_cl Ls hr (by decide) (by rfl) (pa_cons (pv 0) (pa_cons pe_int (pa_cons (pe_glob (v := .int 8) rfl hH ⟨_, rfl⟩) pa_nil)))))) (pss_one (ps_ret pe_bl)) pss_nil)
      (pss_cons (ps_set (i := 1) scHeadsP.nd rfl (Or.inl rfl) (pe_lst pa_nil))
      (pss_cons (ps_for PassesOwn.never rfl (pi_list (pv 0)) (pg_name (i := 2) scHeadsP.nd rfl (Or.inl rfl))
        (pss_cons (ps_if (pt_not (pt_val (pe_cl Ro hr (by decide) (by rfl) (pa_cons (pv 2) (pa_cons pe_int pa_nil))))) (pss_one (ps_ret pe_bl)) pss_nil)
        (pss_cons (ps_asg (pv 2) (pg_tup rfl (pgs_cons (pg_name (i := 3) scHeadsP.nd rfl (Or.inl rfl)) (pgs_cons (pg_name (i := 4) scHeadsP.nd rfl (Or.inl rfl)) pgs_nil))))
        (pss_cons (ps_if (PW.pt (pw_or (pt_not (pt_val (pe_cl Wo hr (by decide) (by rfl) (pa_cons (pv 3) pa_nil)))) (pw_or1 (pt_cmpR op_in_seq (pv 3) (pv 1) rfl)))) (pss_one (ps_ret pe_bl)) pss_nil)
        (pss_cons (ps_if (PW.pt (pw_and (pt_cmpR op_ne (pv 4) pe_str (nomark _)) (pw_and1 (pt_cmpR op_notIn_seq (pv 4) (pv 1) rfl)))) (pss_one (ps_ret pe_bl)) pss_nil)
        (pss_one (ps_expr (pe_bm PySem.F.plainAttrs_list PySem.F.slot_list_append PySem.F.type_list_append mt_append (pv 1) (pa_cons (pv 3) pa_nil)))))))))
      (pss_one (ps_ret pe_bl)))), ?_⟩
    refine ⟨_, rfl, l, _, _, _, rfl, R.1, _, rfl, ?_⟩
    rw [decide_eq_true (show (1 : Int) ≤ ((ts.map V.ref).length : Int) ∧ ((ts.map V.ref).length : Int) ≤ 8 by rw [List.length_map, tl]; omega)]
    refine iteF ⟨(by show 0 ≤ sizeLine; decide), fun A2 hA => ?_⟩
    have lA : l ≠ A2 := ne_of_none R.1 hA
    refine ⟨_, rfl, l, rfl, ⟨_, SqL.of (same_new hA _ _ R.1)⟩, for_list (K := K) (a := l) (xs := ts.map V.ref) (fun i σ H' => ∃ (v2 v3 v4 : Option V), σ = [some (.ref l), some (.ref A2), v2, v3, v4] ∧ Same H H' ∧ H' A2 = some (.lst (((nms hs).take i).map V.str)))
      ⟨none, none, none, rfl, same_new hA, upd_same⟩ (fun i σ H' _ ⟨_, _, _, _, s1, _⟩ => SqL.of (s1 _ _ R.1)) ?_ ?_⟩
    · rintro i y σ H1 hi ⟨v2, v3, v4, rfl, s1, a1⟩
      obtain ⟨t, r, rfl, hr1, ht, hti⟩ := row_get R hi
      have hi8 : i < ts.length := (List.getElem?_eq_some_iff.mp hti).1
      have ht1 := s1 _ _ ht
      have hn := nms_get hr1
      have hm : r.1 ∈ nms hs := List.mem_of_getElem? hn
      refine ⟨_, rfl, t, _, _, rfl, ht1, _, rfl, iteF ?_⟩
      refine ⟨_, rfl, t, _, rfl, SqT.of ht1, rfl, _, _, rfl, _, _, rfl, rfl, ?_⟩
      refine ⟨_, rfl, r.1, rfl, Vh.w _ hm, fun H2 s2 => ⟨_, rfl, iteF ?_⟩⟩
      have a2 := s2 _ _ a1
      refine ⟨_, rfl, _, rfl, A2, _, rfl, .inl (SqL.of a2), rfl, flat_strs, _, rfl, ?_⟩
      show if (inV (.str r.1) (((nms hs).take i).map V.str)) = true then _ else _
      rw [inV_str]
      have nin : ¬ r.1 ∈ (nms hs).take i := fun hmem => by
        obtain ⟨j, hj⟩ := List.mem_iff_getElem?.mp hmem
        rw [List.getElem?_take] at hj
        split at hj
        · rename_i hlt
          have := nd_ix Vh.nd hj hn
          omega
        · cases hj
      rw [decide_eq_false nin]
      refine iteF ?_
      have app : ∀ (H3 : Hp), H3 = H2 → ∃ l' xs y, V.ref A2 = .ref l' ∧ [V.str r.1] = [y] ∧ H3 l' = some (.lst xs) ∧ xs.length < sizeLine ∧ ∃ (v2 v3 v4 : Option V), [some (V.ref l), some (V.ref A2), some (V.ref t), some (V.str r.1), some (V.str r.2)] = [some (.ref l), some (.ref A2), v2, v3, v4] ∧ Same H (upd H3 l' (.lst (xs ++ [y]))) ∧ (upd H3 l' (.lst (xs ++ [y]))) A2 = some (.lst (((nms hs).take (i + 1)).map V.str)) := by
        rintro H3 rfl
        refine ⟨A2, _, _, rfl, rfl, a2, ?_, _, _, _, rfl, fun b o e => ?_, ?_⟩
        · rw [List.length_map, List.length_take]; omega
        · rw [upd_ne (ne_of_none e hA)]
          exact s2 _ _ (s1 _ _ e)
        · rw [upd_same, take_more hn, List.map_append]
          rfl
      refine ⟨_, rfl, rfl, _, rfl, ite2 (fun c => ?_) (fun c => ?_)⟩
      · refine ⟨_, rfl, _, rfl, A2, _, rfl, .inl (SqL.of a2), rfl, flat_strs, _, rfl, ?_⟩
        show if (!inV (.str r.2) (((nms hs).take i).map V.str)) = true then _ else _
        rw [inV_str]
        have hin : r.2 ∈ (nms hs).take i := by
          rcases Vh.up i r hr1 with e | ⟨j, hj, hu⟩
          · exfalso
            rw [e] at c
            exact absurd c (by decide +kernel)
          · exact List.mem_iff_getElem?.mpr ⟨j, by rw [List.getElem?_take, if_pos hj]; exact hu⟩
        rw [decide_eq_true hin]
        refine iteF ?_
        exact ⟨_, rfl, .inl ⟨rfl, _, SqL.of a2⟩, _, rfl, app _ rfl⟩
      · exact iteF ⟨_, rfl, .inl ⟨rfl, _, SqL.of a2⟩, _, rfl, app _ rfl⟩
    · rintro σ H1 ⟨v2, v3, v4, rfl, s1, a1⟩
      exact k _ s1
end
end KP
namespace KP
open PySem L2
section
variable {P : Program} {w : World} {K : PySem.W.Frag} {mg : Str → Option Value} {base : Heap}
abbrev nLimit : List Str := ["row", "days", "names", "head", "first", "last", "most"]
theorem scLimit : FnScope nLimit ["row", "days", "names"] (defScope sLimit) := ⟨rfl, rfl, rfl, by decide +kernel, rfl, by decide +kernel, by decide +kernel⟩
theorem c_limit (B : Base K mg) (Ro : Cal P w K mg base 1 "is_row" spRow) (Wh : Cal P w K mg base 1 "is_whole" spWhole) (D : DefT K mg "is_limit" sLimit ["row", "days", "names"]) : Cal P w K mg base 2 "is_limit" spLimit := by
  obtain ⟨tM, hM⟩ := B.mostM
  refine cal D scLimit (fun vs H Q E h => ?_) (fun f cdv A outer s H vs Q E hr h => ?_)
  · obtain ⟨t, n, d, ns, r, rfl, _⟩ := h
    rfl
  · obtain ⟨t, n, d, ns, r, rfl, ht, hn, ⟨o1, o2, o3, o4⟩, k⟩ := h
    refine ⟨_, pss_cons (ps_if (pt_not (pt_val (pe_cl Ro hr (by decide) (by rfl) (pa_cons (pv 0) (pa_cons pe_int pa_nil))))) (pss_one (ps_ret pe_bl)) pss_nil)
      (pss_cons (ps_asg (pv 0) (pg_tup rfl (pgs_cons (pg_name (i := 3) scLimit.nd rfl (Or.inl rfl)) (pgs_cons (pg_name (i := 4) scLimit.nd rfl (Or.inl rfl)) (pgs_cons (pg_name (i := 5) scLimit.nd rfl (Or.inl rfl)) (pgs_cons (pg_name (i := 6) scLimit.nd rfl (Or.inl rfl)) pgs_nil))))))
      (pss_cons (ps_if (PW.pt (pw_or (pt_cmpR op_notIn_seq (pv 3) (pv 2) rfl) (pw_or1 (pt_not (pt_val (pe_cl Wh hr (by decide) (by rfl) (pa_cons (pv 4) (pa_cons pe_int (pa_cons (pv 1) pa_nil))))))))) (pss_one (ps_ret pe_bl)) pss_nil)
      (pss_one (ps_ret (pe_and (pe_cl Wh hr (by decide) (by rfl) (pa_cons (pv 5) (pa_cons (pv 4) (pa_cons (pv 1) pa_nil)))) (pe_one (pe_cl Wh hr (by decide) (by rfl) (pa_cons (pv 6) (pa_cons pe_int (pa_cons (pe_glob (v := .int 1000000000000000) rfl hM ⟨_, rfl⟩) pa_nil)))))))))), ?_⟩
    refine ⟨_, rfl, t, _, _, rfl, ht, _, rfl, iteF ?_⟩
    refine ⟨_, rfl, t, _, rfl, SqT.of ht, rfl, _, _, rfl, _, _, rfl, _, _, rfl, _, _, rfl, rfl, ?_⟩
    refine ⟨_, rfl, _, rfl, n, _, rfl, .inl (SqL.of hn), rfl, flat_strs, _, rfl, ?_⟩
    show if (!inV (.str r.1) (ns.map V.str)) = true then _ else _
    rw [inV_str, decide_eq_true o1]
    refine iteF ⟨_, rfl, _, rfl, _, _, _, rfl, _, rfl, ?_⟩
    rw [decide_eq_true o2]
    refine iteF ⟨_, rfl, _, rfl, _, rfl, _, _, _, rfl, _, rfl, ?_⟩
    rw [decide_eq_true o3]
    refine iteT ⟨_, rfl, _, _, _, rfl, ?_⟩
    rw [decide_eq_true o4]
    exact k
abbrev nRule : List Str := ["row", "days", "names", "head", "part", "whole", "until"]
theorem scRule : FnScope nRule ["row", "days", "names"] (defScope sRule) := ⟨rfl, rfl, rfl, by decide +kernel, rfl, by decide +kernel, by decide +kernel⟩
theorem c_rule (B : Base K mg) (Ro : Cal P w K mg base 1 "is_row" spRow) (Wh : Cal P w K mg base 1 "is_whole" spWhole) (D : DefT K mg "is_rule" sRule ["row", "days", "names"]) : Cal P w K mg base 2 "is_rule" spRule := by
  obtain ⟨tM, hM⟩ := B.mostW
  refine cal D scRule (fun vs H Q E h => ?_) (fun f cdv A outer s H vs Q E hr h => ?_)
  · obtain ⟨t, n, d, ns, r, rfl, _⟩ := h
    rfl
  · obtain ⟨t, n, d, ns, r, rfl, ht, hn, ⟨o1, o2, o3, o4⟩, k⟩ := h
    refine ⟨_, pss_cons (ps_if (pt_not (pt_val (pe_cl Ro hr (by decide) (by rfl) (pa_cons (pv 0) (pa_cons pe_int pa_nil))))) (pss_one (ps_ret pe_bl)) pss_nil)
      (pss_cons (ps_asg (pv 0) (pg_tup rfl (pgs_cons (pg_name (i := 3) scRule.nd rfl (Or.inl rfl)) (pgs_cons (pg_name (i := 4) scRule.nd rfl (Or.inl rfl)) (pgs_cons (pg_name (i := 5) scRule.nd rfl (Or.inl rfl)) (pgs_cons (pg_name (i := 6) scRule.nd rfl (Or.inl rfl)) pgs_nil))))))
      (pss_cons (ps_if (PW.pt (pw_or (pt_cmpR op_notIn_seq (pv 3) (pv 2) rfl) (pw_or1 (pt_not (pt_val (pe_cl Wh hr (by decide) (by rfl) (pa_cons (pv 5) (pa_cons pe_int (pa_cons (pe_glob (v := .int 1000) rfl hM ⟨_, rfl⟩) pa_nil))))))))) (pss_one (ps_ret pe_bl)) pss_nil)
      (pss_one (ps_ret (pe_and (pe_cl Wh hr (by decide) (by rfl) (pa_cons (pv 4) (pa_cons pe_int (pa_cons (pv 5) pa_nil)))) (pe_one (pe_cl Wh hr (by decide) (by rfl) (pa_cons (pv 6) (pa_cons pe_int (pa_cons (pe_op op_add (pv 1) pe_int) pa_nil)))))))))), ?_⟩
    refine ⟨_, rfl, t, _, _, rfl, ht, _, rfl, iteF ?_⟩
    refine ⟨_, rfl, t, _, rfl, SqT.of ht, rfl, _, _, rfl, _, _, rfl, _, _, rfl, _, _, rfl, rfl, ?_⟩
    refine ⟨_, rfl, _, rfl, n, _, rfl, .inl (SqL.of hn), rfl, flat_strs, _, rfl, ?_⟩
    show if (!inV (.str r.1) (ns.map V.str)) = true then _ else _
    rw [inV_str, decide_eq_true o1]
    refine iteF ⟨_, rfl, _, _, _, rfl, _, rfl, ?_⟩
    rw [decide_eq_true o2]
    refine iteF ⟨_, rfl, _, rfl, _, _, _, rfl, _, rfl, ?_⟩
    rw [decide_eq_true o3]
    refine iteT ⟨_, rfl, _, rfl, _, _, rfl, rfl, _, _, _, rfl, ?_⟩
    rw [decide_eq_true o4]
    exact k
abbrev nOne : List Str := ["rules", "name", "top", "bottom", "head", "part", "whole", "until"]
theorem scOne : FnScope nOne ["rules", "name"] (defScope sOne) := ⟨rfl, rfl, rfl, by decide +kernel, rfl, by decide +kernel, by decide +kernel⟩
theorem c_one (D : DefT K mg "is_at_most_one" sOne ["rules", "name"]) : Cal P w K mg base 1 "is_at_most_one" spOne := by
  refine cal D scOne (fun vs H Q E h => ?_) (fun f cdv A outer s H vs Q E hr h => ?_)
  · obtain ⟨l, ts, x, rs, rfl, _⟩ := h
    rfl
  · obtain ⟨l, ts, x, rs, rfl, R, hb, h1, k⟩ := h
    refine ⟨_, pss_cons (ps_set (i := 2) scOne.nd rfl (Or.inl rfl) pe_int) (pss_cons (ps_set (i := 3) scOne.nd rfl (Or.inl rfl) pe_int)
      (pss_cons (ps_for PassesOwn.never rfl (pi_list (pv 0)) (pg_tup rfl (pgs_cons (pg_name (i := 4) scOne.nd rfl (Or.inl rfl)) (pgs_cons (pg_name (i := 5) scOne.nd rfl (Or.inl rfl)) (pgs_cons (pg_name (i := 6) scOne.nd rfl (Or.inl rfl)) (pgs_cons (pg_name (i := 7) scOne.nd rfl (Or.inl rfl)) pgs_nil)))))
        (pss_one (ps_if (pt_cmpR op_eq (pv 4) (pv 1) (nomark _))
          (pss_cons (ps_set (i := 2) scOne.nd rfl (Or.inl rfl) (pe_op op_add (pe_op op_mul (pv 2) (pv 6)) (pe_op op_mul (pv 5) (pv 3)))) (pss_one (ps_set (i := 3) scOne.nd rfl (Or.inl rfl) (pe_op op_mul (pv 3) (pv 6))))) pss_nil)))
      (pss_one (ps_ret (pe_cmpR op_le (pv 2) (pv 3) (nomark _)))))), ?_⟩
    refine ⟨_, rfl, l, rfl, ⟨_, SqL.of R.1⟩, for_list (K := K) (a := l) (xs := ts.map V.ref) (fun i σ H' => ∃ (v4 v5 v6 v7 : Option V), σ = [some (.ref l), some (.str x), some (.int (fr (rs.take i) x).1), some (.int (fr (rs.take i) x).2), v4, v5, v6, v7] ∧ H' = H)
      ⟨none, none, none, none, rfl, rfl⟩ (fun i σ H' _ ⟨_, _, _, _, _, e⟩ => by rw [e]; exact SqL.of R.1) ?_ ?_⟩
    · rintro i y σ H1 hi ⟨v4, v5, v6, v7, rfl, rfl⟩
      obtain ⟨t, r, rfl, hr1, ht, hti⟩ := row_get R hi
      have bb := hb r (List.mem_of_getElem? hr1)
      have step := fr_snoc (rs.take i) x r
      rw [← take_more hr1] at step
      refine ⟨t, _, rfl, SqT.of ht, rfl, _, _, rfl, _, _, rfl, _, _, rfl, _, _, rfl, rfl, ?_⟩
      refine ⟨_, rfl, _, rfl, rfl, _, rfl, ite2 (fun c => ?_) (fun c => ?_)⟩
      · have e : r.1 = x := by have := of_decide_eq_true c; injection this
        have e2 : frS x (fr (rs.take i) x) r = ((fr (rs.take i) x).1 * r.2.2.1 + r.2.1 * (fr (rs.take i) x).2, (fr (rs.take i) x).2 * r.2.2.1) := by unfold frS; rw [if_pos e]
        rw [e2] at step
        refine ⟨_, rfl, _, rfl, _, _, rfl, rfl, Or.inr ⟨by omega, by omega⟩, _, rfl, _, rfl, _, _, rfl, rfl, Or.inl ⟨by omega, by omega⟩, _, _, rfl, rfl, ?_⟩
        refine ⟨_, rfl, _, rfl, _, _, rfl, rfl, Or.inr ⟨by omega, by omega⟩, ?_⟩
        refine ⟨some (.str r.1), some (.int r.2.1), some (.int r.2.2.1), some (.int r.2.2.2), ?_, rfl⟩
        rw [step]
        rfl
      · have e : ¬ r.1 = x := fun z => c (decide_eq_true (by rw [z]))
        have e2 : frS x (fr (rs.take i) x) r = fr (rs.take i) x := by unfold frS; rw [if_neg e]
        rw [e2] at step
        refine ⟨some (.str r.1), some (.int r.2.1), some (.int r.2.2.1), some (.int r.2.2.2), ?_, rfl⟩
        rw [step]
        rfl
    · rintro σ H1 ⟨v4, v5, v6, v7, rfl, rfl⟩
      have el : rs.take (ts.map V.ref).length = rs := by rw [List.length_map, R.len, List.length_map]; exact List.take_length
      rw [el]
      refine ⟨_, rfl, _, rfl, _, _, rfl, rfl, ?_⟩
      show Q (.bl (decide ((fr rs x).1 ≤ (fr rs x).2))) H1
      rw [decide_eq_true h1]
      exact k
/-- all([f(..) for x in xs]): a list of Trues grows -/
theorem rep_snoc {i : Nat} : List.replicate i (V.bl true) ++ [V.bl true] = List.replicate (i + 1) (V.bl true) := List.replicate_succ'.symm
abbrev nLimitsP : List Str := ["limits", "days", "names", "row"]
theorem scLimitsP : FnScope nLimitsP ["limits", "days", "names"] (defScope sLimitsP) := ⟨rfl, rfl, rfl, by decide +kernel, rfl, by decide +kernel, by decide +kernel⟩
theorem c_limitsP (B : Base K mg) (Ls : Cal P w K mg base 1 "is_list" spList) (Li : Cal P w K mg base 2 "is_limit" spLimit) (D : DefT K mg "are_limits" sLimitsP ["limits", "days", "names"]) : Cal P w K mg base 3 "are_limits" spLimitsP := by
  obtain ⟨tM, hM⟩ := B.mostLi
  refine cal D scLimitsP (fun vs H Q E h => ?_) (fun f cdv A outer s H vs Q E hr h => ?_)
  · obtain ⟨l, n, ts, d, ns, rs, rfl, _⟩ := h
    rfl
  · obtain ⟨l, n, ts, d, ns, rs, rfl, R, hn, hok, h6, k⟩ := h
    have hz : sizeLine = 16777216 := by decide
    have tl : ts.length = rs.length := by rw [R.len, List.length_map]
    refine ⟨_, pss_one (ps_ret (pe_and (pe_cl Ls hr (by decide) (by rfl) (pa_cons (pv 0) (pa_cons pe_int (pa_cons (pe_glob (v := .int 6) rfl hM ⟨_, rfl⟩) pa_nil))))
      (pe_one (pe_callB (cr_all rfl) (by rfl) B.all (by decide +kernel) (pa_cons (pe_lc (own := [("row", 3)]) (g := gName 3) (tt := tYes) rfl scLimitsP.nd (pi_list (pv 0)) (blkOk_by (N := nLimitsP) (sc := defScope sLimitsP) (by decide +kernel))
        (fun _ _ _ _ _ => pg_name (i := 3) scLimitsP.nd rfl (Or.inl rfl)) (fun _ _ _ _ _ => pts_nil) (fun _ _ _ _ _ => pe_cl Li hr (by decide) (by rfl) (pa_cons (pv 3) (pa_cons (pv 1) (pa_cons (pv 2) pa_nil))))) pa_nil))))), ?_⟩
    refine ⟨_, rfl, l, _, _, _, rfl, R.1, _, rfl, ?_⟩
    rw [decide_eq_true (show (0 : Int) ≤ ((ts.map V.ref).length : Int) ∧ ((ts.map V.ref).length : Int) ≤ 6 by rw [List.length_map, tl]; omega)]
    refine iteT ⟨_, rfl, l, rfl, ⟨_, SqL.of R.1⟩, fun D2 hD => lc_it (walk_list (xs := ts.map V.ref)) (fun i H' => H' = upd H D2 (.lst (List.replicate i (V.bl true)))) rfl (fun i H' _ e => by rw [e]; exact SqL.of (same_new hD _ _ R.1)) ?_ ?_⟩
    · rintro i v H1 H2 hi rfl ⟨rfl, hv⟩
      obtain ⟨t, r, rfl, hr1, ht, hti⟩ := row_get R hv
      refine ⟨rfl, yes (iteT ⟨_, rfl, _, rfl, _, rfl, t, n, d, ns, r, rfl, same_new hD _ _ ht, same_new hD _ _ hn, hok r (List.mem_of_getElem? hr1), _, upd_same, ?_, ?_⟩)⟩
      · rw [List.length_replicate]
        rw [List.length_map, tl] at hi
        omega
      · rw [upd_upd, rep_snoc]
    · rintro H1 rfl
      refine ⟨D2, List.replicate (ts.map V.ref).length true, rfl, SqL.of (by rw [upd_same, map_rep]), ?_⟩
      rw [all_rep]
      exact k _ (same_new hD)
abbrev nRulesP : List Str := ["rules", "days", "names", "row", "name"]
theorem scRulesP : FnScope nRulesP ["rules", "days", "names"] (defScope sRulesP) := ⟨rfl, rfl, rfl, by decide +kernel, rfl, by decide +kernel, by decide +kernel⟩
theorem c_rulesP (B : Base K mg) (Ls : Cal P w K mg base 1 "is_list" spList) (Ru : Cal P w K mg base 2 "is_rule" spRule) (On : Cal P w K mg base 1 "is_at_most_one" spOne) (D : DefT K mg "are_rules" sRulesP ["rules", "days", "names"]) : Cal P w K mg base 3 "are_rules" spRulesP := by
  obtain ⟨tM, hM⟩ := B.mostR
  refine cal D scRulesP (fun vs H Q E h => ?_) (fun f cdv A outer s H vs Q E hr h => ?_)
  · obtain ⟨l, n, ts, d, ns, rs, rfl, _⟩ := h
    rfl
  · obtain ⟨l, n, ts, d, ns, rs, rfl, R, hn, hok, h4, h8, hone, k⟩ := h
    have hz : sizeLine = 16777216 := by decide
    have tl : ts.length = rs.length := by rw [R.len, List.length_map]
    refine ⟨_, pss_cons (ps_if (PW.pt (pw_or (pt_not (pt_val (pe_cl Ls hr (by decide) (by rfl) (pa_cons (pv 0) (pa_cons pe_int (pa_cons (pe_glob (v := .int 4) rfl hM ⟨_, rfl⟩) pa_nil))))))
      (pw_or1 (pt_not (pt_val (pe_callB (cr_all rfl) (by rfl) B.all (by decide +kernel) (pa_cons (pe_lc (own := [("row", 3)]) (g := gName 3) (tt := tYes) rfl scRulesP.nd (pi_list (pv 0)) (blkOk_by (N := nRulesP) (sc := defScope sRulesP) (by decide +kernel))
        (fun _ _ _ _ _ => pg_name (i := 3) scRulesP.nd rfl (Or.inl rfl)) (fun _ _ _ _ _ => pts_nil) (fun _ _ _ _ _ => pe_cl Ru hr (by decide) (by rfl) (pa_cons (pv 3) (pa_cons (pv 1) (pa_cons (pv 2) pa_nil))))) pa_nil))))))) (pss_one (ps_ret pe_bl)) pss_nil)
      (pss_one (ps_ret (pe_callB (cr_all rfl) (by rfl) B.all (by decide +kernel) (pa_cons (pe_lc (own := [("name", 4)]) (g := gName 4) (tt := tYes) rfl scRulesP.nd (pi_list (pv 2)) (blkOk_by (N := nRulesP) (sc := defScope sRulesP) (by decide +kernel))
        (fun _ _ _ _ _ => pg_name (i := 4) scRulesP.nd rfl (Or.inl rfl)) (fun _ _ _ _ _ => pts_nil) (fun _ _ _ _ _ => pe_cl On hr (by decide) (by rfl) (pa_cons (pv 0) (pa_cons (pv 4) pa_nil)))) pa_nil)))), ?_⟩
    refine ⟨_, rfl, l, _, _, _, rfl, R.1, _, rfl, ?_⟩
    rw [decide_eq_true (show (0 : Int) ≤ ((ts.map V.ref).length : Int) ∧ ((ts.map V.ref).length : Int) ≤ 4 by rw [List.length_map, tl]; omega)]
    refine iteF ⟨_, rfl, l, rfl, ⟨_, SqL.of R.1⟩, fun D2 hD => lc_it (walk_list (xs := ts.map V.ref)) (fun i H' => H' = upd H D2 (.lst (List.replicate i (V.bl true)))) rfl (fun i H' _ e => by rw [e]; exact SqL.of (same_new hD _ _ R.1)) ?_ ?_⟩
    · rintro i v H1 H2 hi rfl ⟨rfl, hv⟩
      obtain ⟨t, r, rfl, hr1, ht, hti⟩ := row_get R hv
      refine ⟨rfl, yes (iteT ⟨_, rfl, _, rfl, _, rfl, t, n, d, ns, r, rfl, same_new hD _ _ ht, same_new hD _ _ hn, hok r (List.mem_of_getElem? hr1), _, upd_same, ?_, ?_⟩)⟩
      · rw [List.length_replicate]
        rw [List.length_map, tl] at hi
        omega
      · rw [upd_upd, rep_snoc]
    · rintro H1 rfl
      refine ⟨D2, List.replicate (ts.map V.ref).length true, rfl, SqL.of (by rw [upd_same, map_rep]), _, rfl, ?_⟩
      rw [all_rep]
      refine iteF ?_
      have sD : Same H (upd H D2 (.lst (List.replicate (ts.map V.ref).length (V.bl true)))) := same_new hD
      generalize upd H D2 (.lst (List.replicate (ts.map V.ref).length (V.bl true))) = H2 at sD
      have R2 := R.same sD
      refine ⟨_, rfl, n, rfl, ⟨_, SqL.of (sD _ _ hn)⟩, fun D3 hD3 => lc_it (walk_list (xs := ns.map V.str)) (fun i H' => H' = upd H2 D3 (.lst (List.replicate i (V.bl true)))) rfl (fun i H' _ e => by rw [e]; exact SqL.of (same_new hD3 _ _ (sD _ _ hn))) ?_ ?_⟩
      · rintro i v H3 H4 hi rfl ⟨rfl, hv⟩
        obtain ⟨x, hx, rfl⟩ : ∃ x, ns[i]? = some x ∧ v = V.str x := by
          rw [List.getElem?_map] at hv
          cases z : ns[i]? with
          | none => rw [z] at hv; cases hv
          | some x => rw [z] at hv; exact ⟨x, rfl, (Option.some.inj hv).symm⟩
        refine ⟨rfl, yes (iteT ⟨_, rfl, _, rfl, l, ts, x, rs, rfl, R2.same (same_new hD3), (fun r hr => ?_), hone x, _, upd_same, ?_, ?_⟩)⟩
        · obtain ⟨_, o2, o3, _⟩ := hok r hr
          omega
        · rw [List.length_replicate]
          rw [List.length_map] at hi
          omega
        · rw [upd_upd, rep_snoc]
      · rintro H3 rfl
        refine ⟨D3, List.replicate (ns.map V.str).length true, rfl, SqL.of (by rw [upd_same, map_rep]), ?_⟩
        rw [all_rep]
        exact k _ (sD.trans (same_new hD3))
end
end KP
namespace KP
open PySem L2
theorem put1 (a : Str) (x : V) : putF a x [] = [(a, x)] := rfl
theorem put2 {a b : Str} (h : a ≠ b) (x y : V) : putF b y [(a, x)] = [(a, x), (b, y)] := by
  show (if a = b then (a, y) :: [] else (a, x) :: putF b y []) = _
  rw [if_neg h]
  rfl
theorem put3 {a b c : Str} (h : a ≠ c) (h2 : b ≠ c) (x y z : V) : putF c z [(a, x), (b, y)] = [(a, x), (b, y), (c, z)] := by
  show (if a = c then _ else (a, x) :: putF c z [(b, y)]) = _
  rw [if_neg h, put2 h2]
theorem put4 {a b c d : Str} (h : a ≠ d) (h2 : b ≠ d) (h3 : c ≠ d) (x y z u : V) : putF d u [(a, x), (b, y), (c, z)] = [(a, x), (b, y), (c, z), (d, u)] := by
  show (if a = d then _ else (a, x) :: putF d u [(b, y), (c, z)]) = _
  rw [if_neg h, put3 h2 h3]
structure MakT (P : Program) (w : World) (K : PySem.W.Frag) (mg : Str → Option Value) (base : Heap) (k : Nat) (x : Str) (C : Addr) (sp : Sp) : Prop where
  ex : ∃ f fd ps, Mk K C f ∧ FnOk P w K mg base CX0 k f fd ps sp ∧ mg x = some (.ref C) ∧ Binds K fd ps []
structure MetT (P : Program) (w : World) (K : PySem.W.Frag) (mg : Str → Option Value) (base : Heap) (k : Nat) (C : Addr) (m : Str) (sp : Sp) : Prop where
  ex : ∃ f fd ps, Cls K C ∧ Meth K C m f ∧ FnOk P w K mg base CX0 k f fd ps sp ∧ Binds K fd ps []
section
variable {X : Cx} {k j : Nat} {x m : Str} {C : Addr} {sp : Sp} {p pos apos : Pos} {e o : Expr} {es : List Expr} {ta : TE} {t : TA}
theorem pe_mkT (c : MakT X.prog X.w X.K X.mg X.base k x C sp) (hr : Room j X.A) (hk : k + 1 ≤ j) (hg : Gl X x) (ha : PA X (e :: es) t)
    (hdb : (x == ("__debug__" : Str)) = false := by decide) (he : starEach (e :: es) X.env = (false, eval e X.env) :: starEach es X.env := by rfl) (hpl : (backTo pos (starEach es X.env)).any (·.1) = false := by rfl) :
    PE X (.Call (.Name x p) (e :: es) [] pos) (tMake C sp [] E0 t) := by
  obtain ⟨f, fd, ps, M, F, m, b⟩ := c.ex
  exact pe_make M F (hr.mono hk) hg m b .nil pass0 ha hdb he hpl
theorem pe_mtT0 {pl : Sem Bool} (c : MetT X.prog X.w X.K X.mg X.base k C m sp) (hr : Room j X.A) (hk : k ≤ j) (he : PE X o ta)
    (ht : eval (.Call (.Attribute o m apos) [] [] pos) X.env = (do
      let ov ← eval o X.env
      standAt apos.atName
      let (f, first) ← holding [ov] (getMethod ov m pl)
      callWith pos f first (backTo pos (starEach [] X.env)) (backToKw pos (keywordEach [] X.env))) := by rfl) :
    PE X (.Call (.Attribute o m apos) [] [] pos) (tMeth C m sp [] E0 ta tNil) := by
  obtain ⟨f, fd, ps, c, hm, F, b⟩ := c.ex
  exact pe_meth0 he c hm F (hr.mono hk) b .nil pass0 ht
theorem pe_mtT {pl : Sem Bool} (c : MetT X.prog X.w X.K X.mg X.base k C m sp) (hr : Room j X.A) (hk : k ≤ j) (he : PE X o ta) (ha : PA X (e :: es) t)
    (hst : starEach (e :: es) X.env = (false, eval e X.env) :: starEach es X.env := by rfl) (hpl : (backTo pos (starEach es X.env)).any (·.1) = false := by rfl)
    (ht : eval (.Call (.Attribute o m apos) (e :: es) [] pos) X.env = (do
      let ov ← eval o X.env
      standAt apos.atName
      let (f, first) ← holding [ov] (getMethod ov m pl)
      callWith pos f first (backTo pos (starEach (e :: es) X.env)) (backToKw pos (keywordEach [] X.env))) := by rfl) :
    PE X (.Call (.Attribute o m apos) (e :: es) [] pos) (tMeth C m sp [] E0 ta t) := by
  obtain ⟨f, fd, ps, c, hm, F, b⟩ := c.ex
  exact pe_meth he c hm F (hr.mono hk) b .nil pass0 ha hst hpl ht
end

/-! ### a year in the heap -/
def yf (d : Int) (l1 l2 l3 : Addr) : List (Str × V) := [("days", .int d), ("heads", .ref l1), ("limits", .ref l2), ("rules", .ref l3)]
/-- lists at M alone may change -/
def KeepM (M : List Addr) (H H' : Hp) : Prop := ∀ b o, H b = some o → (b ∈ M → ∀ xs, o ≠ .lst xs) → H' b = some o
theorem KeepM.of {M : List Addr} {H H' : Hp} (s : Same H H') : KeepM M H H' := fun b o e _ => s b o e
theorem KeepM.trans {M : List Addr} {H H1 H2 : Hp} (s : KeepM M H H1) (t : KeepM M H1 H2) : KeepM M H H2 := fun b o e n => t b o (s b o e n) n
theorem KeepM.ofB {M : List Addr} {a : Addr} {H H' : Hp} {xs : List V} (s : SameB a H H') (h : H a = some (.lst xs)) (ha : a ∈ M) : KeepM M H H' := fun b o e n => s b o e fun z => by
  subst z
  rw [h] at e
  exact n ha xs (Option.some.inj e).symm
theorem KeepM.tup {M : List Addr} {H H' : Hp} (s : KeepM M H H') {b : Addr} {r : List V} (e : H b = some (.tup r)) : H' b = some (.tup r) := s b _ e fun _ _ z => nomatch z
theorem KeepM.lst {M : List Addr} {H H' : Hp} (s : KeepM M H H') {b : Addr} {r : List V} (e : H b = some (.lst r)) (h : b ∉ M) : H' b = some (.lst r) := s b _ e fun z => absurd z h
theorem RowsAt.keep {M : List Addr} {H H' : Hp} {l : Addr} {ts : List Addr} {rows : List (List V)} (h : RowsAt H l ts rows) (s : KeepM M H H') (hl : l ∉ M) : RowsAt H' l ts rows := ⟨s.lst h.1 hl, paired_mono (fun _ _ e => s.tup e) h.2⟩
structure YearAt (C : Addr) (M : List Addr) (H : Hp) (p : Addr) (y : Yr) : Prop where
  ex : ∃ dx l1 l2 l3 t1 t2 t3, H p = some (.ins C dx (yf y.days l1 l2 l3)) ∧ RowsAt H l1 t1 (y.hs.map hv) ∧ RowsAt H l2 t2 (y.ls.map rv) ∧ RowsAt H l3 t3 (y.rs.map rv) ∧ l1 ∉ M ∧ l2 ∉ M ∧ l3 ∉ M
theorem YearAt.keep {C : Addr} {M : List Addr} {H H' : Hp} {p : Addr} {y : Yr} (h : YearAt C M H p y) (s : KeepM M H H') : YearAt C M H' p y := by
  obtain ⟨dx, l1, l2, l3, t1, t2, t3, hp, r1, r2, r3, n1, n2, n3⟩ := h.ex
  exact ⟨dx, l1, l2, l3, t1, t2, t3, s _ _ hp (fun _ _ z => nomatch z), r1.keep s n1, r2.keep s n2, r3.keep s n3, n1, n2, n3⟩
theorem YearAt.sub {C : Addr} {M M' : List Addr} {H : Hp} {p : Addr} {y : Yr} (h : YearAt C M H p y) (s : ∀ a, a ∈ M' → a ∈ M) : YearAt C M' H p y := by
  obtain ⟨dx, l1, l2, l3, t1, t2, t3, hp, r1, r2, r3, n1, n2, n3⟩ := h.ex
  exact ⟨dx, l1, l2, l3, t1, t2, t3, hp, r1, r2, r3, fun z => n1 (s _ z), fun z => n2 (s _ z), fun z => n3 (s _ z)⟩
theorem YearAt.nil {C : Addr} {M : List Addr} {H : Hp} {p : Addr} {y : Yr} (h : YearAt C M H p y) : YearAt C [] H p y := h.sub fun _ z => nomatch z
theorem YearAt.ext {C : Addr} {M : List Addr} {H : Hp} {p a : Addr} {y : Yr} (h : YearAt C M H p y) (ha : H a = none) : YearAt C (a :: M) H p y := by
  obtain ⟨dx, l1, l2, l3, t1, t2, t3, hp, r1, r2, r3, n1, n2, n3⟩ := h.ex
  have g : ∀ {l : Addr} {o : HO}, H l = some o → l ∉ M → l ∉ a :: M := fun e n z => by
    rcases List.mem_cons.mp z with z | z
    · exact ne_of_none e ha z
    · exact n z
  exact ⟨dx, l1, l2, l3, t1, t2, t3, hp, r1, r2, r3, g r1.1 n1, g r2.1 n2, g r3.1 n3⟩
theorem YearAt.same {C : Addr} {M : List Addr} {H H' : Hp} {p : Addr} {y : Yr} (h : YearAt C M H p y) (s : Same H H') : YearAt C M H' p y := h.keep (KeepM.of s)
/-! ### the class -/
structure YearF (K : PySem.W.Frag) (mg : Str → Option Value) (C : Addr) : Prop where
  cl : Cls K C
  mgC : mg "Year" = some (.ref C)
  nd : NoAttr K C "days"
  nh : NoAttr K C "heads"
  nl : NoAttr K C "limits"
  nr : NoAttr K C "rules"
structure MethT (K : PySem.W.Frag) (C : Addr) (m q : Str) (st : Stmt) (ps : List Str) : Prop where
  ex : ∃ f fd, Meth K C m f ∧ Fun K m q st f fd ∧ Binds K fd ps []
structure InitT (K : PySem.W.Frag) (C : Addr) (q : Str) (st : Stmt) (ps : List Str) : Prop where
  ex : ∃ f fd, Mk K C f ∧ Fun K "__init__" q st f fd ∧ Binds K fd ps []
abbrev sYI : Stmt := inClass (top 34) 0
abbrev sYN : Stmt := inClass (top 34) 1
abbrev sYA : Stmt := inClass (top 34) 2
abbrev sYK : Stmt := inClass (top 34) 3
abbrev sYU : Stmt := inClass (top 34) 4
def spYear (C : Addr) : Sp := fun vs H Q _ => ∃ (p dx lh ll lr : Addr) (th tl tr : List Addr) (y : Yr), vs = [.ref p, .int y.days, .ref lh, .ref ll, .ref lr] ∧ H p = some (.ins C dx []) ∧ RowsAt H lh th (y.hs.map hv) ∧ RowsAt H ll tl (y.ls.map rv) ∧ RowsAt H lr tr (y.rs.map rv) ∧ y.ok ∧
  ∀ (H' : Hp) (l1 l2 l3 : Addr), H' p = some (.ins C dx (yf y.days l1 l2 l3)) → RowsAt H' l1 th (y.hs.map hv) → RowsAt H' l2 tl (y.ls.map rv) → RowsAt H' l3 tr (y.rs.map rv) → H l1 = none → H l2 = none → H l3 = none → (∀ b o, H b = some o → b ≠ p → H' b = some o) → Q .non H'
def spYN (C : Addr) : Sp := fun vs H Q _ => ∃ (p : Addr) (y : Yr), vs = [.ref p] ∧ YearAt C [] H p y ∧ y.hs.length ≤ 8 ∧ ∀ q, H q = none → Q (.ref q) (upd H q (.lst ((nms y.hs).map V.str)))
def spYA (C : Addr) : Sp := fun vs H Q _ => ∃ (p : Addr) (y : Yr) (x : Str), vs = [.ref p, .str x] ∧ YearAt C [] H p y ∧ VH y.hs ∧ x ∈ nms y.hs ∧ Q (.str (up y.hs x)) H
def spYK (C : Addr) : Sp := fun vs H Q _ => ∃ (p : Addr) (y : Yr) (x : Str), vs = [.ref p, .str x] ∧ YearAt C [] H p y ∧ VH y.hs ∧ x ∈ nms y.hs ∧ ∀ q, H q = none → Q (.ref q) (upd H q (.lst ((kn y.hs x).map V.str)))
def spYU (C : Addr) : Sp := fun vs H Q _ => ∃ (p : Addr) (y : Yr) (x : Str), vs = [.ref p, .str x] ∧ YearAt C [] H p y ∧ VH y.hs ∧ x ∈ nms y.hs ∧ ∀ q H', Same H H' → H q = none → H' q = some (.lst ((und y.hs x).map V.str)) → Q (.ref q) H'
theorem yf_no {d : Int} {l1 l2 l3 : Addr} {m : Str} (h1 : m ≠ "days") (h2 : m ≠ "heads") (h3 : m ≠ "limits") (h4 : m ≠ "rules") : (yf d l1 l2 l3).lookup m = none := by
  unfold yf
  simp only [List.lookup, beq_eq_false_iff_ne.mpr h1, beq_eq_false_iff_ne.mpr h2, beq_eq_false_iff_ne.mpr h3, beq_eq_false_iff_ne.mpr h4]
section
variable {P : Program} {w : World} {K : PySem.W.Frag} {mg : Str → Option Value} {base : Heap} {C : Addr}
abbrev nYI : List Str := ["self", "days", "heads", "limits", "rules", "names", "row"]
theorem scYI : FnScope nYI ["self", "days", "heads", "limits", "rules"] (defScope sYI) := ⟨rfl, rfl, rfl, by decide +kernel, rfl, by decide +kernel, by decide +kernel⟩
theorem c_year (B : Base K mg) (T : YearF K mg C) (Wh : Cal P w K mg base 1 "is_whole" spWhole) (Hs : Cal P w K mg base 2 "are_heads" spHeadsP) (Li : Cal P w K mg base 3 "are_limits" spLimitsP) (Ru : Cal P w K mg base 3 "are_rules" spRulesP)
    (D : InitT K C "Year.__init__" sYI ["self", "days", "heads", "limits", "rules"]) : MakT P w K mg base 4 "Year" C (spYear C) := by
  obtain ⟨tD, hD⟩ := B.mostD
  obtain ⟨f, fd, M, F, b⟩ := D.ex
  refine ⟨f, fd, _, M, F.ok scYI (fun vs H Q E h => ?_) (fun cdv A outer s H vs Q E hr h => ?_), T.mgC, b⟩
  · obtain ⟨p, dx, lh, ll, lr, th, tl, tr, y, rfl, _⟩ := h
    rfl
  · obtain ⟨p, dx, lh, ll, lr, th, tl, tr, y, rfl, hp, r1, r2, r3, ok, k⟩ := h
    have hz : sizeLine = 16777216 := by decide
    have thl : th.length = y.hs.length := by rw [r1.len, List.length_map]
    have h8 := ok.h.l8
    refine ⟨_, pss_cons (ps_if (pt_not (pt_val (pe_cl Wh hr (by decide) (by rfl) (pa_cons (pv 1) (pa_cons pe_int (pa_cons (pe_glob (v := .int 30) rfl hD ⟨_, rfl⟩) pa_nil)))))) (pss_one ps_never) pss_nil)
      (pss_cons (ps_if (pt_not (pt_val (pe_cl Hs hr (by decide) (by rfl) (pa_cons (pv 2) pa_nil)))) (pss_one ps_never) pss_nil)
      (pss_cons (ps_setLc (i := 5) (own := [("row", 6)]) (g := gName 6) (tt := tYes) (te := tOp (rIxT K) (tVar 6) (tC (.int 0))) rfl scYI.nd rfl rfl (sw_true rfl rfl rfl (by decide +kernel)) (pi_list (pv 2)) (blkOk_by (N := nYI) (sc := defScope sYI) (by decide +kernel))
        (fun _ _ _ _ _ => pg_name (i := 6) scYI.nd rfl (Or.inl rfl)) (fun _ _ _ _ _ => pts_nil) (fun _ _ _ _ _ => pe_ix ix_tup (pv 6) pe_int (fun _ _ => rfl)))
      (pss_cons (ps_if (pt_not (pt_val (pe_cl Li hr (by decide) (by rfl) (pa_cons (pv 3) (pa_cons (pv 1) (pa_cons (pv 5) pa_nil)))))) (pss_one ps_never) pss_nil)
      (pss_cons (ps_if (pt_not (pt_val (pe_cl Ru hr (by decide) (by rfl) (pa_cons (pv 4) (pa_cons (pv 1) (pa_cons (pv 5) pa_nil)))))) (pss_one ps_never) pss_nil)
      (pss_cons (ps_fld (pv 0) (pv 1) rfl)
      (pss_cons (ps_fld (pv 0) (pe_callTy call_list_of (by rfl) B.list (by decide +kernel) (pa_cons (pv 2) pa_nil)) rfl)
      (pss_cons (ps_fld (pv 0) (pe_callTy call_list_of (by rfl) B.list (by decide +kernel) (pa_cons (pv 3) pa_nil)) rfl)
      (pss_one (ps_fld (pv 0) (pe_callTy call_list_of (by rfl) B.list (by decide +kernel) (pa_cons (pv 4) pa_nil)) rfl))))))))), ?_⟩
    refine ⟨_, rfl, _, _, _, rfl, _, rfl, ?_⟩
    rw [decide_eq_true ok.d]
    refine iteF ⟨_, rfl, lh, th, y.hs, rfl, r1, ok.h, fun H1 s1 => ⟨_, rfl, iteF ?_⟩⟩
    have r1' := r1.same s1
    refine ⟨_, rfl, lh, rfl, ⟨_, SqL.of r1'.1⟩, fun D2 hD2 => lc_it (walk_list (xs := th.map V.ref)) (fun i H' => H' = upd H1 D2 (.lst (((nms y.hs).take i).map V.str))) rfl (fun i H' _ e => by rw [e]; exact SqL.of (same_new hD2 _ _ r1'.1)) ?_ ?_⟩
    · rintro i v H2 H3 hi rfl ⟨rfl, hv⟩
      obtain ⟨t, r, rfl, hr1, ht, hti⟩ := row_get r1' hv
      refine ⟨rfl, yes (iteT ⟨_, rfl, t, _, 0, .str r.1, rfl, rfl, SqT.of (same_new hD2 _ _ ht), rfl, _, upd_same, ?_, ?_⟩)⟩
      · rw [List.length_map, List.length_take]
        rw [List.length_map, thl] at hi
        omega
      · rw [upd_upd, take_more (nms_get hr1), List.map_append]
        rfl
    · rintro H2 rfl
      have el : (nms y.hs).take (th.map V.ref).length = nms y.hs := List.take_of_length_le (by unfold nms; rw [List.length_map, List.length_map, thl]; exact Nat.le_refl _)
      rw [el]
      have s2 : Same H (upd H1 D2 (.lst ((nms y.hs).map V.str))) := s1.trans (same_new hD2)
      have hn2 : upd H1 D2 (.lst ((nms y.hs).map V.str)) D2 = some (.lst ((nms y.hs).map V.str)) := upd_same
      generalize upd H1 D2 (.lst ((nms y.hs).map V.str)) = H2 at s2 hn2
      refine ⟨_, rfl, _, rfl, _, rfl, ll, D2, tl, y.days, nms y.hs, y.ls, rfl, r2.same s2, hn2, ok.l, ok.l6, fun H3 s3 => ⟨_, rfl, iteF ?_⟩⟩
      have s3' := s2.trans s3
      refine ⟨_, rfl, _, rfl, _, rfl, lr, D2, tr, y.days, nms y.hs, y.rs, rfl, r3.same s3', s3 _ _ hn2, ok.r, ok.r4, (by unfold nms; rw [List.length_map]; exact h8), ok.one, fun H4 s4 => ⟨_, rfl, iteF ?_⟩⟩
      have s5 := s3'.trans s4
      have q1 := r1.same s5
      have q2 := r2.same s5
      have q3 := r3.same s5
      have hp4 := s5 _ _ hp
      have e12 : ("days" : Str) ≠ "heads" := by decide +kernel
      have e13 : ("days" : Str) ≠ "limits" := by decide +kernel
      have e14 : ("days" : Str) ≠ "rules" := by decide +kernel
      have e23 : ("heads" : Str) ≠ "limits" := by decide +kernel
      have e24 : ("heads" : Str) ≠ "rules" := by decide +kernel
      have e34 : ("limits" : Str) ≠ "rules" := by decide +kernel
      have np : ∀ {a : Addr} {o : HO} {H : Hp}, H a = some o → (∀ C dx fs, o ≠ .ins C dx fs) → ∀ {dx fs}, H p = some (.ins C dx fs) → a ≠ p := fun e n _ _ h z => by
        subst z
        rw [e] at h
        exact n _ _ _ (Option.some.inj h)
      refine ⟨_, rfl, _, rfl, p, C, dx, _, rfl, hp4, T.cl, T.nd, (by show 0 < 1000; decide), ?_⟩
      rw [put1]
      have keepP : ∀ {H' : Hp} {o : HO}, (∀ b u, H b = some u → b ≠ p → H' b = some u) → ∀ b u, H b = some u → b ≠ p → upd H' p o b = some u := fun kk b u e hb => by rw [upd_ne hb]; exact kk b u e hb
      have k5 : ∀ b u, H b = some u → b ≠ p → upd H4 p (.ins C dx [("days", .int y.days)]) b = some u := keepP fun b u e _ => s5 b u e
      have lhp : lh ≠ p := np q1.1 (fun _ _ _ z => nomatch z) hp4
      have llp : ll ≠ p := np q2.1 (fun _ _ _ z => nomatch z) hp4
      have lrp : lr ≠ p := np q3.1 (fun _ _ _ z => nomatch z) hp4
      have hp5 : upd H4 p (.ins C dx [("days", .int y.days)]) p = some (.ins C dx [("days", .int y.days)]) := upd_same
      generalize upd H4 p (.ins C dx [("days", .int y.days)]) = H5 at k5 hp5
      refine ⟨_, rfl, lh, _, rfl, .inl (SqL.of (k5 _ _ r1.1 lhp)), fun l1 hl1 => ?_⟩
      have p1 : p ≠ l1 := ne_of_none hp5 hl1
      refine ⟨_, rfl, p, C, dx, _, rfl, (by rw [upd_ne p1]; exact hp5), T.cl, T.nh, (by show 1 < 1000; decide), ?_⟩
      rw [put2 e12]
      have n1 : H l1 = none := by
        cases z : H l1 with
        | none => rfl
        | some o => have := k5 _ _ z p1.symm; rw [hl1] at this; cases this
      have k6 : ∀ b u, H b = some u → b ≠ p → upd (upd H5 l1 (.lst (th.map V.ref))) p (.ins C dx [("days", .int y.days), ("heads", .ref l1)]) b = some u := keepP fun b u e hb => by
        rw [upd_ne (ne_of_none e n1)]; exact k5 b u e hb
      have hp6 : upd (upd H5 l1 (.lst (th.map V.ref))) p (.ins C dx [("days", .int y.days), ("heads", .ref l1)]) p = some (.ins C dx [("days", .int y.days), ("heads", .ref l1)]) := upd_same
      have g1 : upd (upd H5 l1 (.lst (th.map V.ref))) p (.ins C dx [("days", .int y.days), ("heads", .ref l1)]) l1 = some (.lst (th.map V.ref)) := by rw [upd_ne p1.symm]; exact upd_same
      generalize upd (upd H5 l1 (.lst (th.map V.ref))) p (.ins C dx [("days", .int y.days), ("heads", .ref l1)]) = H6 at k6 hp6 g1
      refine ⟨_, rfl, ll, _, rfl, .inl (SqL.of (k6 _ _ r2.1 llp)), fun l2 hl2 => ?_⟩
      have p2 : p ≠ l2 := ne_of_none hp6 hl2
      have l12 : l1 ≠ l2 := ne_of_none g1 hl2
      refine ⟨_, rfl, p, C, dx, _, rfl, (by rw [upd_ne p2]; exact hp6), T.cl, T.nl, (by show 2 < 1000; decide), ?_⟩
      rw [put3 e13 e23]
      have n2 : H l2 = none := by
        cases z : H l2 with
        | none => rfl
        | some o => have := k6 _ _ z p2.symm; rw [hl2] at this; cases this
      have k7 : ∀ b u, H b = some u → b ≠ p → upd (upd H6 l2 (.lst (tl.map V.ref))) p (.ins C dx [("days", .int y.days), ("heads", .ref l1), ("limits", .ref l2)]) b = some u := keepP fun b u e hb => by
        rw [upd_ne (ne_of_none e n2)]; exact k6 b u e hb
      have hp7 : upd (upd H6 l2 (.lst (tl.map V.ref))) p (.ins C dx [("days", .int y.days), ("heads", .ref l1), ("limits", .ref l2)]) p = some (.ins C dx [("days", .int y.days), ("heads", .ref l1), ("limits", .ref l2)]) := upd_same
      have g2 : upd (upd H6 l2 (.lst (tl.map V.ref))) p (.ins C dx [("days", .int y.days), ("heads", .ref l1), ("limits", .ref l2)]) l2 = some (.lst (tl.map V.ref)) := by rw [upd_ne p2.symm]; exact upd_same
      have g1' : upd (upd H6 l2 (.lst (tl.map V.ref))) p (.ins C dx [("days", .int y.days), ("heads", .ref l1), ("limits", .ref l2)]) l1 = some (.lst (th.map V.ref)) := by rw [upd_ne p1.symm, upd_ne l12]; exact g1
      generalize upd (upd H6 l2 (.lst (tl.map V.ref))) p (.ins C dx [("days", .int y.days), ("heads", .ref l1), ("limits", .ref l2)]) = H7 at k7 hp7 g2 g1'
      refine ⟨_, rfl, lr, _, rfl, .inl (SqL.of (k7 _ _ r3.1 lrp)), fun l3 hl3 => ?_⟩
      have p3 : p ≠ l3 := ne_of_none hp7 hl3
      refine ⟨_, rfl, p, C, dx, _, rfl, (by rw [upd_ne p3]; exact hp7), T.cl, T.nr, (by show 3 < 1000; decide), ?_⟩
      rw [put4 e14 e24 e34]
      have n3 : H l3 = none := by
        cases z : H l3 with
        | none => rfl
        | some o => have := k7 _ _ z p3.symm; rw [hl3] at this; cases this
      have k8 : ∀ b u, H b = some u → b ≠ p → upd (upd H7 l3 (.lst (tr.map V.ref))) p (.ins C dx [("days", .int y.days), ("heads", .ref l1), ("limits", .ref l2), ("rules", .ref l3)]) b = some u := keepP fun b u e hb => by
        rw [upd_ne (ne_of_none e n3)]; exact k7 b u e hb
      have tk : ∀ b r, H b = some (.tup r) → upd (upd H7 l3 (.lst (tr.map V.ref))) p (.ins C dx [("days", .int y.days), ("heads", .ref l1), ("limits", .ref l2), ("rules", .ref l3)]) b = some (.tup r) := fun b r e => k8 b _ e (np e (fun _ _ _ z => nomatch z) hp)
      refine k _ l1 l2 l3 upd_same ⟨?_, paired_mono tk r1.2⟩ ⟨?_, paired_mono tk r2.2⟩ ⟨?_, paired_mono tk r3.2⟩ n1 n2 n3 k8
      · rw [upd_ne p1.symm, upd_ne (ne_of_none g1' hl3)]; exact g1'
      · rw [upd_ne p2.symm, upd_ne (ne_of_none g2 hl3)]; exact g2
      · rw [upd_ne p3.symm]; exact upd_same
end
end KP
namespace KP
open PySem L2
section
variable {P : Program} {w : World} {K : PySem.W.Frag} {mg : Str → Option Value} {base : Heap} {C : Addr}
theorem scYN : FnScope ["self", "row"] ["self"] (defScope sYN) := ⟨rfl, rfl, rfl, by decide +kernel, rfl, by decide +kernel, by decide +kernel⟩
theorem c_yn (T : YearF K mg C) (D : MethT K C "names" "Year.names" sYN ["self"]) : MetT P w K mg base 1 C "names" (spYN C) := by
  obtain ⟨f, fd, M, F, b⟩ := D.ex
  refine ⟨f, fd, _, T.cl, M, F.ok scYN (fun vs H Q E h => ?_) (fun cdv A outer s H vs Q E hr h => ?_), b⟩
  · obtain ⟨p, y, rfl, _⟩ := h
    rfl
  · obtain ⟨p, y, rfl, hy, h8, k⟩ := h
    obtain ⟨dx, l1, l2, l3, t1, t2, t3, hp, r1, r2, r3, _⟩ := hy.ex
    have hz : sizeLine = 16777216 := by decide
    have thl : t1.length = y.hs.length := by rw [r1.len, List.length_map]
    refine ⟨_, pss_one (ps_ret (pe_lc (own := [("row", 1)]) (g := gName 1) (tt := tYes) (te := tOp (rIxT K) (tVar 1) (tC (.int 0))) rfl scYN.nd (pi_list (pe_fld (pv 0) rfl)) (blkOk_by (N := ["self", "row"]) (sc := defScope sYN) (by decide +kernel))
        (fun _ _ _ _ _ => pg_name (i := 1) scYN.nd rfl (Or.inl rfl)) (fun _ _ _ _ _ => pts_nil) (fun _ _ _ _ _ => pe_ix ix_tup (pv 1) pe_int (fun _ _ => rfl)))), ?_⟩
    refine ⟨_, rfl, p, C, dx, _, _, rfl, hp, T.cl, T.nh, rfl, l1, rfl, ⟨_, SqL.of r1.1⟩, fun D2 hD2 => lc_it (walk_list (xs := t1.map V.ref)) (fun i H' => H' = upd H D2 (.lst (((nms y.hs).take i).map V.str))) rfl (fun i H' _ e => by rw [e]; exact SqL.of (same_new hD2 _ _ r1.1)) ?_ ?_⟩
    · rintro i v H2 H3 hi rfl ⟨rfl, hv⟩
      obtain ⟨t, r, rfl, hr1, ht, hti⟩ := row_get r1 hv
      refine ⟨rfl, yes (iteT ⟨_, rfl, t, _, 0, .str r.1, rfl, rfl, SqT.of (same_new hD2 _ _ ht), rfl, _, upd_same, ?_, ?_⟩)⟩
      · rw [List.length_map, List.length_take]
        rw [List.length_map, thl] at hi
        omega
      · rw [upd_upd, take_more (nms_get hr1), List.map_append]
        rfl
    · rintro H2 rfl
      have el : (nms y.hs).take (t1.map V.ref).length = nms y.hs := List.take_of_length_le (by unfold nms; rw [List.length_map, List.length_map, thl]; exact Nat.le_refl _)
      rw [el]
      exact k D2 hD2
theorem scYA : FnScope ["self", "name", "head", "upper"] ["self", "name"] (defScope sYA) := ⟨rfl, rfl, rfl, by decide +kernel, rfl, by decide +kernel, by decide +kernel⟩
theorem c_ya (T : YearF K mg C) (D : MethT K C "above" "Year.above" sYA ["self", "name"]) : MetT P w K mg base 1 C "above" (spYA C) := by
  obtain ⟨f, fd, M, F, b⟩ := D.ex
  refine ⟨f, fd, _, T.cl, M, F.ok scYA (fun vs H Q E h => ?_) (fun cdv A outer s H vs Q E hr h => ?_), b⟩
  · obtain ⟨p, y, x, rfl, _⟩ := h
    rfl
  · obtain ⟨p, y, x, rfl, hy, Vh, hx, k⟩ := h
    obtain ⟨dx, l1, l2, l3, t1, t2, t3, hp, r1, r2, r3, _⟩ := hy.ex
    have thl : t1.length = y.hs.length := by rw [r1.len, List.length_map]
    refine ⟨_, pss_cons (ps_for PassesOwn.never rfl (pi_list (pe_fld (pv 0) rfl)) (pg_tup rfl (pgs_cons (pg_name (i := 2) scYA.nd rfl (Or.inl rfl)) (pgs_cons (pg_name (i := 3) scYA.nd rfl (Or.inl rfl)) pgs_nil)))
        (pss_one (ps_if (pt_cmpR op_eq (pv 2) (pv 1) (nomark _)) (pss_one (ps_ret (pv 3))) pss_nil))) (pss_one ps_never), ?_⟩
    refine ⟨_, rfl, p, C, dx, _, _, rfl, hp, T.cl, T.nh, rfl, l1, rfl, ⟨_, SqL.of r1.1⟩, for_list (K := K) (a := l1) (xs := t1.map V.ref) (fun i σ H' => ∃ (v2 v3 : Option V), σ = [some (.ref p), some (.str x), v2, v3] ∧ H' = H ∧ ∀ j, j < i → (nms y.hs)[j]? ≠ some x)
      ⟨none, none, rfl, rfl, fun j hj => absurd hj (Nat.not_lt_zero _)⟩ (fun i σ H' _ ⟨_, _, _, e, _⟩ => by rw [e]; exact SqL.of r1.1) ?_ ?_⟩
    · rintro i v σ H1 hi ⟨v2, v3, rfl, rfl, hj⟩
      obtain ⟨t, r, rfl, hr1, ht, hti⟩ := row_get r1 hi
      refine ⟨t, _, rfl, SqT.of ht, rfl, _, _, rfl, _, _, rfl, rfl, ?_⟩
      refine ⟨_, rfl, _, rfl, rfl, _, rfl, ite2 (fun c => ?_) (fun c => ?_)⟩
      · have e : r.1 = x := by have := of_decide_eq_true c; injection this
        have e2 := up_at Vh.nd hr1
        rw [e] at e2
        rw [e2] at k
        exact ⟨_, rfl, k⟩
      · refine ⟨_, _, rfl, rfl, fun j hji => ?_⟩
        by_cases hje : j = i
        · subst hje
          rw [nms_get hr1]
          intro z
          exact c (decide_eq_true (by rw [Option.some.inj z]))
        · exact hj j (by omega)
    · rintro σ H1 ⟨v2, v3, rfl, rfl, hj⟩
      obtain ⟨i, hi⟩ := List.mem_iff_getElem?.mp hx
      have hlt := (List.getElem?_eq_some_iff.mp hi).1
      exact absurd hi (hj i (by unfold nms at hlt; rw [List.length_map] at hlt ⊢; omega))
theorem scYK : FnScope ["self", "name", "upper", "found"] ["self", "name"] (defScope sYK) := ⟨rfl, rfl, rfl, by decide +kernel, rfl, by decide +kernel, by decide +kernel⟩
theorem c_yk (T : YearF K mg C) (Ab : MetT P w K mg base 1 C "above" (spYA C)) (D : MethT K C "knots" "Year.knots" sYK ["self", "name"]) : MetT P w K mg base 2 C "knots" (spYK C) := by
  obtain ⟨f, fd, M, F, b⟩ := D.ex
  refine ⟨f, fd, _, T.cl, M, F.ok scYK (fun vs H Q E h => ?_) (fun cdv A outer s H vs Q E hr h => ?_), b⟩
  · obtain ⟨p, y, x, rfl, _⟩ := h
    rfl
  · obtain ⟨p, y, x, rfl, hy, Vh, hx, k⟩ := h
    obtain ⟨dx, l1, l2, l3, t1, t2, t3, hp, _⟩ := hy.ex
    have hz : sizeLine = 16777216 := by decide
    have nf : (yf y.days l1 l2 l3).lookup ("above" : Str) = none := yf_no (by decide +kernel) (by decide +kernel) (by decide +kernel) (by decide +kernel)
    refine ⟨_, pss_cons (ps_set (i := 2) scYK.nd rfl (Or.inl rfl) (pe_mtT Ab hr (by decide) (pv 0) (pa_cons (pv 1) pa_nil)))
      (pss_cons (ps_set (i := 3) scYK.nd rfl (Or.inl rfl) (pe_lst (pa_cons (pv 1) pa_nil)))
      (pss_cons (ps_while PassesOwn.never (pt_cmpR op_ne (pv 2) pe_str (nomark _))
        (pss_cons (ps_expr (pe_bm PySem.F.plainAttrs_list PySem.F.slot_list_append PySem.F.type_list_append mt_append (pv 3) (pa_cons (pv 2) pa_nil)))
        (pss_one (ps_set (i := 2) scYK.nd rfl (Or.inl rfl) (pe_mtT Ab hr (by decide) (pv 0) (pa_cons (pv 2) pa_nil))))))
      (pss_one (ps_ret (pv 3))))), ?_⟩
    refine ⟨_, rfl, p, dx, _, rfl, hp, nf, _, rfl, p, y, x, rfl, hy, Vh, hx, ?_⟩
    refine ⟨_, rfl, (by show 1 ≤ sizeLine; decide), fun G hG => ?_⟩
    have hy1 : ∀ xs : List V, YearAt C [] (upd H G (.lst xs)) p y := fun xs => hy.same (same_new hG)
    have hp1 : ∀ xs : List V, (upd H G (.lst xs)) p = some (.ins C dx (yf y.days l1 l2 l3)) := fun xs => same_new hG _ _ hp
    refine while_by (fun σ H' => ∃ (u : Str) (xs : List Str), σ = [some (.ref p), some (.str x), some (.str u), some (.ref G)] ∧ H' = upd H G (.lst (xs.map V.str)) ∧ xs ++ kn y.hs u = kn y.hs x ∧ (u = "" ∨ u ∈ nms y.hs))
      (fun σ _ => match σ with | [_, _, some (.str u), _] => rk y.hs u | _ => 0) ?_ ?_ ?_
    · refine ⟨up y.hs x, [x], rfl, rfl, ?_, (up_ok Vh hx).2⟩
      rw [kn_step Vh hx]; rfl
    · rintro σ H1 ⟨u, xs, rfl, rfl, he, hu⟩
      have hl : xs.length ≤ 8 := by
        have h1 := kn_len Vh x
        rw [← he, List.length_append] at h1
        omega
      refine ⟨_, rfl, rfl, _, rfl, ite2 (fun c => ?_) (fun c => ?_)⟩
      · have une : u ≠ "" := fun z => by rw [z] at c; exact absurd c (by decide +kernel)
        have hm : u ∈ nms y.hs := by
          rcases hu with z | z
          · exact absurd z une
          · exact z
        refine ⟨_, rfl, .inl ⟨rfl, _, SqL.of upd_same⟩, _, rfl, G, _, _, rfl, rfl, upd_same, (by rw [List.length_map]; omega), ?_⟩
        rw [upd_upd]
        refine ⟨_, rfl, p, dx, _, rfl, hp1 _, nf, _, rfl, p, y, u, rfl, hy1 _, Vh, hm, ?_⟩
        refine ⟨⟨up y.hs u, xs ++ [u], rfl, by rw [List.map_append]; rfl, ?_, (up_ok Vh hm).2⟩, (up_ok Vh hm).1⟩
        rw [← he, kn_step Vh hm, List.append_assoc]
        rfl
      · have ue : u = "" := by
          by_cases z : u = ""
          · exact z
          · exfalso
            apply c
            rw [decide_eq_false (fun q : V.str u = V.str "" => z (by injection q))]
            rfl
        subst ue
        rw [kn_nil, List.append_nil] at he
        rw [he]
        exact ⟨_, rfl, k G hG⟩
    · intro σ H1 Q1 Q2 hq h
      obtain ⟨v, e, h1, b, e2, h2⟩ := h
      exact ⟨v, e, h1, b, e2, hq _ _ h2⟩
theorem scYU : FnScope ["self", "name", "head"] ["self", "name"] (defScope sYU) := ⟨rfl, rfl, rfl, by decide +kernel, rfl, by decide +kernel, by decide +kernel⟩
theorem c_yu (T : YearF K mg C) (Ab : MetT P w K mg base 1 C "above" (spYA C)) (Nm : MetT P w K mg base 1 C "names" (spYN C)) (Kn : MetT P w K mg base 2 C "knots" (spYK C)) (D : MethT K C "under" "Year.under" sYU ["self", "name"]) : MetT P w K mg base 3 C "under" (spYU C) := by
  obtain ⟨f, fd, M, F, b⟩ := D.ex
  refine ⟨f, fd, _, T.cl, M, F.ok scYU (fun vs H Q E h => ?_) (fun cdv A outer s H vs Q E hr h => ?_), b⟩
  · obtain ⟨p, y, x, rfl, _⟩ := h
    rfl
  · obtain ⟨p, y, x, rfl, hy, Vh, hx, k⟩ := h
    obtain ⟨dx, l1, l2, l3, t1, t2, t3, hp, _⟩ := hy.ex
    have hz : sizeLine = 16777216 := by decide
    have nf1 : (yf y.days l1 l2 l3).lookup ("above" : Str) = none := yf_no (by decide +kernel) (by decide +kernel) (by decide +kernel) (by decide +kernel)
    have nf2 : (yf y.days l1 l2 l3).lookup ("names" : Str) = none := yf_no (by decide +kernel) (by decide +kernel) (by decide +kernel) (by decide +kernel)
    have nf3 : (yf y.days l1 l2 l3).lookup ("knots" : Str) = none := yf_no (by decide +kernel) (by decide +kernel) (by decide +kernel) (by decide +kernel)
    refine ⟨_, pss_cons (ps_expr (pe_mtT Ab hr (by decide) (pv 0) (pa_cons (pv 1) pa_nil)))
      (pss_one (ps_ret (pe_lc (own := [("head", 2)]) (g := gName 2) (tt := tTest (tOp (rIn K false) (tVar 1) (tMeth C "knots" (spYK C) [] E0 (tVar 0) (tCons (tVar 2) tNil)))) rfl scYU.nd (pi_list (pe_mtT0 Nm hr (by decide) (pv 0))) (blkOk_by (N := ["self", "name", "head"]) (sc := defScope sYU) (by decide +kernel))
        (fun _ _ _ _ _ => pg_name (i := 2) scYU.nd rfl (Or.inl rfl)) (fun _ _ _ _ _ => pts_one (pt_cmpR op_in_seq (pv 1) (pe_mtT Kn hr (by decide) (pv 0) (pa_cons (pv 2) pa_nil)) rfl)) (fun _ _ _ _ _ => pv 2)))), ?_⟩
    refine ⟨_, rfl, p, dx, _, rfl, hp, nf1, _, rfl, p, y, x, rfl, hy, Vh, hx, ?_⟩
    refine ⟨_, rfl, p, dx, _, rfl, hp, nf2, p, y, rfl, hy, Vh.l8, fun q hq => ?_⟩
    have sq : Same H (upd H q (.lst ((nms y.hs).map V.str))) := same_new hq
    have hq1 : upd H q (.lst ((nms y.hs).map V.str)) q = some (.lst ((nms y.hs).map V.str)) := upd_same
    generalize upd H q (.lst ((nms y.hs).map V.str)) = H1 at sq hq1
    refine ⟨q, rfl, ⟨_, SqL.of hq1⟩, fun D2 hD2 => lc_it (walk_list (xs := (nms y.hs).map V.str)) (fun i H' => Same H1 H' ∧ H' D2 = some (.lst ((((nms y.hs).take i).filter fun h => decide (x ∈ kn y.hs h)).map V.str))) ⟨same_new hD2, upd_same⟩ (fun i H' _ e => SqL.of (e.1 _ _ hq1)) ?_ ?_⟩
    · rintro i v H2 H3 hi ⟨s2, d2⟩ ⟨rfl, hv⟩
      obtain ⟨z, hz2, rfl⟩ : ∃ z, (nms y.hs)[i]? = some z ∧ v = V.str z := by
        rw [List.getElem?_map] at hv
        cases e : (nms y.hs)[i]? with
        | none => rw [e] at hv; cases hv
        | some z => rw [e] at hv; exact ⟨z, rfl, (Option.some.inj hv).symm⟩
      have hzm : z ∈ nms y.hs := List.mem_of_getElem? hz2
      have hi8 : i < 8 := by
        have h8 := Vh.l8
        rw [List.length_map] at hi
        unfold nms at hi
        rw [List.length_map] at hi
        omega
      have s3 := sq.trans s2
      refine ⟨rfl, _, rfl, _, rfl, p, dx, _, rfl, s3 _ _ hp, nf3, _, rfl, p, y, z, rfl, hy.same s3, Vh, hzm, fun u hu => ?_⟩
      have sm : Same H1 (upd H3 u (.lst ((kn y.hs z).map V.str))) := s2.trans (same_new hu)
      have d3 : upd H3 u (.lst ((kn y.hs z).map V.str)) D2 = some (.lst ((((nms y.hs).take i).filter fun h => decide (x ∈ kn y.hs h)).map V.str)) := same_new hu _ _ d2
      refine ⟨u, _, rfl, .inl (SqL.of upd_same), rfl, flat_strs, _, rfl, ?_⟩
      show if (inV (.str x) ((kn y.hs z).map V.str)) = true then _ else _
      rw [inV_str]
      have et := take_more hz2
      refine ite2 (fun c => ?_) (fun c => ?_)
      · refine ⟨_, rfl, _, d3, ?_, ?_, ?_⟩
        · have h1 : (((nms y.hs).take i).filter fun h => decide (x ∈ kn y.hs h)).length ≤ ((nms y.hs).take i).length := List.length_filter_le _ _
          rw [List.length_map]
          rw [List.length_take] at h1
          omega
        · intro b o e
          rw [upd_ne (ne_of_none e hD2)]
          exact sm _ _ e
        · rw [upd_same, et, List.filter_append, List.map_append, List.filter_cons, if_pos c]
          rfl
      · refine ⟨sm, ?_⟩
        rw [d3, et, List.filter_append, List.filter_cons, if_neg c]
        simp
    · rintro H2 ⟨s2, d2⟩
      rw [List.length_map, List.take_length] at d2
      exact k D2 H2 (sq.trans s2) (sq.free hD2) d2
end
end KP
namespace KP
open PySem L2
theorem cut_take {xs : List V} {k : Int} (h : 0 ≤ k) : cutV xs none (some k) = xs.take k.toNat := by
  obtain ⟨j, rfl⟩ : ∃ j : Nat, k = (j : Int) := ⟨k.toNat, by omega⟩
  unfold cutV
  rw [HT.sIx_none, HT.sIx_nat, List.drop_zero, Nat.sub_zero, Int.toNat_natCast]
  by_cases hj : j ≤ xs.length
  · rw [Nat.min_eq_left hj]
  · rw [Nat.min_eq_right (by omega), List.take_of_length_le (Nat.le_refl _), List.take_of_length_le (by omega)]
theorem free_ofB {a q : Addr} {H H1 : Hp} (w : WellAt H1 a) (s : SameB a H H1) (h : H1 q = none) : H q = none := by
  cases e : H q with
  | none => rfl
  | some o =>
    by_cases hq : q = a
    · subst hq
      obtain ⟨x, y, z, e1⟩ := w
      rw [h] at e1; cases e1
    · have := s q o e hq
      rw [h] at this; cases this
theorem paired_B {a : Addr} {H H' : Hp} {x y z : Int} (hw : H a = some (.lst [.int x, .int y, .int z])) (s : SameB a H H') {ts : List Addr} {rows : List (List V)} (p : Paired (fun t r => H t = some (.tup r)) ts rows) : Paired (fun t r => H' t = some (.tup r)) ts rows :=
  paired_mono (fun b r e => s b _ e (ne_of e hw (fun z => nomatch z))) p
theorem RowsAt.keepB {a : Addr} {H H' : Hp} {l : Addr} {ts : List Addr} {rows : List (List V)} (h : RowsAt H l ts rows) (wl : WellAt H a) (s : SameB a H H') (hl : l ≠ a) : RowsAt H' l ts rows := by
  obtain ⟨x, y, z, hw⟩ := wl
  exact ⟨s _ _ h.1 hl, paired_B hw s h.2⟩
abbrev sLHeads : Stmt := top 41
abbrev sLLimits : Stmt := top 42
abbrev sLRules : Stmt := top 43
abbrev sLParts : Stmt := top 44
def spLHeads : Sp := fun vs H Q _ => ∃ a : Addr, vs = [.ref a] ∧ WellAt H a ∧ ∀ (q : Addr) (ts : List Addr) (hs : List Hd) (H' : Hp), VH hs → RowsAt H' q ts (hs.map hv) → H q = none → WellAt H' a → SameB a H H' → Q (.ref q) H'
def spLLimits : Sp := fun vs H Q _ => ∃ (a lh : Addr) (th : List Addr) (hs : List Hd) (d : Int), vs = [.ref a, .ref lh, .int d] ∧ WellAt H a ∧ RowsAt H lh th (hs.map hv) ∧ lh ≠ a ∧ VH hs ∧ 1 ≤ d ∧ d ≤ 30 ∧
  ∀ (q : Addr) (ts : List Addr) (ls : List Rw4) (H' : Hp), (∀ r ∈ ls, LimOk d (nms hs) r) → ls.length ≤ 6 → RowsAt H' q ts (ls.map rv) → H q = none → WellAt H' a → SameB a H H' → Q (.ref q) H'
section
variable {P : Program} {w : World} {K : PySem.W.Frag} {mg : Str → Option Value} {base : Heap}
abbrev nLHeads : List Str := ["_law_well_here", "_law_names_here", "_law_found", "_law_k"]
theorem scLHeads : FnScope nLHeads ["_law_well_here"] (defScope sLHeads) := ⟨rfl, rfl, rfl, by decide +kernel, rfl, by decide +kernel, by decide +kernel⟩
theorem c_lheads (B : Base K mg) (Dr : Cal P w K mg base 1 "_law_draw" spDraw) (Ns : Cal P w K mg base 3 "_law_names" spNames) (D : DefT K mg "_law_heads" sLHeads ["_law_well_here"]) : Cal P w K mg base 4 "_law_heads" spLHeads := by
  refine cal D scLHeads (fun vs H Q E h => ?_) (fun f cdv A outer s H vs Q E hr h => ?_)
  · obtain ⟨a, rfl, _⟩ := h
    rfl
  · obtain ⟨a, rfl, ha, k⟩ := h
    have hz : sizeLine = 16777216 := by decide
    refine ⟨_, pss_cons (ps_set (i := 1) scLHeads.nd rfl (Or.inl rfl) (pe_cl Ns hr (by decide) (by rfl) (pa_cons (pv 0) (pa_cons (pe_ix ix_list (pe_lst (pa_cons (pe_op op_add pe_int (pe_cl Dr hr (by decide) (by rfl) (pa_cons (pv 0) (pa_cons pe_int pa_nil)))) (pa_cons pe_int pa_nil)))
        (pe_op op_fdiv (pe_cl Dr hr (by decide) (by rfl) (pa_cons (pv 0) (pa_cons pe_int pa_nil))) pe_int) (fun _ _ => rfl)) pa_nil))))
      (pss_cons (ps_set (i := 2) scLHeads.nd rfl (Or.inl rfl) (pe_lst pa_nil))
      (pss_cons (ps_for PassesOwn.never rfl (pi_range1 (by rfl) B.range (pa_cons (pe_callB call_len_seq (by rfl) B.len PySem.boot_len (pa_cons (pv 1) pa_nil)) pa_nil)) (pg_name (i := 3) scLHeads.nd rfl (Or.inl rfl))
        (pss_one (ps_expr (pe_bm PySem.F.plainAttrs_list PySem.F.slot_list_append PySem.F.type_list_append mt_append (pv 2) (pa_cons (pe_tup (pa_cons (pe_ix ix_list (pv 1) (pv 3) (fun _ _ => rfl))
          (pa_cons (pe_ix ix_list (pe_op op_cat (pe_lst (pa_cons pe_str pa_nil)) (pe_slice sl_list (pv 1) po_none (po_some (pv 3)))) (pe_cl Dr hr (by decide) (by rfl) (pa_cons (pv 0) (pa_cons (pe_op op_add (pv 3) pe_int) pa_nil))) (fun _ _ => rfl)) pa_nil))) pa_nil)))))
      (pss_one (ps_ret (pv 2))))), ?_⟩
    refine ⟨_, rfl, _, rfl, a, 8, rfl, ha, by decide, by decide, fun r1 H1 r10 r11 w1 s1 => ⟨_, _, rfl, rfl, (by show 2 ≤ sizeLine; decide), fun l hl => ?_⟩⟩
    refine ⟨_, rfl, a, 4, rfl, w1.new hl, by decide, by decide, fun r2 H2 r20 r21 w2 s2 => ⟨_, _, rfl, rfl, ⟨by decide, by decide⟩, ?_⟩⟩
    have hl2 := s2 l _ upd_same (w1.ne hl).symm
    have s2' : SameB a H H2 := (s1.trans (SameB.of (same_new hl))).trans s2
    obtain ⟨m, hm, hat⟩ : ∃ m : Nat, (1 ≤ m ∧ m ≤ 8) ∧ atI [V.int (1 + r1), V.int 8] (r2 / 3) = some (.int (m : Int)) := by
      rcases (by omega : r2 / 3 = 0 ∨ r2 / 3 = 1) with e | e
      · rw [e]; exact ⟨(1 + r1).toNat, by omega, by rw [show (((1 + r1).toNat : Nat) : Int) = 1 + r1 by omega]; rfl⟩
      · rw [e]; exact ⟨8, by omega, rfl⟩
    refine ⟨l, _, _, _, rfl, rfl, SqL.of hl2, hat, a, m, rfl, w2, hm.2, fun p xs H3 xl xw xn np hp w3 s3 => ?_⟩
    have s3' : SameB a H H3 := s2'.trans s3
    refine ⟨(by show 0 ≤ sizeLine; decide), fun G hG => ?_⟩
    have aG : a ≠ G := w3.ne hG
    have pa : p ≠ a := fun z => by subst z; obtain ⟨_, _, _, e⟩ := w2; rw [np] at e; cases e
    have pG : p ≠ G := ne_of_none hp hG
    refine ⟨_, rfl, p, _, rfl, .inl (SqL.of (same_new hG _ _ hp)), _, rfl, by omega, by rw [List.length_map]; omega, for_range (lo := 0) (n := (((xs.map V.str).length : Nat) : Int).toNat)
      (fun i σ H' => ∃ (v3 : Option V) (ts : List Addr) (hs : List Hd), σ = [some (.ref a), some (.ref p), some (.ref G), v3] ∧ hs.length = i ∧ nms hs = xs.take i ∧ (∀ (j : Nat) (r : Hd), hs[j]? = some r → r.2 = "" ∨ ∃ j', j' < j ∧ xs[j']? = some r.2) ∧ RowsAt H' G ts (hs.map hv) ∧ H' p = some (.lst (xs.map V.str)) ∧ WellAt H' a ∧ SameB a H H')
      ⟨none, [], [], rfl, rfl, rfl, (fun j r h => by simp at h), ⟨upd_same, .nil⟩, same_new hG _ _ hp, w3.new hG, s3'.trans (SameB.of (same_new hG))⟩ ?_ ?_⟩
    · rintro i σ H4 hi ⟨v3, ts, hs, rfl, hlen, hnm, hup, R, hp4, w4, s4⟩
      rw [List.length_map, Int.toNat_natCast] at hi
      have tl : ts.length = i := by rw [R.len, List.length_map, hlen]
      obtain ⟨x, hx⟩ : ∃ x, xs[i]? = some x := ⟨xs[i], List.getElem?_eq_getElem hi⟩
      have hat1 : atI (xs.map V.str) (0 + (i : Int)) = some (.str x) := at_of (j := i) (by omega) (by rw [List.getElem?_map, hx]; rfl)
      refine ⟨_, rfl, .inl ⟨rfl, _, SqL.of R.1⟩, _, rfl, _, rfl, p, _, _, _, rfl, rfl, SqL.of hp4, hat1, (by show 1 ≤ sizeLine; decide), fun l1 hl1 => ?_⟩
      refine ⟨_, rfl, _, rfl, _, rfl, p, _, rfl, SqL.of (same_new hl1 _ _ hp4), fun l2 hl2 => ?_⟩
      have ecut : cutV (xs.map V.str) none (some (0 + (i : Int))) = (xs.take i).map V.str := by
        rw [cut_take (by omega), List.map_take]
        congr 1
        omega
      rw [ecut]
      have l12 : l1 ≠ l2 := ne_of_none upd_same hl2
      refine ⟨l1, l2, _, _, rfl, rfl, (by rw [upd_ne l12]; exact upd_same), upd_same, (by rw [List.length_map, List.length_take]; show 1 + _ ≤ _; omega), fun l3 hl3 => ?_⟩
      have hp5 := same_new (o := .lst ([V.str ""] ++ (xs.take i).map V.str)) hl3 _ _ (same_new (o := .lst ((xs.take i).map V.str)) hl2 _ _ (same_new (o := .lst [V.str ""]) hl1 _ _ hp4))
      have w5 := ((w4.new (o := .lst [V.str ""]) hl1).new (o := .lst ((xs.take i).map V.str)) hl2).new (o := .lst ([V.str ""] ++ (xs.take i).map V.str)) hl3
      have sm5 : Same H4 _ := ((same_new (o := .lst [V.str ""]) hl1).trans (same_new (o := .lst ((xs.take i).map V.str)) hl2)).trans (same_new (o := .lst ([V.str ""] ++ (xs.take i).map V.str)) hl3)
      have hl5 : upd (upd (upd H4 l1 (.lst [V.str ""])) l2 (.lst ((xs.take i).map V.str))) l3 (.lst ([V.str ""] ++ (xs.take i).map V.str)) l3 = some (.lst ([V.str ""] ++ (xs.take i).map V.str)) := upd_same
      generalize upd (upd (upd H4 l1 (.lst [V.str ""])) l2 (.lst ((xs.take i).map V.str))) l3 (.lst ([V.str ""] ++ (xs.take i).map V.str)) = H5 at hp5 w5 sm5 hl5
      refine ⟨_, rfl, _, rfl, _, _, rfl, rfl, a, _, rfl, w5, (by omega), (by omega), fun r3 H6 r30 r31 w6 s6 => ?_⟩
      have l3a : l3 ≠ a := fun z => by subst z; obtain ⟨_, _, _, e⟩ := w5; rw [hl5] at e; injection e with e; injection e with e; simp at e
      have hl6 := s6 _ _ hl5 l3a
      obtain ⟨v, hvat, hvm⟩ : ∃ v, atI ([V.str ""] ++ (xs.take i).map V.str) r3 = some (.str v) ∧ (v = "" ∨ ∃ j', j' < i ∧ xs[j']? = some v) := by
        obtain ⟨j, rfl⟩ : ∃ j : Nat, r3 = (j : Int) := ⟨r3.toNat, by omega⟩
        cases j with
        | zero => exact ⟨"", atI_nat (j := 0) rfl, .inl rfl⟩
        | succ j =>
          have hj : j < i := by omega
          obtain ⟨v, hv⟩ : ∃ v, xs[j]? = some v := ⟨xs[j], List.getElem?_eq_getElem (by omega)⟩
          refine ⟨v, atI_nat (j := j + 1) ?_, .inr ⟨j, hj, hv⟩⟩
          show ((xs.take i).map V.str)[j]? = some (.str v)
          rw [List.getElem?_map, List.getElem?_take, if_pos hj, hv]
          rfl
      refine ⟨l3, _, r3, .str v, rfl, rfl, SqL.of hl6, hvat, (by show 2 ≤ sizeLine; decide), fun t ht => ?_⟩
      have R6 : RowsAt H6 G ts (hs.map hv) := (R.same sm5).keepB w5 s6 aG.symm
      refine ⟨G, _, _, rfl, rfl, same_new ht _ _ R6.1, (by rw [List.length_map]; omega), ?_⟩
      have s7 : SameB a H (upd H6 t (.tup [V.str x, V.str v])) := ((s4.trans (SameB.of sm5)).trans s6).trans (SameB.of (same_new ht))
      have R7 := R6.same (same_new (o := .tup [V.str x, V.str v]) ht)
      have t7 : upd H6 t (.tup [V.str x, V.str v]) t = some (.tup (hv (x, v))) := upd_same
      have w7 := w6.new (o := .tup [V.str x, V.str v]) ht
      have p7 := same_new (o := .tup [V.str x, V.str v]) ht _ _ (s6 _ _ hp5 pa)
      generalize upd H6 t (.tup [V.str x, V.str v]) = H7 at s7 R7 t7 w7 p7
      have tG : t ≠ G := ne_of t7 R7.1 (fun z => nomatch z)
      refine ⟨_, ts ++ [t], hs ++ [(x, v)], rfl, by rw [List.length_append, hlen]; rfl, ?_, ?_, ⟨by rw [upd_same, List.map_append]; rfl, ?_⟩, by rw [upd_ne pG]; exact p7, w7.up aG, ?_⟩
      · unfold nms at hnm ⊢
        rw [List.map_append, hnm, take_more hx]
        rfl
      · intro j r hjr
        by_cases hj : j < hs.length
        · rw [List.getElem?_append_left hj] at hjr
          exact hup j r hjr
        · rw [List.getElem?_append_right (by omega)] at hjr
          have hj0 : j - hs.length = 0 := by
            by_cases h0 : j - hs.length = 0
            · exact h0
            · rw [List.getElem?_eq_none (by simp; omega)] at hjr; cases hjr
          rw [hj0] at hjr
          have e := Option.some.inj hjr
          subst e
          have hji : j = i := by omega
          rcases hvm with e | ⟨j', h1, h2⟩
          · exact .inl e
          · exact .inr ⟨j', by omega, h2⟩
      · rw [List.map_append]
        refine paired_snoc (by rw [upd_ne tG]; exact t7) (paired_mono (fun b r e => ?_) R7.2)
        rw [upd_ne (ne_of e R7.1 (fun z => nomatch z))]
        exact e
      · intro b o e hb
        by_cases hbG : b = G
        · subst hbG
          have q1 := s3' b o e hb
          rw [hG] at q1; cases q1
        · rw [upd_ne hbG]; exact s7 b o e hb
    · rintro σ H4 ⟨v3, ts, hs, rfl, hlen, hnm, hup, R, hp4, w4, s4⟩
      rw [List.length_map, Int.toNat_natCast] at hlen hnm
      rw [List.take_length] at hnm
      refine ⟨_, rfl, k G ts hs H4 ⟨by rw [hnm]; exact xn, by rw [hnm]; exact xw, fun i r h => by rw [hnm]; exact hup i r h, by omega, by omega⟩ R ?_ w4 s4⟩
      exact free_ofB w3 s3' hG
end
end KP
namespace KP
open PySem L2
/-! ### entries as data -/
def okd (v : V) : Prop := (∃ x, v = .str x ∧ PyData.strOk x = true) ∨ ∃ i, v = .int i
def dat : V → PyData
  | .str x => .str x
  | .int i => .int i
  | _ => .none
theorem dp_flat {K : PySem.W.Frag} {H : Hp} : ∀ {vs : List V}, (∀ v ∈ vs, okd v) → DpAll K H vs (vs.map dat)
  | [], _ => .nil
  | v :: vs, h => by
    refine .cons ?_ (dp_flat fun u hu => h u (List.mem_cons_of_mem _ hu))
    rcases h v List.mem_cons_self with ⟨x, rfl, _⟩ | ⟨i, rfl⟩
    · exact .str x
    · exact .int i
theorem lay_flat : ∀ {vs : List V}, (∀ v ∈ vs, okd v) → PyData.canLayAll0 (vs.map dat) = true ∧ PyData.depthAll (vs.map dat) = 0
  | [], _ => ⟨rfl, rfl⟩
  | v :: vs, h => by
    obtain ⟨h1, h2⟩ := lay_flat (vs := vs) fun u hu => h u (List.mem_cons_of_mem _ hu)
    have hv : (dat v).canLay0 = true ∧ (dat v).depth = 0 := by
      rcases h v List.mem_cons_self with ⟨x, rfl, hx⟩ | ⟨i, rfl⟩
      · exact ⟨hx, rfl⟩
      · exact ⟨rfl, rfl⟩
    refine ⟨?_, ?_⟩
    · show ((dat v).canLay0 && PyData.canLayAll0 (vs.map dat)) = true
      rw [hv.1, h1]; rfl
    · show max (dat v).depth (PyData.depthAll (vs.map dat)) = 0
      rw [hv.2, h2]; rfl
theorem shaped_tup {vs : List V} (h : ∀ v ∈ vs, okd v) : SeqAt.shaped (.tuple (vs.map dat)) = true := by
  obtain ⟨h1, h2⟩ := lay_flat h
  have e1 : (PyData.tuple (vs.map dat)).canLay0 = true := h1
  have e2 : (PyData.tuple (vs.map dat)).depth ≤ 64 := by
    show PyData.depthAll (vs.map dat) + 1 ≤ 64
    rw [h2]; decide
  unfold SeqAt.shaped
  rw [e1, decide_eq_true e2]; rfl
theorem eqv_self {d : PyData} (h : SeqAt.shaped d = true) : PyData.eqv d d = true := SeqAt.eqv_refl d (SeqAt.canLay_of_shaped h)

theorem okd_W {x : Str} (h : IsW x) : okd (.str x) := .inl ⟨x, rfl, strOk_W h⟩
theorem okd_I {i : Int} : okd (.int i) := .inr ⟨i, rfl⟩
/-- a list of flat tuples, as data -/
def rowsD (rows : List (List V)) : PyData := .list (rows.map fun r => .tuple (r.map dat))
theorem dp_rowsAll {K : PySem.W.Frag} {H : Hp} : ∀ {ts : List Addr} {rows : List (List V)}, Paired (fun t r => H t = some (.tup r)) ts rows → (∀ r ∈ rows, ∀ v ∈ r, okd v) → DpAll K H (ts.map V.ref) (rows.map fun r => .tuple (r.map dat))
  | _, _, .nil, _ => .nil
  | _, _, .cons a p, h => .cons (.tup (SqT.of a) (dp_flat (h _ List.mem_cons_self))) (dp_rowsAll p fun r hr => h r (List.mem_cons_of_mem _ hr))
theorem lay_rows : ∀ {rows : List (List V)}, (∀ r ∈ rows, ∀ v ∈ r, okd v) → PyData.canLayAll0 (rows.map fun r => .tuple (r.map dat)) = true ∧ PyData.depthAll (rows.map fun r => .tuple (r.map dat)) ≤ 1
  | [], _ => ⟨rfl, Nat.zero_le _⟩
  | r :: rows, h => by
    obtain ⟨h1, h2⟩ := lay_rows (rows := rows) fun u hu => h u (List.mem_cons_of_mem _ hu)
    obtain ⟨g1, g2⟩ := lay_flat (h r List.mem_cons_self)
    refine ⟨?_, ?_⟩
    · show (PyData.canLayAll0 (r.map dat) && PyData.canLayAll0 (rows.map fun r => .tuple (r.map dat))) = true
      rw [g1, h1]; rfl
    · show max (PyData.depthAll (r.map dat) + 1) (PyData.depthAll (rows.map fun r => .tuple (r.map dat))) ≤ 1
      rw [g2]; omega
theorem shaped_rows {rows : List (List V)} (h : ∀ r ∈ rows, ∀ v ∈ r, okd v) : SeqAt.shaped (rowsD rows) = true := by
  obtain ⟨h1, h2⟩ := lay_rows h
  have e1 : (rowsD rows).canLay0 = true := h1
  have e2 : (rowsD rows).depth ≤ 64 := by
    show PyData.depthAll _ + 1 ≤ 64
    omega
  unfold SeqAt.shaped
  rw [e1, decide_eq_true e2]; rfl
theorem rows_ne {rows : List (List V)} (c : (!PyData.eqv (rowsD rows) (.list [])) = true) : 0 < rows.length := by
  cases rows with
  | nil => exact absurd c (by decide +kernel)
  | cons r rows => simp
theorem okd_rv {ns : List Str} {r : Rw4} (hw : ∀ x ∈ ns, IsW x) (h : r.1 ∈ ns) : ∀ v ∈ rv r, okd v := by
  intro v hv
  simp only [rv, List.mem_cons, List.not_mem_nil, or_false] at hv
  rcases hv with rfl | rfl | rfl | rfl
  · exact okd_W (hw _ h)
  · exact okd_I
  · exact okd_I
  · exact okd_I
theorem okd_rvs {ns : List Str} {rs : List Rw4} (hw : ∀ x ∈ ns, IsW x) (h : ∀ r ∈ rs, r.1 ∈ ns) : ∀ r ∈ rs.map rv, ∀ v ∈ r, okd v := by
  intro r hr
  obtain ⟨q, hq, rfl⟩ := List.mem_map.mp hr
  exact okd_rv hw (h q hq)
theorem pick2 {a b r : Int} (h0 : 0 ≤ r) (h1 : r < 4) : ∃ v, atI [V.int a, V.int b] (r / 3) = some (.int v) ∧ (v = a ∨ v = b) := by
  rcases (by omega : r / 3 = 0 ∨ r / 3 = 1) with e | e
  · rw [e]; exact ⟨a, rfl, .inl rfl⟩
  · rw [e]; exact ⟨b, rfl, .inr rfl⟩
section
variable {P : Program} {w : World} {K : PySem.W.Frag} {mg : Str → Option Value} {base : Heap}
abbrev nLLimits : List Str := ["_law_well_here", "_law_heads_here", "_law_days", "_law_found", "_law_k", "_law_first", "_law_last", "_law_most"]
theorem scLLimits : FnScope nLLimits ["_law_well_here", "_law_heads_here", "_law_days"] (defScope sLLimits) := ⟨rfl, rfl, rfl, by decide +kernel, rfl, by decide +kernel, by decide +kernel⟩
theorem c_llimits (B : Base K mg) (Dr : Cal P w K mg base 1 "_law_draw" spDraw) (D : DefT K mg "_law_limits" sLLimits ["_law_well_here", "_law_heads_here", "_law_days"]) : Cal P w K mg base 2 "_law_limits" spLLimits := by
  refine cal D scLLimits (fun vs H Q E h => ?_) (fun f cdv A outer s H vs Q E hr h => ?_)
  · obtain ⟨a, lh, th, hs, d, rfl, _⟩ := h
    rfl
  · obtain ⟨a, lh, th, hs, d, rfl, ha, Rh, lha, Vh, d1, d30, k⟩ := h
    have hz : sizeLine = 16777216 := by decide
    have thl : th.length = hs.length := by rw [Rh.len, List.length_map]
    have h1 := Vh.l1
    have h8 := Vh.l8
    refine ⟨_, pss_cons (ps_set (i := 3) scLLimits.nd rfl (Or.inl rfl) (pe_lst pa_nil))
      (pss_cons (ps_for PassesOwn.never rfl (pi_range1 (by rfl) B.range (pa_cons (pe_ix ix_list (pe_lst (pa_cons (pe_cl Dr hr (by decide) (by rfl) (pa_cons (pv 0) (pa_cons pe_int pa_nil))) (pa_cons pe_int pa_nil))) (pe_op op_fdiv (pe_cl Dr hr (by decide) (by rfl) (pa_cons (pv 0) (pa_cons pe_int pa_nil))) pe_int) (fun _ _ => rfl)) pa_nil)) (pg_name (i := 4) scLLimits.nd rfl (Or.inl rfl))
        (pss_cons (ps_set (i := 5) scLLimits.nd rfl (Or.inl rfl) (pe_op op_add pe_int (pe_cl Dr hr (by decide) (by rfl) (pa_cons (pv 0) (pa_cons (pv 2) pa_nil)))))
        (pss_cons (ps_set (i := 6) scLLimits.nd rfl (Or.inl rfl) (pe_op op_add (pv 5) (pe_cl Dr hr (by decide) (by rfl) (pa_cons (pv 0) (pa_cons (pe_op op_add (pe_op op_sub (pv 2) (pv 5)) pe_int) pa_nil)))))
        (pss_cons (ps_set (i := 7) scLLimits.nd rfl (Or.inl rfl) (pe_ix ix_list (pe_lst (pa_cons pe_int (pa_cons (pe_cl Dr hr (by decide) (by rfl) (pa_cons (pv 0) (pa_cons pe_int pa_nil))) (pa_cons (pe_cl Dr hr (by decide) (by rfl) (pa_cons (pv 0) (pa_cons (pe_op op_add (pe_op op_pow pe_int pe_int) pe_int) pa_nil))) (pa_cons (pe_op op_pow pe_int pe_int) pa_nil)))))
          (pe_cl Dr hr (by decide) (by rfl) (pa_cons (pv 0) (pa_cons pe_int pa_nil))) (fun _ _ => rfl)))
        (pss_one (ps_expr (pe_bm PySem.F.plainAttrs_list PySem.F.slot_list_append PySem.F.type_list_append mt_append (pv 3) (pa_cons (pe_tup (pa_cons (pe_ix ix_tup (pe_ix ix_list (pv 1) (pe_cl Dr hr (by decide) (by rfl) (pa_cons (pv 0) (pa_cons (pe_callB call_len_seq (by rfl) B.len PySem.boot_len (pa_cons (pv 1) pa_nil)) pa_nil))) (fun _ _ => rfl)) pe_int (fun _ _ => rfl))
          (pa_cons (pv 5) (pa_cons (pv 6) (pa_cons (pv 7) pa_nil))))) pa_nil))))))))
      (pss_cons (ps_if (PW.pt (pw_and (pt_cmpR (op_neD hr.units) (pv 3) (pe_lst pa_nil) (nomark _)) (pw_and (pt_cmpR op_lt (pe_callB call_len_seq (by rfl) B.len PySem.boot_len (pa_cons (pv 3) pa_nil)) pe_int (nomark _)) (pw_and1 (pt_cmpR op_eq (pe_cl Dr hr (by decide) (by rfl) (pa_cons (pv 0) (pa_cons pe_int pa_nil))) pe_int (nomark _))))))
        (pss_one (ps_expr (pe_bm PySem.F.plainAttrs_list PySem.F.slot_list_append PySem.F.type_list_append mt_append (pv 3) (pa_cons (pe_ix ix_list (pv 3) pe_int (fun _ _ => rfl)) pa_nil)))) pss_nil)
      (pss_one (ps_ret (pv 3))))), ?_⟩
    refine ⟨(by show 0 ≤ sizeLine; decide), fun G hG => ?_⟩
    have aG : a ≠ G := ha.ne hG
    have lhG : lh ≠ G := ne_of_none Rh.1 hG
    refine ⟨_, rfl, a, 7, rfl, ha.new hG, by decide, by decide, fun r1 H1 r10 r11 w1 s1 => ⟨(by show 2 ≤ sizeLine; decide), fun l hl => ?_⟩⟩
    refine ⟨_, rfl, a, 4, rfl, w1.new hl, by decide, by decide, fun r2 H2 r20 r21 w2 s2 => ⟨_, _, rfl, rfl, ⟨by decide, by decide⟩, ?_⟩⟩
    have hl2 := s2 l _ upd_same (w1.ne hl).symm
    have s2' : SameB a H H2 := (((SameB.of (same_new hG)).trans s1).trans (SameB.of (same_new hl))).trans s2
    have G2 : H2 G = some (.lst []) := s2 _ _ (same_new hl _ _ (s1 _ _ upd_same aG.symm)) aG.symm
    have Rh2 : RowsAt H2 lh th (hs.map hv) := Rh.keepB ha s2' lha
    obtain ⟨n, hn, hnv⟩ := pick2 (a := r1) (b := 6) r20 r21
    have hn6 : 0 ≤ n ∧ n ≤ 6 := by omega
    refine ⟨l, _, _, _, rfl, rfl, SqL.of hl2, hn, n, rfl, by omega, by omega, for_range (lo := 0) (n := n.toNat)
      (fun i σ H' => ∃ (v4 v5 v6 v7 : Option V) (ts : List Addr) (ls : List Rw4), σ = [some (.ref a), some (.ref lh), some (.int d), some (.ref G), v4, v5, v6, v7] ∧ ls.length = i ∧ (∀ r ∈ ls, LimOk d (nms hs) r) ∧ RowsAt H' G ts (ls.map rv) ∧ WellAt H' a ∧ SameB a H H')
      ⟨none, none, none, none, [], [], rfl, rfl, (fun _ z => nomatch z), ⟨G2, .nil⟩, w2, s2'⟩ ?_ ?_⟩
    · rintro i σ H3 hi ⟨v4, v5, v6, v7, ts, ls, rfl, hlen, hok, R, w3, s3⟩
      have tl : ts.length = i := by rw [R.len, List.length_map, hlen]
      refine ⟨_, rfl, _, rfl, a, d, rfl, w3, by omega, by omega, fun f1 H4 f10 f11 w4 s4 => ⟨_, _, rfl, rfl, ?_⟩⟩
      refine ⟨_, rfl, _, rfl, _, rfl, _, rfl, _, _, rfl, rfl, _, _, rfl, rfl, a, _, rfl, w4, by omega, by omega, fun f2 H5 f20 f21 w5 s5 => ⟨_, _, rfl, rfl, ?_⟩⟩
      refine ⟨_, rfl, a, 100, rfl, w5, by decide, by decide, fun m1 H6 m10 m11 w6 s6 => ?_⟩
      refine ⟨_, rfl, _, _, rfl, rfl, ⟨by decide, by decide, by decide⟩, _, _, rfl, rfl, a, _, rfl, w6, by decide, by decide, fun m2 H7 m20 m21 w7 s7 => ?_⟩
      have m21' : m2 < 1000000000000001 := m21
      refine ⟨_, _, rfl, rfl, ⟨by decide, by decide, by decide⟩, (by show 4 ≤ sizeLine; decide), fun lm hlm => ?_⟩
      refine ⟨_, rfl, a, 4, rfl, w7.new hlm, by decide, by decide, fun m3 H8 m30 m31 w8 s8 => ?_⟩
      have hlm8 := s8 _ _ upd_same (w7.ne hlm).symm
      obtain ⟨mo, hmo, hmb⟩ : ∃ mo : Int, atI [V.int 0, V.int m1, V.int m2, V.int 1000000000000000] m3 = some (.int mo) ∧ 0 ≤ mo ∧ mo ≤ 1000000000000000 := by
        rcases (by omega : m3 = 0 ∨ m3 = 1 ∨ m3 = 2 ∨ m3 = 3) with rfl | rfl | rfl | rfl
        · exact ⟨0, rfl, by omega, by omega⟩
        · exact ⟨m1, rfl, by omega, by omega⟩
        · exact ⟨m2, rfl, by omega, by omega⟩
        · exact ⟨1000000000000000, rfl, by omega, by omega⟩
      refine ⟨lm, _, _, _, rfl, rfl, SqL.of hlm8, hmo, ?_⟩
      have sB8 : SameB a H3 H8 := ((((s4.trans s5).trans s6).trans s7).trans (SameB.of (same_new hlm))).trans s8
      have R8 : RowsAt H8 G ts (ls.map rv) := R.keepB w3 sB8 aG.symm
      have Rh8 : RowsAt H8 lh th (hs.map hv) := Rh.keepB ha (s3.trans sB8) lha
      refine ⟨_, rfl, .inl ⟨rfl, _, SqL.of R8.1⟩, _, rfl, _, rfl, _, rfl, lh, _, rfl, .inl (SqL.of Rh8.1), a, _, rfl, w8, (by rw [List.length_map, thl]; omega), (by rw [List.length_map, thl]; omega), fun j H9 j0 j1 w9 s9 => ?_⟩
      obtain ⟨v, hv1, hv2⟩ := get_lt (l := th.map V.ref) j0 j1
      obtain ⟨jn, hjn⟩ := List.mem_iff_getElem?.mp hv2
      obtain ⟨tt, rr, rfl, hrr, htt, _⟩ := row_get Rh8 hjn
      have tta : tt ≠ a := by obtain ⟨_, _, _, e⟩ := w8; exact ne_of htt e (fun z => nomatch z)
      have Rh9 := Rh8.keepB w8 s9 lha
      refine ⟨lh, _, _, _, rfl, rfl, SqL.of Rh9.1, hv1, tt, _, 0, .str rr.1, rfl, rfl, SqT.of (s9 _ _ htt tta), rfl, _, rfl, _, rfl, _, rfl, (by show 4 ≤ sizeLine; decide), fun t ht => ?_⟩
      have R9 : RowsAt H9 G ts (ls.map rv) := R8.keepB w8 s9 aG.symm
      refine ⟨G, _, _, rfl, rfl, same_new ht _ _ R9.1, (by rw [List.length_map]; omega), ?_⟩
      have hnew : LimOk d (nms hs) (rr.1, 1 + f1, 1 + f1 + f2, mo) := ⟨List.mem_of_getElem? (nms_get hrr), ⟨(by show 1 ≤ 1 + f1; omega), (by show 1 + f1 ≤ d; omega)⟩, ⟨(by show 1 + f1 ≤ 1 + f1 + f2; omega), (by show 1 + f1 + f2 ≤ d; omega)⟩, hmb⟩
      have s10 : SameB a H (upd H9 t (.tup (rv (rr.1, 1 + f1, 1 + f1 + f2, mo)))) := ((s3.trans sB8).trans s9).trans (SameB.of (same_new ht))
      have R10 := R9.same (same_new (o := .tup (rv (rr.1, 1 + f1, 1 + f1 + f2, mo))) ht)
      have t10 : upd H9 t (.tup (rv (rr.1, 1 + f1, 1 + f1 + f2, mo))) t = some (.tup (rv (rr.1, 1 + f1, 1 + f1 + f2, mo))) := upd_same
      have w10 := w9.new (o := .tup (rv (rr.1, 1 + f1, 1 + f1 + f2, mo))) ht
      have eH : upd H9 t (.tup [V.str rr.1, V.int (1 + f1), V.int (1 + f1 + f2), V.int mo]) = upd H9 t (.tup (rv (rr.1, 1 + f1, 1 + f1 + f2, mo))) := rfl
      generalize hH10 : upd H9 t (.tup (rv (rr.1, 1 + f1, 1 + f1 + f2, mo))) = H10 at s10 R10 t10 w10
      have tG : t ≠ G := ne_of t10 R10.1 (fun z => nomatch z)
      show ∃ (v4 v5 v6 v7 : Option V) (ts : List Addr) (ls : List Rw4), _ = [some (.ref a), some (.ref lh), some (.int d), some (.ref G), v4, v5, v6, v7] ∧ ls.length = i + 1 ∧ (∀ r ∈ ls, LimOk d (nms hs) r) ∧ RowsAt (upd (upd H9 t (.tup (rv (rr.1, 1 + f1, 1 + f1 + f2, mo)))) G _) G ts (ls.map rv) ∧ WellAt (upd (upd H9 t (.tup (rv (rr.1, 1 + f1, 1 + f1 + f2, mo)))) G _) a ∧ SameB a H (upd (upd H9 t (.tup (rv (rr.1, 1 + f1, 1 + f1 + f2, mo)))) G _)
      rw [hH10]
      refine ⟨_, _, _, _, ts ++ [t], ls ++ [(rr.1, 1 + f1, 1 + f1 + f2, mo)], rfl, by rw [List.length_append, hlen]; rfl, ?_, ⟨by rw [upd_same, List.map_append]; rfl, ?_⟩, w10.up aG, ?_⟩
      · intro r hr
        rcases List.mem_append.mp hr with hr | hr
        · exact hok r hr
        · rw [List.mem_singleton.mp hr]; exact hnew
      · rw [List.map_append]
        refine paired_snoc (by rw [upd_ne tG]; exact t10) (paired_mono (fun b r e => ?_) R10.2)
        rw [upd_ne (ne_of e R10.1 (fun z => nomatch z))]
        exact e
      · intro b o e hb
        rw [upd_ne (ne_of_none e hG)]; exact s10 b o e hb
    · rintro σ H3 ⟨v4, v5, v6, v7, ts, ls, rfl, hlen, hok, R, w3, s3⟩
      have tl : ts.length = ls.length := by rw [R.len, List.length_map]
      have okr := okd_rvs (rs := ls) Vh.w (fun r hr => (hok r hr).1)
      refine ⟨_, rfl, (by show 0 ≤ sizeLine; decide), fun t ht => ?_⟩
      have R4 := R.same (same_new (o := .lst []) ht)
      have w4 := w3.new (o := .lst []) ht
      have s4 : SameB a H (upd H3 t (.lst [])) := s3.trans (SameB.of (same_new ht))
      have t4 : upd H3 t (.lst []) t = some (.lst []) := upd_same
      generalize upd H3 t (.lst []) = H4 at R4 w4 s4 t4
      refine ⟨rowsD (ls.map rv), .list [], .lst (SqL.of R4.1) (dp_rowsAll R4.2 okr), .lst (SqL.of t4) .nil, shaped_rows okr, by decide +kernel, _, rfl, ite2 (fun c => ?_) (fun _ => ?_)⟩
      · have hpos := rows_ne c
        rw [List.length_map] at hpos
        refine ⟨_, rfl, G, _, rfl, .inl (SqL.of R4.1), _, _, rfl, rfl, _, rfl, ite2 (fun c2 => ?_) (fun _ => ?_)⟩
        · have h6 : ls.length < 6 := by
            have := of_decide_eq_true c2
            rw [List.length_map, tl] at this
            omega
          refine ⟨_, rfl, a, 4, rfl, w4, by decide, by decide, fun r3 H5 r30 r31 w5 s5 => ⟨rfl, _, rfl, ite2 (fun _ => ?_) (fun _ => ?_)⟩⟩
          · have R5 := R4.keepB w4 s5 aG.symm
            obtain ⟨r0, hr0⟩ : ∃ r0, ls[0]? = some r0 := ⟨ls[0], List.getElem?_eq_getElem hpos⟩
            obtain ⟨t0, ht0⟩ : ∃ t0, ts[0]? = some t0 := ⟨ts[0], List.getElem?_eq_getElem (by omega)⟩
            obtain ⟨r', hr', ht0'⟩ := paired_get R5.2 ht0
            rw [List.getElem?_map, hr0] at hr'
            have er := Option.some.inj hr'
            subst er
            refine ⟨_, rfl, .inl ⟨rfl, _, SqL.of R5.1⟩, _, rfl, G, _, 0, .ref t0, rfl, rfl, SqL.of R5.1, at_of (j := 0) rfl (by rw [List.getElem?_map, ht0]; rfl), G, _, _, rfl, rfl, R5.1, (by rw [List.length_map]; omega), ?_⟩
            refine ⟨_, rfl, k G (ts ++ [t0]) (ls ++ [r0]) _ ?_ (by rw [List.length_append]; show _ + 1 ≤ 6; omega) ⟨by rw [upd_same, List.map_append]; rfl, ?_⟩ (free_ofB ha SameB.refl hG) (w5.up aG) ?_⟩
            · intro r hr
              rcases List.mem_append.mp hr with hr | hr
              · exact hok r hr
              · rw [List.mem_singleton.mp hr]; exact hok r0 (List.mem_of_getElem? hr0)
            · rw [List.map_append]
              have tG : t0 ≠ G := ne_of ht0' R5.1 (fun z => nomatch z)
              refine paired_snoc (by rw [upd_ne tG]; exact ht0') (paired_mono (fun b r e => ?_) R5.2)
              rw [upd_ne (ne_of e R5.1 (fun z => nomatch z))]
              exact e
            · intro b o e hb
              rw [upd_ne (ne_of_none e hG)]; exact (s4.trans s5) b o e hb
          · exact ⟨_, rfl, k G ts ls _ hok (by omega) (R4.keepB w4 s5 aG.symm) hG w5 (s4.trans s5)⟩
        · exact iteF ⟨_, rfl, k G ts ls _ hok (by omega) R4 hG w4 s4⟩
      · exact iteF ⟨_, rfl, k G ts ls _ hok (by omega) R4 hG w4 s4⟩
end
end KP
namespace KP
open PySem L2
/-- each head's fractions: from 0 to 1, the bottom bounded -/
def FB (rs : List Rw4) : Prop := ∀ x, 0 ≤ (fr rs x).1 ∧ (fr rs x).1 ≤ (fr rs x).2 ∧ 1 ≤ (fr rs x).2 ∧ (fr rs x).2 ≤ 1000 ^ rs.length
theorem FB.nil : FB [] := fun x => by
  show 0 ≤ (0 : Int) ∧ (0 : Int) ≤ 1 ∧ (1 : Int) ≤ 1 ∧ (1 : Int) ≤ 1000 ^ 0
  omega
theorem FB.snoc {rs : List Rw4} (h : FB rs) {r : Rw4} (hw : 1 ≤ r.2.2.1 ∧ r.2.2.1 ≤ 1000) (hp : 0 ≤ r.2.1) (hone : (fr rs r.1).1 * r.2.2.1 + r.2.1 * (fr rs r.1).2 ≤ (fr rs r.1).2 * r.2.2.1) : FB (rs ++ [r]) := fun x => by
  obtain ⟨h0, h1, h2, h3⟩ := h x
  have hpow : (1000 : Int) ^ (rs ++ [r]).length = 1000 ^ rs.length * 1000 := by rw [List.length_append]; exact Int.pow_succ ..
  have hp0 : (0 : Int) ≤ 1000 ^ rs.length := by omega
  rw [fr_snoc, hpow]
  unfold frS
  by_cases e : r.1 = x
  · rw [if_pos e]
    rw [e] at hone
    have a1 : 0 ≤ (fr rs x).1 * r.2.2.1 := Int.mul_nonneg h0 (by omega)
    have a2 : 0 ≤ r.2.1 * (fr rs x).2 := Int.mul_nonneg hp (by omega)
    have a3 : 1 * 1 ≤ (fr rs x).2 * r.2.2.1 := Int.mul_le_mul h2 hw.1 (by decide) (by omega)
    have a4 : (fr rs x).2 * r.2.2.1 ≤ 1000 ^ rs.length * 1000 := Int.mul_le_mul h3 hw.2 (by omega) hp0
    exact ⟨by show 0 ≤ (fr rs x).1 * r.2.2.1 + r.2.1 * (fr rs x).2; omega, hone, by show 1 ≤ (fr rs x).2 * r.2.2.1; omega, a4⟩
  · rw [if_neg e]
    exact ⟨h0, h1, h2, by omega⟩
theorem FB.small {rs : List Rw4} (h : FB rs) (hl : rs.length ≤ 4) (x : Str) : (fr rs x).2 ≤ 1000000000000 := by
  have h3 := (h x).2.2.2
  rcases (by omega : rs.length = 0 ∨ rs.length = 1 ∨ rs.length = 2 ∨ rs.length = 3 ∨ rs.length = 4) with e | e | e | e | e <;> rw [e] at h3 <;> omega
/-- part cut down to what is left -/
theorem cut_part {t b w : Int} (ht : 0 ≤ t) (htb : t ≤ b) (hb : 1 ≤ b) (hw : 1 ≤ w) : 0 ≤ (b - t) * w / b ∧ (b - t) * w / b ≤ w ∧ t * w + (b - t) * w / b * b ≤ b * w := by
  have h1 : 0 ≤ (b - t) * w := Int.mul_nonneg (by omega) (by omega)
  have h2 : (b - t) * w / b * b ≤ (b - t) * w := Int.ediv_mul_le _ (by omega)
  have h3 : (b - t) * w = b * w - t * w := Int.sub_mul _ _ _
  refine ⟨Int.ediv_nonneg h1 (by omega), Int.ediv_le_of_le_mul (by omega) ?_, by omega⟩
  rw [h3, Int.mul_comm w b]
  have : 0 ≤ t * w := Int.mul_nonneg ht (by omega)
  omega
def SumsAt (H : Hp) (S : Addr) (n : Nat) (rs : List Rw4) : Prop := ∃ kvs : List (Key × V), H S = some (.dK kvs) ∧ kvs.length ≤ n ∧ ∀ x : Str, (valV kvs (Sum.inr x) = none ∧ fr rs x = (0, 1)) ∨ ∃ t, valV kvs (Sum.inr x) = some (.ref t) ∧ H t = some (.tup [.int (fr rs x).1, .int (fr rs x).2])
theorem putK_len {kvs : List (Key × V)} {k : Key} {v : V} : (putK kvs k v).length ≤ kvs.length + 1 := by
  unfold putK
  split
  · rw [List.length_map]; omega
  · rw [List.length_append]; exact Nat.le_refl _
theorem SumsAt.keep {H H' : Hp} {S : Addr} {n : Nat} {rs : List Rw4} (h : SumsAt H S n rs) (h1 : ∀ kvs, H S = some (.dK kvs) → H' S = some (.dK kvs)) (h2 : ∀ b r, H b = some (.tup r) → H' b = some (.tup r)) : SumsAt H' S n rs := by
  obtain ⟨kvs, e, hl, hx⟩ := h
  refine ⟨kvs, h1 _ e, hl, fun x => ?_⟩
  rcases hx x with z | ⟨t, a, b⟩
  · exact .inl z
  · exact .inr ⟨t, a, h2 _ _ b⟩
theorem SumsAt.keepB {a : Addr} {H H' : Hp} {S : Addr} {n : Nat} {rs : List Rw4} (h : SumsAt H S n rs) (w : WellAt H a) (s : SameB a H H') : SumsAt H' S n rs := by
  obtain ⟨x, y, z, hw⟩ := w
  exact h.keep (fun kvs e => s _ _ e (ne_of e hw (fun z => nomatch z))) fun b r e => s _ _ e (ne_of e hw (fun z => nomatch z))
theorem SumsAt.same {H H' : Hp} {S : Addr} {n : Nat} {rs : List Rw4} (h : SumsAt H S n rs) (s : Same H H') : SumsAt H' S n rs := h.keep (fun _ e => s _ _ e) fun _ _ e => s _ _ e
theorem SumsAt.upl {H : Hp} {S G : Addr} {n : Nat} {rs : List Rw4} {xs ys : List V} (h : SumsAt H S n rs) (hG : H G = some (.lst xs)) : SumsAt (upd H G (.lst ys)) S n rs :=
  h.keep (fun kvs e => by rw [upd_ne (ne_of e hG (fun z => nomatch z))]; exact e) fun b r e => by rw [upd_ne (ne_of e hG (fun z => nomatch z))]; exact e
def spLRules : Sp := fun vs H Q _ => ∃ (a lh : Addr) (th : List Addr) (hs : List Hd) (d : Int), vs = [.ref a, .ref lh, .int d] ∧ WellAt H a ∧ RowsAt H lh th (hs.map hv) ∧ lh ≠ a ∧ VH hs ∧ 1 ≤ d ∧ d ≤ 30 ∧
  ∀ (q : Addr) (ts : List Addr) (rs : List Rw4) (H' : Hp), (∀ r ∈ rs, RulOk d (nms hs) r) → rs.length ≤ 4 → (∀ x, (fr rs x).1 ≤ (fr rs x).2) → RowsAt H' q ts (rs.map rv) → H q = none → WellAt H' a → SameB a H H' → Q (.ref q) H'
section
variable {P : Program} {w : World} {K : PySem.W.Frag} {mg : Str → Option Value} {base : Heap}
abbrev nLRules : List Str := ["_law_well_here", "_law_heads_here", "_law_days", "_law_found", "_law_sums", "_law_k", "_law_head", "_law_whole", "_law_part", "_law_top", "_law_bottom"]
theorem scLRules : FnScope nLRules ["_law_well_here", "_law_heads_here", "_law_days"] (defScope sLRules) := ⟨rfl, rfl, rfl, by decide +kernel, rfl, by decide +kernel, by decide +kernel⟩
theorem c_lrules (B : Base K mg) (Dr : Cal P w K mg base 1 "_law_draw" spDraw) (D : DefT K mg "_law_rules" sLRules ["_law_well_here", "_law_heads_here", "_law_days"]) : Cal P w K mg base 2 "_law_rules" spLRules := by
  refine cal D scLRules (fun vs H Q E h => ?_) (fun f cdv A outer s H vs Q E hr h => ?_)
  · obtain ⟨a, lh, th, hs, d, rfl, _⟩ := h
    rfl
  · obtain ⟨a, lh, th, hs, d, rfl, ha, Rh, lha, Vh, d1, d30, k⟩ := h
    have hz : sizeLine = 16777216 := by decide
    have thl : th.length = hs.length := by rw [Rh.len, List.length_map]
    have h1 := Vh.l1
    have h8 := Vh.l8
    refine ⟨_, pss_cons (ps_set (i := 3) scLRules.nd rfl (Or.inl rfl) (pe_lst pa_nil)) (pss_cons (ps_set (i := 4) scLRules.nd rfl (Or.inl rfl) pe_dnewK)
      (pss_cons (ps_for PassesOwn.never rfl (pi_range1 (by rfl) B.range (pa_cons (pe_ix ix_list (pe_lst (pa_cons (pe_cl Dr hr (by decide) (by rfl) (pa_cons (pv 0) (pa_cons pe_int pa_nil))) (pa_cons pe_int pa_nil))) (pe_op op_fdiv (pe_cl Dr hr (by decide) (by rfl) (pa_cons (pv 0) (pa_cons pe_int pa_nil))) pe_int) (fun _ _ => rfl)) pa_nil)) (pg_name (i := 5) scLRules.nd rfl (Or.inl rfl))
        (pss_cons (ps_set (i := 6) scLRules.nd rfl (Or.inl rfl) (pe_ix ix_tup (pe_ix ix_list (pv 1) (pe_cl Dr hr (by decide) (by rfl) (pa_cons (pv 0) (pa_cons (pe_callB call_len_seq (by rfl) B.len PySem.boot_len (pa_cons (pv 1) pa_nil)) pa_nil))) (fun _ _ => rfl)) pe_int (fun _ _ => rfl)))
        (pss_cons (ps_set (i := 7) scLRules.nd rfl (Or.inl rfl) (pe_op op_add pe_int (pe_cl Dr hr (by decide) (by rfl) (pa_cons (pv 0) (pa_cons (pe_ix ix_list (pe_lst (pa_cons pe_int (pa_cons pe_int pa_nil))) (pe_cl Dr hr (by decide) (by rfl) (pa_cons (pv 0) (pa_cons pe_int pa_nil))) (fun _ _ => rfl)) pa_nil)))))
        (pss_cons (ps_set (i := 8) scLRules.nd rfl (Or.inl rfl) (pe_ix ix_list (pe_lst (pa_cons (pe_cl Dr hr (by decide) (by rfl) (pa_cons (pv 0) (pa_cons (pe_op op_add (pv 7) pe_int) pa_nil))) (pa_cons (pv 7) pa_nil))) (pe_op op_fdiv (pe_cl Dr hr (by decide) (by rfl) (pa_cons (pv 0) (pa_cons pe_int pa_nil))) pe_int) (fun _ _ => rfl)))
        (pss_cons (ps_asg (pe_dget2 (hu_of hr) (pv 4) (pv 6) (pe_tup (pa_cons pe_int (pa_cons pe_int pa_nil))) ⟨rfl, rfl, rfl, rfl⟩) (pg_tup rfl (pgs_cons (pg_name (i := 9) scLRules.nd rfl (Or.inl rfl)) (pgs_cons (pg_name (i := 10) scLRules.nd rfl (Or.inl rfl)) pgs_nil))))
        (C8.pss_cut (ps_if (pt_cmpR op_gt (pe_op op_add (pe_op op_mul (pv 9) (pv 7)) (pe_op op_mul (pv 8) (pv 10))) (pe_op op_mul (pv 10) (pv 7)) (nomark _))
          (pss_one (ps_set (i := 8) scLRules.nd rfl (Or.inl rfl) (pe_op op_fdivW (pe_op op_mul (pe_op op_sub (pv 10) (pv 9)) (pv 7)) (pv 10)))) pss_nil)
        (pss_cons (ps_dput (hu_of hr) (pv 4) (pv 6) (pe_tup (pa_cons (pe_op op_add (pe_op op_mul (pv 9) (pv 7)) (pe_op op_mul (pv 8) (pv 10))) (pa_cons (pe_op op_mul (pv 10) (pv 7)) pa_nil))) rfl)
        (pss_one (ps_expr (pe_bm PySem.F.plainAttrs_list PySem.F.slot_list_append PySem.F.type_list_append mt_append (pv 3) (pa_cons (pe_tup (pa_cons (pv 6) (pa_cons (pv 8) (pa_cons (pv 7) (pa_cons (pe_op op_add pe_int (pe_cl Dr hr (by decide) (by rfl) (pa_cons (pv 0) (pa_cons (pv 2) pa_nil)))) pa_nil))))) pa_nil)))))))))))
      (pss_one (ps_ret (pv 3))))), ?_⟩
    refine ⟨(by show 0 ≤ sizeLine; decide), fun G hG S hS => ?_⟩
    have aG : a ≠ G := ha.ne hG
    have nS : H S = none := (same_new hG).free hS
    have GS : G ≠ S := ne_of_none upd_same hS
    have w0 := (ha.new (o := .lst []) hG).new (o := .dK []) hS
    refine ⟨_, rfl, a, 5, rfl, w0, by decide, by decide, fun r1 H1 r10 r11 w1 s1 => ⟨(by show 2 ≤ sizeLine; decide), fun l hl => ?_⟩⟩
    refine ⟨_, rfl, a, 4, rfl, w1.new hl, by decide, by decide, fun r2 H2 r20 r21 w2 s2 => ⟨_, _, rfl, rfl, ⟨by decide, by decide⟩, ?_⟩⟩
    have hl2 := s2 l _ upd_same (w1.ne hl).symm
    have sB : SameB a (upd (upd H G (.lst [])) S (.dK [])) H2 := (s1.trans (SameB.of (same_new hl))).trans s2
    have s2' : SameB a H H2 := ((SameB.of (same_new hG)).trans (SameB.of (same_new hS))).trans sB
    have G2 : H2 G = some (.lst []) := sB _ _ (same_new hS _ _ upd_same) aG.symm
    have S2 : SumsAt H2 S 0 [] := by
      have : SumsAt (upd (upd H G (.lst [])) S (.dK [])) S 0 [] := ⟨[], upd_same, Nat.le_refl _, fun x => .inl ⟨rfl, rfl⟩⟩
      exact this.keepB w0 sB
    obtain ⟨n, hn, hnv⟩ := pick2 (a := r1) (b := 4) r20 r21
    have hn4 : 0 ≤ n ∧ n ≤ 4 := by omega
    refine ⟨l, _, _, _, rfl, rfl, SqL.of hl2, hn, n, rfl, by omega, by omega, for_range (lo := 0) (n := n.toNat)
      (fun i σ H' => ∃ (v5 v6 v7 v8 v9 v10 : Option V) (ts : List Addr) (rs : List Rw4), σ = [some (.ref a), some (.ref lh), some (.int d), some (.ref G), some (.ref S), v5, v6, v7, v8, v9, v10] ∧ rs.length = i ∧ (∀ r ∈ rs, RulOk d (nms hs) r) ∧ FB rs ∧ RowsAt H' G ts (rs.map rv) ∧ SumsAt H' S i rs ∧ WellAt H' a ∧ SameB a H H')
      ⟨none, none, none, none, none, none, [], [], rfl, rfl, (fun _ z => nomatch z), FB.nil, ⟨G2, .nil⟩, S2, w2, s2'⟩ ?_ ?_⟩
    · rintro i σ H3 hi ⟨v5, v6, v7, v8, v9, v10, ts, rs, rfl, hlen, hok, fb, R, Sm, w3, s3⟩
      have tl : ts.length = i := by rw [R.len, List.length_map, hlen]
      have hi4 : i < 4 := by omega
      have Rh3 : RowsAt H3 lh th (hs.map hv) := Rh.keepB ha s3 lha
      refine ⟨_, rfl, _, rfl, _, rfl, lh, _, rfl, .inl (SqL.of Rh3.1), a, _, rfl, w3, (by rw [List.length_map, thl]; omega), (by rw [List.length_map, thl]; omega), fun j H4 j0 j1 w4 s4 => ?_⟩
      obtain ⟨v, hv1, hv2⟩ := get_lt (l := th.map V.ref) j0 j1
      obtain ⟨jn, hjn⟩ := List.mem_iff_getElem?.mp hv2
      obtain ⟨tt, rr, rfl, hrr, htt, _⟩ := row_get Rh3 hjn
      have tta : tt ≠ a := by obtain ⟨_, _, _, e⟩ := w3; exact ne_of htt e (fun z => nomatch z)
      have Rh4 := Rh3.keepB w3 s4 lha
      refine ⟨lh, _, _, _, rfl, rfl, SqL.of Rh4.1, hv1, tt, _, 0, .str rr.1, rfl, rfl, SqT.of (s4 _ _ htt tta), rfl, ?_⟩
      -- whole
      refine ⟨_, rfl, (by show 2 ≤ sizeLine; decide), fun l2 hl2 => ⟨_, rfl, a, 2, rfl, w4.new hl2, by decide, by decide, fun q1 H5 q10 q11 w5 s5 => ?_⟩⟩
      have hl5 := s5 l2 _ upd_same (w4.ne hl2).symm
      obtain ⟨mw, hmw, hmb⟩ : ∃ mw : Int, atI [V.int 10, V.int 1000] q1 = some (.int mw) ∧ (mw = 10 ∨ mw = 1000) := by
        rcases (by omega : q1 = 0 ∨ q1 = 1) with rfl | rfl
        · exact ⟨10, rfl, .inl rfl⟩
        · exact ⟨1000, rfl, .inr rfl⟩
      refine ⟨l2, _, _, _, rfl, rfl, SqL.of hl5, hmw, a, mw, rfl, w5, by omega, by omega, fun q2 H6 q20 q21 w6 s6 => ⟨_, _, rfl, rfl, ?_⟩⟩
      -- part
      refine ⟨_, rfl, _, rfl, _, _, rfl, rfl, a, _, rfl, w6, by omega, by omega, fun q3 H7 q30 q31 w7 s7 => ?_⟩
      refine ⟨_, rfl, (by show 2 ≤ sizeLine; decide), fun l3 hl3 => ⟨_, rfl, a, 5, rfl, w7.new hl3, by decide, by decide, fun q4 H8 q40 q41 w8 s8 => ⟨_, _, rfl, rfl, ⟨by decide, by decide⟩, ?_⟩⟩⟩
      have hl8 := s8 l3 _ upd_same (w7.ne hl3).symm
      obtain ⟨pt, hpt, hpb⟩ : ∃ pt : Int, atI [V.int q3, V.int (1 + q2)] (q4 / 4) = some (.int pt) ∧ 0 ≤ pt ∧ pt ≤ 1 + q2 := by
        rcases (by omega : q4 / 4 = 0 ∨ q4 / 4 = 1) with e | e
        · rw [e]; exact ⟨q3, rfl, by omega, by omega⟩
        · rw [e]; exact ⟨1 + q2, rfl, by omega, by omega⟩
      refine ⟨l3, _, _, _, rfl, rfl, SqL.of hl8, hpt, ?_⟩
      have s8' : SameB a H3 H8 := ((((s4.trans (SameB.of (same_new hl2))).trans s5).trans s6).trans s7).trans ((SameB.of (same_new hl3)).trans s8)
      have R8 : RowsAt H8 G ts (rs.map rv) := R.keepB w3 s8' aG.symm
      have Sm8 : SumsAt H8 S i rs := Sm.keepB w3 s8'
      -- top, bottom
      obtain ⟨kvs, hS8, kl, hval⟩ := id Sm8
      refine ⟨_, rfl, S, rfl, .inl ⟨kvs, .inl hS8⟩, _, rfl, (by show 2 ≤ sizeLine; decide), fun t0 ht0 => ?_⟩
      have sm9 : Same H8 (upd H8 t0 (.tup [V.int 0, V.int 1])) := same_new ht0
      have t09 : upd H8 t0 (.tup [V.int 0, V.int 1]) t0 = some (.tup [V.int 0, V.int 1]) := upd_same
      have w9 := w8.new (o := .tup [V.int 0, V.int 1]) ht0
      generalize upd H8 t0 (.tup [V.int 0, V.int 1]) = H9 at sm9 t09 w9
      have s9 : SameB a H H9 := (s3.trans s8').trans (SameB.of sm9)
      have R9 := R8.same sm9
      have Sm9 := Sm8.same sm9
      obtain ⟨t1, et1, ht1⟩ : ∃ t1, (valV kvs (Sum.inr rr.1)).getD (.ref t0) = .ref t1 ∧ H9 t1 = some (.tup [.int (fr rs rr.1).1, .int (fr rs rr.1).2]) := by
        rcases hval rr.1 with ⟨e1, e2⟩ | ⟨t, e1, e2⟩
        · exact ⟨t0, by rw [e1]; rfl, by rw [e2]; exact t09⟩
        · exact ⟨t, by rw [e1]; rfl, sm9 _ _ e2⟩
      refine ⟨_, DGet.k (k := Sum.inr rr.1) (sm9 _ _ hS8), ?_⟩
      rw [et1]
      obtain ⟨f0, f1, f2, _⟩ := fb rr.1
      have f3 := fb.small (by omega) rr.1
      generalize hT : (fr rs rr.1).1 = T at ht1 f0 f1
      generalize hBt : (fr rs rr.1).2 = Bt at ht1 f1 f2 f3
      have hwh : 1 ≤ 1 + q2 ∧ 1 + q2 ≤ 1000 := by omega
      refine ⟨t1, _, rfl, SqT.of ht1, rfl, _, _, rfl, _, _, rfl, rfl, ?_⟩
      refine ⟨fun σ' H' => ∃ (v5 : Option V) (pp : Int), σ' = [some (.ref a), some (.ref lh), some (.int d), some (.ref G), some (.ref S), v5, some (.str rr.1), some (.int (1 + q2)), some (.int pp), some (.int T), some (.int Bt)] ∧ 0 ≤ pp ∧ pp ≤ 1 + q2 ∧ T * (1 + q2) + pp * Bt ≤ Bt * (1 + q2) ∧ H9 = H', ?_, ?_⟩
      · refine ⟨_, rfl, _, rfl, _, _, rfl, rfl, Or.inr ⟨by omega, by omega⟩, _, rfl, _, rfl, _, _, rfl, rfl, Or.inl ⟨by omega, by omega⟩, _, _, rfl, rfl, _, rfl, _, rfl, _, _, rfl, rfl, Or.inr ⟨by omega, by omega⟩, _, _, rfl, rfl, _, rfl, ite2 (fun c => ?_) (fun c => ?_)⟩
        · obtain ⟨c0, c1, c2⟩ := cut_part f0 f1 f2 hwh.1
          refine ⟨_, rfl, _, rfl, _, _, rfl, rfl, _, rfl, _, _, rfl, rfl, Or.inr ⟨by omega, by omega⟩, _, rfl, _, _, rfl, rfl, wide_div (by omega) (b := 50) (by omega) (by decide) (by decide), ?_⟩
          exact ⟨_, _, rfl, c0, c1, c2, rfl⟩
        · have c' : ¬ Bt * (1 + q2) < T * (1 + q2) + pt * Bt := fun z => c (decide_eq_true z)
          exact ⟨_, _, rfl, hpb.1, hpb.2, by omega, rfl⟩
      · rintro σ' H9' ⟨v5', pp, rfl, pp0, ppW, hone, rfl⟩
        generalize hW : 1 + q2 = W at hwh ppW hone ⊢
        refine ⟨_, rfl, _, rfl, _, _, rfl, rfl, Or.inr ⟨by omega, by omega⟩, _, rfl, _, rfl, _, _, rfl, rfl, Or.inl ⟨by omega, by omega⟩, _, _, rfl, rfl, _, rfl, _, rfl, _, _, rfl, rfl, Or.inr ⟨by omega, by omega⟩, (by show 2 ≤ sizeLine; decide), fun t2 ht2 => ?_⟩
        have sm10 : Same H9 (upd H9 t2 (.tup [V.int (T * W + pp * Bt), V.int (Bt * W)])) := same_new ht2
        have t210 : upd H9 t2 (.tup [V.int (T * W + pp * Bt), V.int (Bt * W)]) t2 = some (.tup [V.int (T * W + pp * Bt), V.int (Bt * W)]) := upd_same
        have w10 := w9.new (o := .tup [V.int (T * W + pp * Bt), V.int (Bt * W)]) ht2
        refine ⟨_, rfl, _, rfl, S, _, rfl, DPut.k (k := Sum.inr rr.1) (sm10 _ _ (sm9 _ _ hS8)) (by omega), ?_⟩
        dsimp only
        have Sa : S ≠ a := by obtain ⟨_, _, _, e⟩ := w10; exact ne_of (sm10 _ _ (sm9 _ _ hS8)) e (fun z => nomatch z)
        have R10 := R9.same sm10
        have S10 := sm10 _ _ (sm9 _ _ hS8)
        have s10 : SameB a H _ := s9.trans (SameB.of sm10)
        generalize upd H9 t2 (.tup [V.int (T * W + pp * Bt), V.int (Bt * W)]) = H10 at sm10 t210 w10 R10 S10 s10
        have nSt : ∀ {b : Addr} {r : List V}, H10 b = some (.tup r) → b ≠ S := fun e => ne_of e S10 (fun z => nomatch z)
        have G11 : upd H10 S (.dK (putK kvs (Sum.inr rr.1) (.ref t2))) G = some (.lst (ts.map V.ref)) := by rw [upd_ne GS]; exact R10.1
        have R11 : RowsAt (upd H10 S (.dK (putK kvs (Sum.inr rr.1) (.ref t2)))) G ts (rs.map rv) := ⟨G11, paired_mono (fun b r e => by rw [upd_ne (nSt e)]; exact e) R10.2⟩
        have w11 : WellAt (upd H10 S (.dK (putK kvs (Sum.inr rr.1) (.ref t2)))) a := w10.up Sa.symm
        have s11 : SameB a H (upd H10 S (.dK (putK kvs (Sum.inr rr.1) (.ref t2)))) := fun b o e hb => by rw [upd_ne (ne_of_none e nS)]; exact s10 b o e hb
        have nr : RulOk d (nms hs) (rr.1, pp, W, 2) ∧ True := ⟨⟨List.mem_of_getElem? (nms_get hrr), hwh, ⟨pp0, ppW⟩, (by show 2 ≤ (2 : Int); decide), (by show 2 ≤ d + 1; omega)⟩, trivial⟩
        refine ⟨_, rfl, .inl ⟨rfl, _, SqL.of G11⟩, _, rfl, _, rfl, _, rfl, _, rfl, _, rfl, a, d, rfl, w11, by omega, by omega, fun u H12 u0 u1 w12 s12 => ⟨_, _, rfl, rfl, (by show 4 ≤ sizeLine; decide), fun t3 ht3 => ?_⟩⟩
        have frn : ∀ x, fr (rs ++ [(rr.1, pp, W, 2 + u)]) x = if rr.1 = x then (T * W + pp * Bt, Bt * W) else fr rs x := fun x => by
          rw [fr_snoc]
          unfold frS
          by_cases e : rr.1 = x
          · rw [if_pos e, if_pos e, ← e, hT, hBt]
          · rw [if_neg e, if_neg e]
        have Sm11 : SumsAt (upd H10 S (.dK (putK kvs (Sum.inr rr.1) (.ref t2)))) S (i + 1) (rs ++ [(rr.1, pp, W, 2 + u)]) := by
          refine ⟨_, upd_same, Nat.le_trans putK_len (by omega), fun x => ?_⟩
          rw [valV_put, frn]
          by_cases e : x = rr.1
          · rw [if_pos (by rw [e]), if_pos e.symm]
            exact .inr ⟨t2, rfl, by rw [upd_ne (nSt t210)]; exact t210⟩
          · rw [if_neg (fun z => e (by injection z)), if_neg (fun z => e z.symm)]
            rcases hval x with z | ⟨t, e1, e2⟩
            · exact .inl z
            · have e3 := sm10 _ _ (sm9 _ _ e2)
              exact .inr ⟨t, e1, by rw [upd_ne (nSt e3)]; exact e3⟩
        have R12 := R11.keepB w11 s12 aG.symm
        have Sm12 := Sm11.keepB w11 s12
        refine ⟨G, _, _, rfl, rfl, same_new ht3 _ _ R12.1, (by rw [List.length_map]; omega), ?_⟩
        have R13 := R12.same (same_new (o := .tup (rv (rr.1, pp, W, 2 + u))) ht3)
        have Sm13 := Sm12.same (same_new (o := .tup (rv (rr.1, pp, W, 2 + u))) ht3)
        have t13 : upd H12 t3 (.tup (rv (rr.1, pp, W, 2 + u))) t3 = some (.tup (rv (rr.1, pp, W, 2 + u))) := upd_same
        have w13 := w12.new (o := .tup (rv (rr.1, pp, W, 2 + u))) ht3
        have s13 : SameB a H (upd H12 t3 (.tup (rv (rr.1, pp, W, 2 + u)))) := (s11.trans s12).trans (SameB.of (same_new ht3))
        show ∃ (v5 v6 v7 v8 v9 v10 : Option V) (ts : List Addr) (rs : List Rw4), _ = [some (.ref a), some (.ref lh), some (.int d), some (.ref G), some (.ref S), v5, v6, v7, v8, v9, v10] ∧ rs.length = i + 1 ∧ (∀ r ∈ rs, RulOk d (nms hs) r) ∧ FB rs ∧ RowsAt (upd (upd H12 t3 (.tup (rv (rr.1, pp, W, 2 + u)))) G _) G ts (rs.map rv) ∧ SumsAt (upd (upd H12 t3 (.tup (rv (rr.1, pp, W, 2 + u)))) G _) S (i + 1) rs ∧ WellAt (upd (upd H12 t3 (.tup (rv (rr.1, pp, W, 2 + u)))) G _) a ∧ SameB a H (upd (upd H12 t3 (.tup (rv (rr.1, pp, W, 2 + u)))) G _)
        generalize upd H12 t3 (.tup (rv (rr.1, pp, W, 2 + u))) = H13 at R13 Sm13 t13 w13 s13
        have tG : t3 ≠ G := ne_of t13 R13.1 (fun z => nomatch z)
        refine ⟨_, _, _, _, _, _, ts ++ [t3], rs ++ [(rr.1, pp, W, 2 + u)], rfl, by rw [List.length_append, hlen]; rfl, ?_, ?_, ⟨by rw [upd_same, List.map_append]; rfl, ?_⟩, Sm13.upl R13.1, w13.up aG, ?_⟩
        · intro r hr
          rcases List.mem_append.mp hr with hr | hr
          · exact hok r hr
          · rw [List.mem_singleton.mp hr]
            exact ⟨nr.1.1, hwh, ⟨pp0, ppW⟩, (by show 2 ≤ 2 + u; omega), (by show 2 + u ≤ d + 1; omega)⟩
        · refine fb.snoc hwh pp0 ?_
          show (fr rs rr.1).1 * W + pp * (fr rs rr.1).2 ≤ (fr rs rr.1).2 * W
          rw [hT, hBt]; exact hone
        · rw [List.map_append]
          refine paired_snoc (by rw [upd_ne tG]; exact t13) (paired_mono (fun b r e => ?_) R13.2)
          rw [upd_ne (ne_of e R13.1 (fun z => nomatch z))]
          exact e
        · intro b o e hb
          rw [upd_ne (ne_of_none e hG)]; exact s13 b o e hb
    · rintro σ H3 ⟨v5, v6, v7, v8, v9, v10, ts, rs, rfl, hlen, hok, fb, R, Sm, w3, s3⟩
      exact ⟨_, rfl, k G ts rs H3 hok (by omega) (fun x => (fb x).2.1) R hG w3 s3⟩
end
end KP
namespace KP
open PySem L2
/-! ### data whose lists stand in S -/
mutual
inductive DM (S : Addr → Prop) (H : Hp) : V → PyData → Prop
  | int (i : Int) : DM S H (.int i) (.int i)
  | str (x : Str) : DM S H (.str x) (.str x)
  | lst {a : Addr} {xs : List V} {ds : List PyData} : S a → H a = some (.lst xs) → DMs S H xs ds → DM S H (.ref a) (.list ds)
  | tup {a : Addr} {xs : List V} {ds : List PyData} : H a = some (.tup xs) → DMs S H xs ds → DM S H (.ref a) (.tuple ds)
inductive DMs (S : Addr → Prop) (H : Hp) : List V → List PyData → Prop
  | nil : DMs S H [] []
  | cons {v : V} {vs : List V} {d : PyData} {ds : List PyData} : DM S H v d → DMs S H vs ds → DMs S H (v :: vs) (d :: ds)
end
def KeepS (S : Addr → Prop) (H H' : Hp) : Prop := ∀ b o, H b = some o → ((∃ xs, o = .lst xs) → S b) → H' b = some o
mutual
theorem DM.keep {S : Addr → Prop} {H H' : Hp} (k : KeepS S H H') : ∀ {v : V} {d : PyData}, DM S H v d → DM S H' v d
  | _, _, .int i => .int i
  | _, _, .str x => .str x
  | _, _, .lst s e t => .lst s (k _ _ e fun _ => s) (DMs.keep k t)
  | _, _, .tup e t => .tup (k _ _ e fun ⟨_, z⟩ => nomatch z) (DMs.keep k t)
theorem DMs.keep {S : Addr → Prop} {H H' : Hp} (k : KeepS S H H') : ∀ {v : List V} {d : List PyData}, DMs S H v d → DMs S H' v d
  | _, _, .nil => .nil
  | _, _, .cons a b => .cons (DM.keep k a) (DMs.keep k b)
end
mutual
theorem DM.mono {S S' : Addr → Prop} {H : Hp} (k : ∀ a o, H a = some o → S a → S' a) : ∀ {v : V} {d : PyData}, DM S H v d → DM S' H v d
  | _, _, .int i => .int i
  | _, _, .str x => .str x
  | _, _, .lst s e t => .lst (k _ _ e s) e (DMs.mono k t)
  | _, _, .tup e t => .tup e (DMs.mono k t)
theorem DMs.mono {S S' : Addr → Prop} {H : Hp} (k : ∀ a o, H a = some o → S a → S' a) : ∀ {v : List V} {d : List PyData}, DMs S H v d → DMs S' H v d
  | _, _, .nil => .nil
  | _, _, .cons a b => .cons (DM.mono k a) (DMs.mono k b)
end
mutual
theorem DM.dp {S : Addr → Prop} {K : PySem.W.Frag} {H : Hp} : ∀ {v : V} {d : PyData}, DM S H v d → Dp K H v d
  | _, _, .int i => .int i
  | _, _, .str x => .str x
  | _, _, .lst _ e t => .lst (SqL.of e) (DMs.dp t)
  | _, _, .tup e t => .tup (SqT.of e) (DMs.dp t)
theorem DMs.dp {S : Addr → Prop} {K : PySem.W.Frag} {H : Hp} : ∀ {v : List V} {d : List PyData}, DMs S H v d → DpAll K H v d
  | _, _, .nil => .nil
  | _, _, .cons a b => .cons (DM.dp a) (DMs.dp b)
end
theorem DM.ext {S : Addr → Prop} {H : Hp} {a : Addr} {v : V} {d : PyData} (h : DM S H v d) (ha : H a = none) : DM (fun b => S b ∧ b ≠ a) H v d := h.mono fun b o e s => ⟨s, ne_of_none e ha⟩
theorem DMs.ext {S : Addr → Prop} {H : Hp} {a : Addr} {v : List V} {d : List PyData} (h : DMs S H v d) (ha : H a = none) : DMs (fun b => S b ∧ b ≠ a) H v d := h.mono fun b o e s => ⟨s, ne_of_none e ha⟩
theorem DM.same {S : Addr → Prop} {H H' : Hp} {v : V} {d : PyData} (h : DM S H v d) (s : Same H H') : DM S H' v d := h.keep fun b o e _ => s b o e
theorem DMs.same {S : Addr → Prop} {H H' : Hp} {v : List V} {d : List PyData} (h : DMs S H v d) (s : Same H H') : DMs S H' v d := h.keep fun b o e _ => s b o e
theorem DMs.append {S : Addr → Prop} {H : Hp} : ∀ {v u : List V} {d e : List PyData}, DMs S H v d → DMs S H u e → DMs S H (v ++ u) (d ++ e)
  | _, _, _, _, .nil, q => q
  | _, _, _, _, .cons a b, q => .cons a (DMs.append b q)
theorem DMs.len {S : Addr → Prop} {H : Hp} : ∀ {v : List V} {d : List PyData}, DMs S H v d → v.length = d.length
  | _, _, .nil => rfl
  | _, _, .cons a b => congrArg (· + 1) (DMs.len b)
theorem DMs.strs {S : Addr → Prop} {H : Hp} : ∀ (xs : List Str), DMs S H (xs.map V.str) (xs.map PyData.str)
  | [] => .nil
  | x :: xs => .cons (.str x) (DMs.strs xs)
theorem DMs.flat {S : Addr → Prop} {H : Hp} : ∀ {vs : List V}, (∀ v ∈ vs, okd v) → DMs S H vs (vs.map dat)
  | [], _ => .nil
  | v :: vs, h => by
    refine .cons ?_ (DMs.flat fun u hu => h u (List.mem_cons_of_mem _ hu))
    rcases h v List.mem_cons_self with ⟨x, rfl, _⟩ | ⟨i, rfl⟩
    · exact .str x
    · exact .int i
theorem DMs.rows {S : Addr → Prop} {H : Hp} : ∀ {ts : List Addr} {rows : List (List V)}, Paired (fun t r => H t = some (.tup r)) ts rows → (∀ r ∈ rows, ∀ v ∈ r, okd v) → DMs S H (ts.map V.ref) (rows.map fun r => .tuple (r.map dat))
  | _, _, .nil, _ => .nil
  | _, _, .cons a p, h => .cons (.tup a (DMs.flat (h _ List.mem_cons_self))) (DMs.rows p fun r hr => h r (List.mem_cons_of_mem _ hr))
theorem DM.rows {S : Addr → Prop} {H : Hp} {l : Addr} {ts : List Addr} {rows : List (List V)} (h : RowsAt H l ts rows) (ok : ∀ r ∈ rows, ∀ v ∈ r, okd v) (s : S l) : DM S H (.ref l) (rowsD rows) := .lst s h.1 (DMs.rows h.2 ok)
/-! ### what a year tells, as data -/
def info (hs : List Hd) (x : Str) : PyData := .tuple [.str (up hs x), .list ((kn hs x).map PyData.str), .list ((und hs x).map PyData.str)]
def Yr.parts (y : Yr) : List PyData := [.int y.days, rowsD (y.hs.map hv), rowsD (y.ls.map rv), rowsD (y.rs.map rv)]
def Yr.due (y : Yr) : PyData := .list (y.parts ++ [.list ((nms y.hs).map PyData.str)] ++ (nms y.hs).map (info y.hs))
theorem okd_E : okd (.str "") := .inl ⟨"", rfl, by decide +kernel⟩
theorem okd_hv {hs : List Hd} (V : VH hs) : ∀ r ∈ hs.map hv, ∀ v ∈ r, okd v := by
  intro r hr
  obtain ⟨q, hq, rfl⟩ := List.mem_map.mp hr
  intro v hv
  obtain ⟨i, hi⟩ := List.mem_iff_getElem?.mp hq
  simp only [KP.hv, List.mem_cons, List.not_mem_nil, or_false] at hv
  rcases hv with rfl | rfl
  · exact okd_W (V.w _ (List.mem_of_getElem? (nms_get hi)))
  · rcases V.up i q hi with e | ⟨j, _, hj⟩
    · rw [e]; exact okd_E
    · exact okd_W (V.w _ (List.mem_of_getElem? hj))
theorem Yr.ok.hv {y : Yr} (h : y.ok) : ∀ r ∈ y.hs.map KP.hv, ∀ v ∈ r, okd v := okd_hv h.h
theorem Yr.ok.lv {y : Yr} (h : y.ok) : ∀ r ∈ y.ls.map rv, ∀ v ∈ r, okd v := okd_rvs h.h.w fun r hr => (h.l r hr).1
theorem Yr.ok.rv {y : Yr} (h : y.ok) : ∀ r ∈ y.rs.map KP.rv, ∀ v ∈ r, okd v := okd_rvs h.h.w fun r hr => (h.r r hr).1
/-- layable, and not too deep -/
def lay (n : Nat) (d : PyData) : Prop := d.canLay0 = true ∧ d.depth ≤ n
theorem lay_all {n : Nat} : ∀ {ds : List PyData}, (∀ d ∈ ds, lay n d) → PyData.canLayAll0 ds = true ∧ PyData.depthAll ds ≤ n
  | [], _ => ⟨rfl, Nat.zero_le _⟩
  | d :: ds, h => by
    obtain ⟨h1, h2⟩ := lay_all (ds := ds) fun u hu => h u (List.mem_cons_of_mem _ hu)
    obtain ⟨g1, g2⟩ := h d List.mem_cons_self
    refine ⟨?_, ?_⟩
    · show (d.canLay0 && PyData.canLayAll0 ds) = true
      rw [g1, h1]; rfl
    · show max d.depth (PyData.depthAll ds) ≤ n
      omega
theorem lay_list {n : Nat} {ds : List PyData} (h : ∀ d ∈ ds, lay n d) : lay (n + 1) (.list ds) := by
  obtain ⟨h1, h2⟩ := lay_all h
  exact ⟨h1, by show PyData.depthAll ds + 1 ≤ n + 1; omega⟩
theorem lay_tup {n : Nat} {ds : List PyData} (h : ∀ d ∈ ds, lay n d) : lay (n + 1) (.tuple ds) := by
  obtain ⟨h1, h2⟩ := lay_all h
  exact ⟨h1, by show PyData.depthAll ds + 1 ≤ n + 1; omega⟩
theorem lay_int {n : Nat} {i : Int} : lay n (.int i) := ⟨rfl, Nat.zero_le _⟩
theorem lay_str {n : Nat} {x : Str} (h : PyData.strOk x = true) : lay n (.str x) := ⟨h, Nat.zero_le _⟩
theorem lay.shaped {n : Nat} {d : PyData} (h : lay n d) (hn : n ≤ 64) : SeqAt.shaped d = true := by
  unfold SeqAt.shaped
  rw [h.1, decide_eq_true (Nat.le_trans h.2 hn)]; rfl
theorem lay.up {n m : Nat} {d : PyData} (h : lay n d) (hn : n ≤ m) : lay m d := ⟨h.1, Nat.le_trans h.2 hn⟩
theorem lay_strs {n : Nat} {xs : List Str} (h : ∀ x ∈ xs, PyData.strOk x = true) : lay (n + 1) (.list (xs.map PyData.str)) := lay_list fun d hd => by
  obtain ⟨x, hx, rfl⟩ := List.mem_map.mp hd
  exact lay_str (h x hx)
theorem lay_rowsD {rows : List (List V)} (h : ∀ r ∈ rows, ∀ v ∈ r, okd v) : lay 2 (rowsD rows) := by
  obtain ⟨h1, h2⟩ := lay_rows h
  exact ⟨h1, by show PyData.depthAll _ + 1 ≤ 2; omega⟩
theorem strOk_up {hs : List Hd} (V : VH hs) {x : Str} (h : x ∈ nms hs) : PyData.strOk (up hs x) = true := by
  rcases (up_ok V h).2 with e | e
  · rw [e]; decide +kernel
  · exact strOk_W (V.w _ e)
theorem lay_info {hs : List Hd} (V : VH hs) {x : Str} (h : x ∈ nms hs) : lay 2 (info hs x) := lay_tup fun d hd => by
  simp only [List.mem_cons, List.not_mem_nil, or_false] at hd
  rcases hd with rfl | rfl | rfl
  · exact lay_str (strOk_up V h)
  · exact lay_strs fun z hz => strOk_W (V.w _ (kn_mem V h hz))
  · exact lay_strs fun z hz => strOk_W (V.w _ (List.mem_filter.mp hz).1)
theorem lay_parts {y : Yr} (h : y.ok) : ∀ d ∈ y.parts, lay 2 d := by
  intro d hd
  simp only [Yr.parts, List.mem_cons, List.not_mem_nil, or_false] at hd
  rcases hd with rfl | rfl | rfl | rfl
  · exact lay_int
  · exact lay_rowsD h.hv
  · exact lay_rowsD h.lv
  · exact lay_rowsD h.rv
theorem lay_due {y : Yr} (h : y.ok) : lay 3 y.due := lay_list fun d hd => by
  rcases List.mem_append.mp hd with hd | hd
  · rcases List.mem_append.mp hd with hd | hd
    · exact lay_parts h d hd
    · rw [List.mem_singleton.mp hd]; exact lay_strs fun z hz => strOk_W (h.h.w _ hz)
  · obtain ⟨x, hx, rfl⟩ := List.mem_map.mp hd
    exact lay_info h.h hx
/-! ### dicts of texts -/
theorem merge_out {acc r : List (Key × V)} {k : Key} (h : ∀ kv ∈ r, kv.1 ≠ k) : valV (mergeK acc r) k = valV acc k := by
  unfold mergeK
  induction r generalizing acc with
  | nil => rfl
  | cons a r ih =>
    rw [List.foldl_cons, ih fun kv hk => h kv (List.mem_cons_of_mem _ hk), valV_put, if_neg fun e => h a List.mem_cons_self e.symm]
theorem merge_in {hs : List Hd} : ∀ {acc : List (Key × V)} {i : Nat} {r : Hd}, (nms hs).Nodup → hs[i]? = some r → valV (mergeK acc (hs.map fun r => ((Sum.inr r.1 : Key), V.str r.2))) (Sum.inr r.1) = some (.str r.2) := by
  induction hs with
  | nil => intro acc i r _ h; simp at h
  | cons a hs ih =>
    intro acc i r hn h
    have hn' := List.nodup_cons.mp (show (a.1 :: nms hs).Nodup from hn)
    show valV (mergeK (putK acc (Sum.inr a.1) (.str a.2)) (hs.map fun r => ((Sum.inr r.1 : Key), V.str r.2))) (Sum.inr r.1) = _
    cases i with
    | zero =>
      have e : a = r := Option.some.inj h
      subst e
      rw [merge_out, valV_put, if_pos rfl]
      intro kv hk
      obtain ⟨q, hq, rfl⟩ := List.mem_map.mp hk
      intro z
      have : q.1 = a.1 := by injection z
      exact hn'.1 (by rw [← this]; exact List.mem_map.mpr ⟨q, hq, rfl⟩)
    | succ i => exact ih hn'.2 h
theorem paired_map {α β γ δ : Type} {F : α → β → Prop} {G : α → γ → Prop} {f : δ → β} {g : δ → γ} (k : ∀ a d, F a (f d) → G a (g d)) : ∀ {ts : List α} {ds : List δ}, Paired F ts (ds.map f) → Paired G ts (ds.map g)
  | _, [], .nil => .nil
  | _, d :: ds, .cons a p => .cons (k _ _ a) (paired_map k p)
end KP
namespace KP
open PySem L2
abbrev sLKnots : Stmt := top 45
abbrev sLAll : Stmt := top 46
abbrev sLAsked : Stmt := top 47
abbrev sLDue : Stmt := top 48
abbrev sLaw : Stmt := top 57
def spLParts : Sp := fun vs H Q _ => ∃ a : Addr, vs = [.ref a] ∧ WellAt H a ∧ ∀ (q lh ll lr : Addr) (th tl tr : List Addr) (y : Yr) (H' : Hp), y.ok → H' q = some (.lst [.int y.days, .ref lh, .ref ll, .ref lr]) → RowsAt H' lh th (y.hs.map hv) → RowsAt H' ll tl (y.ls.map rv) → RowsAt H' lr tr (y.rs.map rv) →
  H q = none → H lh = none → H ll = none → H lr = none → WellAt H' a → SameB a H H' → Q (.ref q) H'
def spLKnots : Sp := fun vs H Q _ => ∃ (lh : Addr) (th : List Addr) (hs : List Hd) (x : Str), vs = [.ref lh, .str x] ∧ RowsAt H lh th (hs.map hv) ∧ VH hs ∧ x ∈ nms hs ∧ ∀ q H', Same H H' → H q = none → H' q = some (.lst ((kn hs x).map V.str)) → Q (.ref q) H'
def spLAll : Sp := fun vs H Q _ => ∃ (lh : Addr) (th : List Addr) (hs : List Hd), vs = [.ref lh] ∧ RowsAt H lh th (hs.map hv) ∧ VH hs ∧ ∀ (q : Addr) (xs : List V) (H' : Hp), Same H H' → H q = none → H' q = some (.lst xs) → DMs (fun a => H a = none) H' xs ((nms hs).map (info hs)) → Q (.ref q) H'
section
variable {P : Program} {w : World} {K : PySem.W.Frag} {mg : Str → Option Value} {base : Heap}
theorem scLParts : FnScope ["_law_well_here", "_law_days", "_law_heads_here"] ["_law_well_here"] (defScope sLParts) := ⟨rfl, rfl, rfl, by decide +kernel, rfl, by decide +kernel, by decide +kernel⟩
theorem c_lparts (Dr : Cal P w K mg base 1 "_law_draw" spDraw) (Hs : Cal P w K mg base 4 "_law_heads" spLHeads) (Li : Cal P w K mg base 2 "_law_limits" spLLimits) (Ru : Cal P w K mg base 2 "_law_rules" spLRules) (D : DefT K mg "_law_parts" sLParts ["_law_well_here"]) : Cal P w K mg base 5 "_law_parts" spLParts := by
  refine cal D scLParts (fun vs H Q E h => ?_) (fun f cdv A outer s H vs Q E hr h => ?_)
  · obtain ⟨a, rfl, _⟩ := h
    rfl
  · obtain ⟨a, rfl, ha, k⟩ := h
    refine ⟨_, pss_cons (ps_set (i := 1) scLParts.nd rfl (Or.inl rfl) (pe_ix ix_list (pe_lst (pa_cons (pe_op op_add pe_int (pe_cl Dr hr (by decide) (by rfl) (pa_cons (pv 0) (pa_cons pe_int pa_nil)))) (pa_cons pe_int (pa_cons pe_int pa_nil))))
        (pe_ix ix_list (pe_lst (pa_cons pe_int (pa_cons pe_int (pa_cons pe_int (pa_cons pe_int (pa_cons pe_int pa_nil)))))) (pe_cl Dr hr (by decide) (by rfl) (pa_cons (pv 0) (pa_cons pe_int pa_nil))) (fun _ _ => rfl)) (fun _ _ => rfl)))
      (pss_cons (ps_set (i := 2) scLParts.nd rfl (Or.inl rfl) (pe_cl Hs hr (by decide) (by rfl) (pa_cons (pv 0) pa_nil)))
      (pss_one (ps_ret (pe_lst (pa_cons (pv 1) (pa_cons (pv 2) (pa_cons (pe_cl Li hr (by decide) (by rfl) (pa_cons (pv 0) (pa_cons (pv 2) (pa_cons (pv 1) pa_nil)))) (pa_cons (pe_cl Ru hr (by decide) (by rfl) (pa_cons (pv 0) (pa_cons (pv 2) (pa_cons (pv 1) pa_nil)))) pa_nil)))))))), ?_⟩
    refine ⟨_, rfl, a, 30, rfl, ha, by decide, by decide, fun r1 H1 r10 r11 w1 s1 => ⟨_, _, rfl, rfl, (by show 3 ≤ sizeLine; decide), fun l hl => ⟨(by show 5 ≤ sizeLine; decide), fun l2 hl2 => ?_⟩⟩⟩
    refine ⟨_, rfl, a, 5, rfl, (w1.new hl).new hl2, by decide, by decide, fun r2 H2 r20 r21 w2 s2 => ?_⟩
    have hl22 := s2 l2 _ upd_same ((w1.new hl).ne hl2).symm
    have hll := s2 l _ (same_new hl2 _ _ upd_same) (w1.ne hl).symm
    have s2' : SameB a H H2 := ((s1.trans (SameB.of (same_new hl))).trans (SameB.of (same_new hl2))).trans s2
    obtain ⟨j, hj, hjb⟩ : ∃ j : Int, atI [V.int 0, V.int 0, V.int 0, V.int 1, V.int 2] r2 = some (.int j) ∧ (j = 0 ∨ j = 1 ∨ j = 2) := by
      rcases (by omega : r2 = 0 ∨ r2 = 1 ∨ r2 = 2 ∨ r2 = 3 ∨ r2 = 4) with rfl | rfl | rfl | rfl | rfl
      · exact ⟨0, rfl, .inl rfl⟩
      · exact ⟨0, rfl, .inl rfl⟩
      · exact ⟨0, rfl, .inl rfl⟩
      · exact ⟨1, rfl, .inr (.inl rfl)⟩
      · exact ⟨2, rfl, .inr (.inr rfl)⟩
    obtain ⟨d, hd, hdb⟩ : ∃ d : Int, atI [V.int (1 + r1), V.int 30, V.int 1] j = some (.int d) ∧ 1 ≤ d ∧ d ≤ 30 := by
      rcases hjb with rfl | rfl | rfl
      · exact ⟨1 + r1, rfl, by omega, by omega⟩
      · exact ⟨30, rfl, by omega, by omega⟩
      · exact ⟨1, rfl, by omega, by omega⟩
    refine ⟨l2, _, _, _, rfl, rfl, SqL.of hl22, hj, l, _, _, _, rfl, rfl, SqL.of hll, hd, ?_⟩
    refine ⟨_, rfl, a, rfl, w2, fun lh th hs H3 Vh R3 nlh w3 s3 => ?_⟩
    have lha : lh ≠ a := fun z => by subst z; obtain ⟨_, _, _, e⟩ := w2; rw [nlh] at e; cases e
    refine ⟨_, rfl, _, rfl, _, rfl, _, rfl, _, rfl, a, lh, th, hs, d, rfl, w3, R3, lha, Vh, hdb.1, hdb.2, fun ll tl ls H4 lok l6 R4 nll w4 s4 => ?_⟩
    have lla : ll ≠ a := fun z => by subst z; obtain ⟨_, _, _, e⟩ := w3; rw [nll] at e; cases e
    refine ⟨_, rfl, _, rfl, _, rfl, a, lh, th, hs, d, rfl, w4, R3.keepB w3 s4 lha, lha, Vh, hdb.1, hdb.2, fun lr tr rs H5 rok r4 one R5 nlr w5 s5 => ⟨(by show 4 ≤ sizeLine; decide), fun q hq => ?_⟩⟩
    have sq : Same H5 _ := same_new (o := .lst [V.int d, V.ref lh, V.ref ll, V.ref lr]) hq
    have s3' := s2'.trans s3
    have s4' := s3'.trans s4
    refine k q lh ll lr th tl tr ⟨d, hs, ls, rs⟩ _ ⟨hdb, Vh, lok, l6, rok, r4, one⟩ upd_same (((R3.keepB w3 s4 lha).keepB w4 s5 lha).same sq) ((R4.keepB w4 s5 lla).same sq) (R5.same sq) ?_ ?_ ?_ ?_ (w5.new hq) ((s4'.trans s5).trans (SameB.of sq))
    · exact free_ofB w5 (s4'.trans s5) hq
    · exact free_ofB w2 s2' nlh
    · exact free_ofB w3 s3' nll
    · exact free_ofB w4 s4' nlr
abbrev nLKnots : List Str := ["_law_heads_here", "_law_name_here", "_law_above", "_law_found", "_law_k"]
theorem scLKnots : FnScope nLKnots ["_law_heads_here", "_law_name_here"] (defScope sLKnots) := ⟨rfl, rfl, rfl, by decide +kernel, rfl, by decide +kernel, by decide +kernel⟩
theorem c_lknots (B : Base K mg) (D : DefT K mg "_law_knots" sLKnots ["_law_heads_here", "_law_name_here"]) : Cal P w K mg base 1 "_law_knots" spLKnots := by
  refine cal D scLKnots (fun vs H Q E h => ?_) (fun f cdv A outer s H vs Q E hr h => ?_)
  · obtain ⟨lh, th, hs, x, rfl, _⟩ := h
    rfl
  · obtain ⟨lh, th, hs, x, rfl, R, Vh, hx, k⟩ := h
    have hz : sizeLine = 16777216 := by decide
    have thl : th.length = hs.length := by rw [R.len, List.length_map]
    have h8 := Vh.l8
    refine ⟨_, pss_cons (ps_set (i := 2) scLKnots.nd rfl (Or.inl rfl) (pe_callTy (call_dictP rfl) (by rfl) B.dict (by decide +kernel) (pa_cons (pv 0) pa_nil)))
      (pss_cons (ps_set (i := 3) scLKnots.nd rfl (Or.inl rfl) (pe_lst pa_nil))
      (pss_cons (ps_for PassesOwn.never rfl (pi_range1 (by rfl) B.range (pa_cons (pe_callB call_len_seq (by rfl) B.len PySem.boot_len (pa_cons (pv 0) pa_nil)) pa_nil)) (pg_name (i := 4) scLKnots.nd rfl (Or.inl rfl))
        (pss_one (ps_if (pt_cmpR op_ne (pv 1) pe_str (nomark _)) (pss_cons (ps_expr (pe_bm PySem.F.plainAttrs_list PySem.F.slot_list_append PySem.F.type_list_append mt_append (pv 3) (pa_cons (pv 1) pa_nil)))
          (pss_one (ps_set (i := 1) scLKnots.nd rfl (Or.inl rfl) (pe_dget (hu_of hr) (pv 2) (pv 1) (fun _ _ => rfl))))) pss_nil)))
      (pss_one (ps_ret (pv 3))))), ?_⟩
    have PD : Paired (fun p (kv : Key × V) => SqT K H p [kV kv.1, kv.2]) th (hs.map fun r : Hd => ((Sum.inr r.1 : Key), V.str r.2)) := paired_map (F := fun t r => H t = some (.tup r)) (f := hv) (g := fun r => ((Sum.inr r.1 : Key), V.str r.2)) (fun a d e => SqT.of e) R.2
    refine ⟨_, rfl, lh, th, hs.map (fun r : Hd => ((Sum.inr r.1 : Key), V.str r.2)), rfl, SqL.of R.1, PD, fun d hd => ⟨(by show 0 ≤ sizeLine; decide), fun G hG => ?_⟩⟩
    have hdG : d ≠ G := ne_of_none upd_same hG
    have nG : H G = none := (same_new hd).free hG
    have s0 : Same H _ := (same_new hd).trans (same_new (o := .lst []) hG)
    refine ⟨_, rfl, lh, _, rfl, .inl (SqL.of (s0 _ _ R.1)), _, rfl, by omega, by rw [List.length_map, thl]; omega, for_range (lo := 0) (n := ((th.map V.ref).length : Int).toNat)
      (fun i σ H' => ∃ (u : Str) (xs : List Str) (v4 : Option V), σ = [some (.ref lh), some (.str u), some (.ref d), some (.ref G), v4] ∧ xs.length ≤ i ∧ xs ++ chain hs (hs.length - i) u = kn hs x ∧ (u = "" ∨ u ∈ nms hs) ∧ H' = upd (upd H d (.dK (mergeK [] (hs.map fun r : Hd => ((Sum.inr r.1 : Key), V.str r.2))))) G (.lst (xs.map V.str)))
      ⟨x, [], none, rfl, Nat.le_refl _, rfl, .inr hx, rfl⟩ ?_ ?_⟩
    · rintro i σ H1 hi ⟨u, xs, v4, rfl, hl, hc, hu, rfl⟩
      rw [List.length_map, thl, Int.toNat_natCast] at hi
      refine ⟨_, rfl, rfl, _, rfl, ite2 (fun c => ?_) (fun c => ?_)⟩
      · have une : u ≠ "" := fun z => by rw [z] at c; exact absurd c (by decide +kernel)
        have hm : u ∈ nms hs := by
          rcases hu with z | z
          · exact absurd z une
          · exact z
        obtain ⟨iu, uu, hiu⟩ := mem_nms hm
        have eu : up hs u = uu := up_at Vh.nd hiu
        refine ⟨_, rfl, .inl ⟨rfl, _, SqL.of upd_same⟩, _, rfl, G, _, _, rfl, rfl, upd_same, (by rw [List.length_map]; omega), ?_⟩
        rw [upd_upd]
        have hg : DGet (upd (upd H d (.dK (mergeK [] (hs.map fun r : Hd => ((Sum.inr r.1 : Key), V.str r.2))))) G (.lst (xs.map V.str ++ [V.str u]))) d (.str u) (some (.str uu)) := by
          have h1 := DGet.k (k := Sum.inr u) (show (upd (upd H d (.dK (mergeK [] (hs.map fun r : Hd => ((Sum.inr r.1 : Key), V.str r.2))))) G (.lst (xs.map V.str ++ [V.str u]))) d = some (.dK _) by rw [upd_ne hdG]; exact upd_same)
          rw [merge_in Vh.nd hiu] at h1
          exact h1
        refine ⟨_, rfl, _, rfl, d, _, rfl, hg, ?_⟩
        refine ⟨uu, xs ++ [u], _, rfl, by rw [List.length_append]; show _ + 1 ≤ _; omega, ?_, by rw [← eu]; exact (up_ok Vh hm).2, by rw [List.map_append]; rfl⟩
        obtain ⟨m, hm2⟩ : ∃ m, hs.length - i = m + 1 := ⟨hs.length - i - 1, by omega⟩
        rw [hm2, chain_cons une, eu] at hc
        rw [← hc, List.append_assoc, show hs.length - (i + 1) = m by omega]
        rfl
      · have ue : u = "" := by
          by_cases z : u = ""
          · exact z
          · exfalso
            apply c
            rw [decide_eq_false (fun q : V.str u = V.str "" => z (by injection q))]
            rfl
        subst ue
        refine ⟨"", xs, _, rfl, by omega, ?_, .inl rfl, rfl⟩
        rw [chain_nil] at hc ⊢
        exact hc
    · rintro σ H1 ⟨u, xs, v4, rfl, hl, hc, hu, rfl⟩
      rw [List.length_map, thl, Int.toNat_natCast, Nat.sub_self] at hc
      have e : xs = kn hs x := by rw [← hc]; show xs = xs ++ []; rw [List.append_nil]
      rw [e]
      exact ⟨_, rfl, k G _ ((same_new hd).trans (same_new hG)) nG upd_same⟩
abbrev nLAll : List Str := ["_law_heads_here", "_law_names_here", "_law_found", "_law_name_here", "_law_above", "_law_one"]
theorem scLAll : FnScope nLAll ["_law_heads_here"] (defScope sLAll) := ⟨rfl, rfl, rfl, by decide +kernel, rfl, by decide +kernel, by decide +kernel⟩
theorem c_lall (Kn : Cal P w K mg base 1 "_law_knots" spLKnots) (D : DefT K mg "_law_all" sLAll ["_law_heads_here"]) : Cal P w K mg base 2 "_law_all" spLAll := by
  refine cal D scLAll (fun vs H Q E h => ?_) (fun f cdv A outer s H vs Q E hr h => ?_)
  · obtain ⟨lh, th, hs, rfl, _⟩ := h
    rfl
  · obtain ⟨lh, th, hs, rfl, R, Vh, k⟩ := h
    have hz : sizeLine = 16777216 := by decide
    have thl : th.length = hs.length := by rw [R.len, List.length_map]
    have h8 := Vh.l8
    have nl : (nms hs).length = hs.length := by unfold nms; rw [List.length_map]
    refine ⟨_, pss_cons (ps_setLc (i := 1) (own := [("_law_name_here", 3), ("_law_above", 4)]) (g := gTup K 2 (gCons (gName 3) (gCons (gName 4) gNil))) (tt := tYes) (te := tVar 3) rfl scLAll.nd rfl (by first | rfl | decide +kernel) (sw_true rfl (by first | rfl | decide +kernel) rfl (by decide +kernel)) (pi_list (pv 0)) (blkOk_by (N := nLAll) (sc := defScope sLAll) (by decide +kernel))
        (fun _ _ _ _ _ => pg_tup rfl (pgs_cons (pg_name (i := 3) scLAll.nd rfl (Or.inl rfl)) (pgs_cons (pg_name (i := 4) scLAll.nd rfl (Or.inl rfl)) pgs_nil))) (fun _ _ _ _ _ => pts_nil) (fun _ _ _ _ _ => pv 3))
      (pss_cons (ps_set (i := 2) scLAll.nd rfl (Or.inl rfl) (pe_lst pa_nil))
      (pss_cons (ps_for PassesOwn.never rfl (pi_list (pv 0)) (pg_tup rfl (pgs_cons (pg_name (i := 3) scLAll.nd rfl (by first | exact Or.inl rfl | exact Or.inr rfl)) (pgs_cons (pg_name (i := 4) scLAll.nd rfl (by first | exact Or.inl rfl | exact Or.inr rfl)) pgs_nil)))
        (pss_one (ps_expr (pe_bm PySem.F.plainAttrs_list PySem.F.slot_list_append PySem.F.type_list_append mt_append (pv 2) (pa_cons (pe_tup (pa_cons (pv 4) (pa_cons (pe_cl Kn hr (by decide) (by rfl) (pa_cons (pv 0) (pa_cons (pv 3) pa_nil)))
          (pa_cons (pe_lc (own := [("_law_one", 5)]) (g := gName 5) (tt := tTest (tOp (rIn K false) (tVar 3) (tCall spLKnots [] E0 (tCons (tVar 0) (tCons (tVar 5) tNil))))) rfl scLAll.nd (pi_list (pv 1)) (blkOk_by (N := nLAll) (sc := defScope sLAll) (by decide +kernel))
            (fun _ _ _ _ _ => pg_name (i := 5) scLAll.nd rfl (Or.inl rfl)) (fun _ _ _ _ _ => pts_one (pt_cmpR op_in_seq (pv 3) (pe_cl Kn hr (by decide) (by rfl) (pa_cons (pv 0) (pa_cons (pv 5) pa_nil))) rfl)) (fun _ _ _ _ _ => pv 5)) pa_nil)))) pa_nil)))))
      (pss_one (ps_ret (pv 2))))), ?_⟩
    refine ⟨_, rfl, lh, rfl, ⟨_, SqL.of R.1⟩, fun D2 hD2 => lc_it (walk_list (xs := th.map V.ref)) (fun i H' => H' = upd H D2 (.lst (((nms hs).take i).map V.str))) rfl (fun i H' _ e => by rw [e]; exact SqL.of (same_new hD2 _ _ R.1)) ?_ ?_⟩
    · rintro i v H2 H3 hi rfl ⟨rfl, hv⟩
      obtain ⟨t, r, rfl, hr1, ht, hti⟩ := row_get R hv
      refine ⟨t, _, rfl, SqT.of (same_new hD2 _ _ ht), rfl, _, _, rfl, _, _, rfl, rfl, rfl, yes (iteT ⟨_, rfl, _, upd_same, ?_, ?_⟩)⟩
      · rw [List.length_map, List.length_take]
        rw [List.length_map, thl] at hi
        omega
      · rw [upd_upd, take_more (nms_get hr1), List.map_append]
        rfl
    · rintro H2 rfl
      have el : (nms hs).take (th.map V.ref).length = nms hs := List.take_of_length_le (by rw [List.length_map, nl, thl]; exact Nat.le_refl _)
      rw [el]
      have s1 : Same H (upd H D2 (.lst ((nms hs).map V.str))) := same_new hD2
      have d1 : upd H D2 (.lst ((nms hs).map V.str)) D2 = some (.lst ((nms hs).map V.str)) := upd_same
      generalize upd H D2 (.lst ((nms hs).map V.str)) = H1 at s1 d1
      refine ⟨(by show 0 ≤ sizeLine; decide), fun G hG => ?_⟩
      have nG : H G = none := s1.free hG
      have R1 := R.same s1
      refine ⟨_, rfl, lh, rfl, ⟨_, SqL.of (same_new hG _ _ R1.1)⟩, for_list (K := K) (a := lh) (xs := th.map V.ref) (fun i σ H' => ∃ (v3 v4 : Option V) (xs : List V), σ = [some (.ref lh), some (.ref D2), some (.ref G), v3, v4, none] ∧ Same H1 H' ∧ xs.length = i ∧ H' G = some (.lst xs) ∧ DMs (fun a => H a = none ∧ a ≠ G) H' xs (((nms hs).take i).map (info hs)))
        ⟨none, none, [], rfl, same_new hG, rfl, upd_same, .nil⟩ (fun i σ H' _ ⟨_, _, _, _, z, _⟩ => SqL.of (z _ _ R1.1)) ?_ ?_⟩
      · rintro i v σ H3 hi ⟨v3, v4, xs, rfl, s3, hxl, g3, dm3⟩
        obtain ⟨t, r, rfl, hr1, ht, hti⟩ := row_get R1 hi
        have hi8 : i < th.length := (List.getElem?_eq_some_iff.mp hti).1
        have hm : r.1 ∈ nms hs := List.mem_of_getElem? (nms_get hr1)
        have eu : up hs r.1 = r.2 := up_at Vh.nd hr1
        have R3 := R1.same s3
        refine ⟨t, _, rfl, SqT.of (s3 _ _ ht), rfl, _, _, rfl, _, _, rfl, rfl, ?_⟩
        refine ⟨_, rfl, .inl ⟨rfl, _, SqL.of g3⟩, _, rfl, _, rfl, _, rfl, lh, th, hs, r.1, rfl, R3, Vh, hm, fun u1 H4 s4 nu1 hu1 => ?_⟩
        have d4 := s4 _ _ (s3 _ _ d1)
        refine ⟨_, rfl, D2, rfl, ⟨_, SqL.of d4⟩, fun u2 hu2 => lc_it (walk_list (xs := (nms hs).map V.str)) (fun j H' => Same H4 H' ∧ H' u2 = some (.lst ((((nms hs).take j).filter fun h => decide (r.1 ∈ kn hs h)).map V.str))) ⟨same_new hu2, upd_same⟩ (fun j H' _ e => SqL.of (e.1 _ _ d4)) ?_ ?_⟩
        · rintro j v5 H5 H6 hj ⟨s5, d5⟩ ⟨rfl, hv5⟩
          obtain ⟨z, hz2, rfl⟩ : ∃ z, (nms hs)[j]? = some z ∧ v5 = V.str z := by
            rw [List.getElem?_map] at hv5
            cases e : (nms hs)[j]? with
            | none => rw [e] at hv5; cases hv5
            | some z => rw [e] at hv5; exact ⟨z, rfl, (Option.some.inj hv5).symm⟩
          have hzm : z ∈ nms hs := List.mem_of_getElem? hz2
          refine ⟨rfl, _, rfl, _, rfl, _, rfl, lh, th, hs, z, rfl, (R3.same s4).same s5, Vh, hzm, fun u3 H7 s7 nu3 hu3 => ?_⟩
          have d7 := s7 _ _ d5
          refine ⟨u3, _, rfl, .inl (SqL.of hu3), rfl, flat_strs, _, rfl, ?_⟩
          show if (inV (.str r.1) ((kn hs z).map V.str)) = true then _ else _
          rw [inV_str]
          have et := take_more hz2
          refine ite2 (fun c => ?_) (fun c => ?_)
          · refine ⟨_, rfl, _, d7, ?_, ?_, ?_⟩
            · have h1 : (((nms hs).take j).filter fun h => decide (r.1 ∈ kn hs h)).length ≤ ((nms hs).take j).length := List.length_filter_le _ _
              rw [List.length_map]
              rw [List.length_take] at h1
              omega
            · intro b o e
              rw [upd_ne (ne_of_none e hu2)]
              exact s7 _ _ (s5 _ _ e)
            · rw [upd_same, et, List.filter_append, List.map_append, List.filter_cons, if_pos c]
              rfl
          · refine ⟨s5.trans s7, ?_⟩
            rw [d7, et, List.filter_append, List.filter_cons, if_neg c]
            simp
        · rintro H5 ⟨s5, d5⟩
          rw [List.length_map, List.take_length] at d5
          refine ⟨(by show 3 ≤ sizeLine; decide), fun tt htt => ?_⟩
          have s6 : Same H3 (upd H5 tt (.tup [V.str r.2, V.ref u1, V.ref u2])) := (s4.trans s5).trans (same_new htt)
          have t6 : upd H5 tt (.tup [V.str r.2, V.ref u1, V.ref u2]) tt = some (.tup [V.str r.2, V.ref u1, V.ref u2]) := upd_same
          have a6 : upd H5 tt (.tup [V.str r.2, V.ref u1, V.ref u2]) u1 = some (.lst ((kn hs r.1).map V.str)) := same_new htt _ _ (s5 _ _ hu1)
          have b6 : upd H5 tt (.tup [V.str r.2, V.ref u1, V.ref u2]) u2 = some (.lst ((und hs r.1).map V.str)) := same_new htt _ _ d5
          refine ⟨G, _, _, rfl, rfl, s6 _ _ g3, (by omega), ?_⟩
          have n1 : H u1 = none := (s1.trans s3).free nu1
          have n2 : H u2 = none := ((s1.trans s3).trans s4).free hu2
          have g1 : u1 ≠ G := fun z => by subst z; rw [nu1] at g3; cases g3
          have g2 : u2 ≠ G := fun z => by
            have := s4 _ _ g3
            subst z
            rw [hu2] at this; cases this
          generalize upd H5 tt (.tup [V.str r.2, V.ref u1, V.ref u2]) = H6 at s6 t6 a6 b6
          refine ⟨_, _, xs ++ [.ref tt], rfl, fun b o e => ?_, by rw [List.length_append, hxl]; rfl, upd_same, ?_⟩
          · rw [upd_ne (ne_of_none e hG)]
            exact s6 _ _ (s3 _ _ e)
          · rw [take_more (nms_get hr1), List.map_append]
            have ks : KeepS (fun a => H a = none ∧ a ≠ G) H6 (upd H6 G (.lst (xs ++ [V.ref tt]))) := fun b o e z => by
              by_cases hb : b = G
              · subst hb
                have e2 := s6 _ _ g3
                rw [e] at e2
                exact absurd rfl (z ⟨_, Option.some.inj e2⟩).2
              · rw [upd_ne hb]; exact e
            refine DMs.append ((dm3.same s6).keep ks) (.cons (DM.keep ks ?_) .nil)
            show DM _ H6 (.ref tt) (.tuple [.str (up hs r.1), .list ((kn hs r.1).map PyData.str), .list ((und hs r.1).map PyData.str)])
            rw [eu]
            exact .tup t6 (.cons (.str _) (.cons (.lst ⟨n1, g1⟩ a6 (DMs.strs _)) (.cons (.lst ⟨n2, g2⟩ b6 (DMs.strs _)) .nil)))
      · rintro σ H3 ⟨v3, v4, xs, rfl, s3, hxl, g3, dm3⟩
        rw [List.length_map, thl, ← nl, List.take_length] at dm3
        exact ⟨_, rfl, k G xs H3 (s1.trans s3) nG g3 (dm3.mono fun _ _ _ z => z.1)⟩
end
end KP
namespace KP
open PySem L2
def spLDue : Sp := fun vs H Q _ => ∃ (q lh ll lr : Addr) (th tl tr : List Addr) (y : Yr), vs = [.ref q] ∧ H q = some (.lst [.int y.days, .ref lh, .ref ll, .ref lr]) ∧ RowsAt H lh th (y.hs.map hv) ∧ RowsAt H ll tl (y.ls.map rv) ∧ RowsAt H lr tr (y.rs.map rv) ∧ y.ok ∧
  ∀ (p : Addr) (H' : Hp), Same H H' → H p = none → DM (fun a => H a = none ∨ a = lh ∨ a = ll ∨ a = lr) H' (.ref p) y.due → Q (.ref p) H'
def spLAsked (C : Addr) : Sp := fun vs H Q _ => ∃ (p : Addr) (y : Yr), vs = [.ref p] ∧ YearAt C [] H p y ∧ y.ok ∧ ∀ (q : Addr) (xs : List V) (H' : Hp), Same H H' → H q = none → H' q = some (.lst (.int y.days :: xs)) → DM (fun _ => True) H' (.ref q) y.due → Q (.ref q) H'
section
variable {P : Program} {w : World} {K : PySem.W.Frag} {mg : Str → Option Value} {base : Heap} {C : Addr}
abbrev nLDue : List Str := ["_law_parts_here", "_law_days", "_law_heads_here", "_law_limits_here", "_law_rules_here", "_law_name_here", "_law_above"]
theorem scLDue : FnScope nLDue ["_law_parts_here"] (defScope sLDue) := ⟨rfl, rfl, rfl, by decide +kernel, rfl, by decide +kernel, by decide +kernel⟩
theorem c_ldue (Al : Cal P w K mg base 2 "_law_all" spLAll) (D : DefT K mg "_law_due" sLDue ["_law_parts_here"]) : Cal P w K mg base 3 "_law_due" spLDue := by
  refine cal D scLDue (fun vs H Q E h => ?_) (fun f cdv A outer s H vs Q E hr h => ?_)
  · obtain ⟨q, lh, ll, lr, th, tl, tr, y, rfl, _⟩ := h
    rfl
  · obtain ⟨q, lh, ll, lr, th, tl, tr, y, rfl, hq, r1, r2, r3, ok, k⟩ := h
    have hz : sizeLine = 16777216 := by decide
    have thl : th.length = y.hs.length := by rw [r1.len, List.length_map]
    have h8 := ok.h.l8
    have nl : (nms y.hs).length = y.hs.length := by unfold nms; rw [List.length_map]
    refine ⟨_, pss_cons (ps_asg (pv 0) (pg_unl rfl (pgs_cons (pg_name (i := 1) scLDue.nd rfl (Or.inl rfl)) (pgs_cons (pg_name (i := 2) scLDue.nd rfl (Or.inl rfl)) (pgs_cons (pg_name (i := 3) scLDue.nd rfl (Or.inl rfl)) (pgs_cons (pg_name (i := 4) scLDue.nd rfl (Or.inl rfl)) pgs_nil))))))
      (pss_one (ps_ret (pe_op op_cat (pe_lst (pa_cons (pv 1) (pa_cons (pv 2) (pa_cons (pv 3) (pa_cons (pv 4) (pa_cons (pe_lc (own := [("_law_name_here", 5), ("_law_above", 6)]) (g := gTup K 2 (gCons (gName 5) (gCons (gName 6) gNil))) (tt := tYes) (te := tVar 5) rfl scLDue.nd (pi_list (pv 2)) (blkOk_by (N := nLDue) (sc := defScope sLDue) (by decide +kernel))
        (fun _ _ _ _ _ => pg_tup rfl (pgs_cons (pg_name (i := 5) scLDue.nd rfl (Or.inl rfl)) (pgs_cons (pg_name (i := 6) scLDue.nd rfl (Or.inl rfl)) pgs_nil))) (fun _ _ _ _ _ => pts_nil) (fun _ _ _ _ _ => pv 5)) pa_nil)))))) (pe_cl Al hr (by decide) (by rfl) (pa_cons (pv 2) pa_nil))))), ?_⟩
    refine ⟨_, rfl, q, _, rfl, SqL.of hq, rfl, _, _, rfl, _, _, rfl, _, _, rfl, _, _, rfl, rfl, ?_⟩
    refine ⟨_, rfl, _, rfl, _, rfl, _, rfl, _, rfl, lh, rfl, ⟨_, SqL.of r1.1⟩, fun D2 hD2 => lc_it (walk_list (xs := th.map V.ref)) (fun i H' => H' = upd H D2 (.lst (((nms y.hs).take i).map V.str))) rfl (fun i H' _ e => by rw [e]; exact SqL.of (same_new hD2 _ _ r1.1)) ?_ ?_⟩
    · rintro i v H2 H3 hi rfl ⟨rfl, hv⟩
      obtain ⟨t, r, rfl, hr1, ht, hti⟩ := row_get r1 hv
      refine ⟨t, _, rfl, SqT.of (same_new hD2 _ _ ht), rfl, _, _, rfl, _, _, rfl, rfl, rfl, yes (iteT ⟨_, rfl, _, upd_same, ?_, ?_⟩)⟩
      · rw [List.length_map, List.length_take]
        rw [List.length_map, thl] at hi
        omega
      · rw [upd_upd, take_more (nms_get hr1), List.map_append]
        rfl
    · rintro H2 rfl
      have el : (nms y.hs).take (th.map V.ref).length = nms y.hs := List.take_of_length_le (by rw [List.length_map, nl, thl]; exact Nat.le_refl _)
      rw [el]
      refine ⟨(by show 5 ≤ sizeLine; decide), fun l hl => ?_⟩
      have s1 : Same H (upd (upd H D2 (.lst ((nms y.hs).map V.str))) l (.lst [V.int y.days, V.ref lh, V.ref ll, V.ref lr, V.ref D2])) := (same_new hD2).trans (same_new hl)
      have d1 : upd (upd H D2 (.lst ((nms y.hs).map V.str))) l (.lst [V.int y.days, V.ref lh, V.ref ll, V.ref lr, V.ref D2]) D2 = some (.lst ((nms y.hs).map V.str)) := same_new hl _ _ upd_same
      have l1 : upd (upd H D2 (.lst ((nms y.hs).map V.str))) l (.lst [V.int y.days, V.ref lh, V.ref ll, V.ref lr, V.ref D2]) l = some (.lst [V.int y.days, V.ref lh, V.ref ll, V.ref lr, V.ref D2]) := upd_same
      generalize upd (upd H D2 (.lst ((nms y.hs).map V.str))) l (.lst [V.int y.days, V.ref lh, V.ref ll, V.ref lr, V.ref D2]) = H1 at s1 d1 l1
      refine ⟨_, rfl, lh, th, y.hs, rfl, r1.same s1, ok.h, fun a xs H3 s3 na ha dm => ?_⟩
      have xl : xs.length ≤ 8 := by rw [dm.len, List.length_map, nl]; exact h8
      refine ⟨l, a, _, _, rfl, rfl, s3 _ _ l1, ha, (by show 5 + _ ≤ _; omega), fun p hp => ?_⟩
      have s4 : Same H (upd H3 p (.lst ([V.int y.days, V.ref lh, V.ref ll, V.ref lr, V.ref D2] ++ xs))) := (s1.trans s3).trans (same_new hp)
      have np : H p = none := (s1.trans s3).free hp
      have sp := same_new (o := .lst ([V.int y.days, V.ref lh, V.ref ll, V.ref lr, V.ref D2] ++ xs)) hp
      refine k p _ s4 np (.lst (.inl np) upd_same ?_)
      refine DMs.append (.cons (.int _) (.cons (DM.rows (r1.same s4) ok.hv (.inr (.inl rfl))) (.cons (DM.rows (r2.same s4) ok.lv (.inr (.inr (.inl rfl)))) (.cons (DM.rows (r3.same s4) ok.rv (.inr (.inr (.inr rfl)))) (.cons (.lst (.inl hD2) (sp _ _ (s3 _ _ d1)) (DMs.strs _)) .nil))))) ?_
      exact (dm.same sp).mono fun b o e z => .inl (s1.free z)
abbrev nLAsked : List Str := ["_law_year", "_law_names_here", "_law_found", "_law_name_here", "_law_some"]
theorem scLAsked : FnScope nLAsked ["_law_year"] (defScope sLAsked) := ⟨rfl, rfl, rfl, by decide +kernel, rfl, by decide +kernel, by decide +kernel⟩
theorem c_lasked (B : Base K mg) (T : YearF K mg C) (Ab : MetT P w K mg base 1 C "above" (spYA C)) (Nm : MetT P w K mg base 1 C "names" (spYN C)) (Kn : MetT P w K mg base 2 C "knots" (spYK C)) (Un : MetT P w K mg base 3 C "under" (spYU C)) (D : DefT K mg "_law_asked" sLAsked ["_law_year"]) : Cal P w K mg base 4 "_law_asked" (spLAsked C) := by
  refine cal D scLAsked (fun vs H Q E h => ?_) (fun f cdv A outer s H vs Q E hr h => ?_)
  · obtain ⟨p, y, rfl, _⟩ := h
    rfl
  · obtain ⟨p, y, rfl, hy, ok, k⟩ := h
    obtain ⟨dx, l1, l2, l3, t1, t2, t3, hp, r1, r2, r3, _⟩ := hy.ex
    have hz : sizeLine = 16777216 := by decide
    have h8 := ok.h.l8
    have nl : (nms y.hs).length = y.hs.length := by unfold nms; rw [List.length_map]
    have nfa : (yf y.days l1 l2 l3).lookup ("above" : Str) = none := yf_no (by decide +kernel) (by decide +kernel) (by decide +kernel) (by decide +kernel)
    have nfn : (yf y.days l1 l2 l3).lookup ("names" : Str) = none := yf_no (by decide +kernel) (by decide +kernel) (by decide +kernel) (by decide +kernel)
    have nfk : (yf y.days l1 l2 l3).lookup ("knots" : Str) = none := yf_no (by decide +kernel) (by decide +kernel) (by decide +kernel) (by decide +kernel)
    have nfu : (yf y.days l1 l2 l3).lookup ("under" : Str) = none := yf_no (by decide +kernel) (by decide +kernel) (by decide +kernel) (by decide +kernel)
    refine ⟨_, pss_cons (ps_set (i := 1) scLAsked.nd rfl (Or.inl rfl) (pe_mtT0 Nm hr (by decide) (pv 0)))
      (pss_cons (ps_set (i := 2) scLAsked.nd rfl (Or.inl rfl) (pe_lst (pa_cons (pe_fld (pv 0) rfl) (pa_cons (pe_callTy call_list_of (by rfl) B.list (by decide +kernel) (pa_cons (pe_fld (pv 0) rfl) pa_nil)) (pa_cons (pe_callTy call_list_of (by rfl) B.list (by decide +kernel) (pa_cons (pe_fld (pv 0) rfl) pa_nil))
        (pa_cons (pe_callTy call_list_of (by rfl) B.list (by decide +kernel) (pa_cons (pe_fld (pv 0) rfl) pa_nil)) (pa_cons (pe_callTy call_list_of (by rfl) B.list (by decide +kernel) (pa_cons (pv 1) pa_nil)) pa_nil)))))))
      (pss_cons (ps_for PassesOwn.never rfl (pi_list (pe_callTy call_list_of (by rfl) B.list (by decide +kernel) (pa_cons (pv 1) pa_nil))) (pg_name (i := 3) scLAsked.nd rfl (Or.inl rfl))
        (pss_cons (ps_set (i := 4) scLAsked.nd rfl (Or.inl rfl) (pe_lst (pa_cons (pe_mtT Kn hr (by decide) (pv 0) (pa_cons (pv 3) pa_nil)) (pa_cons (pe_mtT Un hr (by decide) (pv 0) (pa_cons (pv 3) pa_nil)) pa_nil))))
        (pss_cons (ps_expr (pe_bm PySem.F.plainAttrs_list PySem.F.slot_list_append PySem.F.type_list_append mt_append (pv 2) (pa_cons (pe_tup (pa_cons (pe_mtT Ab hr (by decide) (pv 0) (pa_cons (pv 3) pa_nil))
          (pa_cons (pe_callTy call_list_of (by rfl) B.list (by decide +kernel) (pa_cons (pe_ix ix_list (pv 4) pe_int (fun _ _ => rfl)) pa_nil)) (pa_cons (pe_callTy call_list_of (by rfl) B.list (by decide +kernel) (pa_cons (pe_ix ix_list (pv 4) pe_int (fun _ _ => rfl)) pa_nil)) pa_nil)))) pa_nil)))
        (pss_cons (ps_expr (pe_bm PySem.F.plainAttrs_list PySem.F.slot_list_append PySem.F.type_list_append mt_append (pe_ix ix_list (pv 4) pe_int (fun _ _ => rfl)) (pa_cons pe_str pa_nil)))
        (pss_one (ps_expr (pe_bm PySem.F.plainAttrs_list PySem.F.slot_list_append PySem.F.type_list_append mt_append (pe_ix ix_list (pv 4) pe_int (fun _ _ => rfl)) (pa_cons pe_str pa_nil))))))))
      (pss_cons (ps_expr (pe_bm PySem.F.plainAttrs_list PySem.F.slot_list_append PySem.F.type_list_append mt_append (pv 1) (pa_cons pe_str pa_nil)))
      (pss_one (ps_ret (pv 2)))))), ?_⟩
    refine ⟨_, rfl, p, dx, _, rfl, hp, nfn, p, y, rfl, hy, h8, fun N hN => ?_⟩
    have sN : Same H (upd H N (.lst ((nms y.hs).map V.str))) := same_new hN
    have hN1 : upd H N (.lst ((nms y.hs).map V.str)) N = some (.lst ((nms y.hs).map V.str)) := upd_same
    generalize upd H N (.lst ((nms y.hs).map V.str)) = H1 at sN hN1
    refine ⟨_, rfl, p, C, dx, _, _, rfl, sN _ _ hp, T.cl, T.nd, rfl, _, rfl, p, C, dx, _, _, rfl, sN _ _ hp, T.cl, T.nh, rfl, l1, _, rfl, .inl (SqL.of (sN _ _ r1.1)), fun a1 ha1 => ?_⟩
    have q1 : Same H1 (upd H1 a1 (.lst (t1.map V.ref))) := same_new ha1
    have R1 : RowsAt (upd H1 a1 (.lst (t1.map V.ref))) a1 t1 (y.hs.map hv) := ⟨upd_same, ((r1.same sN).same q1).2⟩
    generalize upd H1 a1 (.lst (t1.map V.ref)) = H2 at q1 R1
    have s2 := sN.trans q1
    refine ⟨_, rfl, p, C, dx, _, _, rfl, s2 _ _ hp, T.cl, T.nl, rfl, l2, _, rfl, .inl (SqL.of (s2 _ _ r2.1)), fun a2 ha2 => ?_⟩
    have q2 : Same H2 (upd H2 a2 (.lst (t2.map V.ref))) := same_new ha2
    have R2 : RowsAt (upd H2 a2 (.lst (t2.map V.ref))) a2 t2 (y.ls.map rv) := ⟨upd_same, ((r2.same s2).same q2).2⟩
    generalize upd H2 a2 (.lst (t2.map V.ref)) = H3 at q2 R2
    have s3 := s2.trans q2
    refine ⟨_, rfl, p, C, dx, _, _, rfl, s3 _ _ hp, T.cl, T.nr, rfl, l3, _, rfl, .inl (SqL.of (s3 _ _ r3.1)), fun a3 ha3 => ?_⟩
    have q3 : Same H3 (upd H3 a3 (.lst (t3.map V.ref))) := same_new ha3
    have R3 : RowsAt (upd H3 a3 (.lst (t3.map V.ref))) a3 t3 (y.rs.map rv) := ⟨upd_same, ((r3.same s3).same q3).2⟩
    generalize upd H3 a3 (.lst (t3.map V.ref)) = H4 at q3 R3
    have s4 := s3.trans q3
    have hN4 := q3 _ _ (q2 _ _ (q1 _ _ hN1))
    refine ⟨_, rfl, N, _, rfl, .inl (SqL.of hN4), fun a4 ha4 => ⟨(by show 5 ≤ sizeLine; decide), fun F hF => ?_⟩⟩
    have s5a : Same H4 (upd H4 a4 (.lst ((nms y.hs).map V.str))) := same_new ha4
    have s5 : Same H4 (upd (upd H4 a4 (.lst ((nms y.hs).map V.str))) F (.lst [V.int y.days, V.ref a1, V.ref a2, V.ref a3, V.ref a4])) := s5a.trans (same_new hF)
    have hF5 : upd (upd H4 a4 (.lst ((nms y.hs).map V.str))) F (.lst [V.int y.days, V.ref a1, V.ref a2, V.ref a3, V.ref a4]) F = some (.lst ([V.int y.days, V.ref a1, V.ref a2, V.ref a3, V.ref a4] ++ [])) := upd_same
    have h45 : upd (upd H4 a4 (.lst ((nms y.hs).map V.str))) F (.lst [V.int y.days, V.ref a1, V.ref a2, V.ref a3, V.ref a4]) a4 = some (.lst ((nms y.hs).map V.str)) := same_new hF _ _ upd_same
    have nF : H4 F = none := s5a.free hF
    have F4 : a4 ≠ F := ne_of_none upd_same hF
    generalize upd (upd H4 a4 (.lst ((nms y.hs).map V.str))) F (.lst [V.int y.days, V.ref a1, V.ref a2, V.ref a3, V.ref a4]) = H5 at s5 hF5 h45
    have hN5 := s5 _ _ hN4
    have FN : F ≠ N := fun z => by subst z; rw [nF] at hN4; cases hN4
    have N1 : a1 ≠ N := fun z => by subst z; rw [ha1] at hN1; cases hN1
    have N2 : a2 ≠ N := fun z => by have := q1 _ _ hN1; subst z; rw [ha2] at this; cases this
    have N3 : a3 ≠ N := fun z => by have := q2 _ _ (q1 _ _ hN1); subst z; rw [ha3] at this; cases this
    have N4 : a4 ≠ N := fun z => by subst z; rw [ha4] at hN4; cases hN4
    have F1 : a1 ≠ F := fun z => by have := q3 _ _ (q2 _ _ R1.1); subst z; rw [nF] at this; cases this
    have F2 : a2 ≠ F := fun z => by have := q3 _ _ R2.1; subst z; rw [nF] at this; cases this
    have F3 : a3 ≠ F := fun z => by have := R3.1; subst z; rw [nF] at this; cases this
    have dm5 : DMs (fun a => a ≠ F ∧ a ≠ N) H5 [V.int y.days, V.ref a1, V.ref a2, V.ref a3, V.ref a4] (y.parts ++ [.list ((nms y.hs).map PyData.str)]) :=
      .cons (.int _) (.cons (DM.rows (((R1.same q2).same q3).same s5) ok.hv ⟨F1, N1⟩) (.cons (DM.rows ((R2.same q3).same s5) ok.lv ⟨F2, N2⟩) (.cons (DM.rows (R3.same s5) ok.rv ⟨F3, N3⟩) (.cons (.lst ⟨F4, N4⟩ h45 (DMs.strs _)) .nil))))
    have s5' := s4.trans s5
    refine ⟨_, rfl, N, _, rfl, .inl (SqL.of hN5), fun I hI => ?_⟩
    have s6 : Same H5 (upd H5 I (.lst ((nms y.hs).map V.str))) := same_new hI
    have hI6 : upd H5 I (.lst ((nms y.hs).map V.str)) I = some (.lst ((nms y.hs).map V.str)) := upd_same
    have nI : H I = none := s5'.free hI
    have IF : I ≠ F := fun z => by subst z; rw [hI] at hF5; cases hF5
    generalize upd H5 I (.lst ((nms y.hs).map V.str)) = H6 at s6 hI6
    have nFH : H F = none := s4.free nF
    refine ⟨I, rfl, ⟨_, SqL.of hI6⟩, for_list (K := K) (a := I) (xs := (nms y.hs).map V.str) (fun i σ H' => ∃ (v3 v4 : Option V) (xs : List V), σ = [some (.ref p), some (.ref N), some (.ref F), v3, v4] ∧ Same H H' ∧ H' N = some (.lst ((nms y.hs).map V.str)) ∧ H' I = some (.lst ((nms y.hs).map V.str)) ∧ xs.length = i ∧ H' F = some (.lst ([V.int y.days, V.ref a1, V.ref a2, V.ref a3, V.ref a4] ++ xs)) ∧
        DMs (fun a => a ≠ F ∧ a ≠ N) H' ([V.int y.days, V.ref a1, V.ref a2, V.ref a3, V.ref a4] ++ xs) (y.parts ++ [.list ((nms y.hs).map PyData.str)] ++ ((nms y.hs).take i).map (info y.hs)))
      ⟨none, none, [], rfl, s5'.trans s6, s6 _ _ hN5, hI6, rfl, s6 _ _ hF5, by rw [List.append_nil]; exact DMs.append (dm5.same s6) .nil⟩ (fun i σ H' _ ⟨_, _, _, _, _, _, z, _⟩ => SqL.of z) ?_ ?_⟩
    · rintro i v σ H7 hi ⟨v3, v4, xs, rfl, s7, n7, i7, xl, f7, dm7⟩
      obtain ⟨x, hx, rfl⟩ : ∃ x, (nms y.hs)[i]? = some x ∧ v = V.str x := by
        rw [List.getElem?_map] at hi
        cases e : (nms y.hs)[i]? with
        | none => rw [e] at hi; cases hi
        | some z => rw [e] at hi; exact ⟨z, rfl, (Option.some.inj hi).symm⟩
      have hxm : x ∈ nms y.hs := List.mem_of_getElem? hx
      have hi8 : i < 8 := by have := (List.getElem?_eq_some_iff.mp hx).1; omega
      refine ⟨_, rfl, p, dx, _, rfl, s7 _ _ hp, nfk, _, rfl, p, y, x, rfl, hy.same s7, ok.h, hxm, fun k1 hk1 => ?_⟩
      have s8 : Same H7 (upd H7 k1 (.lst ((kn y.hs x).map V.str))) := same_new hk1
      have k18 : upd H7 k1 (.lst ((kn y.hs x).map V.str)) k1 = some (.lst ((kn y.hs x).map V.str)) := upd_same
      generalize upd H7 k1 (.lst ((kn y.hs x).map V.str)) = H8 at s8 k18
      refine ⟨_, rfl, p, dx, _, rfl, (s7.trans s8) _ _ hp, nfu, _, rfl, p, y, x, rfl, hy.same (s7.trans s8), ok.h, hxm, fun k2 H9 s9 nk2 hk2 => ⟨(by show 2 ≤ sizeLine; decide), fun so hso => ?_⟩⟩
      have s10 : Same H7 (upd H9 so (.lst [V.ref k1, V.ref k2])) := (s8.trans s9).trans (same_new hso)
      have so10 : upd H9 so (.lst [V.ref k1, V.ref k2]) so = some (.lst [V.ref k1, V.ref k2]) := upd_same
      have k110 : upd H9 so (.lst [V.ref k1, V.ref k2]) k1 = some (.lst ((kn y.hs x).map V.str)) := same_new hso _ _ (s9 _ _ k18)
      have k210 : upd H9 so (.lst [V.ref k1, V.ref k2]) k2 = some (.lst ((und y.hs x).map V.str)) := same_new hso _ _ hk2
      have nk2' : H7 k2 = none := s8.free nk2
      have k12 : k1 ≠ k2 := fun z => by subst z; rw [nk2] at k18; cases k18
      have kso1 : k1 ≠ so := fun z => by subst z; have := s9 _ _ k18; rw [hso] at this; cases this
      have kso2 : k2 ≠ so := fun z => by subst z; rw [hso] at hk2; cases hk2
      generalize upd H9 so (.lst [V.ref k1, V.ref k2]) = H10 at s10 so10 k110 k210
      have dm10 : DMs (fun a => ((a ≠ F ∧ a ≠ N) ∧ a ≠ k1) ∧ a ≠ k2) H10 ([V.int y.days, V.ref a1, V.ref a2, V.ref a3, V.ref a4] ++ xs) (y.parts ++ [.list ((nms y.hs).map PyData.str)] ++ ((nms y.hs).take i).map (info y.hs)) := ((dm7.ext hk1).ext nk2').same s10
      have f10 := s10 _ _ f7
      have sH10 := s7.trans s10
      refine ⟨_, rfl, .inl ⟨rfl, _, SqL.of f10⟩, _, rfl, p, dx, _, rfl, sH10 _ _ hp, nfa, _, rfl, p, y, x, rfl, hy.same sH10, ok.h, hxm, ?_⟩
      refine ⟨_, rfl, so, _, 0, .ref k1, rfl, rfl, SqL.of so10, rfl, k1, _, rfl, .inl (SqL.of k110), fun b1 hb1 => ?_⟩
      have s11 : Same H10 (upd H10 b1 (.lst ((kn y.hs x).map V.str))) := same_new hb1
      have b11 : upd H10 b1 (.lst ((kn y.hs x).map V.str)) b1 = some (.lst ((kn y.hs x).map V.str)) := upd_same
      generalize upd H10 b1 (.lst ((kn y.hs x).map V.str)) = H11 at s11 b11
      refine ⟨_, rfl, so, _, 1, .ref k2, rfl, rfl, SqL.of (s11 _ _ so10), rfl, k2, _, rfl, .inl (SqL.of (s11 _ _ k210)), fun b2 hb2 => ⟨(by show 3 ≤ sizeLine; decide), fun tt htt => ?_⟩⟩
      have s12a : Same H11 (upd H11 b2 (.lst ((und y.hs x).map V.str))) := same_new hb2
      have s12 : Same H10 (upd (upd H11 b2 (.lst ((und y.hs x).map V.str))) tt (.tup [V.str (up y.hs x), V.ref b1, V.ref b2])) := (s11.trans s12a).trans (same_new htt)
      have b112 : upd (upd H11 b2 (.lst ((und y.hs x).map V.str))) tt (.tup [V.str (up y.hs x), V.ref b1, V.ref b2]) b1 = some (.lst ((kn y.hs x).map V.str)) := same_new htt _ _ (s12a _ _ b11)
      have b212 : upd (upd H11 b2 (.lst ((und y.hs x).map V.str))) tt (.tup [V.str (up y.hs x), V.ref b1, V.ref b2]) b2 = some (.lst ((und y.hs x).map V.str)) := same_new htt _ _ upd_same
      have tt12 : upd (upd H11 b2 (.lst ((und y.hs x).map V.str))) tt (.tup [V.str (up y.hs x), V.ref b1, V.ref b2]) tt = some (.tup [V.str (up y.hs x), V.ref b1, V.ref b2]) := upd_same
      generalize upd (upd H11 b2 (.lst ((und y.hs x).map V.str))) tt (.tup [V.str (up y.hs x), V.ref b1, V.ref b2]) = H12 at s12 b112 b212 tt12
      have o1 : ∀ {c : Addr} {o : HO}, H10 c = some o → b1 ≠ c := fun e z => by subst z; rw [hb1] at e; cases e
      have o2 : ∀ {c : Addr} {o : HO}, H10 c = some o → b2 ≠ c := fun e z => by have := s11 _ _ e; subst z; rw [hb2] at this; cases this
      have n10 := s10 _ _ n7
      have f12 := s12 _ _ f10
      refine ⟨F, _, _, rfl, rfl, f12, (by rw [List.length_append]; show 5 + _ < _; omega), ?_⟩
      have dmN : DMs (fun a => ((a ≠ F ∧ a ≠ N) ∧ a ≠ k1) ∧ a ≠ k2) H12 (([V.int y.days, V.ref a1, V.ref a2, V.ref a3, V.ref a4] ++ xs) ++ [V.ref tt]) ((y.parts ++ [.list ((nms y.hs).map PyData.str)] ++ ((nms y.hs).take i).map (info y.hs)) ++ [info y.hs x]) :=
        DMs.append (dm10.same s12) (.cons (.tup tt12 (.cons (.str _) (.cons (.lst ⟨⟨⟨o1 f10, o1 n10⟩, o1 k110⟩, o1 k210⟩ b112 (DMs.strs _)) (.cons (.lst ⟨⟨⟨o2 f10, o2 n10⟩, o2 k110⟩, o2 k210⟩ b212 (DMs.strs _)) .nil)))) .nil)
      have kS : ∀ {Hx : Hp} {c : Addr} {us vs : List V}, Hx c = some (.lst us) → (c = F ∨ c = k1 ∨ c = k2) → KeepS (fun a => ((a ≠ F ∧ a ≠ N) ∧ a ≠ k1) ∧ a ≠ k2) Hx (upd Hx c (.lst vs)) := fun {Hx c us vs} hc hcc b o e z => by
        by_cases hb : b = c
        · subst hb
          rw [hc] at e
          have zz := z ⟨_, (Option.some.inj e).symm⟩
          rcases hcc with rfl | rfl | rfl
          · exact absurd rfl zz.1.1.1
          · exact absurd rfl zz.1.2
          · exact absurd rfl zz.2
        · rw [upd_ne hb]; exact e
      have so12 := s12 _ _ so10
      have k112 := s12 _ _ k110
      have k212 := s12 _ _ k210
      have i12 := s12 _ _ (s10 _ _ i7)
      have n12 := s12 _ _ n10
      have nFk1 : k1 ≠ F := fun z => by subst z; rw [hk1] at f7; cases f7
      have nFk2 : k2 ≠ F := fun z => by subst z; rw [nk2'] at f7; cases f7
      have nNk1 : k1 ≠ N := fun z => by subst z; rw [hk1] at n7; cases n7
      have nNk2 : k2 ≠ N := fun z => by subst z; rw [nk2'] at n7; cases n7
      have nIk1 : k1 ≠ I := fun z => by subst z; rw [hk1] at i7; cases i7
      have nIk2 : k2 ≠ I := fun z => by subst z; rw [nk2'] at i7; cases i7
      have nFso : F ≠ so := fun z => by have := (s8.trans s9) _ _ f7; subst z; rw [hso] at this; cases this
      have sH12 : Same H H12 := sH10.trans s12
      have kF := kS (vs := ([V.int y.days, V.ref a1, V.ref a2, V.ref a3, V.ref a4] ++ xs) ++ [V.ref tt]) f12 (.inl rfl)
      have dm13 := dmN.keep kF
      have so13 : upd H12 F (.lst (([V.int y.days, V.ref a1, V.ref a2, V.ref a3, V.ref a4] ++ xs) ++ [V.ref tt])) so = some (.lst [V.ref k1, V.ref k2]) := by rw [upd_ne nFso.symm]; exact so12
      have k113 : upd H12 F (.lst (([V.int y.days, V.ref a1, V.ref a2, V.ref a3, V.ref a4] ++ xs) ++ [V.ref tt])) k1 = some (.lst ((kn y.hs x).map V.str)) := by rw [upd_ne nFk1]; exact k112
      have k213 : upd H12 F (.lst (([V.int y.days, V.ref a1, V.ref a2, V.ref a3, V.ref a4] ++ xs) ++ [V.ref tt])) k2 = some (.lst ((und y.hs x).map V.str)) := by rw [upd_ne nFk2]; exact k212
      have i13 : upd H12 F (.lst (([V.int y.days, V.ref a1, V.ref a2, V.ref a3, V.ref a4] ++ xs) ++ [V.ref tt])) I = some (.lst ((nms y.hs).map V.str)) := by rw [upd_ne IF]; exact i12
      have n13 : upd H12 F (.lst (([V.int y.days, V.ref a1, V.ref a2, V.ref a3, V.ref a4] ++ xs) ++ [V.ref tt])) N = some (.lst ((nms y.hs).map V.str)) := by rw [upd_ne FN.symm]; exact n12
      have f13 : upd H12 F (.lst (([V.int y.days, V.ref a1, V.ref a2, V.ref a3, V.ref a4] ++ xs) ++ [V.ref tt])) F = some (.lst (([V.int y.days, V.ref a1, V.ref a2, V.ref a3, V.ref a4] ++ xs) ++ [V.ref tt])) := upd_same
      have sH13 : Same H (upd H12 F (.lst (([V.int y.days, V.ref a1, V.ref a2, V.ref a3, V.ref a4] ++ xs) ++ [V.ref tt]))) := fun b o e => by rw [upd_ne (ne_of_none e nFH)]; exact sH12 b o e
      generalize upd H12 F (.lst (([V.int y.days, V.ref a1, V.ref a2, V.ref a3, V.ref a4] ++ xs) ++ [V.ref tt])) = H13 at dm13 so13 k113 k213 i13 n13 f13 sH13
      have nHk1 : H k1 = none := s7.free hk1
      have nHk2 : H k2 = none := s7.free nk2'
      have knl := kn_len ok.h x
      have unl : (und y.hs x).length ≤ 8 := Nat.le_trans (List.length_filter_le _ _) (by omega)
      refine ⟨_, rfl, so, _, 0, .ref k1, rfl, rfl, SqL.of so13, rfl, .inl ⟨rfl, _, SqL.of k113⟩, k1, _, _, rfl, rfl, k113, (by rw [List.length_map]; omega), ?_⟩
      have so14 : upd H13 k1 (.lst ((kn y.hs x).map V.str ++ [V.str "other"])) so = some (.lst [V.ref k1, V.ref k2]) := by rw [upd_ne kso1.symm]; exact so13
      have k214 : upd H13 k1 (.lst ((kn y.hs x).map V.str ++ [V.str "other"])) k2 = some (.lst ((und y.hs x).map V.str)) := by rw [upd_ne k12.symm]; exact k213
      have dm14 := dm13.keep (kS (vs := (kn y.hs x).map V.str ++ [V.str "other"]) k113 (.inr (.inl rfl)))
      refine ⟨_, rfl, so, _, 1, .ref k2, rfl, rfl, SqL.of so14, rfl, .inl ⟨rfl, _, SqL.of k214⟩, k2, _, _, rfl, rfl, k214, (by rw [List.length_map]; omega), ?_⟩
      have dm15 := dm14.keep (kS (vs := (und y.hs x).map V.str ++ [V.str "other"]) k214 (.inr (.inr rfl)))
      refine ⟨_, _, xs ++ [V.ref tt], rfl, fun b o e => ?_, ?_, ?_, by rw [List.length_append, xl]; rfl, ?_, ?_⟩
      · rw [upd_ne (ne_of_none e nHk2), upd_ne (ne_of_none e nHk1)]; exact sH13 b o e
      · rw [upd_ne nNk2.symm, upd_ne nNk1.symm]; exact n13
      · rw [upd_ne nIk2.symm, upd_ne nIk1.symm]; exact i13
      · rw [upd_ne nFk2.symm, upd_ne nFk1.symm, ← List.append_assoc]; exact f13
      · rw [take_more hx, List.map_append, ← List.append_assoc, ← List.append_assoc]
        exact dm15.mono fun b o e z => z.1.1
    · rintro σ H7 ⟨v3, v4, xs, rfl, s7, n7, i7, xl, f7, dm7⟩
      rw [List.length_map, List.take_length] at dm7
      refine ⟨_, rfl, .inl ⟨rfl, _, SqL.of n7⟩, N, _, _, rfl, rfl, n7, (by rw [List.length_map]; omega), ?_⟩
      have f8 : upd H7 N (.lst ((nms y.hs).map V.str ++ [V.str "other"])) F = some (.lst ([V.int y.days, V.ref a1, V.ref a2, V.ref a3, V.ref a4] ++ xs)) := by rw [upd_ne FN]; exact f7
      have ks : KeepS (fun a => a ≠ F ∧ a ≠ N) H7 (upd H7 N (.lst ((nms y.hs).map V.str ++ [V.str "other"]))) := fun b o e z => by
        by_cases hb : b = N
        · subst hb
          rw [n7] at e
          exact absurd rfl (z ⟨_, (Option.some.inj e).symm⟩).2
        · rw [upd_ne hb]; exact e
      refine ⟨_, rfl, k F _ _ (fun b o e => ?_) nFH f8 (.lst trivial f8 ((dm7.keep ks).mono fun _ _ _ _ => trivial))⟩
      rw [upd_ne (ne_of_none e hN)]
      exact s7 b o e
end
end KP
namespace KD
open PySem PySem.Spec PyProof.Rows L2 PySem.SeqAt
theorem str_eq_declines_dict (b : Str) (u : Tok) (l : Addr) (es : Array DictEntry) (n : Nat) (dd : Option Addr) (sl : Array (Option Value)) :
    Meets (Builtin.«str.__eq__» ⟨[.str b u, .ref l], []⟩) (fun _ R s => s.heap.get? l = some { cls := .type "dict", dict := dd, data := .dict es n, slots := sl } ∧ R (.ok (.ret .notImplemented)) s) :=
  .of_wp fun prog w A R s h => by obtain ⟨hp, g, d, tk, os⟩ := s; obtain ⟨hl, h⟩ := h; wp_walk using wpAny_loadPart' hl, wpAny_load hl; exact ⟨_, rfl, h⟩
theorem dict_eq_declines_str (l : Addr) (es : Array DictEntry) (n : Nat) (dd : Option Addr) (sl : Array (Option Value)) (b : Str) (u : Tok) :
    Meets (Builtin.«dict.__eq__» ⟨[.ref l, .str b u], []⟩) (fun _ R s => s.heap.get? l = some { cls := .type "dict", dict := dd, data := .dict es n, slots := sl } ∧ R (.ok (.ret .notImplemented)) s) :=
  .of_wp fun prog w A R s h => by obtain ⟨hp, g, d, tk, os⟩ := s; obtain ⟨hl, h⟩ := h; have f1 := F.sub_str_dict; wp_walk using wpAny_loadPart' hl, wpAny_load hl; exact ⟨_, rfl, h⟩
theorem rc_str_dict {A : Around} {s : Shared} {l : Addr} {es : Array DictEntry} {n : Nat} {dd : Option Addr} {sl : Array (Option Value)} (b : Str) (u : Tok) (ho : s.heap.get? l = some { cls := .type "dict", dict := dd, data := .dict es n, slots := sl }) (hu : A.units < cLine) : RcAt A s (.str b u) (.ref l) false := fun prog w E Q h =>
  rc_eq_decline_or (k := false) (typeIs_str s b u) ⟨_, ho, rfl⟩ (by decide) F.sub_dict_str F.slot_str_eq F.slot_dict_eq_refl
    (fun _ hq => call_meets F.slot_str_eq (typeIs_str s b u) F.entry_str_eq (F.args_str_eq_2 _ _) (str_eq_declines_dict b u l es n dd sl) ⟨ho, hq⟩)
    (fun _ hq => call_meets F.slot_dict_eq_refl ⟨_, ho, rfl⟩ F.entry_dict_eq (F.args_dict_eq_2 _ _) (dict_eq_declines_str l es n dd sl b u) ⟨ho, hq⟩)
    (fun _ hq => wpAny_of_eq (rfl : isSame (.str b u) (.ref l) = pure false) hq) (.inr hu) h
theorem rc_dict_str {A : Around} {s : Shared} {l : Addr} {es : Array DictEntry} {n : Nat} {dd : Option Addr} {sl : Array (Option Value)} (b : Str) (u : Tok) (ho : s.heap.get? l = some { cls := .type "dict", dict := dd, data := .dict es n, slots := sl }) (hu : A.units < cLine) : RcAt A s (.ref l) (.str b u) false := fun prog w E Q h =>
  rc_eq_decline_or (k := false) ⟨_, ho, rfl⟩ (typeIs_str s b u) (by decide) F.sub_str_dict F.slot_dict_eq F.slot_str_eq_refl
    (fun _ hq => call_meets F.slot_dict_eq ⟨_, ho, rfl⟩ F.entry_dict_eq (F.args_dict_eq_2 _ _) (dict_eq_declines_str l es n dd sl b u) ⟨ho, hq⟩)
    (fun _ hq => call_meets F.slot_str_eq_refl (typeIs_str s b u) F.entry_str_eq (F.args_str_eq_2 _ _) (str_eq_declines_dict b u l es n dd sl) ⟨ho, hq⟩)
    (fun _ hq => wpAny_of_eq (rfl : isSame (.ref l) (.str b u) = pure false) hq) (.inr hu) h
/-- what may be handed in -/
inductive Th (H : Hp) : V → Prop where
  | non : Th H .non
  | bl (b : Bool) : Th H (.bl b)
  | int (i : Int) : Th H (.int i)
  | str (x : Str) (h : x.length ≤ sizeLine) : Th H (.str x)
  | lst {a : Addr} {xs : List V} (h : H a = some (.lst xs)) : Th H (.ref a)
  | tup {a : Addr} {xs : List V} (h : H a = some (.tup xs)) : Th H (.ref a)
  | dct {a : Addr} {kvs : List (Key × V)} (h : H a = some (.dK kvs)) : Th H (.ref a)
theorem Th.same {H H' : Hp} {v : V} (t : Th H v) (s : Same H H') : Th H' v := by
  cases t with
  | non => exact .non
  | bl b => exact .bl b
  | int i => exact .int i
  | str x h => exact .str x h
  | lst h => exact .lst (s _ _ h)
  | tup h => exact .tup (s _ _ h)
  | dct h => exact .dct (s _ _ h)
/-- == of a text and anything -/
def rEqX : R2 := fun x y H Q => ((∃ b, y = .str b) ∧ Th H x ∨ (∃ b, x = .str b) ∧ Th H y) ∧ Q (.bl (decide (x = y))) H
theorem op_eqX {X : Cx} (hu0 : X.A.units + 64 < cLine) : OpR X (compareOp .Eq) rEqX := by
  have hu : X.A.units < cLine := by omega
  intro pins s σ H x y v u Q I rx ry h
  obtain ⟨h, q⟩ := h
  have rf : ∀ {a : Addr} {b : Str}, decide (V.ref a = V.str b) = false := fun {a b} => decide_eq_false (fun z => nomatch z)
  have fr : ∀ {a : Addr} {b : Str}, decide (V.str b = V.ref a) = false := fun {a b} => decide_eq_false (fun z => nomatch z)
  rcases h with ⟨⟨b, rfl⟩, t⟩ | ⟨⟨b, rfl⟩, t⟩
  · cases t with
    | non => exact op_eq pins s σ H _ _ v u Q I rx ry ⟨rfl, q⟩
    | bl b => exact op_eq pins s σ H _ _ v u Q I rx ry ⟨rfl, q⟩
    | int i => exact op_eq pins s σ H _ _ v u Q I rx ry ⟨rfl, q⟩
    | str z h => exact op_eq pins s σ H _ _ v u Q I rx ry ⟨rfl, q⟩
    | @lst a xs h =>
      obtain ⟨t, rfl⟩ := (show ∃ t, u = Value.str b t from ry)
      cases (show v = Value.ref a from rx)
      obtain ⟨_, _, n, _, h1⟩ := (show ObjOk X.prog X.w H s.heap a (.lst xs) from I.hok a _ h)
      rw [rf] at q
      exact RcAt.list_str (A := X.A) b t ⟨_, h1, rfl, n, rfl⟩ hu X.prog X.w _ _ ⟨.bl false, H, I, rfl, q⟩
    | @tup a xs h =>
      obtain ⟨t, rfl⟩ := (show ∃ t, u = Value.str b t from ry)
      cases (show v = Value.ref a from rx)
      obtain ⟨its, _, ht, _⟩ := I.tuple (SqT.of h)
      rw [rf] at q
      exact RcAt.tuple_str (A := X.A) b t ht hu X.prog X.w _ _ ⟨.bl false, H, I, rfl, q⟩
    | @dct a kvs h =>
      obtain ⟨t, rfl⟩ := (show ∃ t, u = Value.str b t from ry)
      cases (show v = Value.ref a from rx)
      obtain ⟨_, _, vs, _, ob, es, ep, h1, h2, h3, _⟩ := (show ObjOk X.prog X.w H s.heap a (.dK kvs) from I.hok a _ h)
      obtain ⟨cls, dd, data, sl⟩ := ob
      obtain ⟨c1, c2, c3⟩ := h2
      simp only at c1 h3
      subst c1 h3
      rw [rf] at q
      exact rc_dict_str (A := X.A) b t h1 hu X.prog X.w _ _ ⟨.bl false, H, I, rfl, q⟩
  · cases t with
    | non => exact op_eq pins s σ H _ _ v u Q I rx ry ⟨rfl, q⟩
    | bl b => exact op_eq pins s σ H _ _ v u Q I rx ry ⟨rfl, q⟩
    | int i => exact op_eq pins s σ H _ _ v u Q I rx ry ⟨rfl, q⟩
    | str z h => exact op_eq pins s σ H _ _ v u Q I rx ry ⟨rfl, q⟩
    | @lst a xs h =>
      obtain ⟨t, rfl⟩ := (show ∃ t, v = Value.str b t from rx)
      cases (show u = Value.ref a from ry)
      obtain ⟨_, _, n, _, h1⟩ := (show ObjOk X.prog X.w H s.heap a (.lst xs) from I.hok a _ h)
      rw [fr] at q
      exact RcAt.str_list (A := X.A) b t ⟨_, h1, rfl, n, rfl⟩ hu X.prog X.w _ _ ⟨.bl false, H, I, rfl, q⟩
    | @tup a xs h =>
      obtain ⟨t, rfl⟩ := (show ∃ t, v = Value.str b t from rx)
      cases (show u = Value.ref a from ry)
      obtain ⟨its, _, ht, _⟩ := I.tuple (SqT.of h)
      rw [fr] at q
      exact RcAt.str_tuple (A := X.A) b t ht hu X.prog X.w _ _ ⟨.bl false, H, I, rfl, q⟩
    | @dct a kvs h =>
      obtain ⟨t, rfl⟩ := (show ∃ t, v = Value.str b t from rx)
      cases (show u = Value.ref a from ry)
      obtain ⟨_, _, vs, _, ob, es, ep, h1, h2, h3, _⟩ := (show ObjOk X.prog X.w H s.heap a (.dK kvs) from I.hok a _ h)
      obtain ⟨cls, dd, data, sl⟩ := ob
      obtain ⟨c1, c2, c3⟩ := h2
      simp only at c1 h3
      subst c1 h3
      rw [fr] at q
      exact rc_str_dict (A := X.A) b t h1 hu X.prog X.w _ _ ⟨.bl false, H, I, rfl, q⟩
/-- its type -/
def tyV : V → HO → Value
  | .non, _ => .type "NoneType" | .bl _, _ => .type "bool" | .int _, _ => .type "int" | .str _, _ => .type "str"
  | .ref _, .lst _ => .type "list" | .ref _, .tup _ => .type "tuple" | _, _ => .type "dict"
theorem Th.ty {K : PySem.W.Frag} {H : Hp} {v : V} (t : Th H v) : ∃ n : String, TyX K H v (.type n) ∧ n ∈ ["NoneType", "bool", "int", "str", "list", "tuple", "dict"] ∧ (n = "bool" ↔ ∃ b, v = .bl b) ∧ (n = "int" ↔ ∃ i, v = .int i) ∧ (n = "str" ↔ ∃ x, v = .str x) ∧ (n = "tuple" ↔ ∃ a xs, v = .ref a ∧ H a = some (.tup xs)) := by
  cases t with
  | non => exact ⟨_, .base .non, by decide, ⟨fun z => absurd z (by decide), fun ⟨_, z⟩ => nomatch z⟩, ⟨fun z => absurd z (by decide), fun ⟨_, z⟩ => nomatch z⟩, ⟨fun z => absurd z (by decide), fun ⟨_, z⟩ => nomatch z⟩, ⟨fun z => absurd z (by decide), fun ⟨_, _, z, _⟩ => nomatch z⟩⟩
  | bl b => exact ⟨_, .base (.bl b), by decide, ⟨fun _ => ⟨b, rfl⟩, fun _ => rfl⟩, ⟨fun z => absurd z (by decide), fun ⟨_, z⟩ => nomatch z⟩, ⟨fun z => absurd z (by decide), fun ⟨_, z⟩ => nomatch z⟩, ⟨fun z => absurd z (by decide), fun ⟨_, _, z, _⟩ => nomatch z⟩⟩
  | int i => exact ⟨_, .base (.int i), by decide, ⟨fun z => absurd z (by decide), fun ⟨_, z⟩ => nomatch z⟩, ⟨fun _ => ⟨i, rfl⟩, fun _ => rfl⟩, ⟨fun z => absurd z (by decide), fun ⟨_, z⟩ => nomatch z⟩, ⟨fun z => absurd z (by decide), fun ⟨_, _, z, _⟩ => nomatch z⟩⟩
  | str x h => exact ⟨_, .base (.str x), by decide, ⟨fun z => absurd z (by decide), fun ⟨_, z⟩ => nomatch z⟩, ⟨fun z => absurd z (by decide), fun ⟨_, z⟩ => nomatch z⟩, ⟨fun _ => ⟨x, rfl⟩, fun _ => rfl⟩, ⟨fun z => absurd z (by decide), fun ⟨_, _, z, _⟩ => nomatch z⟩⟩
  | lst h => exact ⟨_, .base (.lst h), by decide, ⟨fun z => absurd z (by decide), fun ⟨_, z⟩ => nomatch z⟩, ⟨fun z => absurd z (by decide), fun ⟨_, z⟩ => nomatch z⟩, ⟨fun z => absurd z (by decide), fun ⟨_, z⟩ => nomatch z⟩, ⟨fun z => absurd z (by decide), fun ⟨_, _, z, e⟩ => by cases z; rw [h] at e; cases e⟩⟩
  | @tup a xs h => exact ⟨_, .base (.tup h), by decide, ⟨fun z => absurd z (by decide), fun ⟨_, z⟩ => nomatch z⟩, ⟨fun z => absurd z (by decide), fun ⟨_, z⟩ => nomatch z⟩, ⟨fun z => absurd z (by decide), fun ⟨_, z⟩ => nomatch z⟩, ⟨fun _ => ⟨a, xs, rfl, h⟩, fun _ => rfl⟩⟩
  | dct h => exact ⟨_, .base (.dK h), by decide, ⟨fun z => absurd z (by decide), fun ⟨_, z⟩ => nomatch z⟩, ⟨fun z => absurd z (by decide), fun ⟨_, z⟩ => nomatch z⟩, ⟨fun z => absurd z (by decide), fun ⟨_, z⟩ => nomatch z⟩, ⟨fun z => absurd z (by decide), fun ⟨_, _, z, e⟩ => by cases z; rw [h] at e; cases e⟩⟩
end KD
namespace KD
open PySem PySem.Spec PyProof.Rows L2
section
variable {X : Cx}
def tA (t : TA) : TA := fun σ H Q => ∃ Q' : List V → Hp → Prop, t σ H Q' ∧ ∀ vs H', Q' vs H' → Q vs H'
theorem pa_up {es : List Expr} {t : TA} (h : PA X es t) : PA X es (tA t) := ⟨fun pos pins s σ H Q I ⟨Q', h1, h2⟩ => thn (h.run pos pins s σ H Q' I h1) fun us s1 ⟨vs, H1, I1, r, q⟩ => ⟨vs, H1, I1, r, h2 _ _ q⟩⟩
theorem pe_le {e : Expr} {t u : TE} (h : PE X e t) (f : ∀ σ H Q, u σ H Q → t σ H Q) : PE X e u := ⟨fun pins s σ H Q I hu => h.run pins s σ H Q I (f σ H Q hu)⟩
def tLstW (t : TA) : TE := fun σ H Q => t σ H fun xs H1 => xs.length ≤ sizeLine ∧ ∀ p H', Same H1 H' → H1 p = none → H' p = some (.lst xs) → Q (.ref p) H'
def tTupW (t : TA) : TE := fun σ H Q => t σ H fun xs H1 => xs.length ≤ sizeLine ∧ ∀ p H', Same H1 H' → H1 p = none → H' p = some (.tup xs) → Q (.ref p) H'
theorem pe_lstW {es : List Expr} {t : TA} {pos : Pos} (ha : PA X es t) : PE X (.List es pos) (tLstW t) :=
  pe_le (pe_lst (pa_up ha)) fun σ H Q h => ⟨_, h, fun vs H1 ⟨a, b⟩ => ⟨a, fun p hp => b p _ (KP.same_new hp) hp upd_same⟩⟩
theorem pe_tupW {es : List Expr} {x1 : _} {t : TA} {pos : Pos} (ha : PA X es t) : PE X (.Tuple es x1 pos) (tTupW t) :=
  pe_le (pe_tup (pa_up ha)) fun σ H Q h => ⟨_, h, fun vs H1 ⟨a, b⟩ => ⟨a, fun p hp => b p _ (KP.same_new hp) hp upd_same⟩⟩
/-- t + u, t[lo:hi]: a tuple of these items, a new one or one that was there -/
def rCatW (K : PySem.W.Frag) : R2 := fun x y H Q => ∃ a b xs ys, x = .ref a ∧ y = .ref b ∧ H a = some (.tup xs) ∧ H b = some (.tup ys) ∧ xs.length + ys.length ≤ sizeLine ∧ ∀ p H', Same H H' → H' p = some (.tup (xs ++ ys)) → Q (.ref p) H'
theorem op_catW : OpR X (binaryOp .Add) (rCatW X.K) := by
  intro pins s σ H x y v u Q I rx ry h
  obtain ⟨a, b, xs, ys, rfl, rfl, ha, hb, hz, q⟩ := h
  refine op_catA pins s σ H _ _ v u Q I rx ry ⟨a, b, xs, ys, rfl, rfl, SqT.of ha, SqT.of hb, hz, fun e => ?_, fun _ e => ?_, fun _ _ p hp => ?_⟩
  · subst e
    exact q b H (Same.refl _) hb
  · subst e
    exact q a H (Same.refl _) (by rw [List.append_nil]; exact ha)
  · exact q p _ (KP.same_new hp) upd_same
def rSlW (K : PySem.W.Frag) : V → Option Int → Option Int → Hp → VK → Prop := fun x lo hi H Q => ∃ a xs, x = .ref a ∧ H a = some (.tup xs) ∧ ∀ p H', Same H H' → H' p = some (.tup (cutV xs lo hi)) → Q (.ref p) H'
theorem sl_tupW : SlR X (rSlW X.K) := by
  intro pins s σ H x v vl vu lo hi sl Q I rx hs pl pu h
  obtain ⟨a, xs, rfl, ha, q⟩ := h
  refine sl_tupA pins s σ H _ v vl vu lo hi sl Q I rx hs pl pu ⟨a, xs, rfl, SqT.of ha, fun e => ?_, fun _ p hp => q p _ (KP.same_new hp) upd_same⟩
  refine q a H (Same.refl _) ?_
  unfold cutV
  rw [e.1, e.2, List.drop_zero, Nat.sub_zero, List.take_length]
  exact ha
/-- l + m of lists -/
def rCatLW : R2 := fun x y H Q => ∃ a b xs ys, x = .ref a ∧ y = .ref b ∧ H a = some (.lst xs) ∧ H b = some (.lst ys) ∧ xs.length + ys.length ≤ sizeLine ∧ ∀ p H', Same H H' → H p = none → H' p = some (.lst (xs ++ ys)) → Q (.ref p) H'
theorem op_catLW : OpR X (binaryOp .Add) rCatLW := by
  intro pins s σ H x y v u Q I rx ry h
  obtain ⟨a, b, xs, ys, rfl, rfl, ha, hb, hz, q⟩ := h
  exact op_cat pins s σ H _ _ v u Q I rx ry ⟨a, b, xs, ys, rfl, rfl, ha, hb, hz, fun p hp => q p _ (KP.same_new hp) hp upd_same⟩
def rSlLW (K : PySem.W.Frag) : V → Option Int → Option Int → Hp → VK → Prop := fun x lo hi H Q => ∃ a xs, x = .ref a ∧ SqL K H a xs ∧ ∀ p H', Same H H' → H p = none → H' p = some (.lst (cutV xs lo hi)) → Q (.ref p) H'
theorem sl_listW : SlR X (rSlLW X.K) := by
  intro pins s σ H x v vl vu lo hi sl Q I rx hs pl pu h
  obtain ⟨a, xs, rfl, ha, q⟩ := h
  exact sl_list pins s σ H _ v vl vu lo hi sl Q I rx hs pl pu ⟨a, xs, rfl, ha, fun p hp => q p _ (KP.same_new hp) hp upd_same⟩
/-- list(x) -/
def rListW (K : PySem.W.Frag) : List V → Hp → VK → Prop := fun xs H Q => ∃ p ys, xs = [.ref p] ∧ (SqL K H p ys ∨ SqT K H p ys) ∧ ∀ l H', Same H H' → H l = none → H' l = some (.lst ys) → Q (.ref l) H'
theorem call_listW : CallR X (.type "list") (rListW X.K) := by
  intro pins s σ H xs us Q I r h
  obtain ⟨p, ys, rfl, hy, q⟩ := h
  exact call_list_of pins s σ H _ us Q I r ⟨p, ys, rfl, hy, fun l hl => q l _ (KP.same_new hl) hl upd_same⟩
/-- tuple(x) of a list -/
def rTupleW (K : PySem.W.Frag) : List V → Hp → VK → Prop := fun xs H Q => ∃ p ys, xs = [.ref p] ∧ SqL K H p ys ∧ ∀ l H', Same H H' → H l = none → H' l = some (.tup ys) → Q (.ref l) H'
theorem call_tupleW : CallR X (.type "tuple") (rTupleW X.K) := by
  intro pins s σ H xs us Q I r h
  obtain ⟨p, ys, rfl, hy, q⟩ := h
  exact call_tuple_of pins s σ H _ us Q I r ⟨p, ys, rfl, .inl ⟨hy, fun l hl => q l _ (KP.same_new hl) hl upd_same⟩⟩
/-- str(x) of an int or a truth: some text -/
def rStrX : List V → Hp → VK → Prop := fun xs H Q => ((∃ i, xs = [.int i] ∧ i.natAbs.log2 < 1920) ∨ ∃ b, xs = [.bl b]) ∧ ∀ z : Str, z.length ≤ sizeLine → Q (.str z) H
theorem call_strX : CallR X (.type "str") rStrX := by
  intro pins s σ H xs us Q I r h
  obtain ⟨⟨i, rfl, hz⟩ | ⟨b, rfl⟩, q⟩ := h
  · obtain ⟨u, rfl, t, rfl⟩ := vals1 r
    exact PySem.P.str_of_int hz ⟨.str _, H, I.tok _, ⟨_, rfl⟩, q _ (int_text_fits hz)⟩
  · obtain ⟨u, rfl, r1⟩ := vals1 r
    cases (show u = Value.bool b from r1)
    exact PySem.P.str_of_bool ⟨.str _, H, I.tok _, ⟨_, rfl⟩, q _ (by cases b <;> decide)⟩
end
end KD
namespace KD
open PySem PySem.Spec PyProof.Rows L2 PySem.SeqAt
/-- a thing that is no dict -/
inductive Ti (H : Hp) : V → Prop where
  | non : Ti H .non
  | bl (b : Bool) : Ti H (.bl b)
  | int (i : Int) : Ti H (.int i)
  | str (x : Str) (h : x.length ≤ sizeLine) : Ti H (.str x)
  | lst {a : Addr} {xs : List V} (h : H a = some (.lst xs)) : Ti H (.ref a)
  | tup {a : Addr} {xs : List V} (h : H a = some (.tup xs)) : Ti H (.ref a)
theorem Ti.th {H : Hp} {v : V} (t : Ti H v) : Th H v := by
  cases t with
  | non => exact .non
  | bl b => exact .bl b
  | int i => exact .int i
  | str x h => exact .str x h
  | lst h => exact .lst h
  | tup h => exact .tup h
theorem Ti.same {H H' : Hp} {v : V} (t : Ti H v) (s : Same H H') : Ti H' v := by
  cases t with
  | non => exact .non
  | bl b => exact .bl b
  | int i => exact .int i
  | str x h => exact .str x h
  | lst h => exact .lst (s _ _ h)
  | tup h => exact .tup (s _ _ h)
/-- x != a text -/
def rNeX : R2 := fun x y H Q => (∃ b, y = .str b) ∧ Ti H x ∧ Q (.bl (!decide (x = y))) H
theorem op_neX {X : Cx} (hu0 : X.A.units + 64 < cLine) : OpR X (compareOp .NotEq) rNeX := by
  have hu : X.A.units < cLine := by omega
  intro pins s σ H x y v u Q I rx ry h
  obtain ⟨⟨b, rfl⟩, t, q⟩ := h
  have rf : ∀ {a : Addr} {b : Str}, decide (V.ref a = V.str b) = false := fun {a b} => decide_eq_false (fun z => nomatch z)
  cases t with
  | non => exact op_ne pins s σ H _ _ v u Q I rx ry ⟨rfl, q⟩
  | bl b => exact op_ne pins s σ H _ _ v u Q I rx ry ⟨rfl, q⟩
  | int i => exact op_ne pins s σ H _ _ v u Q I rx ry ⟨rfl, q⟩
  | str z h => exact op_ne pins s σ H _ _ v u Q I rx ry ⟨rfl, q⟩
  | @lst a xs h =>
    obtain ⟨t, rfl⟩ := (show ∃ t, u = Value.str b t from ry)
    cases (show v = Value.ref a from rx)
    obtain ⟨_, _, n, _, h1⟩ := (show ObjOk X.prog X.w H s.heap a (.lst xs) from I.hok a _ h)
    rw [rf] at q
    exact RcNeAt.list_str (A := X.A) b t ⟨_, h1, rfl, n, rfl⟩ hu X.prog X.w _ _ ⟨.bl true, H, I, rfl, q⟩
  | @tup a xs h =>
    obtain ⟨t, rfl⟩ := (show ∃ t, u = Value.str b t from ry)
    cases (show v = Value.ref a from rx)
    obtain ⟨its, _, ht, _⟩ := I.tuple (SqT.of h)
    rw [rf] at q
    exact RcNeAt.tuple_str (A := X.A) b t ht hu X.prog X.w _ _ ⟨.bl true, H, I, rfl, q⟩
/-- x in, not in a list of texts -/
def rInX (K : PySem.W.Frag) (neg : Bool) : R2 := fun x y H Q => ∃ (p : Addr) (zs : List Str), y = .ref p ∧ H p = some (.lst (zs.map V.str)) ∧ Ti H x ∧ Q (.bl (if neg then !decide (x ∈ zs.map V.str) else decide (x ∈ zs.map V.str))) H
theorem inV_any {x : V} (f : flatV x = true) : ∀ {zs : List Str}, inV x (zs.map V.str) = decide (x ∈ zs.map V.str)
  | [] => rfl
  | z :: zs => by
    have ih := inV_any f (zs := zs)
    unfold inV at ih ⊢
    rw [List.map_cons, List.any_cons, ih]
    by_cases e : x = V.str z
    · subst e
      have : eqV (V.str z) (V.str z) = true := by simp [eqV]
      rw [this, Bool.true_or, decide_eq_true (by simp)]
    · have : eqV (V.str z) x = false := by
        cases x with
        | str y => simp [eqV]; exact fun q => e (by rw [q])
        | _ => rfl
      rw [this, Bool.false_or]
      by_cases m : x ∈ zs.map V.str
      · rw [decide_eq_true m, decide_eq_true (List.mem_cons_of_mem _ m)]
      · rw [decide_eq_false m, decide_eq_false (fun q => by rcases List.mem_cons.mp q with q | q; exact e q; exact m q)]
theorem ref_notin {a : Addr} {zs : List Str} : decide (V.ref a ∈ zs.map V.str) = false := decide_eq_false fun m => by
  obtain ⟨z, _, e⟩ := List.mem_map.mp m
  cases e
theorem in_no {X : Cx} {A : Around} (hu : A.units < cLine) {pins : List (Addr × Obj)} {s : Shared} {σ : L2.St} {H : Hp} {a : Addr} {zs : List Str} {its : List Value} (I : Inv X pins σ H s) (t : Ti H (.ref a)) (r : Vals (zs.map V.str) its) : ∀ w ∈ its.toArray, EqAt A s w (.ref a) false := by
  intro w hw
  have hw' : w ∈ its := by simpa using hw
  have key : ∀ {ys : List V} {us : List Value}, Vals ys us → (∀ y ∈ ys, ∃ z, y = V.str z) → ∀ w ∈ us, ∃ z tk, w = Value.str z tk := by
    intro ys us r
    induction r with
    | nil => intro _ w h; cases h
    | cons r1 rr ih =>
      intro hy w h
      rcases List.mem_cons.mp h with rfl | h
      · rename_i y0 ys0 us0
        obtain ⟨z, e0⟩ := hy y0 List.mem_cons_self
        subst e0
        obtain ⟨tk, e⟩ := r1
        exact ⟨z, tk, e⟩
      · exact ih (fun y h => hy y (List.mem_cons_of_mem _ h)) w h
  obtain ⟨z, tk, rfl⟩ := key r (fun y hy => by obtain ⟨z, _, rfl⟩ := List.mem_map.mp hy; exact ⟨z, rfl⟩) w hw'
  cases t with
  | @lst _ xs h =>
    obtain ⟨_, _, n, _, h1⟩ := (show ObjOk X.prog X.w H s.heap a (.lst xs) from I.hok a _ h)
    exact EqAt.str_list z tk ⟨_, h1, rfl, n, rfl⟩ hu
  | @tup _ xs h =>
    obtain ⟨its, _, ht, _⟩ := I.tuple (SqT.of h)
    exact EqAt.str_tuple z tk ht hu
theorem any_false {l : List Value} : l.toArray.any (fun _ => false) = false := by simp
theorem op_inX {X : Cx} (hu0 : X.A.units + 64 < cLine) : OpR X (compareOp .In) (rInX X.K false) := by
  intro pins s σ H x y v u Q I rx ry h
  obtain ⟨p, zs, rfl, hp, t, q⟩ := h
  have flat : flatV x = true → wpAny (model X.prog X.w) X.A (compareOp .In v u) (EP X pins σ Q) X.xe s := fun f => op_in_seq pins s σ H x (.ref p) v u Q I rx ry ⟨p, zs.map V.str, rfl, .inl (SqL.of hp), f, KP.flat_strs, by rw [inV_any f]; exact q⟩
  have ref : ∀ a, x = .ref a → wpAny (model X.prog X.w) X.A (compareOp .In v u) (EP X pins σ Q) X.xe s := fun a e => by
    subst e
    cases ry
    cases (show v = Value.ref a from rx)
    obtain ⟨its, r, pl, hz⟩ := I.list (SqL.of hp)
    rw [ref_notin] at q
    exact SeqAt.in_listAt (fun _ => false) pl.isList (in_no (show X.A.in1.units < cLine by have : X.A.in1.units ≤ X.A.units + 1 := Nat.le_refl _; omega) I t r) ⟨.bl _, H, I, rfl, by rw [any_false]; exact q⟩
  cases x with
  | ref a => exact ref a rfl
  | non => exact flat rfl
  | bl b => exact flat rfl
  | int i => exact flat rfl
  | str z => exact flat rfl
  | _ => cases t
theorem op_notInX {X : Cx} (hu0 : X.A.units + 64 < cLine) : OpR X (compareOp .NotIn) (rInX X.K true) := by
  intro pins s σ H x y v u Q I rx ry h
  obtain ⟨p, zs, rfl, hp, t, q⟩ := h
  have flat : flatV x = true → wpAny (model X.prog X.w) X.A (compareOp .NotIn v u) (EP X pins σ Q) X.xe s := fun f => op_notIn_seq pins s σ H x (.ref p) v u Q I rx ry ⟨p, zs.map V.str, rfl, .inl (SqL.of hp), f, KP.flat_strs, by rw [inV_any f]; exact q⟩
  have ref : ∀ a, x = .ref a → wpAny (model X.prog X.w) X.A (compareOp .NotIn v u) (EP X pins σ Q) X.xe s := fun a e => by
    subst e
    cases ry
    cases (show v = Value.ref a from rx)
    obtain ⟨its, r, pl, hz⟩ := I.list (SqL.of hp)
    rw [ref_notin] at q
    exact SeqAt.notIn_listAt (fun _ => false) pl.isList (in_no (show X.A.in1.units < cLine by have : X.A.in1.units ≤ X.A.units + 1 := Nat.le_refl _; omega) I t r) ⟨.bl _, H, I, rfl, by rw [any_false]; exact q⟩
  cases x with
  | ref a => exact ref a rfl
  | non => exact flat rfl
  | bl b => exact flat rfl
  | int i => exact flat rfl
  | str z => exact flat rfl
  | _ => cases t
end KD
namespace KP
open PySem L2 KD
def isBl : V → Bool
  | .bl _ => true | _ => false
def isIn : V → Bool
  | .int _ => true | _ => false
def isSt : V → Bool
  | .str _ => true | _ => false
def isTp (H : Hp) : V → Bool
  | .ref a => match H a with
    | some (.tup _) => true
    | _ => false
  | _ => false
section
variable {K : PySem.W.Frag} {H : Hp} {v : V}
theorem th_bool (t : Th H v) : ∃ u, TyX K H v u ∧ PySem.W.kitOne K u (.type "bool") = some (isBl v) := by
  cases t with
  | non => exact ⟨_, .base .non, by first | exact kit_ty (r := true) (by decide +kernel) | exact kit_ty (r := false) (by decide +kernel)⟩
  | bl b => exact ⟨_, .base (.bl b), by first | exact kit_ty (r := true) (by decide +kernel) | exact kit_ty (r := false) (by decide +kernel)⟩
  | int i => exact ⟨_, .base (.int i), by first | exact kit_ty (r := true) (by decide +kernel) | exact kit_ty (r := false) (by decide +kernel)⟩
  | str x h => exact ⟨_, .base (.str x), by first | exact kit_ty (r := true) (by decide +kernel) | exact kit_ty (r := false) (by decide +kernel)⟩
  | lst h => exact ⟨_, .base (.lst h), by first | exact kit_ty (r := true) (by decide +kernel) | exact kit_ty (r := false) (by decide +kernel)⟩
  | tup h => exact ⟨_, .base (.tup h), by first | exact kit_ty (r := true) (by decide +kernel) | exact kit_ty (r := false) (by decide +kernel)⟩
  | dct h => exact ⟨_, .base (.dK h), by first | exact kit_ty (r := true) (by decide +kernel) | exact kit_ty (r := false) (by decide +kernel)⟩
theorem th_int (t : Th H v) : ∃ u, TyX K H v u ∧ PySem.W.kitOne K u (.type "int") = some (isBl v || isIn v) := by
  cases t with
  | non => exact ⟨_, .base .non, by first | exact kit_ty (r := true) (by decide +kernel) | exact kit_ty (r := false) (by decide +kernel)⟩
  | bl b => exact ⟨_, .base (.bl b), by first | exact kit_ty (r := true) (by decide +kernel) | exact kit_ty (r := false) (by decide +kernel)⟩
  | int i => exact ⟨_, .base (.int i), by first | exact kit_ty (r := true) (by decide +kernel) | exact kit_ty (r := false) (by decide +kernel)⟩
  | str x h => exact ⟨_, .base (.str x), by first | exact kit_ty (r := true) (by decide +kernel) | exact kit_ty (r := false) (by decide +kernel)⟩
  | lst h => exact ⟨_, .base (.lst h), by first | exact kit_ty (r := true) (by decide +kernel) | exact kit_ty (r := false) (by decide +kernel)⟩
  | tup h => exact ⟨_, .base (.tup h), by first | exact kit_ty (r := true) (by decide +kernel) | exact kit_ty (r := false) (by decide +kernel)⟩
  | dct h => exact ⟨_, .base (.dK h), by first | exact kit_ty (r := true) (by decide +kernel) | exact kit_ty (r := false) (by decide +kernel)⟩
theorem th_str (t : Th H v) : ∃ u, TyX K H v u ∧ PySem.W.kitOne K u (.type "str") = some (isSt v) := by
  cases t with
  | non => exact ⟨_, .base .non, by first | exact kit_ty (r := true) (by decide +kernel) | exact kit_ty (r := false) (by decide +kernel)⟩
  | bl b => exact ⟨_, .base (.bl b), by first | exact kit_ty (r := true) (by decide +kernel) | exact kit_ty (r := false) (by decide +kernel)⟩
  | int i => exact ⟨_, .base (.int i), by first | exact kit_ty (r := true) (by decide +kernel) | exact kit_ty (r := false) (by decide +kernel)⟩
  | str x h => exact ⟨_, .base (.str x), by first | exact kit_ty (r := true) (by decide +kernel) | exact kit_ty (r := false) (by decide +kernel)⟩
  | lst h => exact ⟨_, .base (.lst h), by first | exact kit_ty (r := true) (by decide +kernel) | exact kit_ty (r := false) (by decide +kernel)⟩
  | tup h => exact ⟨_, .base (.tup h), by first | exact kit_ty (r := true) (by decide +kernel) | exact kit_ty (r := false) (by decide +kernel)⟩
  | dct h => exact ⟨_, .base (.dK h), by first | exact kit_ty (r := true) (by decide +kernel) | exact kit_ty (r := false) (by decide +kernel)⟩
theorem th_tup (t : Th H v) : ∃ u, TyX K H v u ∧ PySem.W.kitOne K u (.type "tuple") = some (isTp H v) := by
  cases t with
  | non => exact ⟨_, .base .non, by first | exact kit_ty (r := true) (by decide +kernel) | exact kit_ty (r := false) (by decide +kernel)⟩
  | bl b => exact ⟨_, .base (.bl b), by first | exact kit_ty (r := true) (by decide +kernel) | exact kit_ty (r := false) (by decide +kernel)⟩
  | int i => exact ⟨_, .base (.int i), by first | exact kit_ty (r := true) (by decide +kernel) | exact kit_ty (r := false) (by decide +kernel)⟩
  | str x h => exact ⟨_, .base (.str x), by first | exact kit_ty (r := true) (by decide +kernel) | exact kit_ty (r := false) (by decide +kernel)⟩
  | lst h => exact ⟨_, .base (.lst h), by simp only [isTp, h]; first | exact kit_ty (r := true) (by decide +kernel) | exact kit_ty (r := false) (by decide +kernel)⟩
  | tup h => exact ⟨_, .base (.tup h), by simp only [isTp, h]; first | exact kit_ty (r := true) (by decide +kernel) | exact kit_ty (r := false) (by decide +kernel)⟩
  | dct h => exact ⟨_, .base (.dK h), by simp only [isTp, h]; first | exact kit_ty (r := true) (by decide +kernel) | exact kit_ty (r := false) (by decide +kernel)⟩
end
def wholeV (lo hi : Int) : V → Bool
  | .int v => decide (lo ≤ v ∧ v ≤ hi) | _ => false
def wordV : V → Bool
  | .str x => wordB x | _ => false
def spWholeV : Sp := fun vs H Q _ => ∃ (v : V) (lo hi : Int), vs = [v, .int lo, .int hi] ∧ Th H v ∧ Q (.bl (wholeV lo hi v)) H
def spWordV : Sp := fun vs H Q _ => ∃ v : V, vs = [v] ∧ Th H v ∧ ∀ H', Same H H' → Q (.bl (wordV v)) H'
section
variable {P : Program} {w : World} {K : PySem.W.Frag} {mg : Str → Option Value} {base : Heap}
theorem c_wholeV (B : Base K mg) (D : DefT K mg "is_whole" sWhole ["value", "least", "most"]) : Cal P w K mg base 1 "is_whole" spWholeV := by
  refine cal D scWhole (fun vs H Q E h => ?_) (fun f cdv A outer s H vs Q E hr h => ?_)
  · obtain ⟨v, lo, hi, rfl, _⟩ := h
    rfl
  · obtain ⟨v, lo, hi, rfl, t, k⟩ := h
    refine ⟨_, pss_cons (ps_if (PW.pt (pw_or (pt_val (pe_callB call_isi (by rfl) B.isi (by decide +kernel) (pa_cons (pv 0) (pa_cons (pe_bltn (v := .ty "bool") (by rfl) B.bool (by decide +kernel) rfl) pa_nil))))
        (pw_or1 (pt_not (pt_val (pe_callB call_isi (by rfl) B.isi (by decide +kernel) (pa_cons (pv 0) (pa_cons (pe_bltn (v := .ty "int") (by rfl) B.int (by decide +kernel) rfl) pa_nil)))))))) (pss_one (ps_ret pe_bl)) pss_nil)
      (pss_one (ps_ret (pe_chain op_le op_le (pv 1) (pv 0) (pv 2)))), ?_⟩
    obtain ⟨u, tu, ku⟩ := th_bool (K := K) t
    obtain ⟨u2, tu2, ku2⟩ := th_int (K := K) t
    refine ⟨_, rfl, _, _, _, _, _, rfl, .ty _, tu, ku, _, rfl, ?_⟩
    cases hb : isBl v with
    | true =>
      refine iteT ?_
      have e : wholeV lo hi v = false := by cases v <;> first | rfl | exact absurd hb (by simp [isBl])
      rw [e] at k
      exact k
    | false =>
      refine iteF ⟨_, rfl, _, _, _, _, _, rfl, .ty _, tu2, ku2, _, rfl, ?_⟩
      rw [hb, Bool.false_or]
      cases hi2 : isIn v with
      | false =>
        refine iteT ?_
        have e : wholeV lo hi v = false := by cases v <;> first | rfl | exact absurd hi2 (by simp [isIn])
        rw [e] at k
        exact k
      | true =>
        obtain ⟨i, rfl⟩ : ∃ i, v = .int i := by cases v <;> first | exact ⟨_, rfl⟩ | exact absurd hi2 (by simp [isIn])
        refine iteF ⟨_, rfl, _, rfl, _, _, rfl, rfl, _, rfl, ?_⟩
        have k' : Q (.bl (decide (lo ≤ i ∧ i ≤ hi))) H := k
        by_cases h1 : lo ≤ i
        · rw [if_pos (decide_eq_true h1)]
          refine ⟨_, rfl, _, _, rfl, rfl, ?_⟩
          by_cases h2 : i ≤ hi
          · show Q (.bl (decide (i ≤ hi))) H
            rw [decide_eq_true h2]
            rw [decide_eq_true ⟨h1, h2⟩] at k'
            exact k'
          · show Q (.bl (decide (i ≤ hi))) H
            rw [decide_eq_false h2]
            rw [decide_eq_false fun z => h2 z.2] at k'
            exact k'
        · rw [if_neg (by rw [decide_eq_false h1]; exact Bool.false_ne_true)]
          rw [decide_eq_false fun z => h1 z.1] at k'
          exact k'
theorem all_map_id {bs : List Bool} : bs.all id = bs.all fun b => b := rfl
theorem c_wordV (B : Base K mg) (D : DefT K mg "is_word" sWord ["value"]) : Cal P w K mg base 1 "is_word" spWordV := by
  obtain ⟨tL, hL⟩ := B.letters
  obtain ⟨tM, hM⟩ := B.mostL
  refine cal D scWord (fun vs H Q E h => ?_) (fun f cdv A outer s H vs Q E hr h => ?_)
  · obtain ⟨x, rfl, _⟩ := h
    rfl
  · obtain ⟨v, rfl, t, k⟩ := h
    refine ⟨_, pss_cons (ps_if (PW.pt (pw_or (pt_not (pt_val (pe_callB call_isi (by rfl) B.isi (by decide +kernel) (pa_cons (pv 0) (pa_cons (pe_bltn (v := .ty "str") (by rfl) B.str (by decide +kernel) rfl) pa_nil)))))
        (pw_or1 (pt_not (pt_chain op_le op_le pe_int (pe_callB call_len_str (by rfl) B.len (by decide +kernel) (pa_cons (pv 0) pa_nil)) (pe_glob (v := .int 8) rfl hM ⟨_, rfl⟩)))))) (pss_one (ps_ret pe_bl)) pss_nil)
      (pss_one (ps_ret (pe_callB (cr_all rfl) (by rfl) B.all (by decide +kernel) (pa_cons (pe_lc (own := [("sign", 1)]) (g := gName 1) (tt := tYes) rfl scWord.nd (pi_str (pv 0)) (blkOk_by (N := ["value", "sign"]) (sc := defScope sWord) (by decide +kernel))
        (fun _ _ _ _ _ => pg_name (i := 1) scWord.nd rfl (Or.inl rfl)) (fun _ _ _ _ _ => pts_nil) (fun _ _ _ _ _ => pe_cmpR op_in_sign (pv 1) (pe_glob (v := .str letters) rfl hL ⟨_, rfl⟩) rfl)) pa_nil)))), ?_⟩
    obtain ⟨u, tu, ku⟩ := th_str (K := K) t
    refine ⟨_, rfl, _, _, _, _, _, rfl, .ty _, tu, ku, _, rfl, ?_⟩
    cases hb : isSt v with
    | false =>
      refine iteT ?_
      have e : wordV v = false := by cases v <;> first | rfl | exact absurd hb (by simp [isSt])
      have k' := k H (Same.refl _)
      rw [e] at k'
      exact k'
    | true =>
      obtain ⟨x, rfl⟩ : ∃ x, v = .str x := by cases v <;> first | exact ⟨_, rfl⟩ | exact absurd hb (by simp [isSt])
      have hs : x.length ≤ sizeLine := by cases t with | str _ h => exact h
      refine iteF ?_
      refine ⟨_, rfl, _, rfl, hs, _, _, rfl, rfl, _, rfl, ?_⟩
      have kF : wordB x = false → Q (.bl false) H := fun e => by
        have k' := k H (Same.refl _)
        rw [show wordV (.str x) = false from e] at k'
        exact k'
      by_cases h1 : 1 ≤ x.length
      · rw [if_pos (decide_eq_true (show (1 : Int) ≤ ((x.length : Nat) : Int) by omega))]
        refine ⟨_, _, rfl, rfl, _, rfl, ?_⟩
        by_cases h8 : x.length ≤ 8
        · have e8 : decide (((x.length : Nat) : Int) ≤ 8) = true := decide_eq_true (by omega)
          rw [e8]
          refine iteF ?_
          refine ⟨_, rfl, x, rfl, fun D hD => lc_it walk_str (fun i H' => H' = upd H D (.lst (((x.cps.toList.take i).map fun c => decide (c ∈ letters.cps.toList)).map V.bl))) rfl (fun _ _ _ _ => trivial) ?_ ?_⟩
          · rintro i v H1 H2 hi rfl ⟨rfl, c, hc, rfl⟩
            refine ⟨rfl, yes (iteT ⟨_, rfl, c, letters, rfl, rfl, _, upd_same, ?_, ?_⟩)⟩
            · have : x.cps.size ≤ 8 := h8
              have e : sizeLine = 16777216 := by decide
              have : ((x.cps.toList.take i).map fun c => decide (c ∈ letters.cps.toList)).length ≤ 8 := by
                rw [List.length_map, List.length_take, Array.length_toList]
                omega
              rw [List.length_map]
              omega
            · have hc' : x.cps.toList[i]? = some c := by simpa using hc
              rw [upd_upd, take_more hc', List.map_append, List.map_append]
              rfl
          · rintro H1 rfl
            refine ⟨D, (x.cps.toList.take x.cps.size).map fun c => decide (c ∈ letters.cps.toList), rfl, SqL.of upd_same, ?_⟩
            have k' := k _ (same_new (o := .lst (((x.cps.toList.take x.cps.size).map fun c => decide (c ∈ letters.cps.toList)).map V.bl)) hD)
            have e : wordV (.str x) = ((x.cps.toList.take x.cps.size).map fun c => decide (c ∈ letters.cps.toList)).all id := by
              show wordB x = _
              unfold wordB
              rw [decide_eq_true h1, decide_eq_true h8, Bool.and_true, Bool.and_true, List.take_of_length_le (by simp), List.all_map]
              rfl
            rw [e] at k'
            exact k'
        · have e8 : decide (((x.length : Nat) : Int) ≤ 8) = false := decide_eq_false (by omega)
          rw [e8]
          exact iteT (kF (by unfold wordB; rw [decide_eq_false h8, Bool.and_false]))
      · rw [if_neg (by rw [decide_eq_false (show ¬ (1 : Int) ≤ ((x.length : Nat) : Int) by omega)]; exact Bool.false_ne_true)]
        refine ⟨_, rfl, ?_⟩
        refine iteT ?_
        exact kF (by unfold wordB; rw [decide_eq_false h1, Bool.and_false, Bool.false_and])
end
/-! ### what is refused with NoYear -/
structure ErrF (K : PySem.W.Frag) (mg : Str → Option Value) (x : Str) (Cn : Addr) : Prop where
  g : mg x = some (.ref Cn)
  x : PySem.W.excIn K Cn [.type "ValueError", .type "Exception", .type "BaseException", .type "object"] "ValueError.__new__" = true
  k : PySem.W.keepIn K (.ref Cn) = true
  b : PySem.W.subIn K (.ref Cn) (.type "BaseException") = some true
  t : PySem.W.typeIn K (.ref Cn) = some (.type "type")
/-- a def that may raise -/
structure CalX (P : Program) (w : World) (K : PySem.W.Frag) (mg : Str → Option Value) (base : Heap) (k : Nat) (x : Str) (sp : Sp) : Prop where
  ex : ∃ f fd ps, FnOk P w K mg base (L2.CX P w) k f fd ps sp ∧ mg x = some (.ref f) ∧ PySem.W.keepIn K (.ref f) = true ∧ Binds K fd ps []
/-- a class whose making may raise -/
structure MakX (P : Program) (w : World) (K : PySem.W.Frag) (mg : Str → Option Value) (base : Heap) (k : Nat) (x : Str) (C : Addr) (sp : Sp) : Prop where
  ex : ∃ f fd ps, Mk K C f ∧ FnOk P w K mg base (L2.CX P w) k f fd ps sp ∧ mg x = some (.ref C) ∧ Binds K fd ps []
section
variable {X : Cx} {k j : Nat} {x : Str} {C : Addr} {sp : Sp} {p pos : Pos} {e : Expr} {es : List Expr} {t : TA} {E : L2.St → XK} {E1 : XK}
theorem pe_clX (c : CalX X.prog X.w X.K X.mg X.base k x sp) (hr : Room j X.A) (hk : k ≤ j) (hx : ∀ σ, PassesAt (L2.CX X.prog X.w) X σ (E σ)) (hg : Gl X x) (ha : PA X (e :: es) t)
    (hdb : (x == ("__debug__" : Str)) = false := by decide) (he : starEach (e :: es) X.env = (false, eval e X.env) :: starEach es X.env := by rfl) (hpl : (backTo pos (starEach es X.env)).any (·.1) = false := by rfl) :
    PE X (.Call (.Name x p) (e :: es) [] pos) (tCallS sp E t) := by
  obtain ⟨f, fd, ps, F, m, kp, b⟩ := c.ex
  exact pe_callS F (hr.mono hk) hg m kp b hx ha hdb he hpl
theorem pe_mkX (c : MakX X.prog X.w X.K X.mg X.base k x C sp) (hr : Room j X.A) (hk : k + 1 ≤ j) (hx : Passes (L2.CX X.prog X.w) X E1) (hg : Gl X x) (ha : PA X (e :: es) t)
    (hdb : (x == ("__debug__" : Str)) = false := by decide) (he : starEach (e :: es) X.env = (false, eval e X.env) :: starEach es X.env := by rfl) (hpl : (backTo pos (starEach es X.env)).any (·.1) = false := by rfl) :
    PE X (.Call (.Name x p) (e :: es) [] pos) (tMake C sp [] E1 t) := by
  obtain ⟨f, fd, ps, M, F, m, b⟩ := c.ex
  exact pe_make M F (hr.mono hk) hg m b .nil hx ha hdb he hpl
end
end KP
namespace KP
open PySem L2 KD
def lstOf (H : Hp) : V → Option (List V)
  | .ref a => match H a with
    | some (.lst xs) => some xs
    | _ => none
  | _ => none
def tupOf (H : Hp) : V → Option (List V)
  | .ref a => match H a with
    | some (.tup xs) => some xs
    | _ => none
  | _ => none
theorem lst_of {H : Hp} {a : Addr} {xs : List V} (h : H a = some (.lst xs)) : lstOf H (.ref a) = some xs := by simp only [lstOf, h]
theorem tup_of {H : Hp} {a : Addr} {xs : List V} (h : H a = some (.tup xs)) : tupOf H (.ref a) = some xs := by simp only [tupOf, h]
theorem of_lst {H : Hp} {v : V} {xs : List V} (h : lstOf H v = some xs) : ∃ a, v = .ref a ∧ H a = some (.lst xs) := by
  cases v with
  | ref a =>
    refine ⟨a, rfl, ?_⟩
    simp only [lstOf] at h
    split at h
    · rename_i ys e
      cases h
      exact e
    · cases h
  | _ => cases h
theorem of_tup {H : Hp} {v : V} {xs : List V} (h : tupOf H v = some xs) : ∃ a, v = .ref a ∧ H a = some (.tup xs) := by
  cases v with
  | ref a =>
    refine ⟨a, rfl, ?_⟩
    simp only [tupOf] at h
    split at h
    · rename_i ys e
      cases h
      exact e
    · cases h
  | _ => cases h
theorem Th_at {H : Hp} {a : Addr} (t : Th H (.ref a)) : ∃ o, H a = some o := by
  cases t with
  | lst h => exact ⟨_, h⟩
  | tup h => exact ⟨_, h⟩
  | dct h => exact ⟨_, h⟩
theorem lstOf_same {H H' : Hp} {v : V} (t : Th H v) (s : Same H H') : lstOf H' v = lstOf H v := by
  cases v with
  | ref a =>
    obtain ⟨o, ho⟩ := Th_at t
    simp only [lstOf, ho, s _ _ ho]
  | _ => rfl
theorem tupOf_same {H H' : Hp} {v : V} (t : Th H v) (s : Same H H') : tupOf H' v = tupOf H v := by
  cases v with
  | ref a =>
    obtain ⟨o, ho⟩ := Th_at t
    simp only [tupOf, ho, s _ _ ho]
  | _ => rfl
/-- a row, a list of rows: whatever they are -/
def RowV (H : Hp) (v : V) : Prop := Th H v ∧ ∀ xs, tupOf H v = some xs → ∀ x ∈ xs, Ti H x
def LstV (H : Hp) (v : V) : Prop := Th H v ∧ ∀ xs, lstOf H v = some xs → ∀ x ∈ xs, RowV H x
theorem RowV.same {H H' : Hp} {v : V} (h : RowV H v) (s : Same H H') : RowV H' v := ⟨h.1.same s, fun xs e x hx => (h.2 xs (by rw [← tupOf_same h.1 s]; exact e) x hx).same s⟩
theorem LstV.same {H H' : Hp} {v : V} (h : LstV H v) (s : Same H H') : LstV H' v := ⟨h.1.same s, fun xs e x hx => (h.2 xs (by rw [← lstOf_same h.1 s]; exact e) x hx).same s⟩
theorem th_list {K : PySem.W.Frag} {H : Hp} {v : V} (t : Th H v) : ∃ u, TyX K H v u ∧ PySem.W.kitOne K u (.type "list") = some (lstOf H v).isSome := by
  cases t with
  | non => exact ⟨_, .base .non, by first | exact kit_ty (r := true) (by decide +kernel) | exact kit_ty (r := false) (by decide +kernel)⟩
  | bl b => exact ⟨_, .base (.bl b), by first | exact kit_ty (r := true) (by decide +kernel) | exact kit_ty (r := false) (by decide +kernel)⟩
  | int i => exact ⟨_, .base (.int i), by first | exact kit_ty (r := true) (by decide +kernel) | exact kit_ty (r := false) (by decide +kernel)⟩
  | str x h => exact ⟨_, .base (.str x), by first | exact kit_ty (r := true) (by decide +kernel) | exact kit_ty (r := false) (by decide +kernel)⟩
  | lst h => exact ⟨_, .base (.lst h), by simp only [lstOf, h]; first | exact kit_ty (r := true) (by decide +kernel) | exact kit_ty (r := false) (by decide +kernel)⟩
  | tup h => exact ⟨_, .base (.tup h), by simp only [lstOf, h]; first | exact kit_ty (r := true) (by decide +kernel) | exact kit_ty (r := false) (by decide +kernel)⟩
  | dct h => exact ⟨_, .base (.dK h), by simp only [lstOf, h]; first | exact kit_ty (r := true) (by decide +kernel) | exact kit_ty (r := false) (by decide +kernel)⟩
theorem isTp_of {H : Hp} {v : V} (t : Th H v) : isTp H v = (tupOf H v).isSome := by
  cases t with
  | lst h => simp only [isTp, tupOf, h]; rfl
  | tup h => simp only [isTp, tupOf, h]; rfl
  | dct h => simp only [isTp, tupOf, h]; rfl
  | _ => rfl
def listB (H : Hp) (lo hi : Int) (v : V) : Bool := match lstOf H v with
  | some xs => decide (lo ≤ (xs.length : Int) ∧ (xs.length : Int) ≤ hi)
  | none => false
def rowB (H : Hp) (n : Nat) (v : V) : Bool := match tupOf H v with
  | some xs => decide (xs.length = n)
  | none => false
def spListV : Sp := fun vs H Q _ => ∃ (v : V) (lo hi : Int), vs = [v, .int lo, .int hi] ∧ Th H v ∧ Q (.bl (listB H lo hi v)) H
def spRowV : Sp := fun vs H Q _ => ∃ (v : V) (n : Nat), vs = [v, .int (n : Int)] ∧ Th H v ∧ Q (.bl (rowB H n v)) H
/-- a head's row behind the names ahead -/
def headB (H : Hp) (ahead : List Str) (x : V) : Bool := match tupOf H x with
  | some [nm, up] => wordV nm && !decide (nm ∈ ahead.map V.str) && (decide (up = .str "") || decide (up ∈ ahead.map V.str))
  | _ => false
def nmOf (H : Hp) (x : V) : Str := match tupOf H x with
  | some (.str nm :: _) => nm
  | _ => ""
def headsGo (H : Hp) : List Str → List V → Bool
  | _, [] => true
  | ahead, x :: r => headB H ahead x && headsGo H (ahead ++ [nmOf H x]) r
def headsB (H : Hp) (v : V) : Bool := match lstOf H v with
  | some xs => decide (1 ≤ (xs.length : Int) ∧ (xs.length : Int) ≤ 8) && headsGo H [] xs
  | none => false
def spHeadsV : Sp := fun vs H Q _ => ∃ v : V, vs = [v] ∧ LstV H v ∧ ∀ H', Same H H' → Q (.bl (headsB H v)) H'
def fromV (d : Int) (l : V) : V → Bool
  | .int i => wholeV i d l | _ => false
def toV (p : V) : V → Bool
  | .int i => wholeV 0 i p | _ => false
def limB (H : Hp) (d : Int) (ns : List Str) (x : V) : Bool := match tupOf H x with
  | some [hd, f, l, m] => decide (hd ∈ ns.map V.str) && wholeV 1 d f && fromV d l f && wholeV 0 1000000000000000 m
  | _ => false
def rulB (H : Hp) (d : Int) (ns : List Str) (x : V) : Bool := match tupOf H x with
  | some [hd, p, w, u] => decide (hd ∈ ns.map V.str) && wholeV 1 1000 w && toV p w && wholeV 2 (d + 1) u
  | _ => false
def spLimitV : Sp := fun vs H Q _ => ∃ (x : V) (n : Addr) (d : Int) (ns : List Str), vs = [x, .int d, .ref n] ∧ RowV H x ∧ H n = some (.lst (ns.map V.str)) ∧ Q (.bl (limB H d ns x)) H
def spRuleV : Sp := fun vs H Q _ => ∃ (x : V) (n : Addr) (d : Int) (ns : List Str), vs = [x, .int d, .ref n] ∧ RowV H x ∧ H n = some (.lst (ns.map V.str)) ∧ Q (.bl (rulB H d ns x)) H
section
variable {P : Program} {w : World} {K : PySem.W.Frag} {mg : Str → Option Value} {base : Heap}
theorem c_listV (B : Base K mg) (D : DefT K mg "is_list" sList ["value", "least", "most"]) : Cal P w K mg base 1 "is_list" spListV := by
  refine cal D scList (fun vs H Q E h => ?_) (fun f cdv A outer s H vs Q E hr h => ?_)
  · obtain ⟨v, lo, hi, rfl, _⟩ := h
    rfl
  · obtain ⟨v, lo, hi, rfl, t, k⟩ := h
    refine ⟨_, (pss_one (ps_ret (pe_and (pe_callB call_isi (by rfl) B.isi (by decide +kernel) (pa_cons (pv 0) (pa_cons (pe_bltn (v := .ty "list") (by rfl) B.list (by decide +kernel) rfl) pa_nil))) (pe_one (pe_chain op_le op_le (pv 1) (pe_callB call_len_seq (by rfl) B.len (by decide +kernel) (pa_cons (pv 0) pa_nil)) (pv 2)))))), ?_⟩
    obtain ⟨u, tu, ku⟩ := th_list (K := K) t
    refine ⟨_, rfl, _, _, _, _, _, rfl, .ty _, tu, ku, _, rfl, ?_⟩
    cases e : lstOf H v with
    | none =>
      have k' : Q (.bl (match lstOf H v with | some xs => decide (lo ≤ (xs.length : Int) ∧ (xs.length : Int) ≤ hi) | none => false)) H := k
      rw [e] at k'
      exact iteF k'
    | some xs =>
      obtain ⟨a, rfl, ha⟩ := of_lst e
      have k' : Q (.bl (match lstOf H (.ref a) with | some xs => decide (lo ≤ (xs.length : Int) ∧ (xs.length : Int) ≤ hi) | none => false)) H := k
      rw [e] at k'
      refine iteT ⟨_, rfl, _, rfl, a, _, rfl, .inl (SqL.of ha), _, _, rfl, rfl, _, rfl, ?_⟩
      by_cases h1 : lo ≤ (xs.length : Int)
      · rw [if_pos (decide_eq_true h1)]
        refine ⟨_, rfl, _, _, rfl, rfl, ?_⟩
        by_cases h2 : (xs.length : Int) ≤ hi
        · show Q (.bl (decide ((xs.length : Int) ≤ hi))) H
          rw [decide_eq_true h2]
          rw [show (match (some xs : Option (List V)) with | some xs => decide (lo ≤ (xs.length : Int) ∧ (xs.length : Int) ≤ hi) | none => false) = true from decide_eq_true ⟨h1, h2⟩] at k'
          exact k'
        · show Q (.bl (decide ((xs.length : Int) ≤ hi))) H
          rw [decide_eq_false h2]
          rw [show (match (some xs : Option (List V)) with | some xs => decide (lo ≤ (xs.length : Int) ∧ (xs.length : Int) ≤ hi) | none => false) = false from decide_eq_false fun z => h2 z.2] at k'
          exact k'
      · rw [if_neg (by rw [decide_eq_false h1]; exact Bool.false_ne_true)]
        rw [show (match (some xs : Option (List V)) with | some xs => decide (lo ≤ (xs.length : Int) ∧ (xs.length : Int) ≤ hi) | none => false) = false from decide_eq_false fun z => h1 z.1] at k'
        exact k'
theorem c_rowV (B : Base K mg) (D : DefT K mg "is_row" sRow ["value", "many"]) : Cal P w K mg base 1 "is_row" spRowV := by
  refine cal D scRow (fun vs H Q E h => ?_) (fun f cdv A outer s H vs Q E hr h => ?_)
  · obtain ⟨v, n, rfl, _⟩ := h
    rfl
  · obtain ⟨v, n, rfl, t, k⟩ := h
    refine ⟨_, (pss_one (ps_ret (pe_and (pe_callB call_isi (by rfl) B.isi (by decide +kernel) (pa_cons (pv 0) (pa_cons (pe_bltn (v := .ty "tuple") (by rfl) B.tuple (by decide +kernel) rfl) pa_nil))) (pe_one (pe_cmpR op_eq (pe_callB call_len_seq (by rfl) B.len (by decide +kernel) (pa_cons (pv 0) pa_nil)) (pv 1) (nomark _)))))), ?_⟩
    obtain ⟨u, tu, ku⟩ := th_tup (K := K) t
    rw [isTp_of t] at ku
    refine ⟨_, rfl, _, _, _, _, _, rfl, .ty _, tu, ku, _, rfl, ?_⟩
    have k' : Q (.bl (match tupOf H v with | some xs => decide (xs.length = n) | none => false)) H := k
    cases e : tupOf H v with
    | none =>
      rw [e] at k'
      exact iteF k'
    | some xs =>
      rw [e] at k'
      obtain ⟨a, rfl, ha⟩ := of_tup e
      refine iteT ⟨_, rfl, a, _, rfl, .inr (SqT.of ha), _, rfl, rfl, ?_⟩
      have eq : decide (V.int ((xs.length : Nat) : Int) = V.int (n : Int)) = decide (xs.length = n) := by
        by_cases q : xs.length = n
        · rw [decide_eq_true q, decide_eq_true (by rw [q])]
        · rw [decide_eq_false q, decide_eq_false (fun z => q (by injection z with z; omega))]
      rw [eq]
      exact k'
theorem c_headsV (B : Base K mg) (Ls : Cal P w K mg base 1 "is_list" spListV) (Ro : Cal P w K mg base 1 "is_row" spRowV) (Wo : Cal P w K mg base 1 "is_word" spWordV) (D : DefT K mg "are_heads" sHeadsP ["heads"]) : Cal P w K mg base 2 "are_heads" spHeadsV := by
  obtain ⟨tH, hH⟩ := B.mostH
  refine cal D scHeadsP (fun vs H Q E h => ?_) (fun f cdv A outer s H vs Q E hr h => ?_)
  · obtain ⟨v, rfl, _⟩ := h
    rfl
  · obtain ⟨v, rfl, lv, k⟩ := h
    have hz : sizeLine = 16777216 := by decide
    refine ⟨_, (pss_cons (ps_if (pt_not (pt_val (pe_cl Ls hr (by decide) (by rfl) (pa_cons (pv 0) (pa_cons pe_int (pa_cons (pe_glob (v := .int 8) rfl hH ⟨_, rfl⟩) pa_nil)))))) (pss_one (ps_ret pe_bl)) pss_nil)
        (pss_cons (ps_set (i := 1) scHeadsP.nd rfl (by first | exact Or.inl rfl | exact Or.inr rfl) (pe_lst pa_nil))
        (pss_cons (ps_for PassesOwn.never rfl (pi_list (pv 0)) (pg_name (i := 2) scHeadsP.nd rfl (by first | exact Or.inl rfl | exact Or.inr rfl)) (pss_cons (ps_if (pt_not (pt_val (pe_cl Ro hr (by decide) (by rfl) (pa_cons (pv 2) (pa_cons pe_int pa_nil))))) (pss_one (ps_ret pe_bl)) pss_nil)
        (pss_cons (ps_asg (pv 2) (pg_tup rfl (pgs_cons (pg_name (i := 3) scHeadsP.nd rfl (by first | exact Or.inl rfl | exact Or.inr rfl)) (pgs_cons (pg_name (i := 4) scHeadsP.nd rfl (by first | exact Or.inl rfl | exact Or.inr rfl)) pgs_nil))))
        (pss_cons (ps_if (PW.pt (pw_or (pt_not (pt_val (pe_cl Wo hr (by decide) (by rfl) (pa_cons (pv 3) pa_nil)))) (pw_or1 (pt_cmpR (op_inX hr.units) (pv 3) (pv 1) rfl)))) (pss_one (ps_ret pe_bl)) pss_nil)
        (pss_cons (ps_if (PW.pt (pw_and (pt_cmpR (op_neX hr.units) (pv 4) pe_str (nomark _)) (pw_and1 (pt_cmpR (op_notInX hr.units) (pv 4) (pv 1) rfl)))) (pss_one (ps_ret pe_bl)) pss_nil)
        (pss_one (ps_expr (pe_bm PySem.F.plainAttrs_list PySem.F.slot_list_append PySem.F.type_list_append mt_append (pv 1) (pa_cons (pv 3) pa_nil)))))))))
        (pss_one (ps_ret pe_bl))))), ?_⟩
    have no : headsB H v = false → ∀ H', Same H H' → Q (.bl false) H' := fun e H' s' => by
      have := k H' s'
      rw [e] at this
      exact this
    refine ⟨_, rfl, v, 1, 8, rfl, lv.1, _, rfl, ?_⟩
    cases e : lstOf H v with
    | none =>
      rw [show listB H 1 8 v = false by unfold listB; rw [e]]
      exact iteT (no (by unfold headsB; rw [e]) _ (Same.refl _))
    | some xs =>
      obtain ⟨l, rfl, hl⟩ := of_lst e
      have rows := lv.2 xs e
      have eb : listB H 1 8 (.ref l) = decide (1 ≤ (xs.length : Int) ∧ (xs.length : Int) ≤ 8) := by unfold listB; rw [e]
      have ehB : headsB H (.ref l) = (decide (1 ≤ (xs.length : Int) ∧ (xs.length : Int) ≤ 8) && headsGo H [] xs) := by unfold headsB; rw [e]
      rw [eb]
      by_cases hlen : 1 ≤ (xs.length : Int) ∧ (xs.length : Int) ≤ 8
      · rw [decide_eq_true hlen]
        rw [decide_eq_true hlen, Bool.true_and] at ehB
        refine iteF ⟨(by show 0 ≤ sizeLine; decide), fun A2 hA => ?_⟩
        refine ⟨_, rfl, l, rfl, ⟨_, SqL.of (same_new hA _ _ hl)⟩, for_list (K := K) (a := l) (xs := xs) (fun i σ H' => ∃ (ahead : List Str) (v2 v3 v4 : Option V), σ = [some (.ref l), some (.ref A2), v2, v3, v4] ∧ Same H H' ∧ H' A2 = some (.lst (ahead.map V.str)) ∧ ahead.length ≤ i ∧ headsGo H [] xs = headsGo H ahead (xs.drop i))
          ⟨[], none, none, none, rfl, same_new hA, upd_same, Nat.le_refl _, rfl⟩ (fun i σ H' _ ⟨_, _, _, _, _, s1, _⟩ => SqL.of (s1 _ _ hl)) ?_ ?_⟩
        · rintro i x σ H1 hi ⟨ahead, v2, v3, v4, rfl, s1, a1, al, eg⟩
          have hi8 : i < xs.length := (List.getElem?_eq_some_iff.mp hi).1
          have ed : xs.drop i = x :: xs.drop (i + 1) := by
            rw [List.drop_eq_getElem_cons hi8]
            congr 1
            exact (List.getElem?_eq_some_iff.mp hi).2
          rw [ed, headsGo] at eg
          have rx := rows x (List.mem_of_getElem? hi)
          have bad : headB H ahead x = false → ∀ H', Same H H' → Q (.bl false) H' := fun q => no (by rw [ehB, eg, q, Bool.false_and])
          refine ⟨_, rfl, x, 2, rfl, rx.1.same s1, _, rfl, ?_⟩
          have ew : rowB H1 2 x = rowB H 2 x := by unfold rowB; rw [tupOf_same rx.1 s1]
          rw [ew]
          cases et : tupOf H x with
          | none =>
            rw [show rowB H 2 x = false by unfold rowB; rw [et]]
            exact iteT (bad (by unfold headB; rw [et]) _ s1)
          | some ys =>
            have ew2 : rowB H 2 x = decide (ys.length = 2) := by unfold rowB; rw [et]
            rw [ew2]
            by_cases h2 : ys.length = 2
            · obtain ⟨nm, up, rfl⟩ : ∃ a b, ys = [a, b] := match ys, h2 with | [a, b], _ => ⟨a, b, rfl⟩
              rw [decide_eq_true h2]
              obtain ⟨t, rfl, ht⟩ := of_tup et
              have tn := rx.2 _ et nm (by simp)
              have tp := rx.2 _ et up (by simp)
              have eH : headB H ahead (.ref t) = (wordV nm && !decide (nm ∈ ahead.map V.str) && (decide (up = .str "") || decide (up ∈ ahead.map V.str))) := by unfold headB; rw [et]
              refine iteF ⟨_, rfl, t, _, rfl, SqT.of (s1 _ _ ht), rfl, _, _, rfl, _, _, rfl, rfl, ?_⟩
              refine ⟨_, rfl, nm, rfl, tn.th.same s1, fun H2 s2 => ⟨_, rfl, ?_⟩⟩
              have S2 := s1.trans s2
              cases hw : wordV nm with
              | false => exact iteT (bad (by rw [eH, hw, Bool.false_and, Bool.false_and]) _ S2)
              | true =>
                obtain ⟨z, rfl⟩ : ∃ z, nm = .str z := by
                  cases nm with
                  | str z => exact ⟨z, rfl⟩
                  | _ => cases hw
                refine iteF ⟨_, rfl, _, rfl, A2, ahead, rfl, s2 _ _ a1, tn.same S2, _, rfl, ?_⟩
                show if decide (V.str z ∈ ahead.map V.str) = true then _ else _
                by_cases hin : V.str z ∈ ahead.map V.str
                · rw [decide_eq_true hin]
                  exact iteT (bad (by rw [eH, hw, decide_eq_true hin]; rfl) _ S2)
                · rw [decide_eq_false hin]
                  have app : headB H ahead (.ref t) = true → ∃ l' xs' y', V.ref A2 = .ref l' ∧ [V.str z] = [y'] ∧ H2 l' = some (.lst xs') ∧ xs'.length < sizeLine ∧ ∃ (ahead' : List Str) (v2 v3 v4 : Option V), [some (V.ref l), some (V.ref A2), some (V.ref t), some (V.str z), some up] = [some (.ref l), some (.ref A2), v2, v3, v4] ∧ Same H (upd H2 l' (.lst (xs' ++ [y']))) ∧ (upd H2 l' (.lst (xs' ++ [y']))) A2 = some (.lst (ahead'.map V.str)) ∧ ahead'.length ≤ i + 1 ∧ headsGo H [] xs = headsGo H ahead' (xs.drop (i + 1)) := fun hh => by
                    refine ⟨A2, _, _, rfl, rfl, s2 _ _ a1, ?_, ahead ++ [z], _, _, _, rfl, fun b o e => ?_, ?_, ?_, ?_⟩
                    · rw [List.length_map]; omega
                    · rw [upd_ne (ne_of_none e hA)]
                      exact S2 _ _ e
                    · rw [upd_same, List.map_append]
                      rfl
                    · rw [List.length_append]
                      show _ + 1 ≤ _
                      omega
                    · rw [eg, hh, Bool.true_and]
                      congr 2
                      unfold nmOf
                      rw [et]
                  refine iteF ⟨_, rfl, ⟨_, rfl⟩, tp.same S2, _, rfl, ?_⟩
                  by_cases hue : up = .str ""
                  · rw [decide_eq_true hue]
                    refine iteF (iteF ?_)
                    exact ⟨_, rfl, .inl ⟨rfl, _, SqL.of (s2 _ _ a1)⟩, _, rfl, app (by rw [eH, hw, decide_eq_false hin, decide_eq_true hue]; rfl)⟩
                  · rw [decide_eq_false hue]
                    refine iteT ⟨_, rfl, _, rfl, A2, ahead, rfl, s2 _ _ a1, tp.same S2, _, rfl, ?_⟩
                    show if (!decide (up ∈ ahead.map V.str)) = true then _ else _
                    by_cases hui : up ∈ ahead.map V.str
                    · rw [decide_eq_true hui]
                      refine iteF ?_
                      exact ⟨_, rfl, .inl ⟨rfl, _, SqL.of (s2 _ _ a1)⟩, _, rfl, app (by rw [eH, hw, decide_eq_false hin, decide_eq_true hui]; simp)⟩
                    · rw [decide_eq_false hui]
                      exact iteT (bad (by rw [eH, decide_eq_false hue, decide_eq_false hui]; simp) _ S2)
            · rw [decide_eq_false h2]
              refine iteT (bad ?_ _ s1)
              unfold headB
              rw [et]
              match ys, h2 with
              | [], _ => rfl
              | [_], _ => rfl
              | [_, _], h => exact absurd rfl h
              | _ :: _ :: _ :: _, _ => rfl
        · rintro σ H1 ⟨ahead, v2, v3, v4, rfl, s1, a1, al, eg⟩
          rw [List.drop_length] at eg
          have := k H1 s1
          rw [ehB, eg] at this
          exact this
      · rw [decide_eq_false hlen]
        exact iteT (no (by rw [ehB, decide_eq_false hlen, Bool.false_and]) _ (Same.refl _))
end
end KP
namespace KP
open PySem L2 KD
theorem l4 {α : Type} {l : List α} (h : l.length = 4) : ∃ a b c d, l = [a, b, c, d] := match l, h with | [a, b, c, d], _ => ⟨a, b, c, d, rfl⟩
theorem not4 {α β : Type} {ys : List α} (h : ys.length ≠ 4) {f : α → α → α → α → β} {z : β} : (match ys with | [a, b, c, d] => f a b c d | _ => z) = z := by
  match ys, h with
  | [], _ => rfl
  | [_], _ => rfl
  | [_, _], _ => rfl
  | [_, _, _], _ => rfl
  | [_, _, _, _], h => exact absurd rfl h
  | _ :: _ :: _ :: _ :: _ :: _, _ => rfl
theorem limB_not {H : Hp} {d : Int} {ns : List Str} {x : V} {ys : List V} (e : tupOf H x = some ys) (h : ys.length ≠ 4) : limB H d ns x = false := by
  unfold limB
  rw [e]
  match ys, h with
  | [], _ => rfl
  | [_], _ => rfl
  | [_, _], _ => rfl
  | [_, _, _], _ => rfl
  | [_, _, _, _], h => exact absurd rfl h
  | _ :: _ :: _ :: _ :: _ :: _, _ => rfl
theorem rulB_not {H : Hp} {d : Int} {ns : List Str} {x : V} {ys : List V} (e : tupOf H x = some ys) (h : ys.length ≠ 4) : rulB H d ns x = false := by
  unfold rulB
  rw [e]
  match ys, h with
  | [], _ => rfl
  | [_], _ => rfl
  | [_, _], _ => rfl
  | [_, _, _], _ => rfl
  | [_, _, _, _], h => exact absurd rfl h
  | _ :: _ :: _ :: _ :: _ :: _, _ => rfl
theorem limB_is {H : Hp} {d : Int} {ns : List Str} {x hd f l m : V} (e : tupOf H x = some [hd, f, l, m]) : limB H d ns x = (decide (hd ∈ ns.map V.str) && wholeV 1 d f && fromV d l f && wholeV 0 1000000000000000 m) := by
  unfold limB
  rw [e]
theorem rulB_is {H : Hp} {d : Int} {ns : List Str} {x hd p w u : V} (e : tupOf H x = some [hd, p, w, u]) : rulB H d ns x = (decide (hd ∈ ns.map V.str) && wholeV 1 1000 w && toV p w && wholeV 2 (d + 1) u) := by
  unfold rulB
  rw [e]
def limsB (H : Hp) (d : Int) (ns : List Str) (v : V) : Bool := match lstOf H v with
  | some xs => decide (0 ≤ (xs.length : Int) ∧ (xs.length : Int) ≤ 6) && xs.all (limB H d ns)
  | none => false
def rwOf (H : Hp) (v : V) : Rw4 := match tupOf H v with
  | some [.str h, .int p, .int w, .int u] => (h, p, w, u)
  | _ => ("", 0, 0, 0)
def oneB (H : Hp) (xs : List V) (x : Str) : Bool := decide ((fr (xs.map (rwOf H)) x).1 ≤ (fr (xs.map (rwOf H)) x).2)
def rulesB (H : Hp) (d : Int) (ns : List Str) (v : V) : Bool := match lstOf H v with
  | some xs => decide (0 ≤ (xs.length : Int) ∧ (xs.length : Int) ≤ 4) && xs.all (rulB H d ns) && ns.all (oneB H xs)
  | none => false
def spOneV : Sp := fun vs H Q _ => ∃ (l : Addr) (ts : List Addr) (x : Str) (rs : List Rw4), vs = [.ref l, .str x] ∧ RowsAt H l ts (rs.map rv) ∧ (∀ r ∈ rs, (0 ≤ r.2.1 ∧ r.2.1 ≤ 1000) ∧ 1 ≤ r.2.2.1 ∧ r.2.2.1 ≤ 1000) ∧ Q (.bl (decide ((fr rs x).1 ≤ (fr rs x).2))) H
def spLimitsV : Sp := fun vs H Q _ => ∃ (v : V) (n : Addr) (d : Int) (ns : List Str), vs = [v, .int d, .ref n] ∧ LstV H v ∧ H n = some (.lst (ns.map V.str)) ∧ ∀ H', Same H H' → Q (.bl (limsB H d ns v)) H'
def spRulesV : Sp := fun vs H Q _ => ∃ (v : V) (n : Addr) (d : Int) (ns : List Str), vs = [v, .int d, .ref n] ∧ LstV H v ∧ H n = some (.lst (ns.map V.str)) ∧ ns.length ≤ 8 ∧ ∀ H', Same H H' → Q (.bl (rulesB H d ns v)) H'
theorem limB_same {H H' : Hp} {d : Int} {ns : List Str} {x : V} (t : Th H x) (s : Same H H') : limB H' d ns x = limB H d ns x := by unfold limB; rw [tupOf_same t s]
theorem rulB_same {H H' : Hp} {d : Int} {ns : List Str} {x : V} (t : Th H x) (s : Same H H') : rulB H' d ns x = rulB H d ns x := by unfold rulB; rw [tupOf_same t s]
theorem rul_row {H : Hp} {d : Int} {ns : List Str} {x : V} (h : rulB H d ns x = true) : ∃ (t : Addr) (r : Rw4), x = .ref t ∧ H t = some (.tup (rv r)) ∧ RulOk d ns r ∧ rwOf H x = r := by
  cases e : tupOf H x with
  | none => unfold rulB at h; rw [e] at h; cases h
  | some ys =>
    by_cases hl : ys.length = 4
    · obtain ⟨hd, p, w, u, rfl⟩ := l4 hl
      rw [rulB_is e] at h
      simp only [Bool.and_eq_true, decide_eq_true_eq] at h
      obtain ⟨⟨⟨h1, h2⟩, h3⟩, h4⟩ := h
      obtain ⟨z, hz, rfl⟩ := List.mem_map.mp h1
      cases w with
      | int wi =>
        cases p with
        | int pi =>
          cases u with
          | int ui =>
            obtain ⟨t, rfl, ht⟩ := of_tup e
            refine ⟨t, (z, pi, wi, ui), rfl, ht, ⟨hz, of_decide_eq_true h2, of_decide_eq_true h3, of_decide_eq_true h4⟩, ?_⟩
            unfold rwOf
            rw [e]
          | _ => cases h4
        | _ => cases h3
      | _ => cases h2
    · rw [rulB_not e hl] at h
      cases h
theorem rul_rows {H : Hp} {d : Int} {ns : List Str} : ∀ {xs : List V}, xs.all (rulB H d ns) = true → ∃ ts, xs = ts.map V.ref ∧ Paired (fun t r => H t = some (.tup r)) ts ((xs.map (rwOf H)).map rv) ∧ ∀ r ∈ xs.map (rwOf H), RulOk d ns r
  | [], _ => ⟨[], rfl, .nil, fun _ h => nomatch h⟩
  | x :: xs, h => by
    rw [List.all_cons, Bool.and_eq_true] at h
    obtain ⟨t, r, rfl, ht, ok, er⟩ := rul_row h.1
    obtain ⟨ts, e, p, oks⟩ := rul_rows h.2
    refine ⟨t :: ts, by rw [e]; rfl, .cons (by rw [er]; exact ht) p, fun r' hr' => ?_⟩
    rcases List.mem_cons.mp hr' with q | q
    · rw [q, er]; exact ok
    · exact oks r' q
section
variable {P : Program} {w : World} {K : PySem.W.Frag} {mg : Str → Option Value} {base : Heap}
theorem c_limitV (B : Base K mg) (Ro : Cal P w K mg base 1 "is_row" spRowV) (Wh : Cal P w K mg base 1 "is_whole" spWholeV) (D : DefT K mg "is_limit" sLimit ["row", "days", "names"]) : Cal P w K mg base 2 "is_limit" spLimitV := by
  obtain ⟨tM, hM⟩ := B.mostM
  refine cal D scLimit (fun vs H Q E h => ?_) (fun f cdv A outer s H vs Q E hr h => ?_)
  · obtain ⟨x, n, d, ns, rfl, _⟩ := h
    rfl
  · obtain ⟨x, n, d, ns, rfl, rx, hn, k⟩ := h
    refine ⟨_, (pss_cons (ps_if (pt_not (pt_val (pe_cl Ro hr (by decide) (by rfl) (pa_cons (pv 0) (pa_cons pe_int pa_nil))))) (pss_one (ps_ret pe_bl)) pss_nil)
        (pss_cons (ps_asg (pv 0) (pg_tup rfl (pgs_cons (pg_name (i := 3) scLimit.nd rfl (by first | exact Or.inl rfl | exact Or.inr rfl)) (pgs_cons (pg_name (i := 4) scLimit.nd rfl (by first | exact Or.inl rfl | exact Or.inr rfl)) (pgs_cons (pg_name (i := 5) scLimit.nd rfl (by first | exact Or.inl rfl | exact Or.inr rfl)) (pgs_cons (pg_name (i := 6) scLimit.nd rfl (by first | exact Or.inl rfl | exact Or.inr rfl)) pgs_nil))))))
        (pss_cons (ps_if (PW.pt (pw_or (pt_cmpR (op_notInX hr.units) (pv 3) (pv 2) rfl) (pw_or1 (pt_not (pt_val (pe_cl Wh hr (by decide) (by rfl) (pa_cons (pv 4) (pa_cons pe_int (pa_cons (pv 1) pa_nil))))))))) (pss_one (ps_ret pe_bl)) pss_nil)
        (pss_one (ps_ret (pe_and (pe_cl Wh hr (by decide) (by rfl) (pa_cons (pv 5) (pa_cons (pv 4) (pa_cons (pv 1) pa_nil)))) (pe_one (pe_cl Wh hr (by decide) (by rfl) (pa_cons (pv 6) (pa_cons pe_int (pa_cons (pe_glob (v := .int 1000000000000000) rfl hM ⟨_, rfl⟩) pa_nil))))))))))), ?_⟩
    have no : limB H d ns x = false → Q (.bl false) H := fun e => by rw [e] at k; exact k
    refine ⟨_, rfl, x, 4, rfl, rx.1, _, rfl, ?_⟩
    cases et : tupOf H x with
    | none =>
      rw [show rowB H 4 x = false by unfold rowB; rw [et]]
      exact iteT (no (by unfold limB; rw [et]))
    | some ys =>
      rw [show rowB H 4 x = decide (ys.length = 4) by unfold rowB; rw [et]]
      by_cases h4 : ys.length = 4
      · obtain ⟨hd, x1, x2, x3, rfl⟩ := l4 h4
        rw [decide_eq_true h4]
        obtain ⟨t, rfl, ht⟩ := of_tup et
        have t0 := rx.2 _ et hd (by simp)
        have t1 := (rx.2 _ et x1 (by simp)).th
        have t2 := (rx.2 _ et x2 (by simp)).th
        have t3 := (rx.2 _ et x3 (by simp)).th
        have eB := limB_is (d := d) (ns := ns) et
        refine iteF ⟨_, rfl, t, _, rfl, SqT.of ht, rfl, _, _, rfl, _, _, rfl, _, _, rfl, _, _, rfl, rfl, ?_⟩
        refine ⟨_, rfl, _, rfl, n, ns, rfl, hn, t0, _, rfl, ?_⟩
        show if (!decide (hd ∈ ns.map V.str)) = true then _ else _
        by_cases hin : hd ∈ ns.map V.str
        · rw [decide_eq_true hin]
          refine iteF ⟨_, rfl, _, rfl, x1, 1, d, rfl, t1, _, rfl, ?_⟩
          cases hf : wholeV 1 d x1 with
          | false => exact iteT (no (by rw [eB, hf]; simp))
          | true =>
            obtain ⟨fi, rfl⟩ : ∃ i, x1 = .int i := by
              cases x1 with
              | int i => exact ⟨i, rfl⟩
              | _ => cases hf
            refine iteF ⟨_, rfl, _, rfl, _, rfl, x2, fi, d, rfl, t2, _, rfl, ?_⟩
            cases hl : wholeV fi d x2 with
            | false => exact iteF (no (by rw [eB]; simp [fromV, toV, hl]))
            | true =>
              refine iteT ⟨_, rfl, x3, 0, 1000000000000000, rfl, t3, ?_⟩
              rw [eB] at k
              simp only [decide_eq_true hin, hf, fromV, toV, hl, Bool.true_and] at k
              exact k
        · rw [decide_eq_false hin]
          exact iteT (no (by rw [eB, decide_eq_false hin]; simp))
      · rw [decide_eq_false h4]
        exact iteT (no (limB_not et h4))
theorem c_ruleV (B : Base K mg) (Ro : Cal P w K mg base 1 "is_row" spRowV) (Wh : Cal P w K mg base 1 "is_whole" spWholeV) (D : DefT K mg "is_rule" sRule ["row", "days", "names"]) : Cal P w K mg base 2 "is_rule" spRuleV := by
  obtain ⟨tM, hW⟩ := B.mostW
  refine cal D scRule (fun vs H Q E h => ?_) (fun f cdv A outer s H vs Q E hr h => ?_)
  · obtain ⟨x, n, d, ns, rfl, _⟩ := h
    rfl
  · obtain ⟨x, n, d, ns, rfl, rx, hn, k⟩ := h
    refine ⟨_, (pss_cons (ps_if (pt_not (pt_val (pe_cl Ro hr (by decide) (by rfl) (pa_cons (pv 0) (pa_cons pe_int pa_nil))))) (pss_one (ps_ret pe_bl)) pss_nil)
        (pss_cons (ps_asg (pv 0) (pg_tup rfl (pgs_cons (pg_name (i := 3) scRule.nd rfl (by first | exact Or.inl rfl | exact Or.inr rfl)) (pgs_cons (pg_name (i := 4) scRule.nd rfl (by first | exact Or.inl rfl | exact Or.inr rfl)) (pgs_cons (pg_name (i := 5) scRule.nd rfl (by first | exact Or.inl rfl | exact Or.inr rfl)) (pgs_cons (pg_name (i := 6) scRule.nd rfl (by first | exact Or.inl rfl | exact Or.inr rfl)) pgs_nil))))))
        (pss_cons (ps_if (PW.pt (pw_or (pt_cmpR (op_notInX hr.units) (pv 3) (pv 2) rfl) (pw_or1 (pt_not (pt_val (pe_cl Wh hr (by decide) (by rfl) (pa_cons (pv 5) (pa_cons pe_int (pa_cons (pe_glob (v := .int 1000) rfl hW ⟨_, rfl⟩) pa_nil))))))))) (pss_one (ps_ret pe_bl)) pss_nil)
        (pss_one (ps_ret (pe_and (pe_cl Wh hr (by decide) (by rfl) (pa_cons (pv 4) (pa_cons pe_int (pa_cons (pv 5) pa_nil)))) (pe_one (pe_cl Wh hr (by decide) (by rfl) (pa_cons (pv 6) (pa_cons pe_int (pa_cons (pe_op op_add (pv 1) pe_int) pa_nil))))))))))), ?_⟩
    have no : rulB H d ns x = false → Q (.bl false) H := fun e => by rw [e] at k; exact k
    refine ⟨_, rfl, x, 4, rfl, rx.1, _, rfl, ?_⟩
    cases et : tupOf H x with
    | none =>
      rw [show rowB H 4 x = false by unfold rowB; rw [et]]
      exact iteT (no (by unfold rulB; rw [et]))
    | some ys =>
      rw [show rowB H 4 x = decide (ys.length = 4) by unfold rowB; rw [et]]
      by_cases h4 : ys.length = 4
      · obtain ⟨hd, x1, x2, x3, rfl⟩ := l4 h4
        rw [decide_eq_true h4]
        obtain ⟨t, rfl, ht⟩ := of_tup et
        have t0 := rx.2 _ et hd (by simp)
        have t1 := (rx.2 _ et x1 (by simp)).th
        have t2 := (rx.2 _ et x2 (by simp)).th
        have t3 := (rx.2 _ et x3 (by simp)).th
        have eB := rulB_is (d := d) (ns := ns) et
        refine iteF ⟨_, rfl, t, _, rfl, SqT.of ht, rfl, _, _, rfl, _, _, rfl, _, _, rfl, _, _, rfl, rfl, ?_⟩
        refine ⟨_, rfl, _, rfl, n, ns, rfl, hn, t0, _, rfl, ?_⟩
        show if (!decide (hd ∈ ns.map V.str)) = true then _ else _
        by_cases hin : hd ∈ ns.map V.str
        · rw [decide_eq_true hin]
          refine iteF ⟨_, rfl, x2, 1, 1000, rfl, t2, _, rfl, ?_⟩
          cases hf : wholeV 1 1000 x2 with
          | false => exact iteT (no (by rw [eB, hf]; simp))
          | true =>
            obtain ⟨fi, rfl⟩ : ∃ i, x2 = .int i := by
              cases x2 with
              | int i => exact ⟨i, rfl⟩
              | _ => cases hf
            refine iteF ⟨_, rfl, _, rfl, x1, 0, fi, rfl, t1, _, rfl, ?_⟩
            cases hl : wholeV 0 fi x1 with
            | false => exact iteF (no (by rw [eB]; simp [fromV, toV, hl]))
            | true =>
              refine iteT ⟨_, rfl, _, rfl, _, _, rfl, rfl, x3, 2, d + 1, rfl, t3, ?_⟩
              rw [eB] at k
              simp only [decide_eq_true hin, hf, fromV, toV, hl, Bool.true_and] at k
              exact k
        · rw [decide_eq_false hin]
          exact iteT (no (by rw [eB, decide_eq_false hin]; simp))
      · rw [decide_eq_false h4]
        exact iteT (no (rulB_not et h4))
theorem c_oneV (D : DefT K mg "is_at_most_one" sOne ["rules", "name"]) : Cal P w K mg base 1 "is_at_most_one" spOneV := by
  refine cal D scOne (fun vs H Q E h => ?_) (fun f cdv A outer s H vs Q E hr h => ?_)
  · obtain ⟨l, ts, x, rs, rfl, _⟩ := h
    rfl
  · obtain ⟨l, ts, x, rs, rfl, R, hb, k⟩ := h
    refine ⟨_, pss_cons (ps_set (i := 2) scOne.nd rfl (Or.inl rfl) pe_int) (pss_cons (ps_set (i := 3) scOne.nd rfl (Or.inl rfl) pe_int)
      (pss_cons (ps_for PassesOwn.never rfl (pi_list (pv 0)) (pg_tup rfl (pgs_cons (pg_name (i := 4) scOne.nd rfl (Or.inl rfl)) (pgs_cons (pg_name (i := 5) scOne.nd rfl (Or.inl rfl)) (pgs_cons (pg_name (i := 6) scOne.nd rfl (Or.inl rfl)) (pgs_cons (pg_name (i := 7) scOne.nd rfl (Or.inl rfl)) pgs_nil)))))
        (pss_one (ps_if (pt_cmpR op_eq (pv 4) (pv 1) (nomark _))
          (pss_cons (ps_set (i := 2) scOne.nd rfl (Or.inl rfl) (pe_op op_add (pe_op op_mul (pv 2) (pv 6)) (pe_op op_mul (pv 5) (pv 3)))) (pss_one (ps_set (i := 3) scOne.nd rfl (Or.inl rfl) (pe_op op_mul (pv 3) (pv 6))))) pss_nil)))
      (pss_one (ps_ret (pe_cmpR op_le (pv 2) (pv 3) (nomark _)))))), ?_⟩
    refine ⟨_, rfl, l, rfl, ⟨_, SqL.of R.1⟩, for_list (K := K) (a := l) (xs := ts.map V.ref) (fun i σ H' => ∃ (v4 v5 v6 v7 : Option V), σ = [some (.ref l), some (.str x), some (.int (fr (rs.take i) x).1), some (.int (fr (rs.take i) x).2), v4, v5, v6, v7] ∧ H' = H)
      ⟨none, none, none, none, rfl, rfl⟩ (fun i σ H' _ ⟨_, _, _, _, _, e⟩ => by rw [e]; exact SqL.of R.1) ?_ ?_⟩
    · rintro i y σ H1 hi ⟨v4, v5, v6, v7, rfl, rfl⟩
      obtain ⟨t, r, rfl, hr1, ht, hti⟩ := row_get R hi
      have bb := hb r (List.mem_of_getElem? hr1)
      have step := fr_snoc (rs.take i) x r
      rw [← take_more hr1] at step
      refine ⟨t, _, rfl, SqT.of ht, rfl, _, _, rfl, _, _, rfl, _, _, rfl, _, _, rfl, rfl, ?_⟩
      refine ⟨_, rfl, _, rfl, rfl, _, rfl, ite2 (fun c => ?_) (fun c => ?_)⟩
      · have e : r.1 = x := by have := of_decide_eq_true c; injection this
        have e2 : frS x (fr (rs.take i) x) r = ((fr (rs.take i) x).1 * r.2.2.1 + r.2.1 * (fr (rs.take i) x).2, (fr (rs.take i) x).2 * r.2.2.1) := by unfold frS; rw [if_pos e]
        rw [e2] at step
        refine ⟨_, rfl, _, rfl, _, _, rfl, rfl, Or.inr ⟨by omega, by omega⟩, _, rfl, _, rfl, _, _, rfl, rfl, Or.inl ⟨by omega, by omega⟩, _, _, rfl, rfl, ?_⟩
        refine ⟨_, rfl, _, rfl, _, _, rfl, rfl, Or.inr ⟨by omega, by omega⟩, ?_⟩
        refine ⟨some (.str r.1), some (.int r.2.1), some (.int r.2.2.1), some (.int r.2.2.2), ?_, rfl⟩
        rw [step]
        rfl
      · have e : ¬ r.1 = x := fun z => c (decide_eq_true (by rw [z]))
        have e2 : frS x (fr (rs.take i) x) r = fr (rs.take i) x := by unfold frS; rw [if_neg e]
        rw [e2] at step
        refine ⟨some (.str r.1), some (.int r.2.1), some (.int r.2.2.1), some (.int r.2.2.2), ?_, rfl⟩
        rw [step]
        rfl
    · rintro σ H1 ⟨v4, v5, v6, v7, rfl, rfl⟩
      have el : rs.take (ts.map V.ref).length = rs := by rw [List.length_map, R.len, List.length_map]; exact List.take_length
      rw [el]
      refine ⟨_, rfl, _, rfl, _, _, rfl, rfl, ?_⟩
      show Q (.bl (decide ((fr rs x).1 ≤ (fr rs x).2))) H1
      exact k
theorem c_limitsV (B : Base K mg) (Ls : Cal P w K mg base 1 "is_list" spListV) (Li : Cal P w K mg base 2 "is_limit" spLimitV) (D : DefT K mg "are_limits" sLimitsP ["limits", "days", "names"]) : Cal P w K mg base 3 "are_limits" spLimitsV := by
  obtain ⟨tL, hL⟩ := B.mostLi
  refine cal D scLimitsP (fun vs H Q E h => ?_) (fun f cdv A outer s H vs Q E hr h => ?_)
  · obtain ⟨v, n, d, ns, rfl, _⟩ := h
    rfl
  · obtain ⟨v, n, d, ns, rfl, lv, hn, k⟩ := h
    have hz : sizeLine = 16777216 := by decide
    refine ⟨_, (pss_one (ps_ret (pe_and (pe_cl Ls hr (by decide) (by rfl) (pa_cons (pv 0) (pa_cons pe_int (pa_cons (pe_glob (v := .int 6) rfl hL ⟨_, rfl⟩) pa_nil)))) (pe_one (pe_callB (cr_all rfl) (by rfl) B.all (by decide +kernel) (pa_cons (pe_lc (own := [("row", 3)]) (g := (gName 3)) (tt := tYes) rfl scLimitsP.nd (pi_list (pv 0)) (blkOk_by (N := nLimitsP) (sc := defScope sLimitsP) (by decide +kernel)) (fun _ _ _ _ _ => (pg_name (i := 3) scLimitsP.nd rfl (by first | exact Or.inl rfl | exact Or.inr rfl))) (fun _ _ _ _ _ => pts_nil) (fun _ _ _ _ _ => (pe_cl Li hr (by decide) (by rfl) (pa_cons (pv 3) (pa_cons (pv 1) (pa_cons (pv 2) pa_nil)))))) pa_nil)))))), ?_⟩
    have no : limsB H d ns v = false → Q (.bl false) H := fun e => by
      have := k H (Same.refl _)
      rw [e] at this
      exact this
    refine ⟨_, rfl, v, 0, 6, rfl, lv.1, _, rfl, ?_⟩
    cases e : lstOf H v with
    | none =>
      rw [show listB H 0 6 v = false by unfold listB; rw [e]]
      exact iteF (no (by unfold limsB; rw [e]))
    | some xs =>
      obtain ⟨l, rfl, hl⟩ := of_lst e
      have rows := lv.2 xs e
      have eB : limsB H d ns (.ref l) = (decide (0 ≤ (xs.length : Int) ∧ (xs.length : Int) ≤ 6) && xs.all (limB H d ns)) := by unfold limsB; rw [e]
      rw [show listB H 0 6 (.ref l) = decide (0 ≤ (xs.length : Int) ∧ (xs.length : Int) ≤ 6) by unfold listB; rw [e]]
      by_cases hlen : 0 ≤ (xs.length : Int) ∧ (xs.length : Int) ≤ 6
      · rw [decide_eq_true hlen]
        rw [decide_eq_true hlen, Bool.true_and] at eB
        refine iteT ⟨_, rfl, l, rfl, ⟨_, SqL.of hl⟩, fun D hD => lc_it (walk_list (xs := xs)) (fun i H' => Same H H' ∧ H' D = some (.lst (((xs.take i).map (limB H d ns)).map V.bl))) ⟨same_new hD, upd_same⟩ (fun i H' _ p => SqL.of (p.1 _ _ hl)) ?_ ?_⟩
        · rintro i x H1 H2 hi ⟨s1, d1⟩ ⟨rfl, hx⟩
          have rx := rows x (List.mem_of_getElem? hx)
          refine ⟨rfl, yes (iteT ⟨_, rfl, _, rfl, _, rfl, x, n, d, ns, rfl, rx.same s1, s1 _ _ hn, _, d1, ?_, ?_, ?_⟩)⟩
          · rw [List.length_map, List.length_map, List.length_take]
            omega
          · intro b o e'
            rw [upd_ne (ne_of_none e' hD)]
            exact s1 _ _ e'
          · rw [upd_same, take_more hx, List.map_append, List.map_append, limB_same rx.1 s1]
            rfl
        · rintro H1 ⟨s1, d1⟩
          refine ⟨D, (xs.take xs.length).map (limB H d ns), rfl, SqL.of d1, ?_⟩
          have ea : ((xs.take xs.length).map (limB H d ns)).all id = xs.all (limB H d ns) := by rw [List.take_length, List.all_map]; rfl
          rw [ea]
          have := k H1 s1
          rw [eB] at this
          exact this
      · rw [decide_eq_false hlen]
        exact iteF (no (by rw [eB, decide_eq_false hlen, Bool.false_and]))
theorem c_rulesV (B : Base K mg) (Ls : Cal P w K mg base 1 "is_list" spListV) (Ru : Cal P w K mg base 2 "is_rule" spRuleV) (On : Cal P w K mg base 1 "is_at_most_one" spOneV) (D : DefT K mg "are_rules" sRulesP ["rules", "days", "names"]) : Cal P w K mg base 3 "are_rules" spRulesV := by
  obtain ⟨tR, hR⟩ := B.mostR
  refine cal D scRulesP (fun vs H Q E h => ?_) (fun f cdv A outer s H vs Q E hr h => ?_)
  · obtain ⟨v, n, d, ns, rfl, _⟩ := h
    rfl
  · obtain ⟨v, n, d, ns, rfl, lv, hn, hn8, k⟩ := h
    have hz : sizeLine = 16777216 := by decide
    refine ⟨_, (pss_cons (ps_if (PW.pt (pw_or (pt_not (pt_val (pe_cl Ls hr (by decide) (by rfl) (pa_cons (pv 0) (pa_cons pe_int (pa_cons (pe_glob (v := .int 4) rfl hR ⟨_, rfl⟩) pa_nil)))))) (pw_or1 (pt_not (pt_val (pe_callB (cr_all rfl) (by rfl) B.all (by decide +kernel) (pa_cons (pe_lc (own := [("row", 3)]) (g := (gName 3)) (tt := tYes) rfl scRulesP.nd (pi_list (pv 0)) (blkOk_by (N := nRulesP) (sc := defScope sRulesP) (by decide +kernel)) (fun _ _ _ _ _ => (pg_name (i := 3) scRulesP.nd rfl (by first | exact Or.inl rfl | exact Or.inr rfl))) (fun _ _ _ _ _ => pts_nil) (fun _ _ _ _ _ => (pe_cl Ru hr (by decide) (by rfl) (pa_cons (pv 3) (pa_cons (pv 1) (pa_cons (pv 2) pa_nil)))))) pa_nil))))))) (pss_one (ps_ret pe_bl)) pss_nil)
        (pss_one (ps_ret (pe_callB (cr_all rfl) (by rfl) B.all (by decide +kernel) (pa_cons (pe_lc (own := [("name", 4)]) (g := (gName 4)) (tt := tYes) rfl scRulesP.nd (pi_list (pv 2)) (blkOk_by (N := nRulesP) (sc := defScope sRulesP) (by decide +kernel)) (fun _ _ _ _ _ => (pg_name (i := 4) scRulesP.nd rfl (by first | exact Or.inl rfl | exact Or.inr rfl))) (fun _ _ _ _ _ => pts_nil) (fun _ _ _ _ _ => (pe_cl On hr (by decide) (by rfl) (pa_cons (pv 0) (pa_cons (pv 4) pa_nil))))) pa_nil))))), ?_⟩
    have no : rulesB H d ns v = false → ∀ H', Same H H' → Q (.bl false) H' := fun e H' s' => by
      have := k H' s'
      rw [e] at this
      exact this
    refine ⟨_, rfl, v, 0, 4, rfl, lv.1, _, rfl, ?_⟩
    cases e : lstOf H v with
    | none =>
      rw [show listB H 0 4 v = false by unfold listB; rw [e]]
      exact iteT (no (by unfold rulesB; rw [e]) _ (Same.refl _))
    | some xs =>
      obtain ⟨l, rfl, hl⟩ := of_lst e
      have rows := lv.2 xs e
      have eB : rulesB H d ns (.ref l) = (decide (0 ≤ (xs.length : Int) ∧ (xs.length : Int) ≤ 4) && xs.all (rulB H d ns) && ns.all (oneB H xs)) := by unfold rulesB; rw [e]
      rw [show listB H 0 4 (.ref l) = decide (0 ≤ (xs.length : Int) ∧ (xs.length : Int) ≤ 4) by unfold listB; rw [e]]
      by_cases hlen : 0 ≤ (xs.length : Int) ∧ (xs.length : Int) ≤ 4
      · rw [decide_eq_true hlen]
        rw [decide_eq_true hlen, Bool.true_and] at eB
        refine iteF ⟨_, rfl, l, rfl, ⟨_, SqL.of hl⟩, fun D hD => lc_it (walk_list (xs := xs)) (fun i H' => Same H H' ∧ H' D = some (.lst (((xs.take i).map (rulB H d ns)).map V.bl))) ⟨same_new hD, upd_same⟩ (fun i H' _ p => SqL.of (p.1 _ _ hl)) ?_ ?_⟩
        · rintro i x H1 H2 hi ⟨s1, d1⟩ ⟨rfl, hx⟩
          have rx := rows x (List.mem_of_getElem? hx)
          refine ⟨rfl, yes (iteT ⟨_, rfl, _, rfl, _, rfl, x, n, d, ns, rfl, rx.same s1, s1 _ _ hn, _, d1, ?_, ?_, ?_⟩)⟩
          · rw [List.length_map, List.length_map, List.length_take]
            omega
          · intro b o e'
            rw [upd_ne (ne_of_none e' hD)]
            exact s1 _ _ e'
          · rw [upd_same, take_more hx, List.map_append, List.map_append, rulB_same rx.1 s1]
            rfl
        · rintro H1 ⟨s1, d1⟩
          refine ⟨D, (xs.take xs.length).map (rulB H d ns), rfl, SqL.of d1, _, rfl, ?_⟩
          have ea : ((xs.take xs.length).map (rulB H d ns)).all id = xs.all (rulB H d ns) := by rw [List.take_length, List.all_map]; rfl
          rw [ea]
          cases hr4 : xs.all (rulB H d ns) with
          | false => exact iteT (no (by rw [eB, hr4, Bool.false_and]) _ s1)
          | true =>
            rw [hr4, Bool.true_and] at eB
            obtain ⟨ts, ets, ps, oks⟩ := rul_rows hr4
            have R1 : RowsAt H l ts ((xs.map (rwOf H)).map rv) := ⟨by rw [hl, ets], ps⟩
            have hb : ∀ r ∈ xs.map (rwOf H), (0 ≤ r.2.1 ∧ r.2.1 ≤ 1000) ∧ 1 ≤ r.2.2.1 ∧ r.2.2.1 ≤ 1000 := fun r hr' => by
              obtain ⟨_, a1, a2, _⟩ := oks r hr'
              omega
            refine iteF ⟨_, rfl, n, rfl, ⟨_, SqL.of (s1 _ _ hn)⟩, fun D2 hD2 => lc_it (walk_list (xs := ns.map V.str)) (fun i H' => Same H1 H' ∧ H' D2 = some (.lst (((ns.take i).map (oneB H xs)).map V.bl))) ⟨same_new hD2, upd_same⟩ (fun i H' _ p => SqL.of (p.1 _ _ (s1 _ _ hn))) ?_ ?_⟩
            · rintro i x H2 H3 hi ⟨s2, d2⟩ ⟨rfl, hx⟩
              obtain ⟨z, hzz, rfl⟩ : ∃ z, ns[i]? = some z ∧ x = V.str z := by
                rw [List.getElem?_map] at hx
                cases q : ns[i]? with
                | none => rw [q] at hx; cases hx
                | some z => rw [q] at hx; exact ⟨z, rfl, (Option.some.inj hx).symm⟩
              refine ⟨rfl, yes (iteT ⟨_, rfl, _, rfl, l, ts, z, _, rfl, R1.same (s1.trans s2), hb, _, d2, ?_, ?_, ?_⟩)⟩
              · rw [List.length_map, List.length_map, List.length_take]
                omega
              · intro b o e'
                rw [upd_ne (ne_of_none e' hD2)]
                exact s2 _ _ e'
              · rw [upd_same, take_more hzz, List.map_append, List.map_append]
                rfl
            · rintro H2 ⟨s2, d2⟩
              refine ⟨D2, (ns.take (ns.map V.str).length).map (oneB H xs), rfl, SqL.of d2, ?_⟩
              have eo : ((ns.take (ns.map V.str).length).map (oneB H xs)).all id = ns.all (oneB H xs) := by rw [List.length_map, List.take_length, List.all_map]; rfl
              rw [eo]
              have := k H2 (s1.trans s2)
              rw [eB] at this
              exact this
      · rw [decide_eq_false hlen]
        exact iteT (no (by rw [eB, decide_eq_false hlen, Bool.false_and, Bool.false_and]) _ (Same.refl _))
end
end KP
namespace KP
open PySem L2 KD
/-! ### isinstance of the error that a suite holds -/
def rIsX (K : PySem.W.Frag) (cls : Value) (d : Option Addr) (a : Addr) : List V → Hp → VK → Prop := fun xs H Q => ∃ (D : Addr) (c : V) (u : Value) (b : Bool), cls = .ref D ∧ d = none ∧ ExcC K D ∧ xs = [.ref a, c] ∧ ClsV c u ∧ PySem.W.kitOne K (.ref D) u = some b ∧ Q (.bl b) H
def rIsXT (K : PySem.W.Frag) (cls : Value) (d : Option Addr) (a : Addr) : List V → Hp → VK → Prop := fun xs H Q => ∃ (D tp : Addr) (cs : List V) (ws : List Value) (b : Bool), cls = .ref D ∧ d = none ∧ ExcC K D ∧ xs = [.ref a, .ref tp] ∧ H tp = some (.tup cs) ∧ Paired ClsV cs ws ∧ PySem.W.kitAny K (.ref D) ws = some b ∧ Q (.bl b) H
section
variable {X : Cx} {a : Addr} {oe : Obj} {pn : List (Addr × Obj)} {cls : Value} {d : Option Addr}
theorem inst_of {D : Addr} {pins : List (Addr × Obj)} {σ : L2.St} {H : Hp} {s : Shared} (hz : Zc (.ref D) none oe) (hf : ∃ vs, oe.data = .fields vs) (I : Inv (X.suite a ((a, oe) :: pn)) pins σ H s) : PySem.W.InstAt s.heap a oe D none := by
  obtain ⟨hget, _⟩ := I.pin (a, oe) (List.mem_append.mpr (.inl List.mem_cons_self))
  obtain ⟨vs, hv⟩ := hf
  obtain ⟨oc, od, oda, osl⟩ := oe
  obtain ⟨h1, h2⟩ := hz
  dsimp only at h1 h2 hv
  subst h1 h2 hv
  exact ⟨hget, rfl, rfl, trivial⟩
theorem call_isX (hz : Zc cls d oe) (hf : ∃ vs, oe.data = .fields vs) : CallR (X.suite a ((a, oe) :: pn)) (.builtin "isinstance") (rIsX X.K cls d a) := by
  intro pins s σ H xs us Q I r h
  obtain ⟨D, c, u, b, rfl, rfl, C, rfl, k, e, q⟩ := h
  obtain ⟨u1, u2, rfl, r1, r2⟩ := vals2 r
  have e2 := k.eq r2
  subst e2
  cases (show u1 = Value.ref a from r1)
  exact PySem.W.kia_one (PySem.W.handS_kitx_exc C.hg C.hk C.hs C.hd C.ha C.hn C.ht C.hm) I.kIn (inst_of hz hf I) e (fun z => nomatch z) fun tk => ⟨.bl b, H, I.tok tk, rfl, q⟩
theorem call_isXT (hz : Zc cls d oe) (hf : ∃ vs, oe.data = .fields vs) : CallR (X.suite a ((a, oe) :: pn)) (.builtin "isinstance") (rIsXT X.K cls d a) := by
  intro pins s σ H xs us Q I r h
  obtain ⟨D, tp, cs, ws, b, rfl, rfl, C, rfl, hT, k, e, q⟩ := h
  obtain ⟨u1, u2, rfl, r1, r2⟩ := vals2 r
  cases (show u2 = Value.ref tp from r2)
  cases (show u1 = Value.ref a from r1)
  obtain ⟨_, its, rv, o, h1, h2, n, h3⟩ := (show ObjOk X.prog X.w H s.heap tp (.tup cs) from I.hok tp _ hT)
  have e3 := ClsV.all k rv
  subst e3
  obtain ⟨oc, od, dt, sl⟩ := o
  simp only at h2 h3
  subst h2 h3
  exact PySem.W.kia_tup (PySem.W.handS_kitx_exc C.hg C.hk C.hs C.hd C.ha C.hn C.ht C.hm) I.kIn (inst_of hz hf I) h1 e (fun z => nomatch z) fun tk => ⟨.bl b, H, I.tok tk, rfl, q⟩
end
structure ErrAll (K : PySem.W.Frag) (mg : Str → Option Value) (Cn Cp : Addr) (cs : Nat → Addr) : Prop where
  m0 : mg "Full" = some (.ref (cs 0))
  m1 : mg "Leaned" = some (.ref (cs 1))
  m2 : mg "NoDay" = some (.ref (cs 2))
  m3 : mg "NoEntry" = some (.ref (cs 3))
  m4 : mg "NoHead" = some (.ref (cs 4))
  m5 : mg "NoNumber" = some (.ref (cs 5))
  m6 : mg "NoPromise" = some (.ref (cs 6))
  m7 : mg "NoRow" = some (.ref (cs 7))
  m8 : mg "NoText" = some (.ref (cs 8))
  m9 : mg "Passed" = some (.ref (cs 9))
  m10 : mg "Taken" = some (.ref (cs 10))
  kit : ∀ i < 11, PySem.W.kitOne K (.ref Cn) (.ref (cs i)) = some false
  kitN : PySem.W.kitOne K (.ref Cn) (.ref Cn) = some true
  kitV : PySem.W.kitOne K (.ref Cn) (.type "ValueError") = some true
  exc : ExcC K Cn
  mP : mg "PurseError" = some (.ref Cp)
  exm : PySem.W.exmOne K (.ref Cn) (.ref Cp) = some true
  ve : mg "ValueError" = none
theorem kitAny_no {K : PySem.W.Frag} {t : Value} : ∀ {ws : List Value}, (∀ u ∈ ws, PySem.W.kitOne K t u = some false) → PySem.W.kitAny K t ws = some false
  | [], _ => rfl
  | u :: ws, h => by
    unfold PySem.W.kitAny
    rw [h u (by simp)]
    exact kitAny_no fun u' hu => h u' (by simp [hu])
def nsOf (H : Hp) (h : V) : List Str := match lstOf H h with
  | some xs => xs.map (nmOf H)
  | none => []
def yearB (H : Hp) (d h l r : V) : Bool := match d with
  | .int dd => decide (1 ≤ dd ∧ dd ≤ 30) && headsB H h && limsB H dd (nsOf H h) l && rulesB H dd (nsOf H h) r
  | _ => false
def spYearB (C Cn : Addr) : Sp := fun vs H _ E => ∃ (p dx : Addr) (d h l r : V), vs = [.ref p, d, h, l, r] ∧ H p = some (.ins C dx []) ∧ Th H d ∧ LstV H h ∧ LstV H l ∧ LstV H r ∧ yearB H d h l r = false ∧ ∀ H', Same H H' → E (.ref Cn) none H'
theorem heads_rows {H : Hp} : ∀ {xs : List V} {ahead : List Str}, headsGo H ahead xs = true → ∀ x ∈ xs, ∃ z up, tupOf H x = some [.str z, up] ∧ nmOf H x = z
  | [], _, _, _, h => nomatch h
  | x :: xs, ahead, hg, y, hy => by
    rw [headsGo, Bool.and_eq_true] at hg
    rcases List.mem_cons.mp hy with rfl | hy
    · have h1 := hg.1
      unfold headB at h1
      split at h1
      · rename_i nm up e
        simp only [Bool.and_eq_true] at h1
        cases nm with
        | str z => exact ⟨z, up, e, by unfold nmOf; rw [e]⟩
        | _ => cases h1.1.1
      · cases h1
    · exact heads_rows hg.2 y hy
theorem headsB_same {H H' : Hp} {v : V} (lv : LstV H v) (s : Same H H') : headsB H' v = headsB H v := by
  unfold headsB
  rw [lstOf_same lv.1 s]
  cases e : lstOf H v with
  | none => rfl
  | some xs =>
    have go : ∀ (ys : List V) (ahead : List Str), (∀ y ∈ ys, RowV H y) → headsGo H' ahead ys = headsGo H ahead ys := by
      intro ys
      induction ys with
      | nil => intro _ _; rfl
      | cons y ys ih =>
        intro ahead hr
        have ry := (hr y (by simp)).1
        have e1 : headB H' ahead y = headB H ahead y := by unfold headB; rw [tupOf_same ry s]
        have e2 : nmOf H' y = nmOf H y := by unfold nmOf; rw [tupOf_same ry s]
        rw [headsGo, headsGo, e1, e2, ih _ (fun z hz => hr z (by simp [hz]))]
    show (_ && headsGo H' [] xs) = (_ && headsGo H [] xs)
    rw [go xs [] (lv.2 xs e)]
theorem nsOf_same {H H' : Hp} {v : V} (lv : LstV H v) (s : Same H H') : nsOf H' v = nsOf H v := by
  unfold nsOf
  rw [lstOf_same lv.1 s]
  cases e : lstOf H v with
  | none => rfl
  | some xs => exact List.map_congr_left fun y hy => by unfold nmOf; rw [tupOf_same (lv.2 xs e y hy).1 s]
theorem limsB_same {H H' : Hp} {d : Int} {ns : List Str} {v : V} (lv : LstV H v) (s : Same H H') : limsB H' d ns v = limsB H d ns v := by
  unfold limsB
  rw [lstOf_same lv.1 s]
  cases e : lstOf H v with
  | none => rfl
  | some xs =>
    have : xs.all (limB H' d ns) = xs.all (limB H d ns) := by
      have key : ∀ ys : List V, (∀ y ∈ ys, RowV H y) → ys.all (limB H' d ns) = ys.all (limB H d ns) := by
        intro ys
        induction ys with
        | nil => intro _; rfl
        | cons y ys ih => intro hr; rw [List.all_cons, List.all_cons, limB_same (hr y (by simp)).1 s, ih (fun z hz => hr z (by simp [hz]))]
      exact key xs (lv.2 xs e)
    show (_ && xs.all (limB H' d ns)) = (_ && xs.all (limB H d ns))
    rw [this]
theorem rulesB_same {H H' : Hp} {d : Int} {ns : List Str} {v : V} (lv : LstV H v) (s : Same H H') : rulesB H' d ns v = rulesB H d ns v := by
  unfold rulesB
  rw [lstOf_same lv.1 s]
  cases e : lstOf H v with
  | none => rfl
  | some xs =>
    have rows := lv.2 xs e
    have k1 : ∀ ys : List V, (∀ y ∈ ys, RowV H y) → ys.all (rulB H' d ns) = ys.all (rulB H d ns) := by
      intro ys
      induction ys with
      | nil => intro _; rfl
      | cons y ys ih => intro hr; rw [List.all_cons, List.all_cons, rulB_same (hr y (by simp)).1 s, ih (fun z hz => hr z (by simp [hz]))]
    have k2 : xs.map (rwOf H') = xs.map (rwOf H) := List.map_congr_left fun y hy => by unfold rwOf; rw [tupOf_same (rows y hy).1 s]
    have k3 : oneB H' xs = oneB H xs := by funext x; unfold oneB; rw [k2]
    show (_ && xs.all (rulB H' d ns) && ns.all (oneB H' xs)) = (_ && xs.all (rulB H d ns) && ns.all (oneB H xs))
    rw [k1 xs rows, k3]
section
open PySem.Spec PyProof.Rows
variable {X : Cx} {k j : Nat} {x : Str} {C : Addr} {sp : Sp} {p pos : Pos} {e : Expr} {es : List Expr} {t : TA} {E : L2.St → XK}
/-- a class made where errors are awaited by slots -/
def tMakS (C : Addr) (sp : Sp) (E : L2.St → XK) (t : TA) : TE := fun σ H Q => t σ H fun vs H1 => ∀ x dx, H1 x = none → H1 dx = none → dx ≠ x → sp (.ref x :: vs) (upd (upd H1 dx (.own x)) x (.ins C dx [])) (fun v H2 => v = .non ∧ Q (.ref x) H2) (E σ)
theorem pe_mkXS (c : MakX X.prog X.w X.K X.mg X.base k x C sp) (hr : Room j X.A) (hk : k + 1 ≤ j) (hx : ∀ σ, PassesAt (L2.CX X.prog X.w) X σ (E σ)) (hg : Gl X x) (ha : PA X (e :: es) t)
    (hdb : (x == ("__debug__" : Str)) = false := by decide) (he : starEach (e :: es) X.env = (false, eval e X.env) :: starEach es X.env := by rfl) (hpl : (backTo pos (starEach es X.env)).any (·.1) = false := by rfl) :
    PE X (.Call (.Name x p) (e :: es) [] pos) (tMakS C sp E t) := by
  obtain ⟨f, fd, ps, M, F, m, b⟩ := c.ex
  have hr1 := hr.mono hk
  refine ⟨fun pins s σ H Q I h => wpAny_Call_Name_kw (ld_glob I hg m ?_ hdb)⟩
  refine PySem.W.callWith_K (h₀ := X.base) I.ok.mod.kin M.kp (thn (ha.run pos pins s σ H _ I h) fun us s1 ⟨vs, H1, I1, r, q⟩ => ⟨I1.kIn, ?_⟩) he hpl
  have nA : H1 s1.heap.objs.size = none := I1.hok.fresh (Nat.le_refl _)
  have nB : H1 (s1.heap.objs.size + 1) = none := I1.hok.fresh (Nat.le_succ _)
  have q0 := q _ _ nB nA (Nat.ne_of_lt (Nat.lt_succ_self _))
  have J := Inv.made (C := C) I1
  have rv : Vals (V.ref (s1.heap.objs.size + 1) :: vs) (Value.ref (s1.heap.objs.size + 1) :: us) := .cons rfl r
  have hl : (Value.ref (s1.heap.objs.size + 1) :: us).length = ps.length := by rw [← rv.length]; exact F.len _ _ _ _ q0
  have bb := b _ (Value.ref (s1.heap.objs.size + 1) :: us) J.kIn (by rw [List.append_nil]; exact hl)
  rw [List.append_nil] at bb
  refine wpAny_call (make_map (f := f) I1.kIn M.makes M.init (beq_iff_eq.mp M.fn) (codeAny_mono (F.run _ X.stack _ _ ⟨Value.ref (s1.heap.objs.size + 1) :: us, []⟩ _ _ _ (E σ) (hr1.make C us []) (J.env0.make C us []) bb rv q0) fun z s' hz => ?_))
  cases z with
  | error e => exact hx σ pins _ _ e s' J hz
  | ok fl =>
    cases fl with
    | ret u =>
      obtain ⟨v, H', J', rr, ev, q3⟩ := J.after hz
      subst ev
      exact ⟨rr, ⟨V.ref (s1.heap.objs.size + 1), H', J', rfl, q3⟩⟩
    | next => exact hz.elim
    | brk => exact hz.elim
    | cont => exact hz.elim
end
abbrev sRef : Stmt := top 49
abbrev nRef : List Str := ["_law_parts_here", "_law_found", "e", "_law_others"]
theorem scRef : FnScope nRef ["_law_parts_here"] (defScope sRef) := ⟨rfl, rfl, rfl, by decide +kernel, rfl, by decide +kernel, by decide +kernel⟩
def spRefY : Sp := fun vs H Q _ => ∃ (q : Addr) (d h l r : V), vs = [.ref q] ∧ H q = some (.lst [d, h, l, r]) ∧ Th H d ∧ LstV H h ∧ LstV H l ∧ LstV H r ∧ yearB H d h l r = false ∧ ∀ H', Same H H' → Q (.bl true) H'
section
variable {P : Program} {w : World} {K : PySem.W.Frag} {mg : Str → Option Value} {base : Heap} {C Cn Cp : Addr} {cs : Nat → Addr}
theorem c_yearB (B : Base K mg) (T : YearF K mg C) (N : ErrF K mg "NoYear" Cn) (Wh : Cal P w K mg base 1 "is_whole" spWholeV) (Hs : Cal P w K mg base 2 "are_heads" spHeadsV) (Lm : Cal P w K mg base 3 "are_limits" spLimitsV) (Rl : Cal P w K mg base 3 "are_rules" spRulesV)
    (D : InitT K C "Year.__init__" sYI ["self", "days", "heads", "limits", "rules"]) : MakX P w K mg base 4 "Year" C (spYearB C Cn) := by
  obtain ⟨tD, hD⟩ := B.mostD
  obtain ⟨f, fd, M, F, b⟩ := D.ex
  refine ⟨f, fd, _, M, F.okX scYI (fun vs H Q E h => ?_) (fun cdv A outer s H vs Q E hr h => ?_), T.mgC, b⟩
  · obtain ⟨p, dx, d, h, l, r, rfl, _⟩ := h
    rfl
  · obtain ⟨p, dx, d, h, l, r, rfl, hp, td, lh, ll, lr, hB, k⟩ := h
    have hz : sizeLine = 16777216 := by decide
    refine ⟨_, (pss_cons (ps_if (pt_not (pt_val (pe_cl Wh hr (by decide) (by rfl) (pa_cons (pv 1) (pa_cons pe_int (pa_cons (pe_glob (v := .int 30) rfl hD ⟨_, rfl⟩) pa_nil)))))) (pss_one (ps_raise rfl (takes_of rfl rfl rfl rfl) (pmk_own PySem.F.excBase_ValueError N.x N.g N.k (raises_own N.b N.t) rfl))) pss_nil)
        (pss_cons (ps_if (pt_not (pt_val (pe_cl Hs hr (by decide) (by rfl) (pa_cons (pv 2) pa_nil)))) (pss_one (ps_raise rfl (takes_of rfl rfl rfl rfl) (pmk_own PySem.F.excBase_ValueError N.x N.g N.k (raises_own N.b N.t) rfl))) pss_nil)
        (pss_cons (ps_setLc (i := 5) (own := [("row", 6)]) (g := (gName 6)) (tt := tYes) (te := tOp (rIxT K) (tVar 6) (tC (.int 0))) rfl scYI.nd rfl (by first | rfl | decide +kernel) (sw_true rfl (by first | rfl | decide +kernel) rfl (by decide +kernel)) (pi_list (pv 2)) (blkOk_by (N := nYI) (sc := defScope sYI) (by decide +kernel)) (fun _ _ _ _ _ => (pg_name (i := 6) scYI.nd rfl (by first | exact Or.inl rfl | exact Or.inr rfl))) (fun _ _ _ _ _ => pts_nil) (fun _ _ _ _ _ => (pe_ix ix_tup (pv 6) pe_int (fun _ _ => rfl))))
        (pss_cons (ps_if (pt_not (pt_val (pe_cl Lm hr (by decide) (by rfl) (pa_cons (pv 3) (pa_cons (pv 1) (pa_cons (pv 5) pa_nil)))))) (pss_one (ps_raise rfl (takes_of rfl rfl rfl rfl) (pmk_own PySem.F.excBase_ValueError N.x N.g N.k (raises_own N.b N.t) rfl))) pss_nil)
        (pss_cons (ps_if (pt_not (pt_val (pe_cl Rl hr (by decide) (by rfl) (pa_cons (pv 4) (pa_cons (pv 1) (pa_cons (pv 5) pa_nil)))))) (pss_one (ps_raise rfl (takes_of rfl rfl rfl rfl) (pmk_own PySem.F.excBase_ValueError N.x N.g N.k (raises_own N.b N.t) rfl))) pss_nil)
        (pss_cons ps_never
        (pss_cons ps_never
        (pss_cons ps_never
        (pss_one ps_never))))))))), ?_⟩
    refine ⟨_, rfl, d, 1, 30, rfl, td, _, rfl, ?_⟩
    cases hd : wholeV 1 30 d with
    | false => exact iteT (k _ (Same.refl _))
    | true =>
      obtain ⟨dd, rfl⟩ : ∃ i, d = .int i := by
        cases d with
        | int i => exact ⟨i, rfl⟩
        | _ => cases hd
      have eB : yearB H (.int dd) h l r = (headsB H h && limsB H dd (nsOf H h) l && rulesB H dd (nsOf H h) r) := by
        show (decide (1 ≤ dd ∧ dd ≤ 30) && headsB H h && limsB H dd (nsOf H h) l && rulesB H dd (nsOf H h) r) = _
        rw [show decide (1 ≤ dd ∧ dd ≤ 30) = true from hd, Bool.true_and]
      rw [eB] at hB
      refine iteF ⟨_, rfl, h, rfl, lh, fun H1 s1 => ⟨_, rfl, ?_⟩⟩
      cases hh : headsB H h with
      | false => exact iteT (k _ s1)
      | true =>
        rw [hh, Bool.true_and] at hB
        refine iteF ?_
        unfold headsB at hh
        cases e : lstOf H h with
        | none => rw [e] at hh; cases hh
        | some xs =>
          rw [e] at hh
          have hh2 := (Bool.and_eq_true _ _).mp hh
          have h8 := of_decide_eq_true hh2.1
          obtain ⟨a, rfl, ha⟩ := of_lst e
          have rows := heads_rows hh2.2
          have en : nsOf H (.ref a) = xs.map (nmOf H) := by unfold nsOf; rw [e]
          rw [en] at hB
          refine ⟨_, rfl, a, rfl, ⟨_, SqL.of (s1 _ _ ha)⟩, fun D2 hD2 => lc_it (walk_list (xs := xs)) (fun i H' => H' = upd H1 D2 (.lst (((xs.map (nmOf H)).take i).map V.str))) rfl (fun i H' _ e => by rw [e]; exact SqL.of (same_new hD2 _ _ (s1 _ _ ha))) ?_ ?_⟩
          · rintro i v H2 H3 hi rfl ⟨rfl, hv⟩
            obtain ⟨z, up, et, enm⟩ := rows v (List.mem_of_getElem? hv)
            obtain ⟨t, rfl, ht⟩ := of_tup et
            refine ⟨rfl, yes (iteT ⟨_, rfl, t, _, 0, .str z, rfl, rfl, SqT.of (same_new hD2 _ _ (s1 _ _ ht)), rfl, _, upd_same, ?_, ?_⟩)⟩
            · rw [List.length_map, List.length_take, List.length_map]
              omega
            · have hg : (xs.map (nmOf H))[i]? = some z := by rw [List.getElem?_map, hv]; show some (nmOf H (.ref t)) = _; rw [enm]
              rw [upd_upd, take_more hg, List.map_append]
              rfl
          · rintro H2 rfl
            have el : (xs.map (nmOf H)).take xs.length = xs.map (nmOf H) := List.take_of_length_le (by rw [List.length_map]; exact Nat.le_refl _)
            rw [el]
            have s2 : Same H (upd H1 D2 (.lst ((xs.map (nmOf H)).map V.str))) := s1.trans (same_new hD2)
            have hn2 : upd H1 D2 (.lst ((xs.map (nmOf H)).map V.str)) D2 = some (.lst ((xs.map (nmOf H)).map V.str)) := upd_same
            generalize upd H1 D2 (.lst ((xs.map (nmOf H)).map V.str)) = H2 at s2 hn2
            have nl8 : (xs.map (nmOf H)).length ≤ 8 := by rw [List.length_map]; omega
            generalize xs.map (nmOf H) = ns at hB hn2 nl8
            refine ⟨_, rfl, _, rfl, _, rfl, l, D2, dd, ns, rfl, ll.same s2, hn2, fun H3 s3 => ⟨_, rfl, ?_⟩⟩
            rw [limsB_same ll s2]
            have s3' := s2.trans s3
            cases hL : limsB H dd ns l with
            | false => exact iteT (k _ s3')
            | true =>
              rw [hL, Bool.true_and] at hB
              refine iteF ⟨_, rfl, _, rfl, _, rfl, r, D2, dd, ns, rfl, lr.same s3', s3 _ _ hn2, ?_, fun H4 s4 => ⟨_, rfl, ?_⟩⟩
              · exact nl8
              · rw [rulesB_same lr s3', hB]
                exact iteT (k _ (s3'.trans s4))
theorem c_refY (B : Base K mg) (N : ErrF K mg "NoYear" Cn) (Er : ErrAll K mg Cn Cp cs) (Yb : MakX P w K mg base 4 "Year" C (spYearB C Cn)) (D : DefT K mg "_law_refused" sRef ["_law_parts_here"]) :
    Cal P w K mg base 6 "_law_refused" spRefY := by
  refine cal D scRef (fun vs H Q E h => ?_) (fun f cdv A outer s H vs Q E hr h => ?_)
  · obtain ⟨q, d, h, l, r, rfl, _⟩ := h
    rfl
  · obtain ⟨q, d, h, l, r, rfl, hq, td, lh, ll, lr, hB, k⟩ := h
    have n9 : PySem.W.kitAny K (.ref Cn) [.ref (cs 0), .ref (cs 1), .ref (cs 2), .ref (cs 3), .ref (cs 4), .ref (cs 5), .ref (cs 6), .ref (cs 7), .ref (cs 8)] = some false := kitAny_no fun u hu => by
      simp only [List.mem_cons, List.not_mem_nil, or_false] at hu
      rcases hu with rfl | rfl | rfl | rfl | rfl | rfl | rfl | rfl | rfl <;> exact Er.kit _ (by decide)
    have n2 : PySem.W.kitAny K (.ref Cn) [.ref (cs 9), .ref (cs 10)] = some false := kitAny_no fun u hu => by
      simp only [List.mem_cons, List.not_mem_nil, or_false] at hu
      rcases hu with rfl | rfl <;> exact Er.kit _ (by decide)
    refine ⟨_, (pss_cons (ps_set (i := 1) scRef.nd rfl (by first | exact Or.inl rfl | exact Or.inr rfl) pe_str)
        (pss_cons (ps_try_as (i := 2) rfl rfl scRef.nd rfl rfl ⟨rfl, by decide, .inl Er.mP⟩ takes0
        (fun W pn xe tk _ => (pss_one (ps_expr (pe_mkXS Yb hr (by decide) (fun σ => passAt tk σ) (by rfl) (pa_cons (pe_ix (show IxR _ (rIxL K) from ix_list) (pv 0) pe_int (fun _ _ => rfl)) (pa_cons (pe_ix (show IxR _ (rIxL K) from ix_list) (pv 0) pe_int (fun _ _ => rfl)) (pa_cons (pe_ix (show IxR _ (rIxL K) from ix_list) (pv 0) pe_int (fun _ _ => rfl)) (pa_cons (pe_ix (show IxR _ (rIxL K) from ix_list) (pv 0) pe_int (fun _ _ => rfl)) pa_nil))))))))
        (fun a oe cls d pn hz hf => (pss_cons (ps_set (i := 3) scRef.nd rfl (Or.inl rfl) (pe_callB (call_isXT hz hf) (by rfl) B.isi (by decide +kernel) (pa_cons (pv 2) (pa_cons (pe_tup (pa_cons (pe_glob (v := .ref (cs 0)) rfl Er.m0 rfl) (pa_cons (pe_glob (v := .ref (cs 1)) rfl Er.m1 rfl) (pa_cons (pe_glob (v := .ref (cs 2)) rfl Er.m2 rfl) (pa_cons (pe_glob (v := .ref (cs 3)) rfl Er.m3 rfl) (pa_cons (pe_glob (v := .ref (cs 4)) rfl Er.m4 rfl) (pa_cons (pe_glob (v := .ref (cs 5)) rfl Er.m5 rfl) (pa_cons (pe_glob (v := .ref (cs 6)) rfl Er.m6 rfl) (pa_cons (pe_glob (v := .ref (cs 7)) rfl Er.m7 rfl) (pa_cons (pe_glob (v := .ref (cs 8)) rfl Er.m8 rfl) pa_nil)))))))))) pa_nil))))
          (pss_cons (ps_set (i := 3) scRef.nd rfl (Or.inl rfl) (pe_or (pv 3) (pe_one (pe_callB (call_isXT hz hf) (by rfl) B.isi (by decide +kernel) (pa_cons (pv 2) (pa_cons (pe_tup (pa_cons (pe_glob (v := .ref (cs 9)) rfl Er.m9 rfl) (pa_cons (pe_glob (v := .ref (cs 10)) rfl Er.m10 rfl) pa_nil))) pa_nil))))))
          (pss_one (ps_set (i := 1) scRef.nd rfl (Or.inl rfl) (pe_ix (show IxR _ (rIxL K) from ix_list) (pe_lst (pa_cons pe_str (pa_cons pe_str pa_nil))) (pe_callTy call_int1 (by rfl) B.int (by decide +kernel) (pa_cons (pe_or (pv 3) (pe_or (pe_not (pe_callB (call_isX hz hf) (by rfl) B.isi (by decide +kernel) (pa_cons (pv 2) (pa_cons (pe_glob (v := .ref Cn) rfl N.g rfl) pa_nil)))) (pe_one (pe_not (pe_callB (call_isX hz hf) (by rfl) B.isi (by decide +kernel) (pa_cons (pv 2) (pa_cons (pe_bltn (v := .ty "ValueError") (by rfl) Er.ve (by decide +kernel) rfl) pa_nil))))))) pa_nil)) (fun _ _ => rfl))))))))
        (pss_one (ps_ret (pe_cmpR op_eq (pv 1) pe_str (nomark _)))))), ?_⟩
    refine ⟨_, rfl, q, _, 0, d, rfl, rfl, SqL.of hq, rfl, _, rfl, q, _, 1, h, rfl, rfl, SqL.of hq, rfl, _, rfl, q, _, 2, l, rfl, rfl, SqL.of hq, rfl, _, rfl, q, _, 3, r, rfl, rfl, SqL.of hq, rfl, fun x dx nx ndx nex => ?_⟩
    have sm : Same H (upd (upd H dx (.own x)) x (.ins C dx [])) := fun b' o e => by
      rw [upd_ne (ne_of_none e nx), upd_ne (ne_of_none e ndx)]
      exact e
    have hB2 : yearB (upd (upd H dx (.own x)) x (.ins C dx [])) d h l r = false := by
      rw [← hB]
      unfold yearB
      cases d with
      | int dd =>
        show (_ && headsB _ h && limsB _ dd (nsOf _ h) l && rulesB _ dd (nsOf _ h) r) = (_ && headsB H h && limsB H dd (nsOf H h) l && rulesB H dd (nsOf H h) r)
        rw [headsB_same lh sm, nsOf_same lh sm, limsB_same ll sm, rulesB_same lr sm]
      | _ => rfl
    refine ⟨x, dx, d, h, l, r, rfl, upd_same, td.same sm, lh.same sm, ll.same sm, lr.same sm, hB2, fun H2 s2 => ⟨true, Er.exm, fun _ a ha => ?_, fun z => nomatch z⟩⟩
    refine ⟨_, rfl, (by show 9 ≤ sizeLine; decide), fun tp htp => ⟨Cn, tp, _, _, false, rfl, rfl, Er.exc, rfl, upd_same, .cons (.own _) (.cons (.own _) (.cons (.own _) (.cons (.own _) (.cons (.own _) (.cons (.own _) (.cons (.own _) (.cons (.own _) (.cons (.own _) .nil)))))))), n9, ?_⟩⟩
    refine ⟨_, rfl, _, rfl, iteF ⟨_, rfl, (by show 2 ≤ sizeLine; decide), fun tp2 htp2 => ⟨Cn, tp2, _, _, false, rfl, rfl, Er.exc, rfl, upd_same, .cons (.own _) (.cons (.own _) .nil), n2, ?_⟩⟩⟩
    refine ⟨(by show 2 ≤ sizeLine; decide), fun L hL => ⟨_, rfl, _, rfl, iteF ⟨_, rfl, Cn, .ref Cn, .ref Cn, true, rfl, rfl, Er.exc, rfl, .own _, Er.kitN, _, rfl, _, rfl, iteF ⟨_, rfl, Cn, .ty "ValueError", _, true, rfl, rfl, Er.exc, rfl, .ty _, Er.kitV, _, rfl, .inr ⟨_, rfl, L, _, 0, .str "refused", rfl, rfl, SqL.of upd_same, rfl, ?_⟩⟩⟩⟩⟩
    refine ⟨_, rfl, rfl, ?_⟩
    rw [decide_eq_true rfl]
    exact k _ ((sm.trans s2).trans (((same_new htp).trans (same_new htp2)).trans (same_new hL)))
end
end KP
namespace KD
open PySem PySem.Spec PyProof.Rows L2
section
variable {X : Cx}
/-- x + j of an int or a truth x: some int -/
def rAddX : R2 := fun x y H Q => (∃ j, y = .int j) ∧ ((∃ i, x = .int i) ∨ ∃ b, x = .bl b) ∧ ∀ z : Int, Q (.int z) H
theorem op_addX : OpR X (binaryOp .Add) rAddX := by
  intro pins s σ H x y v u Q I rx ry h
  obtain ⟨⟨j, rfl⟩, ⟨i, rfl⟩ | ⟨b, rfl⟩, q⟩ := h
  · exact op_add pins s σ H _ _ v u Q I rx ry ⟨i, j, rfl, rfl, q _⟩
  · cases (show v = Value.bool b from rx)
    obtain ⟨t, rfl⟩ := (show ∃ t, u = Value.int j t from ry)
    exact PySem.IntBool.add_bool_int ⟨.int _, H, I.tok _, ⟨_, rfl⟩, q _⟩
/-- i * y of a short i and an int or a truth y: some int -/
def rMulX : R2 := fun x y H Q => (∃ i, x = .int i ∧ -(2 ^ 64) < i ∧ i < 2 ^ 64) ∧ ((∃ j, y = .int j) ∨ ∃ b, y = .bl b) ∧ ∀ z : Int, Q (.int z) H
theorem op_mulX : OpR X (binaryOp .Mult) rMulX := by
  intro pins s σ H x y v u Q I rx ry h
  obtain ⟨⟨i, rfl, i1, i2⟩, ⟨j, rfl⟩ | ⟨b, rfl⟩, q⟩ := h
  · exact op_mul pins s σ H _ _ v u Q I rx ry ⟨i, j, rfl, rfl, .inl ⟨i1, i2⟩, q _⟩
  · obtain ⟨t, rfl⟩ := (show ∃ t, v = Value.int i t from rx)
    cases (show u = Value.bool b from ry)
    exact PySem.IntBool.mul_int_bool ⟨.int _, H, I.tok _, ⟨_, rfl⟩, q _⟩
end
end KD
namespace KP
open PySem L2 KD
abbrev sLWord : Stmt := top 50
abbrev nLWord : List Str := ["_law_thing_here", "_law_sign"]
theorem scLWord : FnScope nLWord ["_law_thing_here"] (defScope sLWord) := ⟨rfl, rfl, rfl, by decide +kernel, rfl, by decide +kernel, by decide +kernel⟩
abbrev sWithin : Stmt := top 51
abbrev nWithin : List Str := ["_law_thing_here", "_law_least", "_law_most"]
theorem scWithin : FnScope nWithin ["_law_thing_here", "_law_least", "_law_most"] (defScope sWithin) := ⟨rfl, rfl, rfl, by decide +kernel, rfl, by decide +kernel, by decide +kernel⟩
section
variable {P : Program} {w : World} {K : PySem.W.Frag} {mg : Str → Option Value} {base : Heap}
theorem c_lword (B : Base K mg) (D : DefT K mg "_law_word" sLWord ["_law_thing_here"]) : Cal P w K mg base 1 "_law_word" spWordV := by
  refine cal D scLWord (fun vs H Q E h => ?_) (fun f cdv A outer s H vs Q E hr h => ?_)
  · obtain ⟨x, rfl, _⟩ := h
    rfl
  · obtain ⟨v, rfl, t, k⟩ := h
    refine ⟨_, (pss_cons (ps_if (PW.pt (pw_or (pt_not (pt_val (pe_callB call_isi (by rfl) B.isi (by decide +kernel) (pa_cons (pv 0) (pa_cons (pe_bltn (v := .ty "str") (by rfl) B.str (by decide +kernel) rfl) pa_nil))))) (pw_or1 (pt_not (pt_chain op_le op_le pe_int (pe_callB call_len_str (by rfl) B.len (by decide +kernel) (pa_cons (pv 0) pa_nil)) pe_int))))) (pss_one (ps_ret pe_bl)) pss_nil)
        (pss_one (ps_ret (pe_callB (cr_all rfl) (by rfl) B.all (by decide +kernel) (pa_cons (pe_lc (own := [("_law_sign", 1)]) (g := (gName 1)) (tt := tYes) rfl scLWord.nd (pi_str (pv 0)) (blkOk_by (N := nLWord) (sc := defScope sLWord) (by decide +kernel)) (fun _ _ _ _ _ => (pg_name (i := 1) scLWord.nd rfl (by first | exact Or.inl rfl | exact Or.inr rfl))) (fun _ _ _ _ _ => pts_nil) (fun _ _ _ _ _ => (pe_cmpR op_in_sign (pv 1) pe_str rfl))) pa_nil))))), ?_⟩
    obtain ⟨u, tu, ku⟩ := th_str (K := K) t
    refine ⟨_, rfl, _, _, _, _, _, rfl, .ty _, tu, ku, _, rfl, ?_⟩
    cases hb : isSt v with
    | false =>
      refine iteT ?_
      have e : wordV v = false := by cases v <;> first | rfl | exact absurd hb (by simp [isSt])
      have k' := k H (Same.refl _)
      rw [e] at k'
      exact k'
    | true =>
      obtain ⟨x, rfl⟩ : ∃ x, v = .str x := by cases v <;> first | exact ⟨_, rfl⟩ | exact absurd hb (by simp [isSt])
      have hs : x.length ≤ sizeLine := by cases t with | str _ h => exact h
      refine iteF ?_
      refine ⟨_, rfl, _, rfl, hs, _, _, rfl, rfl, _, rfl, ?_⟩
      have kF : wordB x = false → Q (.bl false) H := fun e => by
        have k' := k H (Same.refl _)
        rw [show wordV (.str x) = false from e] at k'
        exact k'
      by_cases h1 : 1 ≤ x.length
      · rw [if_pos (decide_eq_true (show (1 : Int) ≤ ((x.length : Nat) : Int) by omega))]
        refine ⟨_, _, rfl, rfl, _, rfl, ?_⟩
        by_cases h8 : x.length ≤ 8
        · have e8 : decide (((x.length : Nat) : Int) ≤ 8) = true := decide_eq_true (by omega)
          rw [e8]
          refine iteF ?_
          refine ⟨_, rfl, x, rfl, fun D hD => lc_it walk_str (fun i H' => H' = upd H D (.lst (((x.cps.toList.take i).map fun c => decide (c ∈ letters.cps.toList)).map V.bl))) rfl (fun _ _ _ _ => trivial) ?_ ?_⟩
          · rintro i v H1 H2 hi rfl ⟨rfl, c, hc, rfl⟩
            refine ⟨rfl, yes (iteT ⟨_, rfl, c, letters, rfl, rfl, _, upd_same, ?_, ?_⟩)⟩
            · have : x.cps.size ≤ 8 := h8
              have e : sizeLine = 16777216 := by decide
              have : ((x.cps.toList.take i).map fun c => decide (c ∈ letters.cps.toList)).length ≤ 8 := by
                rw [List.length_map, List.length_take, Array.length_toList]
                omega
              rw [List.length_map]
              omega
            · have hc' : x.cps.toList[i]? = some c := by simpa using hc
              rw [upd_upd, take_more hc', List.map_append, List.map_append]
              rfl
          · rintro H1 rfl
            refine ⟨D, (x.cps.toList.take x.cps.size).map fun c => decide (c ∈ letters.cps.toList), rfl, SqL.of upd_same, ?_⟩
            have k' := k _ (same_new (o := .lst (((x.cps.toList.take x.cps.size).map fun c => decide (c ∈ letters.cps.toList)).map V.bl)) hD)
            have e : wordV (.str x) = ((x.cps.toList.take x.cps.size).map fun c => decide (c ∈ letters.cps.toList)).all id := by
              show wordB x = _
              unfold wordB
              rw [decide_eq_true h1, decide_eq_true h8, Bool.and_true, Bool.and_true, List.take_of_length_le (by simp), List.all_map]
              rfl
            rw [e] at k'
            exact k'
        · have e8 : decide (((x.length : Nat) : Int) ≤ 8) = false := decide_eq_false (by omega)
          rw [e8]
          exact iteT (kF (by unfold wordB; rw [decide_eq_false h8, Bool.and_false]))
      · rw [if_neg (by rw [decide_eq_false (show ¬ (1 : Int) ≤ ((x.length : Nat) : Int) by omega)]; exact Bool.false_ne_true)]
        refine ⟨_, rfl, ?_⟩
        refine iteT ?_
        exact kF (by unfold wordB; rw [decide_eq_false h1, Bool.and_false, Bool.false_and])
theorem c_within (B : Base K mg) (D : DefT K mg "_law_within" sWithin ["_law_thing_here", "_law_least", "_law_most"]) : Cal P w K mg base 1 "_law_within" spWholeV := by
  refine cal D scWithin (fun vs H Q E h => ?_) (fun f cdv A outer s H vs Q E hr h => ?_)
  · obtain ⟨v, lo, hi, rfl, _⟩ := h
    rfl
  · obtain ⟨v, lo, hi, rfl, t, k⟩ := h
    refine ⟨_, (pss_one (ps_ret (pe_and (pe_callB call_isi (by rfl) B.isi (by decide +kernel) (pa_cons (pv 0) (pa_cons (pe_bltn (v := .ty "int") (by rfl) B.int (by decide +kernel) rfl) pa_nil))) (pe_and (pe_not (pe_callB call_isi (by rfl) B.isi (by decide +kernel) (pa_cons (pv 0) (pa_cons (pe_bltn (v := .ty "bool") (by rfl) B.bool (by decide +kernel) rfl) pa_nil)))) (pe_one (pe_chain op_le op_le (pv 1) (pv 0) (pv 2))))))), ?_⟩
    obtain ⟨u, tu, ku⟩ := th_bool (K := K) t
    obtain ⟨u2, tu2, ku2⟩ := th_int (K := K) t
    have no : wholeV lo hi v = false → Q (.bl false) H := fun e => by rw [e] at k; exact k
    refine ⟨_, rfl, _, _, _, _, _, rfl, .ty _, tu2, ku2, _, rfl, ?_⟩
    cases hi2 : (isBl v || isIn v) with
    | false => exact iteF (no (by cases v <;> first | rfl | exact absurd hi2 (by simp [isIn, isBl])))
    | true =>
      refine iteT ⟨_, rfl, _, _, _, _, _, rfl, .ty _, tu, ku, _, rfl, _, rfl, ?_⟩
      cases hb : isBl v with
      | true => exact iteF (no (by cases v <;> first | rfl | exact absurd hb (by simp [isBl])))
      | false =>
        obtain ⟨i, rfl⟩ : ∃ i, v = .int i := by
          cases v with
          | int i => exact ⟨i, rfl⟩
          | bl b => exact absurd hb (by simp [isBl])
          | _ => exact absurd hi2 (by simp [isIn, isBl])
        refine iteT ⟨_, rfl, _, rfl, _, _, rfl, rfl, _, rfl, ?_⟩
        by_cases h1 : lo ≤ i
        · rw [if_pos (decide_eq_true h1)]
          refine ⟨_, rfl, _, _, rfl, rfl, ?_⟩
          have k' : Q (.bl (decide (lo ≤ i ∧ i ≤ hi))) H := k
          by_cases h2 : i ≤ hi
          · show Q (.bl (decide (i ≤ hi))) H
            rw [decide_eq_true h2]
            rw [decide_eq_true ⟨h1, h2⟩] at k'
            exact k'
          · show Q (.bl (decide (i ≤ hi))) H
            rw [decide_eq_false h2]
            rw [decide_eq_false fun z => h2 z.2] at k'
            exact k'
        · rw [if_neg (by rw [decide_eq_false h1]; exact Bool.false_ne_true)]
          exact no (decide_eq_false fun z => h1 z.1)
end
end KP
namespace KP
open PySem L2 KD
abbrev sLOne : Stmt := top 54
abbrev nLOne : List Str := ["_law_some", "_law_top", "_law_bottom", "_law_part", "_law_whole"]
theorem scLOne : FnScope nLOne ["_law_some"] (defScope sLOne) := ⟨rfl, rfl, rfl, by decide +kernel, rfl, by decide +kernel, by decide +kernel⟩
abbrev sLRows : Stmt := top 52
abbrev nLRows : List Str := ["_law_thing_here", "_law_most", "_law_wide", "_law_row"]
theorem scLRows : FnScope nLRows ["_law_thing_here", "_law_most", "_law_wide"] (defScope sLRows) := ⟨rfl, rfl, rfl, by decide +kernel, rfl, by decide +kernel, by decide +kernel⟩

def amoGo : Int → Int → List (V × V) → Bool
  | t, b, [] => decide (t ≤ b)
  | t, b, (.int q, .int w) :: r => wholeV 1 1000 (.int w) && wholeV 0 w (.int q) && amoGo (t * w + q * b) (b * w) r
  | _, _, _ => false
theorem amo_cons {t b : Int} {p w : V} {r : List (V × V)} (h : wholeV 1 1000 w = false ∨ toV p w = false) : amoGo t b ((p, w) :: r) = false := by
  cases w with
  | int w =>
    cases p with
    | int q =>
      show (wholeV 1 1000 (.int w) && wholeV 0 w (.int q) && _) = false
      rcases h with h | h
      · rw [h]; rfl
      · rw [show wholeV 0 w (.int q) = false from h, Bool.and_false]; rfl
    | _ => rfl
  | _ => cases p <;> rfl
def pv2 (p : V × V) : List V := [p.1, p.2]
def spLRows : Sp := fun vs H Q _ => ∃ (l : Addr) (ts : List Addr) (rs : List (List V)) (m : Int) (wd : Nat), vs = [.ref l, .int m, .int (wd : Int)] ∧ RowsAt H l ts rs ∧ (∀ r ∈ rs, r.length = wd) ∧ ∀ H', Same H H' → Q (.bl (decide ((ts.length : Int) ≤ m))) H'
def spLOne : Sp := fun vs H Q _ => ∃ (l : Addr) (ts : List Addr) (ps : List (V × V)), vs = [.ref l] ∧ RowsAt H l ts (ps.map pv2) ∧ (∀ p ∈ ps, Th H p.1 ∧ Th H p.2) ∧ ∀ H', Same H H' → Q (.bl (amoGo 0 1 ps)) H'
section
variable {P : Program} {w : World} {K : PySem.W.Frag} {mg : Str → Option Value} {base : Heap}
theorem c_lone (Wi : Cal P w K mg base 1 "_law_within" spWholeV) (D : DefT K mg "_law_at_most_one" sLOne ["_law_some"]) : Cal P w K mg base 2 "_law_at_most_one" spLOne := by
  refine cal D scLOne (fun vs H Q E h => ?_) (fun f cdv A outer s H vs Q E hr h => ?_)
  · obtain ⟨l, ts, ps, rfl, _⟩ := h
    rfl
  · obtain ⟨l, ts, ps, rfl, R, th, k⟩ := h
    refine ⟨_, (pss_cons (ps_set (i := 1) scLOne.nd rfl (by first | exact Or.inl rfl | exact Or.inr rfl) pe_int)
        (pss_cons (ps_set (i := 2) scLOne.nd rfl (by first | exact Or.inl rfl | exact Or.inr rfl) pe_int)
        (pss_cons (ps_for PassesOwn.never rfl (pi_list (pv 0)) (pg_tup rfl (pgs_cons (pg_name (i := 3) scLOne.nd rfl (by first | exact Or.inl rfl | exact Or.inr rfl)) (pgs_cons (pg_name (i := 4) scLOne.nd rfl (by first | exact Or.inl rfl | exact Or.inr rfl)) pgs_nil))) (pss_cons (ps_if (PW.pt (pw_or (pt_not (pt_val (pe_cl Wi hr (by decide) (by rfl) (pa_cons (pv 4) (pa_cons pe_int (pa_cons pe_int pa_nil)))))) (pw_or1 (pt_not (pt_val (pe_cl Wi hr (by decide) (by rfl) (pa_cons (pv 3) (pa_cons pe_int (pa_cons (pv 4) pa_nil))))))))) (pss_one (ps_ret pe_bl)) pss_nil)
        (pss_one (ps_par (i := 1) (j := 2) rfl scLOne.nd rfl rfl (by decide) rfl rfl (pa_cons (pe_op op_add (pe_op op_mul (pv 1) (pv 4)) (pe_op op_mul (pv 3) (pv 2))) (pa_cons (pe_op op_mul (pv 2) (pv 4)) pa_nil)) rfl))))
        (pss_one (ps_ret (pe_cmpR op_le (pv 1) (pv 2) (nomark _))))))), ?_⟩
    refine ⟨_, rfl, l, rfl, ⟨_, SqL.of R.1⟩, for_list (K := K) (a := l) (xs := ts.map V.ref) (fun i σ H' => ∃ (t b : Int) (v3 v4 : Option V), σ = [some (.ref l), some (.int t), some (.int b), v3, v4] ∧ Same H H' ∧ amoGo 0 1 ps = amoGo t b (ps.drop i))
      ⟨0, 1, none, none, rfl, Same.refl _, rfl⟩ (fun i σ H' _ ⟨_, _, _, _, _, s1, _⟩ => SqL.of (s1 _ _ R.1)) ?_ ?_⟩
    · rintro i y σ H1 hi ⟨t, b, v3, v4, rfl, s1, eg⟩
      obtain ⟨a, p, rfl, hp, ha, hti⟩ := row_get R hi
      obtain ⟨p, w⟩ := p
      have hi8 : i < ps.length := (List.getElem?_eq_some_iff.mp hp).1
      have ed : ps.drop i = (p, w) :: ps.drop (i + 1) := by
        rw [List.drop_eq_getElem_cons hi8]
        congr 1
        exact (List.getElem?_eq_some_iff.mp hp).2
      rw [ed] at eg
      obtain ⟨tp, tw⟩ := th _ (List.mem_of_getElem? hp)
      have no : amoGo t b ((p, w) :: ps.drop (i + 1)) = false → Q (.bl false) H1 := fun e => by
        have := k H1 s1
        rw [eg, e] at this
        exact this
      refine ⟨a, _, rfl, SqT.of (s1 _ _ ha), rfl, _, _, rfl, _, _, rfl, rfl, ?_⟩
      refine ⟨_, rfl, w, 1, 1000, rfl, tw.same s1, _, rfl, ?_⟩
      cases hw : wholeV 1 1000 w with
      | false => exact iteT (no (amo_cons (.inl hw)))
      | true =>
        obtain ⟨n, rfl⟩ : ∃ n, w = .int n := by
          cases w with
          | int n => exact ⟨n, rfl⟩
          | _ => cases hw
        refine iteF ⟨_, rfl, _, rfl, p, 0, n, rfl, tp.same s1, _, rfl, ?_⟩
        cases hq : wholeV 0 n p with
        | false => exact iteT (no (amo_cons (.inr hq)))
        | true =>
          obtain ⟨q, rfl⟩ : ∃ q, p = .int q := by
            cases p with
            | int q => exact ⟨q, rfl⟩
            | _ => cases hq
          have bw : 1 ≤ n ∧ n ≤ 1000 := of_decide_eq_true hw
          have bq : 0 ≤ q ∧ q ≤ n := of_decide_eq_true hq
          refine iteF ?_
          refine ⟨_, rfl, _, rfl, _, _, rfl, rfl, Or.inr ⟨by omega, by omega⟩, _, rfl, _, rfl, _, _, rfl, rfl, Or.inl ⟨by omega, by omega⟩, _, _, rfl, rfl, ?_⟩
          refine ⟨_, rfl, _, rfl, _, _, rfl, rfl, Or.inr ⟨by omega, by omega⟩, ?_⟩
          refine ⟨_, _, rfl, t * n + q * b, b * n, _, _, rfl, s1, ?_⟩
          rw [eg]
          show (wholeV 1 1000 (.int n) && wholeV 0 n (.int q) && _) = _
          rw [hw, hq]
          rfl
    · rintro σ H1 ⟨t, b, v3, v4, rfl, s1, eg⟩
      have el : ps.drop (ts.map V.ref).length = [] := by rw [List.length_map, R.len, List.length_map]; exact List.drop_length
      rw [el] at eg
      have := k H1 s1
      rw [eg] at this
      exact ⟨_, rfl, _, rfl, _, _, rfl, rfl, this⟩
theorem c_lrows (B : Base K mg) (D : DefT K mg "_law_rows" sLRows ["_law_thing_here", "_law_most", "_law_wide"]) : Cal P w K mg base 1 "_law_rows" spLRows := by
  refine cal D scLRows (fun vs H Q E h => ?_) (fun f cdv A outer s H vs Q E hr h => ?_)
  · obtain ⟨l, ts, rs, m, wd, rfl, _⟩ := h
    rfl
  · obtain ⟨l, ts, rs, m, wd, rfl, R, hw, k⟩ := h
    have hz : sizeLine = 16777216 := by decide
    refine ⟨_, (pss_cons (ps_if (PW.pt (pw_or (pt_not (pt_val (pe_callB call_isi (by rfl) B.isi (by decide +kernel) (pa_cons (pv 0) (pa_cons (pe_bltn (v := .ty "list") (by rfl) B.list (by decide +kernel) rfl) pa_nil))))) (pw_or1 (pt_cmpR op_gt (pe_callB call_len_seq (by rfl) B.len (by decide +kernel) (pa_cons (pv 0) pa_nil)) (pv 1) (nomark _))))) (pss_one (ps_ret pe_bl)) pss_nil)
        (pss_one (ps_ret (pe_cmpR (op_eqD hr.units) (pe_lc (own := [("_law_row", 3)]) (g := (gName 3)) (tt := (tOr (tNot (tB (tCB (rIsi K) (tCons (tVar 3) (tCons (tC (.ty "tuple")) tNil))))) (tTest (tOp rNe (tCB (fun xs H Q => ∃ p ys, xs = [.ref p] ∧ (SqL K H p ys ∨ SqT K H p ys) ∧ Q (.int ys.length) H) (tCons (tVar 3) tNil)) (tVar 2))))) rfl scLRows.nd (pi_list (pv 0)) (blkOk_by (N := nLRows) (sc := defScope sLRows) (by decide +kernel)) (fun _ _ _ _ _ => (pg_name (i := 3) scLRows.nd rfl (by first | exact Or.inl rfl | exact Or.inr rfl))) (fun _ _ _ _ _ => pts_one (PW.pt (pw_or (pt_not (pt_val (pe_callB call_isi (by rfl) B.isi (by decide +kernel) (pa_cons (pv 3) (pa_cons (pe_bltn (v := .ty "tuple") (by rfl) B.tuple (by decide +kernel) rfl) pa_nil))))) (pw_or1 (pt_cmpR op_ne (pe_callB call_len_seq (by rfl) B.len (by decide +kernel) (pa_cons (pv 3) pa_nil)) (pv 2) (nomark _)))))) (fun _ _ _ _ _ => (pv 3))) (pe_lst pa_nil) (nomark _))))), ?_⟩
    obtain ⟨u, tu, ku⟩ := th_list (K := K) (Th.lst R.1)
    rw [lst_of R.1] at ku
    refine ⟨_, rfl, _, _, _, _, _, rfl, .ty _, tu, ku, _, rfl, ?_⟩
    refine iteF ⟨_, rfl, _, _, rfl, .inl (SqL.of R.1), _, rfl, _, _, rfl, rfl, _, rfl, ?_⟩
    have no : ¬ (ts.length : Int) ≤ m → Q (.bl false) H := fun e => by
      have := k H (Same.refl _)
      rw [decide_eq_false e] at this
      exact this
    rw [List.length_map]
    by_cases hm : (ts.length : Int) ≤ m
    · rw [decide_eq_false (show ¬ m < (ts.length : Int) by omega)]
      refine iteF ?_
      refine ⟨_, rfl, l, rfl, ⟨_, SqL.of R.1⟩, fun D hD => lc_it (walk_list (xs := ts.map V.ref)) (fun i H' => Same H H' ∧ H' D = some (.lst [])) ⟨same_new hD, upd_same⟩ (fun i H' _ p => SqL.of (p.1 _ _ R.1)) ?_ ?_⟩
      · rintro i x H2 H3 hi ⟨s2, d2⟩ ⟨rfl, hx⟩
        have R' : RowsAt H l ts (rs.map id) := by rw [List.map_id]; exact R
        obtain ⟨t, r, rfl, hr1, hr2, _⟩ := row_get R' hx
        have e2 := s2 _ _ hr2
        obtain ⟨u, tu, ku⟩ := th_tup (K := K) (Th.tup e2)
        rw [isTp_of (Th.tup e2), tup_of e2] at ku
        refine ⟨rfl, ⟨_, rfl, _, _, _, _, _, rfl, .ty _, tu, ku, _, rfl, ?_⟩⟩
        refine iteF ⟨_, rfl, _, _, rfl, .inr (SqT.of e2), _, rfl, ?_⟩
        have el : (id r).length = wd := hw r (List.mem_of_getElem? hr1)
        have eq : (!decide (V.int ((id r).length : Int) = V.int (wd : Int))) = false := by
          rw [el, decide_eq_true rfl]
          rfl
        refine ⟨rfl, _, rfl, ?_⟩
        show if (!decide (V.int ((id r).length : Int) = V.int (wd : Int))) = true then _ else _
        rw [eq]
        exact iteF ⟨s2, d2⟩
      · rintro H2 ⟨s2, d2⟩
        refine ⟨by show 0 ≤ sizeLine; decide, fun A2 hA => ?_⟩
        refine ⟨.list [], .list [], .lst (SqL.of (by rw [upd_ne (ne_of_none d2 hA)]; exact d2)) .nil, .lst (SqL.of upd_same) .nil, rfl, rfl, ?_⟩
        have := k _ (s2.trans (same_new (o := .lst []) hA))
        rw [decide_eq_true hm] at this
        exact this
    · rw [decide_eq_true (show m < (ts.length : Int) by omega)]
      exact iteT (no hm)
end
end KP
namespace KD
open PySem PySem.Spec PyProof.Rows L2 PySem.SeqAt
section
variable {X : Cx}
/-- xs == [] of a list of anything -/
def rEqE (K : PySem.W.Frag) : R2 := fun x y H Q => ∃ a b xs, x = .ref a ∧ y = .ref b ∧ SqL K H a xs ∧ SqL K H b [] ∧ Q (.bl (decide (xs = []))) H
theorem op_eqE (hu : X.A.units + 64 < cLine) : OpR X (compareOp .Eq) (rEqE X.K) := by
  intro pins s σ H x y v u Q I rx ry h
  obtain ⟨a, b, xs, rfl, rfl, ha, hb, q⟩ := h
  cases xs with
  | nil => exact op_eqD hu pins s σ H _ _ v u Q I rx ry ⟨.list [], .list [], .lst ha .nil, .lst hb .nil, rfl, rfl, q⟩
  | cons z zs =>
    cases rx
    cases ry
    obtain ⟨its, r, ⟨o, n, e, hc, hd, hs⟩, _⟩ := I.list ha
    obtain ⟨its2, r2, ⟨o2, n2, e2, hc2, hd2, hs2⟩, _⟩ := I.list hb
    cases r2
    cases r with
    | cons p r =>
      rename_i u us
      have hq : Q (.bl false) H := q
      exact SeqAt.eq_list_lengthsAt (items := (u :: us).toArray) (items2 := #[]) ⟨o, e, hc, n, hs⟩ ⟨o2, e2, hc2, n2, hs2⟩ (by simp) (by omega) ⟨.bl _, H, I, rfl, hq⟩
end
end KD
namespace KP
open PySem L2 KD
theorem Ti.sameB {H H' : Hp} {b : Addr} {v : V} (t : Ti H v) (w' : WellAt H' b) (s : SameB b H H') : Ti H' v := by
  cases t with
  | non => exact .non
  | bl b => exact .bl b
  | int i => exact .int i
  | str x h => exact .str x h
  | @lst a xs h =>
    by_cases e : a = b
    · subst e
      obtain ⟨_, _, _, e⟩ := w'
      exact .lst e
    · exact .lst (s _ _ h e)
  | @tup a xs h =>
    by_cases e : a = b
    · subst e
      obtain ⟨_, _, _, e⟩ := w'
      exact .lst e
    · exact .tup (s _ _ h e)
abbrev sThing : Stmt := top 55
abbrev nThing : List Str := ["_law_well_here", "_law_thing_here", "_law_pool", "_law_lot", "_law_at", "_law_signs", "_law_sign", "_law_fork"]
theorem scThing : FnScope nThing ["_law_well_here", "_law_thing_here", "_law_pool"] (defScope sThing) := ⟨rfl, rfl, rfl, by decide +kernel, rfl, by decide +kernel, by decide +kernel⟩
/-- a thing whose text is not longer than n -/
def It (n : Nat) (H : Hp) (v : V) : Prop := Ti H v ∧ ∀ x, v = .str x → x.length ≤ n
theorem It.same {n : Nat} {H H' : Hp} {v : V} (h : It n H v) (s : Same H H') : It n H' v := ⟨h.1.same s, h.2⟩
theorem It.sameB {n : Nat} {H H' : Hp} {b : Addr} {v : V} (h : It n H v) (w' : WellAt H' b) (s : SameB b H H') : It n H' v := ⟨Ti.sameB h.1 w' s, h.2⟩
theorem It.up {n m : Nat} {H : Hp} {v : V} (h : It n H v) (l : n ≤ m) : It m H v := ⟨h.1, fun x e => Nat.le_trans (h.2 x e) l⟩
theorem It.no {n : Nat} {H : Hp} {v : V} (h : Ti H v) (l : ∀ x, v ≠ .str x) : It n H v := ⟨h, fun x e => absurd e (l x)⟩
theorem It.st {n : Nat} {H : Hp} {x : Str} (h : x.length ≤ n) (l : n ≤ sizeLine) : It n H (.str x) := ⟨.str x (Nat.le_trans h l), fun y e => by cases e; exact h⟩
theorem WellAt.same {H H' : Hp} {a : Addr} (w : WellAt H a) (s : Same H H') : WellAt H' a := by
  obtain ⟨x, y, z, e⟩ := w
  exact ⟨x, y, z, s _ _ e⟩
theorem cutS_le (z : Str) (lo hi : Option Int) : (cutS z lo hi).length ≤ z.length := by
  show (((z.cps.toList.drop (HT.sIx z.length 0 lo)).take (HT.sIx z.length z.length hi - HT.sIx z.length 0 lo)).toArray).size ≤ z.cps.size
  rw [List.size_toArray, List.length_take, List.length_drop, Array.length_toList]
  omega
theorem add_len (a b : Str) : (a ++ b).length = a.length + b.length := by
  show (a.cps ++ b.cps).size = _
  rw [Array.size_append]
  rfl
theorem th_si {K : PySem.W.Frag} {H : Hp} {v : V} (t : Th H v) : ∃ u, TyX K H v u ∧ PySem.W.kitAny K u [.type "str", .type "int"] = some (isSt v || (isBl v || isIn v)) := by
  have yes1 : ∀ {n : String}, kitB n "str" = some true → PySem.W.kitAny K (.type n) [.type "str", .type "int"] = some true := fun h => kitAny_cons (kit_ty h) (fun z => nomatch z) (fun _ => rfl)
  have yes2 : ∀ {n : String}, kitB n "str" = some false → kitB n "int" = some true → PySem.W.kitAny K (.type n) [.type "str", .type "int"] = some true := fun h h2 => kitAny_cons (kit_ty h) (fun _ => kitAny_cons (kit_ty h2) (fun z => nomatch z) (fun _ => rfl)) (fun z => nomatch z)
  have no : ∀ {n : String}, kitB n "str" = some false → kitB n "int" = some false → PySem.W.kitAny K (.type n) [.type "str", .type "int"] = some false := fun h h2 => kitAny_cons (kit_ty h) (fun _ => kitAny_cons (kit_ty h2) (fun _ => rfl) (fun z => nomatch z)) (fun z => nomatch z)
  cases t with
  | non => exact ⟨_, .base .non, no (by decide +kernel) (by decide +kernel)⟩
  | bl b => exact ⟨_, .base (.bl b), yes2 (by decide +kernel) (by decide +kernel)⟩
  | int i => exact ⟨_, .base (.int i), yes2 (by decide +kernel) (by decide +kernel)⟩
  | str x h => exact ⟨_, .base (.str x), yes1 (by decide +kernel)⟩
  | lst h => exact ⟨_, .base (.lst h), no (by decide +kernel) (by decide +kernel)⟩
  | tup h => exact ⟨_, .base (.tup h), no (by decide +kernel) (by decide +kernel)⟩
  | dct h => exact ⟨_, .base (.dK h), no (by decide +kernel) (by decide +kernel)⟩
def spThing : Sp := fun vs H Q _ => ∃ (b pl : Addr) (v : V) (xs : List V) (n : Nat), vs = [.ref b, v, .ref pl] ∧ WellAt H b ∧ H pl = some (.lst xs) ∧ pl ≠ b ∧ xs ≠ [] ∧ xs.length ≤ 1000 ∧ It n H v ∧ (∀ x ∈ xs, It n H x) ∧ 8 ≤ n ∧ n ≤ 1000000 ∧
  ∀ (x : V) (H' : Hp), It (2 * n + 1) H' x → WellAt H' b → SameB b H H' → Q x H'
section
variable {P : Program} {w : World} {K : PySem.W.Frag} {mg : Str → Option Value} {base : Heap}
theorem c_thing (B : Base K mg) (Dr : Cal P w K mg base 1 "_law_draw" spDraw) (D : DefT K mg "_law_thing" sThing ["_law_well_here", "_law_thing_here", "_law_pool"]) : Cal P w K mg base 2 "_law_thing" spThing := by
  refine cal D scThing (fun vs H Q E h => ?_) (fun f cdv A outer s H vs Q E hr h => ?_)
  · obtain ⟨b, pl, v, xs, n, rfl, _⟩ := h
    rfl
  · obtain ⟨b, pl, v, xs, n, rfl, wb, hp, npb, xne, xl, iv, ix, n8, nm, k⟩ := h
    have hz : sizeLine = 16777216 := by decide
    refine ⟨_, (pss_cons (ps_set (i := 3) scThing.nd rfl (by first | exact Or.inl rfl | exact Or.inr rfl) (pe_cl Dr hr (by decide) (by rfl) (pa_cons (pv 0) (pa_cons pe_int pa_nil))))
        (pss_cons (ps_if (pt_cmpR op_eq (pv 3) pe_int (nomark _)) (pss_one (ps_ret (pe_ix ix_list (pv 2) (pe_cl Dr hr (by decide) (by rfl) (pa_cons (pv 0) (pa_cons (pe_callB call_len_seq (by rfl) B.len (by decide +kernel) (pa_cons (pv 2) pa_nil)) pa_nil))) (fun _ _ => rfl)))) pss_nil)
        (pss_cons (ps_if (PW.pt (pw_or (pt_cmpR op_eq (pv 3) pe_int (nomark _)) (pw_or1 (pt_not (pt_val (pe_callB call_isiT (by rfl) B.isi (by decide +kernel) (pa_cons (pv 1) (pa_cons (pe_tupW (pa_cons (pe_bltn (v := .ty "str") (by rfl) B.str (by decide +kernel) rfl) (pa_cons (pe_bltn (v := .ty "int") (by rfl) B.int (by decide +kernel) rfl) pa_nil))) pa_nil)))))))) (pss_one (ps_ret (pe_ix ix_list (pe_lstW (pa_cons pe_non (pa_cons pe_bl (pa_cons (pe_lstW (pa_cons (pv 1) pa_nil)) (pa_cons (pe_tupW (pa_cons (pv 1) pa_nil)) (pa_cons pe_str (pa_cons pe_int (pa_cons pe_int (pa_cons pe_int (pa_cons pe_int (pa_cons pe_int (pa_cons pe_int (pa_cons (pe_op op_pow pe_int pe_int) pa_nil))))))))))))) (pe_cl Dr hr (by decide) (by rfl) (pa_cons (pv 0) (pa_cons pe_int pa_nil))) (fun _ _ => rfl)))) pss_nil)
        (pss_cons (ps_if (pt_val (pe_callB call_isi (by rfl) B.isi (by decide +kernel) (pa_cons (pv 1) (pa_cons (pe_bltn (v := .ty "int") (by rfl) B.int (by decide +kernel) rfl) pa_nil)))) (pss_one (ps_ret (pe_op op_addX (pv 1) (pe_ix ix_list (pe_lstW (pa_cons pe_int (pa_cons (pe_un un_neg pe_int) (pa_cons (pe_op op_pow pe_int pe_int) (pa_cons pe_int (pa_cons (pe_op op_sub pe_int (pe_op op_mulX pe_int (pv 1))) pa_nil)))))) (pe_cl Dr hr (by decide) (by rfl) (pa_cons (pv 0) (pa_cons pe_int pa_nil))) (fun _ _ => rfl))))) pss_nil)
        (pss_cons (ps_set (i := 4) scThing.nd rfl (by first | exact Or.inl rfl | exact Or.inr rfl) (pe_cl Dr hr (by decide) (by rfl) (pa_cons (pv 0) (pa_cons (pe_op op_add (pe_callB call_len_str (by rfl) B.len (by decide +kernel) (pa_cons (pv 1) pa_nil)) pe_int) pa_nil))))
        (pss_cons (ps_set (i := 5) scThing.nd rfl (by first | exact Or.inl rfl | exact Or.inr rfl) pe_str)
        (pss_cons (ps_set (i := 6) scThing.nd rfl (by first | exact Or.inl rfl | exact Or.inr rfl) (pe_item_str (pv 5) (pe_cl Dr hr (by decide) (by rfl) (pa_cons (pv 0) (pa_cons (pe_callB call_len_str (by rfl) B.len (by decide +kernel) (pa_cons (pv 5) pa_nil)) pa_nil))) (fun _ _ => rfl)))
        (pss_cons (ps_set (i := 7) scThing.nd rfl (by first | exact Or.inl rfl | exact Or.inr rfl) (pe_cl Dr hr (by decide) (by rfl) (pa_cons (pv 0) (pa_cons pe_int pa_nil))))
        (pss_one (ps_ret (pe_op op_add_str (pe_op op_add_str (pe_slice sl_str (pv 1) po_none (po_some (pv 4))) (pe_ix ix_list (pe_lstW (pa_cons pe_str (pa_cons (pv 6) (pa_cons (pv 6) pa_nil)))) (pv 7) (fun _ _ => rfl))) (pe_slice sl_str (pv 1) (po_some (pe_op op_add (pv 4) (pe_ix ix_list (pe_lstW (pa_cons pe_int (pa_cons pe_int (pa_cons pe_int pa_nil)))) (pv 7) (fun _ _ => rfl)))) po_none)))))))))))), ?_⟩
    have up : ∀ {x : V} {H' : Hp}, It n H' x → It (2 * n + 1) H' x := fun h => h.up (by omega)
    have xp : 0 < xs.length := List.length_pos_iff.mpr xne
    refine ⟨_, rfl, b, 5, rfl, wb, by decide, by decide, fun lot H1 lo0 lo1 w1 s1 => ?_⟩
    have hp1 := s1 _ _ hp npb
    refine ⟨_, rfl, rfl, _, rfl, ite2 (fun c => ?_) (fun c => ?_)⟩
    · refine ⟨_, rfl, _, rfl, _, rfl, pl, _, rfl, .inl (SqL.of hp1), b, _, rfl, w1, (by omega), (by omega), fun r H2 r0 r1 w2 s2 => ?_⟩
      obtain ⟨x, hx, mx⟩ := get_lt (l := xs) r0 r1
      exact ⟨pl, _, r, x, rfl, rfl, SqL.of (s2 _ _ hp1 npb), hx, k x H2 (up ((ix x mx).sameB w2 (s1.trans s2))) w2 (s1.trans s2)⟩
    refine ⟨_, rfl, rfl, _, rfl, ite2 (fun c3 => ?_) (fun c3 => ?_)⟩
    · skip
      refine ⟨_, rfl, (by show 1 ≤ sizeLine; decide), fun p1 H4 s4 n4 h4 => ⟨_, rfl, (by show 1 ≤ sizeLine; decide), fun p2 H5 s5 n5 h5 => ?_⟩⟩
      have w5 := w1.same (s4.trans s5)
      refine ⟨_, _, rfl, rfl, ⟨by decide, by decide, by decide⟩, (by show 12 ≤ sizeLine; decide), fun L H7 s7 n7 h7 => ⟨_, rfl, b, 12, rfl, w5.same s7, by decide, by decide, fun r' H8 r0' r1' w8 s8 => ?_⟩⟩
      have SF : SameB b H1 H8 := (SameB.of ((s4.trans s5).trans s7)).trans s8
      have nLb : L ≠ b := (w5.ne n7).symm
      obtain ⟨x, hx, mx⟩ := get_lt (l := [V.non, V.bl true, V.ref p1, V.ref p2, V.str "", V.int 0, V.int 1, V.int 30, V.int 31, V.int 1000, V.int 1001, V.int 1000000000000000]) r0' (by exact r1')
      refine ⟨L, _, r', x, rfl, rfl, SqL.of (s8 _ _ h7 nLb), hx, k x H8 ?_ w8 (s1.trans SF)⟩
      have tp1 : Ti H8 (.ref p1) := Ti.sameB (Ti.lst (s7 _ _ (s5 _ _ h4))) w8 s8
      have tp2 : Ti H8 (.ref p2) := Ti.sameB (Ti.tup (s7 _ _ h5)) w8 s8
      simp only [List.mem_cons, List.not_mem_nil, or_false] at mx
      rcases mx with rfl | rfl | rfl | rfl | rfl | rfl | rfl | rfl | rfl | rfl | rfl | rfl
      · exact It.no .non (fun x z => nomatch z)
      · exact It.no (.bl true) (fun x z => nomatch z)
      · exact It.no tp1 (fun x z => nomatch z)
      · exact It.no tp2 (fun x z => nomatch z)
      · exact It.st (Nat.le_trans (by decide : ("" : Str).length ≤ 0) (Nat.zero_le _)) (by omega)
      all_goals exact It.no (.int _) (fun x z => nomatch z)
    refine ⟨_, rfl, (by show 2 ≤ sizeLine; decide), fun tp H2 s2 ntp htp => ?_⟩
    have S2 : SameB b H H2 := s1.trans (SameB.of s2)
    have w2 := w1.same s2
    have tv2 := Ti.sameB iv.1 w2 S2
    obtain ⟨u, tu, ku⟩ := th_si (K := K) tv2.th
    refine ⟨v, tp, _, u, _, _, rfl, htp, .cons (.ty _) (.cons (.ty _) .nil), tu, ku, _, rfl, ?_⟩
    cases hsi : (isSt v || (isBl v || isIn v)) with
    | false =>
      refine iteT ?_
      refine ⟨_, rfl, (by show 1 ≤ sizeLine; decide), fun p1 H4 s4 n4 h4 => ⟨_, rfl, (by show 1 ≤ sizeLine; decide), fun p2 H5 s5 n5 h5 => ?_⟩⟩
      have w5 := w2.same (s4.trans s5)
      refine ⟨_, _, rfl, rfl, ⟨by decide, by decide, by decide⟩, (by show 12 ≤ sizeLine; decide), fun L H7 s7 n7 h7 => ⟨_, rfl, b, 12, rfl, w5.same s7, by decide, by decide, fun r' H8 r0' r1' w8 s8 => ?_⟩⟩
      have SF : SameB b H2 H8 := (SameB.of ((s4.trans s5).trans s7)).trans s8
      have nLb : L ≠ b := (w5.ne n7).symm
      obtain ⟨x, hx, mx⟩ := get_lt (l := [V.non, V.bl true, V.ref p1, V.ref p2, V.str "", V.int 0, V.int 1, V.int 30, V.int 31, V.int 1000, V.int 1001, V.int 1000000000000000]) r0' (by exact r1')
      refine ⟨L, _, r', x, rfl, rfl, SqL.of (s8 _ _ h7 nLb), hx, k x H8 ?_ w8 (S2.trans SF)⟩
      have tp1 : Ti H8 (.ref p1) := Ti.sameB (Ti.lst (s7 _ _ (s5 _ _ h4))) w8 s8
      have tp2 : Ti H8 (.ref p2) := Ti.sameB (Ti.tup (s7 _ _ h5)) w8 s8
      simp only [List.mem_cons, List.not_mem_nil, or_false] at mx
      rcases mx with rfl | rfl | rfl | rfl | rfl | rfl | rfl | rfl | rfl | rfl | rfl | rfl
      · exact It.no .non (fun x z => nomatch z)
      · exact It.no (.bl true) (fun x z => nomatch z)
      · exact It.no tp1 (fun x z => nomatch z)
      · exact It.no tp2 (fun x z => nomatch z)
      · exact It.st (Nat.le_trans (by decide : ("" : Str).length ≤ 0) (Nat.zero_le _)) (by omega)
      all_goals exact It.no (.int _) (fun x z => nomatch z)
    | true =>
      obtain ⟨u2, tu2, ku2⟩ := th_int (K := K) tv2.th
      refine iteF ⟨_, rfl, _, _, _, _, _, rfl, .ty _, tu2, ku2, _, rfl, ?_⟩
      cases hi : (isBl v || isIn v) with
      | true =>
        have cond : (∃ i, v = .int i) ∨ ∃ b, v = .bl b := by
          cases v with
          | int i => exact .inl ⟨i, rfl⟩
          | bl c => exact .inr ⟨c, rfl⟩
          | _ => exact absurd hi (by simp [isBl, isIn])
        refine iteT ⟨_, rfl, _, rfl, _, _, rfl, rfl, ⟨by decide, by decide, by decide⟩, _, rfl, ⟨_, rfl, by decide, by decide⟩, cond, fun z => ⟨_, _, rfl, rfl, (by show 5 ≤ sizeLine; decide), fun L H3 s3 nL hL => ⟨_, rfl, b, 5, rfl, w2.same s3, by decide, by decide, fun r H4 r0 r1 w4 s4 => ?_⟩⟩⟩
        have nLb : L ≠ b := (w2.ne nL).symm
        obtain ⟨x, hx, mx⟩ := get_lt (l := [V.int 1, V.int (-1), V.int 1000000000000000, V.int 1000, V.int (0 - z)]) r0 (by exact r1)
        refine ⟨L, _, r, x, rfl, rfl, SqL.of (s4 _ _ hL nLb), hx, ?_, cond, fun z2 => k _ _ (It.no (.int z2) (fun x z => nomatch z)) w4 ((S2.trans (SameB.of s3)).trans s4)⟩
        simp only [List.mem_cons, List.not_mem_nil, or_false] at mx
        rcases mx with rfl | rfl | rfl | rfl | rfl <;> exact ⟨_, rfl⟩
      | false =>
        obtain ⟨z, rfl⟩ : ∃ z, v = .str z := by
          cases v with
          | str z => exact ⟨z, rfl⟩
          | _ => exact absurd hsi (by simp [isSt, isBl, isIn] at hi ⊢)
        have zn := iv.2 z rfl
        refine iteF ⟨_, rfl, _, rfl, _, rfl, (by omega), _, _, rfl, rfl, b, _, rfl, w2, (by omega), (by omega), fun a H3 a0 a1 w3 s3 => ?_⟩
        generalize hsg : (" !#-.09AZ[`abcdefghijklmnopqrstuvwxyz{~" : Str) = sg
        have sgl : sg.length = 39 := by rw [← hsg]; decide +kernel
        refine ⟨_, rfl, _, rfl, _, rfl, _, rfl, (by omega), b, _, rfl, w3, (by omega), (by omega), fun q H4 q0 q1 w4 s4 => ?_⟩
        have hq2 : q.toNat < sg.cps.size := by have : sg.length = sg.cps.size := rfl; omega
        refine ⟨sg, q, sg.cps[q.toNat], rfl, rfl, q0, (by omega), q1, (by rw [Array.getElem?_eq_getElem hq2]), ?_⟩
        generalize sg.cps[q.toNat] = c1
        refine ⟨_, rfl, b, 3, rfl, w4, by decide, by decide, fun fk H5 f0 f1 w5 s5 => ?_⟩
        refine ⟨_, rfl, _, rfl, _, rfl, z, rfl, (by omega), _, rfl, _, rfl, (by show 3 ≤ sizeLine; decide), fun L H7 s7 nL hL => ?_⟩
        obtain ⟨y, hy, my⟩ := get_lt (l := [V.str "", V.str ⟨#[c1]⟩, V.str ⟨#[c1]⟩]) f0 (by exact f1)
        obtain ⟨y', rfl, yl⟩ : ∃ y' : Str, y = .str y' ∧ y'.length ≤ 1 := by
          simp only [List.mem_cons, List.not_mem_nil, or_false] at my
          rcases my with rfl | rfl | rfl
          · exact ⟨_, rfl, by decide⟩
          · exact ⟨_, rfl, Nat.le_refl _⟩
          · exact ⟨_, rfl, Nat.le_refl _⟩
        have l1 := cutS_le z none (some a)
        refine ⟨_, rfl, L, _, fk, _, rfl, rfl, SqL.of hL, hy, _, y', rfl, rfl, (by omega), ?_⟩
        refine ⟨_, rfl, _, rfl, (by show 3 ≤ sizeLine; decide), fun L2 H8 s8 nL2 hL2 => ?_⟩
        obtain ⟨d, hd, md⟩ := get_lt (l := [V.int 1, V.int 0, V.int 1]) f0 (by exact f1)
        obtain ⟨d', rfl⟩ : ∃ d', d = .int d' := by
          simp only [List.mem_cons, List.not_mem_nil, or_false] at md
          rcases md with rfl | rfl | rfl <;> exact ⟨_, rfl⟩
        have l2 := cutS_le z (some (a + d')) none
        have l3 := add_len (cutS z none (some a)) y'
        refine ⟨_, rfl, L2, _, fk, _, rfl, rfl, SqL.of hL2, hd, _, _, rfl, rfl, _, rfl, z, rfl, (by omega), _, _, rfl, rfl, (by omega), ?_⟩
        have l4 := add_len (cutS z none (some a) ++ y') (cutS z (some (a + d')) none)
        exact k _ _ (It.st (by omega) (by omega)) ((w5.same s7).same s8) ((((S2.trans s3).trans s4).trans s5).trans (SameB.of (s7.trans s8)))
end
end KP
namespace KP
open PySem L2 KD
abbrev sGood : Stmt := top 53
abbrev nGood : List Str := ["_law_parts_here", "_law_days", "_law_heads_here", "_law_limits_here", "_law_rules_here", "_law_names_here", "_law_name_here", "_law_above", "_law_head", "_law_first", "_law_last", "_law_most", "_law_good_here", "_law_part", "_law_whole", "_law_until", "_law_some", "_law_other"]
theorem scGood : FnScope nGood ["_law_parts_here"] (defScope sGood) := ⟨rfl, rfl, rfl, by decide +kernel, rfl, by decide +kernel, by decide +kernel⟩
theorem cut_drop1 {v : V} {xs : List V} : cutV (v :: xs) (some 1) none = xs := by
  unfold cutV
  rw [HT.sIx_none]
  have e : HT.sIx (v :: xs).length 0 (some 1) = 1 := by
    have h := HT.sIx_nat (v :: xs).length 0 1
    rw [show ((1 : Nat) : Int) = 1 from rfl] at h
    rw [h, List.length_cons]
    omega
  rw [e, List.drop_succ_cons, List.drop_zero, List.length_cons]
  exact List.take_of_length_le (by omega)

section
variable {P : Program} {w : World} {K : PySem.W.Frag} {mg : Str → Option Value} {base : Heap}
def prOne (H : Hp) (z : Str) (x : V) : Option (V × V) := match tupOf H x with
  | some [h, p, w, _] => if h = .str z then some (p, w) else none
  | _ => none
theorem amo_fr {H : Hp} {d : Int} {ns : List Str} {z : Str} : ∀ {xs : List V} {t b : Int}, xs.all (rulB H d ns) = true → amoGo t b (xs.filterMap (prOne H z)) = decide (((xs.map (rwOf H)).foldl (frS z) (t, b)).1 ≤ ((xs.map (rwOf H)).foldl (frS z) (t, b)).2)
  | [], _, _, _ => rfl
  | x :: xs, t, b, h => by
    rw [List.all_cons, Bool.and_eq_true] at h
    obtain ⟨a, r, rfl, ht, ok, er⟩ := rul_row h.1
    rw [List.map_cons, List.foldl_cons, er]
    have et : tupOf H (.ref a) = some [.str r.1, .int r.2.1, .int r.2.2.1, .int r.2.2.2] := tup_of ht
    by_cases e : r.1 = z
    · have ep : prOne H z (.ref a) = some (.int r.2.1, .int r.2.2.1) := by
        unfold prOne
        rw [et]
        exact if_pos (by rw [e])
      rw [List.filterMap_cons_some ep]
      show (wholeV 1 1000 (.int r.2.2.1) && wholeV 0 r.2.2.1 (.int r.2.1) && amoGo (t * r.2.2.1 + r.2.1 * b) (b * r.2.2.1) _) = _
      rw [show wholeV 1 1000 (.int r.2.2.1) = true from decide_eq_true ok.2.1, show wholeV 0 r.2.2.1 (.int r.2.1) = true from decide_eq_true ok.2.2.1, amo_fr h.2, show frS z (t, b) r = (t * r.2.2.1 + r.2.1 * b, b * r.2.2.1) by unfold frS; rw [if_pos e]]
      rfl
    · have ep : prOne H z (.ref a) = none := by
        unfold prOne
        rw [et]
        exact if_neg (fun q => e (by injection q))
      rw [List.filterMap_cons_none ep, amo_fr h.2, show frS z (t, b) r = (t, b) by unfold frS; rw [if_neg e]]
theorem fr_no {z : Str} : ∀ {L : List Rw4} {p : Int × Int}, (∀ r ∈ L, r.1 ≠ z) → L.foldl (frS z) p = p
  | [], _, _ => rfl
  | r :: L, p, h => by
    rw [List.foldl_cons, show frS z p r = p by unfold frS; rw [if_neg (h r (by simp))]]
    exact fr_no fun r' hr' => h r' (by simp [hr'])
def spGood : Sp := fun vs H Q _ => ∃ (q lh ll lr : Addr) (th tl tr : List Addr) (d : V) (hs ls rs : List (List V)), vs = [.ref q] ∧ H q = some (.lst [d, .ref lh, .ref ll, .ref lr]) ∧ Th H d ∧ RowsAt H lh th hs ∧ RowsAt H ll tl ls ∧ RowsAt H lr tr rs ∧
  (∀ r ∈ hs, r.length = 2) ∧ (∀ r ∈ ls, r.length = 4) ∧ (∀ r ∈ rs, r.length = 4) ∧ (∀ r ∈ hs, ∀ x ∈ r, Ti H x) ∧ (∀ r ∈ ls, ∀ x ∈ r, Ti H x) ∧ (∀ r ∈ rs, ∀ x ∈ r, Ti H x) ∧
  ∀ H', Same H H' → Q (.bl (yearB H d (.ref lh) (.ref ll) (.ref lr))) H'
theorem c_good (B : Base K mg) (Wi : Cal P w K mg base 1 "_law_within" spWholeV) (Lw : Cal P w K mg base 1 "_law_word" spWordV) (Lr : Cal P w K mg base 1 "_law_rows" spLRows) (Lo : Cal P w K mg base 2 "_law_at_most_one" spLOne) (D : DefT K mg "_law_good" sGood ["_law_parts_here"]) : Cal P w K mg base 3 "_law_good" spGood := by
  refine cal D scGood (fun vs H Q E h => ?_) (fun f cdv A outer s H vs Q E hr h => ?_)
  · obtain ⟨q, lh, ll, lr, th, tl, tr, d, hs, ls, rs, rfl, _⟩ := h
    rfl
  · obtain ⟨q, lh, ll, lr, th, tl, tr, d, hs, ls, rs, rfl, hq, td, r1, r2, r3, w1, w2, w3, i1, i2, i3, k⟩ := h
    have hz : sizeLine = 16777216 := by decide
    refine ⟨_, (pss_cons (ps_asg (pv 0) (pg_unl rfl (pgs_cons (pg_name (i := 1) scGood.nd rfl (by first | exact Or.inl rfl | exact Or.inr rfl)) (pgs_cons (pg_name (i := 2) scGood.nd rfl (by first | exact Or.inl rfl | exact Or.inr rfl)) (pgs_cons (pg_name (i := 3) scGood.nd rfl (by first | exact Or.inl rfl | exact Or.inr rfl)) (pgs_cons (pg_name (i := 4) scGood.nd rfl (by first | exact Or.inl rfl | exact Or.inr rfl)) pgs_nil))))))
        (pss_cons (ps_if (PW.pt (pw_or (pt_not (pt_val (pe_cl Wi hr (by decide) (by rfl) (pa_cons (pv 1) (pa_cons pe_int (pa_cons pe_int pa_nil)))))) (pw_or (pt_not (pt_val (pe_cl Lr hr (by decide) (by rfl) (pa_cons (pv 2) (pa_cons pe_int (pa_cons pe_int pa_nil)))))) (pw_or1 (pt_cmpR (op_eqE hr.units) (pv 2) (pe_lstW pa_nil) (nomark _)))))) (pss_one (ps_ret pe_bl)) pss_nil)
        (pss_cons (ps_set (i := 5) scGood.nd rfl (by first | exact Or.inl rfl | exact Or.inr rfl) (pe_lstW (pa_cons pe_str pa_nil)))
        (pss_cons (ps_for PassesOwn.never rfl (pi_list (pv 2)) (pg_tup rfl (pgs_cons (pg_name (i := 6) scGood.nd rfl (by first | exact Or.inl rfl | exact Or.inr rfl)) (pgs_cons (pg_name (i := 7) scGood.nd rfl (by first | exact Or.inl rfl | exact Or.inr rfl)) pgs_nil))) (pss_cons (ps_if (PW.pt (pw_or (pt_not (pt_val (pe_cl Lw hr (by decide) (by rfl) (pa_cons (pv 6) pa_nil)))) (pw_or (pt_cmpR (op_inX hr.units) (pv 6) (pv 5) rfl) (pw_or1 (pt_cmpR (op_notInX hr.units) (pv 7) (pv 5) rfl))))) (pss_one (ps_ret pe_bl)) pss_nil)
        (pss_one (ps_expr (pe_bm PySem.F.plainAttrs_list PySem.F.slot_list_append PySem.F.type_list_append mt_append (pv 5) (pa_cons (pv 6) pa_nil))))))
        (pss_cons (ps_if (PW.pt (pw_or (pt_not (pt_val (pe_cl Lr hr (by decide) (by rfl) (pa_cons (pv 3) (pa_cons pe_int (pa_cons pe_int pa_nil)))))) (pw_or1 (pt_not (pt_val (pe_cl Lr hr (by decide) (by rfl) (pa_cons (pv 4) (pa_cons pe_int (pa_cons pe_int pa_nil))))))))) (pss_one (ps_ret pe_bl)) pss_nil)
        (pss_cons (ps_for PassesOwn.never rfl (pi_list (pv 3)) (pg_tup rfl (pgs_cons (pg_name (i := 8) scGood.nd rfl (by first | exact Or.inl rfl | exact Or.inr rfl)) (pgs_cons (pg_name (i := 9) scGood.nd rfl (by first | exact Or.inl rfl | exact Or.inr rfl)) (pgs_cons (pg_name (i := 10) scGood.nd rfl (by first | exact Or.inl rfl | exact Or.inr rfl)) (pgs_cons (pg_name (i := 11) scGood.nd rfl (by first | exact Or.inl rfl | exact Or.inr rfl)) pgs_nil))))) (pss_cons (ps_set (i := 12) scGood.nd rfl (by first | exact Or.inl rfl | exact Or.inr rfl) (pe_and (pe_cmpR (op_inX hr.units) (pv 8) (pe_slice sl_listW (pv 5) (po_some pe_int) po_none) rfl) (pe_and (pe_cl Wi hr (by decide) (by rfl) (pa_cons (pv 9) (pa_cons pe_int (pa_cons (pv 1) pa_nil)))) (pe_one (pe_cl Wi hr (by decide) (by rfl) (pa_cons (pv 10) (pa_cons (pv 9) (pa_cons (pv 1) pa_nil))))))))
        (pss_one (ps_if (PW.pt (pw_or (pt_not (pt_val (pv 12))) (pw_or1 (pt_not (pt_val (pe_cl Wi hr (by decide) (by rfl) (pa_cons (pv 11) (pa_cons pe_int (pa_cons (pe_op op_pow pe_int pe_int) pa_nil))))))))) (pss_one (ps_ret pe_bl)) pss_nil))))
        (pss_cons (ps_for PassesOwn.never rfl (pi_list (pv 4)) (pg_tup rfl (pgs_cons (pg_name (i := 8) scGood.nd rfl (by first | exact Or.inl rfl | exact Or.inr rfl)) (pgs_cons (pg_name (i := 13) scGood.nd rfl (by first | exact Or.inl rfl | exact Or.inr rfl)) (pgs_cons (pg_name (i := 14) scGood.nd rfl (by first | exact Or.inl rfl | exact Or.inr rfl)) (pgs_cons (pg_name (i := 15) scGood.nd rfl (by first | exact Or.inl rfl | exact Or.inr rfl)) pgs_nil))))) (pss_cons (ps_set (i := 12) scGood.nd rfl (by first | exact Or.inl rfl | exact Or.inr rfl) (pe_and (pe_cmpR (op_inX hr.units) (pv 8) (pe_slice sl_listW (pv 5) (po_some pe_int) po_none) rfl) (pe_and (pe_cl Wi hr (by decide) (by rfl) (pa_cons (pv 14) (pa_cons pe_int (pa_cons pe_int pa_nil)))) (pe_one (pe_cl Wi hr (by decide) (by rfl) (pa_cons (pv 13) (pa_cons pe_int (pa_cons (pv 14) pa_nil))))))))
        (pss_cons (ps_if (PW.pt (pw_or (pt_not (pt_val (pv 12))) (pw_or1 (pt_not (pt_val (pe_cl Wi hr (by decide) (by rfl) (pa_cons (pv 15) (pa_cons pe_int (pa_cons (pe_op op_add (pv 1) pe_int) pa_nil))))))))) (pss_one (ps_ret pe_bl)) pss_nil)
        (pss_cons (ps_setLc (i := 16) (own := [("_law_other", 17)]) (g := (gName 17)) (tt := (tTest (tOp rEqX (tOp (rIxT K) (tVar 17) (tC (.int 0))) (tVar 8)))) (te := (tTupW (tCons (tOp (rIxT K) (tVar 17) (tC (.int 1))) (tCons (tOp (rIxT K) (tVar 17) (tC (.int 2))) tNil)))) rfl scGood.nd rfl (by first | rfl | decide +kernel) (sw_true rfl (by first | rfl | decide +kernel) rfl (by decide +kernel)) (pi_list (pv 4)) (blkOk_by (N := nGood) (sc := defScope sGood) (by decide +kernel)) (fun _ _ _ _ _ => (pg_name (i := 17) scGood.nd rfl (by first | exact Or.inl rfl | exact Or.inr rfl))) (fun _ _ _ _ _ => pts_one (pt_cmpR (op_eqX hr.units) (pe_ix ix_tup (pv 17) pe_int (fun _ _ => rfl)) (pv 8) (nomark _))) (fun _ _ _ _ _ => (pe_tupW (pa_cons (pe_ix ix_tup (pv 17) pe_int (fun _ _ => rfl)) (pa_cons (pe_ix ix_tup (pv 17) pe_int (fun _ _ => rfl)) pa_nil)))))
        (pss_one (ps_if (pt_not (pt_val (pe_cl Lo hr (by decide) (by rfl) (pa_cons (pv 16) pa_nil)))) (pss_one (ps_ret pe_bl)) pss_nil))))))
        (pss_one (ps_ret pe_bl))))))))), ?_⟩
    have no : yearB H d (.ref lh) (.ref ll) (.ref lr) = false → ∀ H', Same H H' → Q (.bl false) H' := fun e H' s' => by
      have := k H' s'
      rw [e] at this
      exact this
    refine ⟨_, rfl, q, _, rfl, SqL.of hq, rfl, _, _, rfl, _, _, rfl, _, _, rfl, _, _, rfl, rfl, ?_⟩
    refine ⟨_, rfl, d, 1, 30, rfl, td, _, rfl, ?_⟩
    cases hd : wholeV 1 30 d with
    | false =>
      refine iteT (no ?_ H (Same.refl _))
      cases d with
      | int dd => show (wholeV 1 30 (.int dd) && _ && _ && _) = false; rw [hd]; rfl
      | _ => rfl
    | true =>
      obtain ⟨dd, rfl⟩ : ∃ dd, d = .int dd := by
        cases d with
        | int n => exact ⟨n, rfl⟩
        | _ => cases hd
      have bd : 1 ≤ dd ∧ dd ≤ 30 := of_decide_eq_true hd
      have R1 : RowsAt H lh th (hs.map id) := by rw [List.map_id]; exact r1
      have thl : th.length = hs.length := by rw [r1.len]
      have eY : yearB H (.int dd) (.ref lh) (.ref ll) (.ref lr) = (headsB H (.ref lh) && limsB H dd (nsOf H (.ref lh)) (.ref ll) && rulesB H dd (nsOf H (.ref lh)) (.ref lr)) := by
        show (wholeV 1 30 (.int dd) && _ && _ && _) = _
        rw [hd, Bool.true_and]
      have eHd : headsB H (.ref lh) = (decide (1 ≤ ((th.map V.ref).length : Int) ∧ ((th.map V.ref).length : Int) ≤ 8) && headsGo H [] (th.map V.ref)) := by unfold headsB; rw [lst_of r1.1]
      refine iteF ⟨_, rfl, lh, th, hs, 8, 2, rfl, r1, w1, fun H1 s1 => ⟨_, rfl, ?_⟩⟩
      by_cases h8 : (th.length : Int) ≤ 8
      · rw [decide_eq_true h8]
        refine iteF ⟨_, rfl, (by show 0 ≤ sizeLine; decide), fun A0 H2 s2 n2 h2 => ?_⟩
        have S2 := s1.trans s2
        refine ⟨lh, A0, th.map V.ref, rfl, rfl, SqL.of (S2 _ _ r1.1), SqL.of h2, _, rfl, ?_⟩
        by_cases he : th.map V.ref = []
        · rw [decide_eq_true he]
          exact iteT (no (by rw [eY, eHd, he]; rfl) _ S2)
        · rw [decide_eq_false he]
          have hne : 1 ≤ th.length := by
            cases th with
            | nil => exact absurd rfl he
            | cons a as => exact Nat.succ_le_succ (Nat.zero_le _)
          have eHd2 : headsB H (.ref lh) = headsGo H [] (th.map V.ref) := by
            rw [eHd, List.length_map, decide_eq_true ⟨by omega, h8⟩, Bool.true_and]
          refine iteF ⟨(by show 1 ≤ sizeLine; decide), fun A2 H3 s3 n3 h3 => ?_⟩
          have S3 := S2.trans s3
          have hA : H A2 = none := by
            cases e : H A2 with
            | none => rfl
            | some o => rw [S2 _ _ e] at n3; cases n3
          refine ⟨_, rfl, lh, rfl, ⟨_, SqL.of (S3 _ _ r1.1)⟩, for_list (K := K) (a := lh) (xs := th.map V.ref) (fun i σ H' => ∃ (ahead : List Str) (v6 v7 : Option V), σ = [some (.ref q), some (.int dd), some (.ref lh), some (.ref ll), some (.ref lr), some (.ref A2), v6, v7, none, none, none, none, none, none, none, none, none, none] ∧ Same H H' ∧ H' A2 = some (.lst (((("" : Str) :: ahead)).map V.str)) ∧ ahead = ((th.map V.ref).take i).map (nmOf H) ∧ headsGo H [] (th.map V.ref) = headsGo H ahead ((th.map V.ref).drop i))
            ⟨[], none, none, rfl, S3, h3, rfl, rfl⟩ (fun i σ H' _ ⟨_, _, _, _, s4, _⟩ => SqL.of (s4 _ _ r1.1)) ?_ ?_⟩
          · rintro i x σ H4 hi ⟨ahead, v6, v7, rfl, s4, a4, ea, eg⟩
            have hi8 : i < (th.map V.ref).length := (List.getElem?_eq_some_iff.mp hi).1
            have ed : (th.map V.ref).drop i = x :: (th.map V.ref).drop (i + 1) := by
              rw [List.drop_eq_getElem_cons hi8]
              congr 1
              exact (List.getElem?_eq_some_iff.mp hi).2
            rw [ed, headsGo] at eg
            have em : ahead ++ [nmOf H x] = ((th.map V.ref).take (i + 1)).map (nmOf H) := by
              rw [take_more hi, List.map_append, ea]
              rfl
            have al : ahead.length ≤ 8 := by
              rw [ea, List.length_map, List.length_take, List.length_map]
              omega
            obtain ⟨t, r, rfl, hr1, ht, _⟩ := row_get R1 hi
            have hrm := List.mem_of_getElem? hr1
            obtain ⟨nm, up, rfl⟩ : ∃ a b, r = [a, b] := match r, w1 r hrm with | [a, b], _ => ⟨a, b, rfl⟩
            have tn := i1 _ hrm nm (by simp)
            have tp := i1 _ hrm up (by simp)
            have et : tupOf H (.ref t) = some [nm, up] := tup_of ht
            have eH : headB H ahead (.ref t) = (wordV nm && !decide (nm ∈ ahead.map V.str) && (decide (up = .str "") || decide (up ∈ ahead.map V.str))) := by unfold headB; rw [et]
            have bad : headB H ahead (.ref t) = false → ∀ H', Same H H' → Q (.bl false) H' := fun q => no (by rw [eY, eHd2, eg, q]; rfl)
            refine ⟨t, _, rfl, SqT.of (s4 _ _ ht), rfl, _, _, rfl, _, _, rfl, rfl, ?_⟩
            refine ⟨_, rfl, nm, rfl, tn.th.same s4, fun H5 s5 => ⟨_, rfl, ?_⟩⟩
            have S5 := s4.trans s5
            cases hw : wordV nm with
            | false => exact iteT (bad (by rw [eH, hw]; rfl) _ S5)
            | true =>
              obtain ⟨z, rfl⟩ : ∃ z, nm = .str z := by
                cases nm with
                | str z => exact ⟨z, rfl⟩
                | _ => cases hw
              have zne : z ≠ "" := fun e => by rw [e] at hw; exact absurd hw (by decide +kernel)
              refine iteF ⟨_, rfl, _, rfl, A2, ("" : Str) :: ahead, rfl, s5 _ _ a4, tn.same S5, _, rfl, ?_⟩
              show if decide (V.str z ∈ ((("" : Str) :: ahead)).map V.str) = true then _ else _
              have ein : decide (V.str z ∈ ((("" : Str) :: ahead)).map V.str) = decide (V.str z ∈ ahead.map V.str) := by
                rw [Bool.eq_iff_iff, decide_eq_true_iff, decide_eq_true_iff, List.map_cons, List.mem_cons]
                exact ⟨fun h => h.elim (fun e => absurd (by injection e) zne) id, .inr⟩
              rw [ein]
              by_cases hin : V.str z ∈ ahead.map V.str
              · rw [decide_eq_true hin]
                exact iteT (bad (by rw [eH, hw, decide_eq_true hin]; rfl) _ S5)
              · rw [decide_eq_false hin]
                refine iteF ⟨_, rfl, _, rfl, A2, ("" : Str) :: ahead, rfl, s5 _ _ a4, tp.same S5, _, rfl, ?_⟩
                show if (!decide (up ∈ ((("" : Str) :: ahead)).map V.str)) = true then _ else _
                have eup : decide (up ∈ ((("" : Str) :: ahead)).map V.str) = (decide (up = .str "") || decide (up ∈ ahead.map V.str)) := by
                  rw [Bool.eq_iff_iff, Bool.or_eq_true, decide_eq_true_iff, decide_eq_true_iff, decide_eq_true_iff, List.map_cons, List.mem_cons]
                rw [eup]
                have eH2 : headB H ahead (.ref t) = (decide (up = .str "") || decide (up ∈ ahead.map V.str)) := by rw [eH, hw, decide_eq_false hin]; rfl
                rw [← eH2]
                cases hb : headB H ahead (.ref t) with
                | false => exact iteT (bad hb _ S5)
                | true =>
                  refine iteF ⟨_, rfl, .inl ⟨rfl, _, SqL.of (s5 _ _ a4)⟩, _, rfl, A2, _, _, rfl, rfl, s5 _ _ a4, ?_, ahead ++ [z], _, _, rfl, fun b o e => ?_, ?_, ?_, ?_⟩
                  · rw [List.length_map, List.length_cons]; omega
                  · rw [upd_ne (ne_of_none e hA)]
                    exact S5 _ _ e
                  · rw [upd_same, List.map_cons, List.map_cons, List.map_append]
                    rfl
                  · rw [← em]
                    congr 2
                    unfold nmOf
                    rw [et]
                  · rw [eg, hb, Bool.true_and]
                    congr 2
                    unfold nmOf
                    rw [et]
          · rintro σ H4 ⟨ns, v6, v7, rfl, s4, a4, ea, eg⟩
            rw [List.drop_length] at eg
            rw [List.take_length] at ea
            have eN : nsOf H (.ref lh) = ns := by unfold nsOf; rw [lst_of r1.1, ea]
            rw [eHd2, eg, show headsGo H ns [] = true from rfl, eN, Bool.true_and] at eY
            have eL : limsB H dd ns (.ref ll) = (decide (0 ≤ ((tl.map V.ref).length : Int) ∧ ((tl.map V.ref).length : Int) ≤ 6) && (tl.map V.ref).all (limB H dd ns)) := by unfold limsB; rw [lst_of r2.1]
            have eR : rulesB H dd ns (.ref lr) = (decide (0 ≤ ((tr.map V.ref).length : Int) ∧ ((tr.map V.ref).length : Int) ≤ 4) && (tr.map V.ref).all (rulB H dd ns) && ns.all (oneB H (tr.map V.ref))) := by unfold rulesB; rw [lst_of r3.1]
            refine ⟨_, rfl, ll, tl, ls, 6, 4, rfl, r2.same s4, w2, fun H5 s5 => ⟨_, rfl, ?_⟩⟩
            have S5 := s4.trans s5
            by_cases h6 : (tl.length : Int) ≤ 6
            · rw [decide_eq_true h6]
              refine iteF ⟨_, rfl, lr, tr, rs, 4, 4, rfl, r3.same S5, w3, fun H6 s6 => ⟨_, rfl, ?_⟩⟩
              have S6 := S5.trans s6
              by_cases h4 : (tr.length : Int) ≤ 4
              · rw [decide_eq_true h4]
                rw [List.length_map, decide_eq_true ⟨by omega, h6⟩, Bool.true_and] at eL
                rw [List.length_map, decide_eq_true ⟨by omega, h4⟩, Bool.true_and] at eR
                rw [eL, eR] at eY
                have R2 : RowsAt H ll tl (ls.map id) := by rw [List.map_id]; exact r2
                have R3 : RowsAt H lr tr (rs.map id) := by rw [List.map_id]; exact r3
                refine iteF ?_
                refine ⟨_, rfl, ll, rfl, ⟨_, SqL.of (S6 _ _ r2.1)⟩, for_list (K := K) (a := ll) (xs := tl.map V.ref) (fun i σ H' => ∃ (v6 v7 v8 v9 v10 v11 v12 : Option V), σ = [some (.ref q), some (.int dd), some (.ref lh), some (.ref ll), some (.ref lr), some (.ref A2), v6, v7, v8, v9, v10, v11, v12, none, none, none, none, none] ∧ Same H H' ∧ H' A2 = some (.lst (((("" : Str) :: ns)).map V.str)) ∧ (tl.map V.ref).all (limB H dd ns) = ((tl.map V.ref).drop i).all (limB H dd ns))
                  ⟨_, _, none, none, none, none, none, rfl, S6, s6 _ _ (s5 _ _ a4), rfl⟩ (fun i σ H' _ ⟨_, _, _, _, _, _, _, _, s7, _⟩ => SqL.of (s7 _ _ r2.1)) ?_ ?_⟩
                · rintro i x σ H7 hi ⟨v6, v7, v8, v9, v10, v11, v12, rfl, s7, a7, eg2⟩
                  have hi8 : i < (tl.map V.ref).length := (List.getElem?_eq_some_iff.mp hi).1
                  have ed : (tl.map V.ref).drop i = x :: (tl.map V.ref).drop (i + 1) := by
                    rw [List.drop_eq_getElem_cons hi8]
                    congr 1
                    exact (List.getElem?_eq_some_iff.mp hi).2
                  rw [ed, List.all_cons] at eg2
                  obtain ⟨t, r, rfl, hr1, ht, _⟩ := row_get R2 hi
                  have hrm := List.mem_of_getElem? hr1
                  obtain ⟨hd', f', l', m', rfl⟩ := l4 (w2 r hrm)
                  have t1 := i2 _ hrm hd' (by simp)
                  have t2 := i2 _ hrm f' (by simp)
                  have t3 := i2 _ hrm l' (by simp)
                  have t4 := i2 _ hrm m' (by simp)
                  have eB := limB_is (d := dd) (ns := ns) (tup_of ht)
                  have bad : limB H dd ns (.ref t) = false → ∀ H', Same H H' → Q (.bl false) H' := fun q => no (by rw [eY, eg2, q]; rfl)
                  refine ⟨t, _, rfl, SqT.of (s7 _ _ ht), rfl, _, _, rfl, _, _, rfl, _, _, rfl, _, _, rfl, rfl, ?_⟩
                  refine ⟨_, rfl, _, rfl, _, rfl, A2, _, rfl, SqL.of a7, fun p H8 s8 n8 h8' => ?_⟩
                  have h8 : H8 p = some (.lst (ns.map V.str)) := by rw [h8', List.map_cons, cut_drop1]
                  have S8 := s7.trans s8
                  have a8 := s8 _ _ a7
                  refine ⟨p, ns, rfl, h8, t1.same S8, _, rfl, ?_⟩
                  show if decide (hd' ∈ ns.map V.str) = true then _ else _
                  by_cases hin : hd' ∈ ns.map V.str
                  · rw [decide_eq_true hin]
                    refine iteT ⟨_, rfl, _, rfl, f', 1, dd, rfl, t2.th.same S8, _, rfl, ?_⟩
                    cases hf : wholeV 1 dd f' with
                    | false => exact iteF ⟨_, rfl, _, rfl, iteT (bad (by rw [eB, hf]; simp) _ S8)⟩
                    | true =>
                      obtain ⟨n, rfl⟩ : ∃ n, f' = .int n := by
                        cases f' with
                        | int n => exact ⟨n, rfl⟩
                        | _ => cases hf
                      refine iteT ⟨_, rfl, _, rfl, _, rfl, l', n, dd, rfl, t3.th.same S8, ?_⟩
                      have ef : fromV dd l' (.int n) = wholeV n dd l' := rfl
                      cases hl : wholeV n dd l' with
                      | false => exact ⟨_, rfl, _, rfl, iteT (bad (by rw [eB, ef, hl]; simp) _ S8)⟩
                      | true =>
                        refine ⟨_, rfl, _, rfl, iteF ⟨_, rfl, _, _, rfl, rfl, ⟨by decide, by decide, by decide⟩, m', 0, 1000000000000000, rfl, t4.th.same S8, _, rfl, ?_⟩⟩
                        cases hm : wholeV 0 1000000000000000 m' with
                        | false => exact iteT (bad (by rw [eB, hm]; simp) _ S8)
                        | true => exact iteF ⟨_, _, _, _, _, _, _, rfl, S8, a8, by rw [eg2, eB, ef, decide_eq_true hin, hf, hl, hm]; rfl⟩
                  · rw [decide_eq_false hin]
                    exact iteF ⟨_, rfl, _, rfl, iteT (bad (by rw [eB, decide_eq_false hin]; rfl) _ S8)⟩
                · rintro σ H7 ⟨v6, v7, v8, v9, v10, v11, v12, rfl, s7, a7, eg2⟩
                  rw [List.drop_length] at eg2
                  rw [eg2, show ([] : List V).all (limB H dd ns) = true from rfl, Bool.true_and] at eY
                  refine ⟨_, rfl, lr, rfl, ⟨_, SqL.of (s7 _ _ r3.1)⟩, for_list (K := K) (a := lr) (xs := tr.map V.ref) (fun i σ H' => ∃ (v6 v7 v8 v9 v10 v11 v12 v13 v14 v15 v16 : Option V), σ = [some (.ref q), some (.int dd), some (.ref lh), some (.ref ll), some (.ref lr), some (.ref A2), v6, v7, v8, v9, v10, v11, v12, v13, v14, v15, v16, none] ∧ Same H H' ∧ H' A2 = some (.lst (((("" : Str) :: ns)).map V.str)) ∧ ∀ x ∈ (tr.map V.ref).take i, rulB H dd ns x = true ∧ amoGo 0 1 ((tr.map V.ref).filterMap (prOne H (rwOf H x).1)) = true)
                    ⟨_, _, _, _, _, _, _, none, none, none, none, rfl, s7, a7, fun x hx => nomatch hx⟩ (fun i σ H' _ ⟨_, _, _, _, _, _, _, _, _, _, _, _, s9, _⟩ => SqL.of (s9 _ _ r3.1)) ?_ ?_⟩
                  · rintro i x σ H9 hi ⟨v6, v7, v8, v9, v10, v11, v12, v13, v14, v15, v16, rfl, s9, a9, ih⟩
                    have hxm := List.mem_of_getElem? hi
                    obtain ⟨t, r, rfl, hr1, ht, _⟩ := row_get R3 hi
                    have hrm := List.mem_of_getElem? hr1
                    obtain ⟨hd', p', w', u', rfl⟩ := l4 (w3 r hrm)
                    have t1 := i3 _ hrm hd' (by simp)
                    have t2 := i3 _ hrm p' (by simp)
                    have t3 := i3 _ hrm w' (by simp)
                    have t4 := i3 _ hrm u' (by simp)
                    have et : tupOf H (.ref t) = some [hd', p', w', u'] := tup_of ht
                    have eB := rulB_is (d := dd) (ns := ns) et
                    have bad : rulB H dd ns (.ref t) = false → ∀ H', Same H H' → Q (.bl false) H' := fun q => no (by
                      rw [eY]
                      rw [show (tr.map V.ref).all (rulB H dd ns) = false from by
                        rw [List.all_eq_false]
                        exact ⟨_, hxm, by rw [q]; exact Bool.false_ne_true⟩]
                      rfl)
                    refine ⟨t, _, rfl, SqT.of (s9 _ _ ht), rfl, _, _, rfl, _, _, rfl, _, _, rfl, _, _, rfl, rfl, ?_⟩
                    refine ⟨_, rfl, _, rfl, _, rfl, A2, _, rfl, SqL.of a9, fun p H8 s8 n8 h8' => ?_⟩
                    have h8 : H8 p = some (.lst (ns.map V.str)) := by rw [h8', List.map_cons, cut_drop1]
                    have S8 := s9.trans s8
                    have a8 := s8 _ _ a9
                    refine ⟨p, ns, rfl, h8, t1.same S8, _, rfl, ?_⟩
                    show if decide (hd' ∈ ns.map V.str) = true then _ else _
                    by_cases hin : hd' ∈ ns.map V.str
                    · rw [decide_eq_true hin]
                      refine iteT ⟨_, rfl, w', 1, 1000, rfl, t3.th.same S8, _, rfl, ?_⟩
                      cases hf : wholeV 1 1000 w' with
                      | false => exact iteF ⟨_, rfl, _, rfl, iteT (bad (by rw [eB, hf]; simp) _ S8)⟩
                      | true =>
                        obtain ⟨n, rfl⟩ : ∃ n, w' = .int n := by
                          cases w' with
                          | int n => exact ⟨n, rfl⟩
                          | _ => cases hf
                        refine iteT ⟨_, rfl, _, rfl, p', 0, n, rfl, t2.th.same S8, ?_⟩
                        have ef : toV p' (.int n) = wholeV 0 n p' := rfl
                        cases hl : wholeV 0 n p' with
                        | false => exact ⟨_, rfl, _, rfl, iteT (bad (by rw [eB, ef, hl]; simp) _ S8)⟩
                        | true =>
                          refine ⟨_, rfl, _, rfl, iteF ⟨_, rfl, _, rfl, _, _, rfl, rfl, u', 2, dd + 1, rfl, t4.th.same S8, _, rfl, ?_⟩⟩
                          cases hm : wholeV 2 (dd + 1) u' with
                          | false => exact iteT (bad (by rw [eB, hm]; simp) _ S8)
                          | true =>
                            have hB : rulB H dd ns (.ref t) = true := by rw [eB, ef, decide_eq_true hin, hf, hl, hm]; rfl
                            obtain ⟨z, hzn, rfl⟩ := List.mem_map.mp hin
                            have ez : (rwOf H (.ref t)).1 = z := by
                              obtain ⟨t', r', e1, e2, _, e4⟩ := rul_row hB
                              injection e1 with e1
                              subst e1
                              rw [ht] at e2
                              injection e2 with e2
                              injection e2 with e2
                              injection e2 with e2 _
                              injection e2 with e2
                              rw [e4, ← e2]
                            refine iteF ?_
                            have prTh : ∀ p ∈ (tr.map V.ref).filterMap (prOne H z), Th H p.1 ∧ Th H p.2 := by
                              intro pp hp
                              obtain ⟨x, hx, e⟩ := List.mem_filterMap.mp hp
                              obtain ⟨j, hj⟩ := List.getElem?_of_mem hx
                              obtain ⟨t2, r2', rfl, hr2, ht2, _⟩ := row_get R3 hj
                              have hm2 := List.mem_of_getElem? hr2
                              obtain ⟨h2, p2, w2', u2, rfl⟩ := l4 (w3 _ hm2)
                              have e2 : (if h2 = .str z then some (p2, w2') else none) = some pp := by
                                have et2 : tupOf H (.ref t2) = some [h2, p2, w2', u2] := tup_of ht2
                                unfold prOne at e
                                rw [et2] at e
                                exact e
                              by_cases c : h2 = .str z
                              · rw [if_pos c] at e2
                                cases e2
                                exact ⟨(i3 _ hm2 p2 (by simp)).th, (i3 _ hm2 w2' (by simp)).th⟩
                              · rw [if_neg c] at e2
                                cases e2
                            have trl : tr.length ≤ 4 := by omega
                            refine ⟨_, rfl, lr, rfl, ⟨_, SqL.of (S8 _ _ r3.1)⟩, fun D hD => lc_it (walk_list (xs := tr.map V.ref)) (fun j H' => Same H8 H' ∧ ∃ ts, H' D = some (.lst (ts.map V.ref)) ∧ Paired (fun t r => H' t = some (.tup r)) ts ((((tr.map V.ref).take j).filterMap (prOne H z)).map pv2)) ⟨same_new hD, [], upd_same, .nil⟩ (fun j H' _ p => SqL.of (p.1 _ _ (S8 _ _ r3.1))) ?_ ?_⟩
                            · rintro j y Ha Hb hj ⟨sa, ts, hD2, pr⟩ ⟨rfl, hy⟩
                              obtain ⟨t2, r2', rfl, hr2, ht2, _⟩ := row_get R3 hy
                              have hm2 := List.mem_of_getElem? hr2
                              obtain ⟨h2, p2, w2', u2, rfl⟩ := l4 (w3 _ hm2)
                              have et2 : tupOf H (.ref t2) = some [h2, p2, w2', u2] := tup_of ht2
                              have ep : prOne H z (.ref t2) = if h2 = .str z then some (p2, w2') else none := by unfold prOne; rw [et2]
                              have q2 := sa _ _ (S8 _ _ ht2)
                              have lts : ts.length ≤ 4 := by
                                rw [pr.length, List.length_map]
                                refine Nat.le_trans (List.length_filterMap_le _ _) ?_
                                rw [List.length_take, List.length_map]
                                omega
                              refine ⟨rfl, ⟨_, rfl, t2, _, 0, h2, rfl, rfl, SqT.of q2, rfl, _, rfl, .inl ⟨⟨z, rfl⟩, ((i3 _ hm2 h2 (by simp)).th.same S8).same sa⟩, _, rfl, ?_⟩⟩
                              show if decide (h2 = V.str z) = true then _ else _
                              by_cases c : h2 = V.str z
                              · rw [decide_eq_true c]
                                rw [if_pos c] at ep
                                refine iteT ⟨_, rfl, t2, _, 1, p2, rfl, rfl, SqT.of q2, rfl, _, rfl, t2, _, 2, w2', rfl, rfl, SqT.of q2, rfl, (by show 2 ≤ sizeLine; decide), fun pn Hc sc nc hc => ?_⟩
                                have hDc := sc _ _ hD2
                                refine ⟨_, hDc, (by rw [List.length_map]; omega), fun b o e => ?_, ts ++ [pn], ?_, ?_⟩
                                · rw [upd_ne (ne_of_none e hD)]
                                  exact sc _ _ (sa _ _ e)
                                · rw [upd_same, List.map_append]
                                  rfl
                                · rw [take_more hy, List.filterMap_append, List.map_append, List.filterMap_cons_some ep]
                                  have ne : ∀ (a : Addr) (r : List V), Hc a = some (.tup r) → upd Hc D (.lst (ts.map V.ref ++ [V.ref pn])) a = some (.tup r) := fun a r e => by
                                    rw [upd_ne (fun z => by rw [z, hDc] at e; cases e)]
                                    exact e
                                  exact (pr.mono fun a r e => ne a r (sc _ _ e)).snoc (ne _ _ hc)
                              · rw [decide_eq_false c]
                                rw [if_neg c] at ep
                                refine iteF ⟨sa, ts, hD2, ?_⟩
                                rw [take_more hy, List.filterMap_append, List.filterMap_cons_none ep, List.filterMap_nil, List.append_nil]
                                exact pr
                            · rintro Ha ⟨sa, ts, hD2, pr⟩
                              rw [List.take_length] at pr
                              have Sa := S8.trans sa
                              refine ⟨_, rfl, D, ts, _, rfl, ⟨hD2, pr⟩, fun p hp => ⟨(prTh p hp).1.same Sa, (prTh p hp).2.same Sa⟩, fun Hb sb => ⟨_, rfl, ?_⟩⟩
                              have Sb := Sa.trans sb
                              cases hamo : amoGo 0 1 ((tr.map V.ref).filterMap (prOne H z)) with
                              | false =>
                                refine iteT (no ?_ _ Sb)
                                rw [eY]
                                cases hall : (tr.map V.ref).all (rulB H dd ns) with
                                | false => rfl
                                | true =>
                                  rw [Bool.true_and, List.all_eq_false]
                                  refine ⟨z, hzn, ?_⟩
                                  rw [amo_fr hall] at hamo
                                  have : oneB H (tr.map V.ref) z = false := hamo
                                  rw [this]
                                  exact Bool.false_ne_true
                              | true =>
                                refine iteF ⟨_, _, _, _, _, _, _, _, _, _, _, rfl, Sb, sb _ _ (sa _ _ a8), fun x hx => ?_⟩
                                rw [take_more hi, List.mem_append] at hx
                                rcases hx with hx | hx
                                · exact ih x hx
                                · rw [List.mem_singleton] at hx
                                  rw [hx, ez]
                                  exact ⟨hB, hamo⟩
                    · rw [decide_eq_false hin]
                      exact iteF ⟨_, rfl, _, rfl, iteT (bad (by rw [eB, decide_eq_false hin]; rfl) _ S8)⟩
                  · rintro σ H9 ⟨v6, v7, v8, v9, v10, v11, v12, v13, v14, v15, v16, rfl, s9, a9, ih⟩
                    rw [List.take_length] at ih
                    have ha : (tr.map V.ref).all (rulB H dd ns) = true := List.all_eq_true.mpr fun x hx => (ih x hx).1
                    have ho : ns.all (oneB H (tr.map V.ref)) = true := List.all_eq_true.mpr fun z _ => by
                      by_cases hz : ∃ x ∈ tr.map V.ref, (rwOf H x).1 = z
                      · obtain ⟨x, hx, rfl⟩ := hz
                        have := (ih x hx).2
                        rw [amo_fr ha] at this
                        exact this
                      · have e : fr ((tr.map V.ref).map (rwOf H)) z = (0, 1) := fr_no fun r hr => by
                          obtain ⟨x, hx, rfl⟩ := List.mem_map.mp hr
                          exact fun q => hz ⟨x, hx, q⟩
                        unfold oneB
                        rw [e]
                        rfl
                    have := k H9 s9
                    rw [eY, ha, ho] at this
                    exact this
              · rw [decide_eq_false h4]
                exact iteT (no (by rw [eY, eR, List.length_map, decide_eq_false (fun z => h4 z.2)]; simp) _ S6)
            · rw [decide_eq_false h6]
              exact iteT (no (by rw [eY, eL, List.length_map, decide_eq_false (fun z => h6 z.2)]; rfl) _ S5)
      · rw [decide_eq_false h8]
        refine iteT (no ?_ _ s1)
        rw [eY, eHd, List.length_map, decide_eq_false (fun z => h8 z.2)]
        rfl
end
end KP
namespace KP
open PySem L2 KD
abbrev sChg : Stmt := top 56
abbrev nChg : List Str := ["_law_well_here", "_law_parts_here", "_law_found", "_law_which", "_law_pool", "_law_rows_here", "_law_row", "_law_some", "_law_at", "_law_lot", "_law_to", "_law_place"]
theorem scChg : FnScope nChg ["_law_well_here", "_law_parts_here"] (defScope sChg) := ⟨rfl, rfl, rfl, by decide +kernel, rfl, by decide +kernel, by decide +kernel⟩

/-! ### the parts of a year that may be none: three lists of rows of anything -/
def IsL (H : Hp) (a : Addr) : Prop := ∃ xs, H a = some (.lst xs)
theorem WellAt.isL {H : Hp} {a : Addr} (h : WellAt H a) : IsL H a := by
  obtain ⟨x, y, z, e⟩ := h
  exact ⟨_, e⟩
theorem Ti.sameL {H H' : Hp} {b : Addr} {v : V} (t : Ti H v) (i : IsL H' b) (s : SameB b H H') : Ti H' v := by
  cases t with
  | non => exact .non
  | bl b => exact .bl b
  | int i => exact .int i
  | str x h => exact .str x h
  | @lst a xs h =>
    by_cases e : a = b
    · subst e
      obtain ⟨_, e⟩ := i
      exact .lst e
    · exact .lst (s _ _ h e)
  | @tup a xs h =>
    by_cases e : a = b
    · subst e
      obtain ⟨_, e⟩ := i
      exact .lst e
    · exact .tup (s _ _ h e)
theorem It.sameL {n : Nat} {H H' : Hp} {b : Addr} {v : V} (h : It n H v) (i : IsL H' b) (s : SameB b H H') : It n H' v := ⟨Ti.sameL h.1 i s, h.2⟩
def RowOk (n wd : Nat) (H : Hp) (v : V) : Prop := ∃ t r, v = .ref t ∧ H t = some (.tup r) ∧ r.length = wd ∧ ∀ x ∈ r, It n H x
def RowsOk (n wd m : Nat) (H : Hp) (l : Addr) : Prop := ∃ xs, H l = some (.lst xs) ∧ xs.length ≤ m ∧ ∀ v ∈ xs, RowOk n wd H v
theorem RowOk.sameL {n wd : Nat} {H H' : Hp} {b : Addr} {v : V} (h : RowOk n wd H v) (i : IsL H b) (i' : IsL H' b) (s : SameB b H H') : RowOk n wd H' v := by
  obtain ⟨t, r, rfl, ht, hl, hi⟩ := h
  refine ⟨t, r, rfl, s _ _ ht (fun e => ?_), hl, fun x hx => (hi x hx).sameL i' s⟩
  subst e
  obtain ⟨_, e⟩ := i
  rw [ht] at e
  cases e
theorem RowOk.same {n wd : Nat} {H H' : Hp} {v : V} (h : RowOk n wd H v) (s : Same H H') : RowOk n wd H' v := by
  obtain ⟨t, r, rfl, ht, hl, hi⟩ := h
  exact ⟨t, r, rfl, s _ _ ht, hl, fun x hx => (hi x hx).same s⟩
theorem RowOk.up {n n' wd : Nat} {H : Hp} {v : V} (h : RowOk n wd H v) (l : n ≤ n') : RowOk n' wd H v := by
  obtain ⟨t, r, rfl, ht, hl, hi⟩ := h
  exact ⟨t, r, rfl, ht, hl, fun x hx => (hi x hx).up l⟩
theorem RowsOk.sameL {n wd m : Nat} {H H' : Hp} {b l : Addr} (h : RowsOk n wd m H l) (i : IsL H b) (i' : IsL H' b) (ne : l ≠ b) (s : SameB b H H') : RowsOk n wd m H' l := by
  obtain ⟨xs, hl, hm, hr⟩ := h
  exact ⟨xs, s _ _ hl ne, hm, fun v hv => (hr v hv).sameL i i' s⟩
theorem RowsOk.same {n wd m : Nat} {H H' : Hp} {l : Addr} (h : RowsOk n wd m H l) (s : Same H H') : RowsOk n wd m H' l := by
  obtain ⟨xs, hl, hm, hr⟩ := h
  exact ⟨xs, s _ _ hl, hm, fun v hv => (hr v hv).same s⟩
theorem RowsOk.up {n n' wd m m' : Nat} {H : Hp} {l : Addr} (h : RowsOk n wd m H l) (hn : n ≤ n') (hm' : m ≤ m') : RowsOk n' wd m' H l := by
  obtain ⟨xs, hl, hm, hr⟩ := h
  exact ⟨xs, hl, by omega, fun v hv => (hr v hv).up hn⟩
theorem RowsOk.neW {n wd m : Nat} {H : Hp} {b l : Addr} (h : RowsOk n wd m H l) (w : WellAt H b) : l ≠ b := fun e => by
  subst e
  obtain ⟨xs, hl, _, hr⟩ := h
  obtain ⟨x, y, z, e⟩ := w
  rw [hl] at e
  injection e with e
  injection e with e
  subst e
  obtain ⟨t, r, e, _⟩ := hr (.int x) (by simp)
  cases e
theorem RowsOk.sameW {n wd m : Nat} {H H' : Hp} {b l : Addr} (h : RowsOk n wd m H l) (w : WellAt H b) (w' : WellAt H' b) (s : SameB b H H') : RowsOk n wd m H' l := h.sameL w.isL w'.isL (h.neW w) s
theorem RowsOk.ne {n wd m : Nat} {H : Hp} {l D : Addr} (h : RowsOk n wd m H l) (hD : H D = none) : l ≠ D := by
  obtain ⟨xs, hl, _⟩ := h
  exact ne_of_none hl hD
def PartsAt (n m : Nat) (H : Hp) (q : Addr) : Prop := ∃ (d : V) (lh ll lr : Addr), H q = some (.lst [d, .ref lh, .ref ll, .ref lr]) ∧ It n H d ∧ RowsOk n 2 m H lh ∧ RowsOk n 4 m H ll ∧ RowsOk n 4 m H lr
def spChg : Sp := fun vs H Q _ => ∃ (b q : Addr) (n m : Nat), vs = [.ref b, .ref q] ∧ WellAt H b ∧ PartsAt n m H q ∧ 8 ≤ n ∧ n ≤ 1000 ∧ m ≤ 20 ∧
  ∀ (q' : Addr) (H' : Hp), WellAt H' b → PartsAt (2 * n + 1) (m + 1) H' q' → SameB b H H' → Q (.ref q') H'
theorem ixN_natC {n m : Nat} (h : m < n) : ixN n (m : Int) = some m := by
  unfold ixN
  rw [if_pos (by omega), if_pos (by omega)]
  rfl
def wdOf (wh : Int) : Nat := if wh = 1 then 2 else 4
theorem same_none {H H' : Hp} {a : Addr} (s : Same H H') (h : H' a = none) : H a = none := by
  cases e : H a with
  | none => rfl
  | some o => rw [s _ _ e] at h; cases h
theorem set_L {H : Hp} {S : Addr} {xs : List V} : IsL (upd H S (.lst xs)) S := ⟨_, upd_same⟩
theorem set_B {H : Hp} {S : Addr} {o : HO} : SameB S H (upd H S o) := fun b u e nb => by rw [upd_ne nb]; exact e
section
variable {P : Program} {w : World} {K : PySem.W.Frag} {mg : Str → Option Value} {base : Heap}
theorem c_changed (B : Base K mg) (Dr : Cal P w K mg base 1 "_law_draw" spDraw) (Tg : Cal P w K mg base 2 "_law_thing" spThing) (D : DefT K mg "_law_changed" sChg ["_law_well_here", "_law_parts_here"]) : Cal P w K mg base 3 "_law_changed" spChg := by
  refine cal D scChg (fun vs H Q E h => ?_) (fun f cdv A outer s H vs Q E hr h => ?_)
  · obtain ⟨b, q, n, m, rfl, _⟩ := h
    rfl
  · obtain ⟨b, q, n, m, rfl, wb, ⟨d, lh, ll, lr, hq, id, r1, r2, r3⟩, n8, nm, mm, k⟩ := h
    have hz : sizeLine = 16777216 := by decide
    refine ⟨_, (pss_cons (ps_set (i := 2) scChg.nd rfl (by first | exact Or.inl rfl | exact Or.inr rfl) (pe_callTy call_listW (by rfl) B.list (by decide +kernel) (pa_cons (pv 1) pa_nil)))
        (pss_cons (ps_set (i := 3) scChg.nd rfl (by first | exact Or.inl rfl | exact Or.inr rfl) (pe_op op_mod (pe_cl Dr hr (by decide) (by rfl) (pa_cons (pv 0) (pa_cons pe_int pa_nil))) pe_int))
        (pss_cons (ps_set (i := 4) scChg.nd rfl (by first | exact Or.inl rfl | exact Or.inr rfl) (pe_lstW (pa_cons (pe_ix ix_list (pv 1) pe_int (fun _ _ => rfl)) pa_nil)))
        (pss_cons (ps_for PassesOwn.never rfl (pi_list (pe_slice sl_listW (pv 1) (po_some pe_int) po_none)) (pg_name (i := 5) scChg.nd rfl (by first | exact Or.inl rfl | exact Or.inr rfl)) (pss_one (ps_for PassesOwn.never rfl (pi_list (pv 5)) (pg_name (i := 6) scChg.nd rfl (by first | exact Or.inl rfl | exact Or.inr rfl)) (pss_one (ps_set (i := 4) scChg.nd rfl (by first | exact Or.inl rfl | exact Or.inr rfl) (pe_op op_catLW (pv 4) (pe_callTy call_listW (by rfl) B.list (by decide +kernel) (pa_cons (pv 6) pa_nil))))))))
        (C8.pss_cut (ps_set (i := 7) scChg.nd rfl (by first | exact Or.inl rfl | exact Or.inr rfl) (pe_ifExp (pt_cmpR op_gt (pv 3) pe_int (nomark _)) (pe_callTy call_listW (by rfl) B.list (by decide +kernel) (pa_cons (pe_ix ix_list (pv 1) (pv 3) (fun _ _ => rfl)) pa_nil)) (pe_lstW pa_nil)))
        (C8.pss_cut (ps_if (PW.pt (pw_or (pt_cmpR op_eq (pv 3) pe_int (nomark _)) (pw_or1 (pt_cmpR (op_eqE hr.units) (pv 7) (pe_lstW pa_nil) (nomark _))))) (pss_cons (ps_asg (pe_cl Tg hr (by decide) (by rfl) (pa_cons (pv 0) (pa_cons (pe_ix ix_list (pv 1) pe_int (fun _ _ => rfl)) (pa_cons (pv 4) pa_nil)))) (pg_sub (pv 2) pe_int set_list))
        (pss_one (ps_ret (pv 2)))) pss_nil)
        (pss_cons (ps_set (i := 8) scChg.nd rfl (by first | exact Or.inl rfl | exact Or.inr rfl) (pe_cl Dr hr (by decide) (by rfl) (pa_cons (pv 0) (pa_cons (pe_callB call_len_seq (by rfl) B.len (by decide +kernel) (pa_cons (pv 7) pa_nil)) pa_nil))))
        (pss_cons (ps_set (i := 9) scChg.nd rfl (by first | exact Or.inl rfl | exact Or.inr rfl) (pe_cl Dr hr (by decide) (by rfl) (pa_cons (pv 0) (pa_cons pe_int pa_nil))))
        (pss_cons (ps_set (i := 10) scChg.nd rfl (by first | exact Or.inl rfl | exact Or.inr rfl) (pe_cl Dr hr (by decide) (by rfl) (pa_cons (pv 0) (pa_cons (pe_callB call_len_seq (by rfl) B.len (by decide +kernel) (pa_cons (pv 7) pa_nil)) pa_nil))))
        (C8.pss_cut (ps_if (pt_cmpR op_eq (pv 9) pe_int (nomark _)) (pss_one (ps_expr (pe_bm PySem.F.plainAttrs_list PySem.F.slot_list_pop PySem.F.type_list_pop mt_popAt (pv 7) (pa_cons (pv 8) pa_nil)))) (pss_one (ps_if (pt_cmpR op_eq (pv 9) pe_int (nomark _)) (pss_one (ps_expr (pe_bm PySem.F.plainAttrs_list PySem.F.slot_list_insert PySem.F.type_list_insert mt_insert (pv 7) (pa_cons (pv 10) (pa_cons (pe_ix ix_list (pv 7) (pv 8) (fun _ _ => rfl)) pa_nil))))) (pss_one (ps_if (pt_cmpR op_eq (pv 9) pe_int (nomark _)) (pss_one (ps_asg (pe_tupW (pa_cons (pe_ix ix_list (pv 7) (pv 10) (fun _ _ => rfl)) (pa_cons (pe_ix ix_list (pv 7) (pv 8) (fun _ _ => rfl)) pa_nil))) (pg_tup rfl (pgs_cons (pg_sub (pv 7) (pv 8) set_list) (pgs_cons (pg_sub (pv 7) (pv 10) set_list) pgs_nil))))) (pss_cons (ps_set (i := 6) scChg.nd rfl (by first | exact Or.inl rfl | exact Or.inr rfl) (pe_callTy call_listW (by rfl) B.list (by decide +kernel) (pa_cons (pe_ix ix_list (pv 7) (pv 8) (fun _ _ => rfl)) pa_nil)))
        (pss_cons (ps_set (i := 11) scChg.nd rfl (by first | exact Or.inl rfl | exact Or.inr rfl) (pe_cl Dr hr (by decide) (by rfl) (pa_cons (pv 0) (pa_cons (pe_callB call_len_seq (by rfl) B.len (by decide +kernel) (pa_cons (pv 6) pa_nil)) pa_nil))))
        (pss_cons (ps_asg (pe_cl Tg hr (by decide) (by rfl) (pa_cons (pv 0) (pa_cons (pe_ix ix_list (pv 6) (pv 11) (fun _ _ => rfl)) (pa_cons (pv 4) pa_nil)))) (pg_sub (pv 6) (pv 11) set_list))
        (pss_one (ps_asg (pe_callTy call_tupleW (by rfl) B.tuple (by decide +kernel) (pa_cons (pv 6) pa_nil)) (pg_sub (pv 7) (pv 8) set_list)))))))))))
        (pss_cons (ps_asg (pv 7) (pg_sub (pv 2) (pv 3) set_list))
        (pss_one (ps_ret (pv 2)))))))))))))), ?_⟩
    refine ⟨_, rfl, q, _, rfl, .inl (SqL.of hq), fun F H1 s1 nF hF => ?_⟩
    have nqb : q ≠ b := fun e => by
      subst e
      obtain ⟨x, y, z, e⟩ := wb
      rw [hq] at e
      cases e
    have w1 := wb.same s1
    have nFb : F ≠ b := (wb.ne nF).symm
    refine ⟨_, rfl, b, 9, rfl, w1, by decide, by decide, fun wr H2 wr0 wr1 w2 s2 => ⟨_, _, rfl, rfl, (by show (0 : Int) < 4; decide), ?_⟩⟩
    obtain ⟨wh, hwh⟩ : ∃ wh, wh = wr % 4 := ⟨_, rfl⟩
    have wh0 : 0 ≤ wh := by omega
    have wh4 : wh < 4 := by omega
    have S2 : SameB b H H2 := (SameB.of s1).trans s2
    have q2 := S2 _ _ hq nqb
    have F2 := s2 _ _ hF nFb
    have d2 := id.sameB w2 S2
    have r12 := r1.sameW wb w2 S2
    have r22 := r2.sameW wb w2 S2
    have r32 := r3.sameW wb w2 S2
    refine ⟨_, rfl, q, _, 0, d, rfl, rfl, SqL.of q2, rfl, (by show 1 ≤ sizeLine; decide), fun pl H3 s3 npl hpl => ?_⟩
    refine ⟨_, rfl, _, rfl, q, _, rfl, SqL.of (s3 _ _ q2), fun sl H4 s4 nsl hsl' => ?_⟩
    have hsl : H4 sl = some (.lst [.ref lh, .ref ll, .ref lr]) := by rw [hsl', cut_drop1]
    have S4 : Same H2 H4 := s3.trans s4
    refine ⟨sl, rfl, ⟨_, SqL.of hsl⟩, for_list (K := K) (a := sl) (xs := [.ref lh, .ref ll, .ref lr]) (fun i σ H' => ∃ (pl : Addr) (xs : List V) (v5 v6 : Option V), σ = [some (.ref b), some (.ref q), some (.ref F), some (.int wh), some (.ref pl), v5, v6, none, none, none, none, none] ∧ Same H2 H' ∧ H' sl = some (.lst [.ref lh, .ref ll, .ref lr]) ∧ H2 pl = none ∧ H' pl = some (.lst xs) ∧ xs ≠ [] ∧ xs.length ≤ 1 + 80 * i ∧ ∀ x ∈ xs, It n H' x)
      ⟨pl, _, none, none, (by rw [hwh]; rfl), S4, hsl, npl, s4 _ _ hpl, (by simp), (by simp), fun x hx => by rw [List.mem_singleton.mp hx]; exact d2.same S4⟩ (fun i σ H' _ ⟨_, _, _, _, _, _, h, _⟩ => SqL.of h) ?_ ?_⟩
    · rintro i x σ H5 hi ⟨pl, xs, v5, v6, rfl, s5, hsl5, npl, hpl5, xne, xlen, xit⟩
      obtain ⟨l, wd, rfl, hwd, rl⟩ : ∃ (l : Addr) (wd : Nat), x = .ref l ∧ wd ≤ 4 ∧ RowsOk n wd m H2 l := by
        have mx := List.mem_of_getElem? hi
        simp only [List.mem_cons, List.not_mem_nil, or_false] at mx
        rcases mx with rfl | rfl | rfl
        · exact ⟨lh, 2, rfl, by decide, r12⟩
        · exact ⟨ll, 4, rfl, by decide, r22⟩
        · exact ⟨lr, 4, rfl, by decide, r32⟩
      obtain ⟨ys, hy2, yl, yr⟩ := rl
      refine ⟨_, rfl, l, rfl, ⟨_, SqL.of (s5 _ _ hy2)⟩, for_list (K := K) (a := l) (xs := ys) (fun j σ H' => ∃ (pl : Addr) (xs : List V) (v6 : Option V), σ = [some (.ref b), some (.ref q), some (.ref F), some (.int wh), some (.ref pl), some (.ref l), v6, none, none, none, none, none] ∧ Same H2 H' ∧ H' sl = some (.lst [.ref lh, .ref ll, .ref lr]) ∧ H2 pl = none ∧ H' pl = some (.lst xs) ∧ xs ≠ [] ∧ xs.length ≤ 1 + 80 * i + 4 * j ∧ ∀ x ∈ xs, It n H' x)
        ⟨pl, xs, v6, rfl, s5, hsl5, npl, hpl5, xne, (by omega), xit⟩ (fun j σ H' _ ⟨_, _, _, _, h, _⟩ => SqL.of (h _ _ hy2)) ?_ ?_⟩
      · rintro j y σ H6 hj ⟨pl, xs, v6, rfl, s6, hsl6, npl, hpl6, xne, xlen, xit⟩
        obtain ⟨t, r, rfl, ht, hrl, hri⟩ := yr y (List.mem_of_getElem? hj)
        have hi3 : i < 3 := by
          have := (List.getElem?_eq_some_iff.mp hi).1
          simpa using this
        have hjl := (List.getElem?_eq_some_iff.mp hj).1
        refine ⟨_, rfl, _, rfl, t, _, rfl, .inr (SqT.of (s6 _ _ ht)), fun tl H7 s7 ntl htl => ?_⟩
        refine ⟨pl, tl, _, _, rfl, rfl, s7 _ _ hpl6, htl, (by omega), fun p H8 s8 np hp => ?_⟩
        have S8 := (s6.trans s7).trans s8
        refine ⟨p, _, _, rfl, S8, s8 _ _ (s7 _ _ hsl6), same_none (s6.trans s7) np, hp, (fun z => xne (List.append_eq_nil_iff.mp z).1), (by rw [List.length_append]; omega), fun x hx => ?_⟩
        rcases List.mem_append.mp hx with hx | hx
        · exact (xit x hx).same (s7.trans s8)
        · exact (hri x hx).same S8
      · rintro σ H6 ⟨pl, xs, v6, rfl, s6, hsl6, npl, hpl6, xne, xlen, xit⟩
        exact ⟨pl, xs, _, _, rfl, s6, hsl6, npl, hpl6, xne, (by omega), xit⟩
    · rintro σ H5 ⟨pl, xs, v5, v6, rfl, s5, hsl5, npl, hpl5, xne, xlen, xit⟩
      have xlen' : xs.length ≤ 1000 := by
        have : ([V.ref lh, V.ref ll, V.ref lr] : List V).length = 3 := rfl
        omega
      have w5 := w2.same s5
      have S5 : SameB b H H5 := S2.trans (SameB.of s5)
      have npb : pl ≠ b := (w2.ne npl).symm
      have nFp : F ≠ pl := ne_of_none F2 npl
      have F5 := s5 _ _ F2
      have q5 := s5 _ _ q2
      have r15 := r12.same s5
      have r25 := r22.same s5
      have r35 := r32.same s5
      have d5 := d2.same s5
      refine ⟨fun σ' H' => ∃ S, σ' = [some (.ref b), some (.ref q), some (.ref F), some (.int wh), some (.ref pl), v5, v6, some (.ref S), none, none, none, none] ∧ Same H5 H' ∧ H5 S = none ∧ (wh = 0 ∧ IsL H' S ∨ 1 ≤ wh ∧ RowsOk n (wdOf wh) m H' S), ?_, ?_⟩
      · refine ⟨_, rfl, _, _, rfl, rfl, _, rfl, ite2 (fun c => ?_) (fun c => ?_)⟩
        · have c : 0 < wh := by simpa using c
          obtain ⟨l, hl, rl⟩ : ∃ l, atI [d, .ref lh, .ref ll, .ref lr] wh = some (.ref l) ∧ RowsOk n (wdOf wh) m H5 l := by
            rcases (by omega : wh = 1 ∨ wh = 2 ∨ wh = 3) with rfl | rfl | rfl
            · exact ⟨lh, rfl, r15⟩
            · exact ⟨ll, rfl, r25⟩
            · exact ⟨lr, rfl, r35⟩
          obtain ⟨ys, hy, yl, yr⟩ := rl
          refine ⟨_, rfl, _, rfl, q, _, wh, .ref l, rfl, rfl, SqL.of q5, hl, l, _, rfl, .inl (SqL.of hy), fun S H6 s6 nS hS => ?_⟩
          exact ⟨S, rfl, s6, nS, .inr ⟨(by omega), ys, hS, yl, fun v hv => (yr v hv).same s6⟩⟩
        · have c : ¬ 0 < wh := by simpa using c
          refine ⟨(by show 0 ≤ sizeLine; omega), fun S H6 s6 nS hS => ?_⟩
          exact ⟨S, rfl, s6, nS, .inl ⟨(by omega), _, hS⟩⟩
      · rintro σ H6 ⟨S, rfl, s6, nS, hS⟩
        have w6 := w5.same s6
        have S6 : SameB b H H6 := S5.trans (SameB.of s6)
        have nSb : S ≠ b := (w5.ne nS).symm
        have nFS : F ≠ S := ne_of_none F5 nS
        have nSF : S ≠ F := nFS.symm
        have npS : pl ≠ S := ne_of_none hpl5 nS
        have F6 := s6 _ _ F5
        have q6 := s6 _ _ q5
        have p6 := s6 _ _ hpl5
        have x6 : ∀ x ∈ xs, It n H6 x := fun x hx => (xit x hx).same s6
        have d6 := d5.same s6
        have r16 := r15.same s6
        have r26 := r25.same s6
        have r36 := r35.same s6
        have n1F := (r1.ne nF)
        have n2F := (r2.ne nF)
        have n3F := (r3.ne nF)
        have n1S := (r15.ne nS)
        have n2S := (r25.ne nS)
        have n3S := (r35.ne nS)
        have body : ∀ H7, Same H6 H7 → ∀ (x : V) (H8 : Hp), It (2 * n + 1) H8 x → WellAt H8 b → SameB b H7 H8 → Q (.ref F) (upd H8 F (.lst ([d, .ref lh, .ref ll, .ref lr].set 0 x))) ∧ H8 F = some (.lst [d, .ref lh, .ref ll, .ref lr]) := by
          intro H7 s7 x H8 ix8 w8 s8
          have w7 := w6.same s7
          have e8 : SameB b H6 H8 := (SameB.of s7).trans s8
          have F8 := e8 _ _ F6 nFb
          have iF : IsL H8 F := ⟨_, F8⟩
          refine ⟨k F _ (w8.up nFb.symm) ⟨x, lh, ll, lr, upd_same, ix8.sameL set_L set_B, ?_, ?_, ?_⟩ ?_, F8⟩
          · exact (((r16.sameW w6 w8 e8)).sameL iF set_L n1F set_B).up (by omega) (by omega)
          · exact (((r26.sameW w6 w8 e8)).sameL iF set_L n2F set_B).up (by omega) (by omega)
          · exact (((r36.sameW w6 w8 e8)).sameL iF set_L n3F set_B).up (by omega) (by omega)
          · intro a o e nb
            rw [upd_ne (ne_of_none e nF)]
            exact (S6.trans e8) a o e nb
        refine ⟨fun σ' H' => σ' = [some (.ref b), some (.ref q), some (.ref F), some (.int wh), some (.ref pl), v5, v6, some (.ref S), none, none, none, none] ∧ Same H6 H' ∧ 1 ≤ wh ∧ ∃ ys, H6 S = some (.lst ys) ∧ ys ≠ [] ∧ ys.length ≤ m ∧ ∀ v ∈ ys, RowOk n (wdOf wh) H6 v, ?_, ?_⟩
        · have rd : ∀ H7, Same H6 H7 → WellAt H7 b ∧ H7 q = some (.lst [d, .ref lh, .ref ll, .ref lr]) ∧ H7 pl = some (.lst xs) ∧ It n H7 d ∧ ∀ x ∈ xs, It n H7 x := fun H7 s7 => ⟨w6.same s7, s7 _ _ q6, s7 _ _ p6, d6.same s7, fun x hx => (x6 x hx).same s7⟩
          refine ⟨_, rfl, rfl, _, rfl, ite2 (fun c => ?_) (fun c => ?_)⟩
          · refine ⟨_, rfl, _, rfl, q, _, 0, d, rfl, rfl, SqL.of q6, rfl, _, rfl, b, pl, d, xs, n, rfl, w6, p6, npb, xne, xlen', d6, x6, n8, (by omega), fun x H8 ix8 w8 s8 => ?_⟩
            obtain ⟨k1, k2⟩ := body H6 (Same.refl _) x H8 ix8 w8 s8
            exact ⟨_, rfl, F, _, 0, 0, rfl, rfl, k2, rfl, _, rfl, k1⟩
          · refine ⟨_, rfl, (by show 0 ≤ sizeLine; omega), fun e0 H7 s7 ne0 he0 => ?_⟩
            rcases hS with ⟨h0, _⟩ | ⟨h1, ys, hS, yl, yr⟩
            · exact absurd (decide_eq_true (show V.int wh = V.int 0 by rw [h0])) (by simpa [h0] using c)
            refine ⟨S, e0, ys, rfl, rfl, SqL.of (s7 _ _ hS), SqL.of he0, _, rfl, ?_⟩
            by_cases e : ys = []
            · rw [decide_eq_true e]
              obtain ⟨w7, q7, p7, d7, x7⟩ := rd H7 s7
              refine iteT ⟨_, rfl, _, rfl, q, _, 0, d, rfl, rfl, SqL.of q7, rfl, _, rfl, b, pl, d, xs, n, rfl, w7, p7, npb, xne, xlen', d7, x7, n8, (by omega), fun x H8 ix8 w8 s8 => ?_⟩
              obtain ⟨k1, k2⟩ := body H7 s7 x H8 ix8 w8 s8
              exact ⟨_, rfl, F, _, 0, 0, rfl, rfl, k2, rfl, _, rfl, k1⟩
            · rw [decide_eq_false e]
              exact iteF ⟨rfl, s7, h1, ys, hS, e, yl, yr⟩
        · rintro σ H7 ⟨rfl, s7, h1, ys, yS, yne, yl, yr⟩
          have w7 := w6.same s7
          have yp : 0 < ys.length := List.length_pos_iff.mpr yne
          refine ⟨_, rfl, _, rfl, S, _, rfl, .inl (SqL.of (s7 _ _ yS)), b, _, rfl, w7, (by omega), (by omega), fun a H8 a0 a1 w8 s8 => ?_⟩
          refine ⟨_, rfl, b, 7, rfl, w8, by decide, by decide, fun lot H9 lo0 lo1 w9 s9 => ?_⟩
          refine ⟨_, rfl, _, rfl, S, _, rfl, .inl (SqL.of (s9 _ _ (s8 _ _ (s7 _ _ yS) nSb) nSb)), b, _, rfl, w9, (by omega), (by omega), fun z H10 z0 z1 w10 s10 => ?_⟩
          have E10 : SameB b H6 H10 := (SameB.of s7).trans (s8.trans (s9.trans s10))
          have yS10 := E10 _ _ yS nSb
          obtain ⟨ai, rfl⟩ : ∃ ai : Nat, a = (ai : Int) := ⟨a.toNat, by omega⟩
          obtain ⟨zi, rfl⟩ : ∃ zi : Nat, z = (zi : Int) := ⟨z.toNat, by omega⟩
          have hai : ai < ys.length := by omega
          have hzi : zi < ys.length := by omega
          obtain ⟨ya, hya⟩ : ∃ x, ys[ai]? = some x := ⟨_, List.getElem?_eq_getElem hai⟩
          obtain ⟨yz, hyz⟩ : ∃ x, ys[zi]? = some x := ⟨_, List.getElem?_eq_getElem hzi⟩
          have rows : ∀ Hx ys', WellAt Hx b → SameB b H6 Hx → ∀ v ∈ ys, RowOk (2 * n + 1) (wdOf wh) (upd Hx S (.lst ys')) v := fun Hx ys' wx ex v hv => (((yr v hv).sameL w6.isL wx.isL ex).sameL ⟨_, ex _ _ yS nSb⟩ set_L set_B).up (by omega)
          let M3 : L2.St → Hp → Prop := fun σ' H' => ∃ v6 v11, σ' = [some (.ref b), some (.ref q), some (.ref F), some (.int wh), some (.ref pl), v5, v6, some (.ref S), some (.int (ai : Int)), some (.int lot), some (.int (zi : Int)), v11] ∧ WellAt H' b ∧ H' F = some (.lst [d, .ref lh, .ref ll, .ref lr]) ∧ SameB b H H' ∧ It (2 * n + 1) H' d ∧ RowsOk (2 * n + 1) 2 (m + 1) H' lh ∧ RowsOk (2 * n + 1) 4 (m + 1) H' ll ∧ RowsOk (2 * n + 1) 4 (m + 1) H' lr ∧ RowsOk (2 * n + 1) (wdOf wh) (m + 1) H' S
          have fin : ∀ (Hx : Hp) (ys' : List V) (v6 v11 : Option V), WellAt Hx b → SameB b H6 Hx → ys'.length ≤ m + 1 → (∀ v ∈ ys', RowOk (2 * n + 1) (wdOf wh) (upd Hx S (.lst ys')) v) → M3 [some (.ref b), some (.ref q), some (.ref F), some (.int wh), some (.ref pl), v5, v6, some (.ref S), some (.int (ai : Int)), some (.int lot), some (.int (zi : Int)), v11] (upd Hx S (.lst ys')) := by
            intro Hx ys' v6 v11 wx ex hl hrs
            have iS : IsL Hx S := ⟨_, ex _ _ yS nSb⟩
            refine ⟨v6, v11, rfl, wx.up nSb.symm, ?_, ?_, ?_, ?_, ?_, ?_, ?_⟩
            · rw [upd_ne nFS]
              exact ex _ _ F6 nFb
            · intro a' o e nb
              rw [upd_ne (fun z => by
                subst z
                have := S5 _ _ e nb
                rw [nS] at this
                cases this)]
              exact ex _ _ (S6 _ _ e nb) nb
            · exact (((d6.sameB wx ex)).sameL set_L set_B).up (by omega)
            · exact ((r16.sameW w6 wx ex).sameL iS set_L n1S set_B).up (by omega) (by omega)
            · exact ((r26.sameW w6 wx ex).sameL iS set_L n2S set_B).up (by omega) (by omega)
            · exact ((r36.sameW w6 wx ex).sameL iS set_L n3S set_B).up (by omega) (by omega)
            · exact ⟨_, upd_same, hl, hrs⟩
          refine ⟨M3, ?_, ?_⟩
          · refine ⟨_, rfl, rfl, _, rfl, ite2 (fun c => ?_) (fun c => ?_)⟩
            · refine ⟨_, rfl, .inl ⟨rfl, _, SqL.of yS10⟩, _, rfl, S, ys, _, ai, ya, rfl, rfl, yS10, (by omega), (by omega), PySem.StrLaws.seqIndex_nonneg (by omega) (by omega), hya, fin H10 _ _ _ w10 E10 ?_ ?_⟩
              · have := List.length_eraseIdx_le ys ai
                omega
              · exact fun v hv => rows _ _ w10 E10 v (List.mem_of_mem_eraseIdx hv)
            refine ⟨_, rfl, rfl, _, rfl, ite2 (fun c2 => ?_) (fun c2 => ?_)⟩
            · refine ⟨_, rfl, .inl ⟨rfl, _, SqL.of yS10⟩, _, rfl, _, rfl, _, rfl, S, _, _, ya, rfl, rfl, SqL.of yS10, atI_nat hya, S, ys, _, ya, rfl, rfl, yS10, (by omega), (by omega), (by omega), fin H10 _ _ _ w10 E10 ?_ ?_⟩
              · simp only [List.length_append, List.length_take, List.length_drop, List.length_singleton, Int.toNat_natCast]
                omega
              · intro v hv
                refine rows _ _ w10 E10 v ?_
                rcases List.mem_append.mp hv with hv | hv
                · rcases List.mem_append.mp hv with hv | hv
                  · exact List.mem_of_mem_take hv
                  · rw [List.mem_singleton.mp hv]
                    exact List.mem_of_getElem? hya
                · exact List.mem_of_mem_drop hv
            refine ⟨_, rfl, rfl, _, rfl, ite2 (fun c3 => ?_) (fun c3 => ?_)⟩
            · refine ⟨_, rfl, _, rfl, S, _, _, yz, rfl, rfl, SqL.of yS10, atI_nat hyz, _, rfl, _, rfl, S, _, _, ya, rfl, rfl, SqL.of yS10, atI_nat hya, (by show 2 ≤ sizeLine; decide), fun tp H11 s11 ntp htp => ?_⟩
              have yS11 := s11 _ _ yS10
              have E11 : SameB b H6 H11 := E10.trans (SameB.of s11)
              have w11 := w10.same s11
              have hl1 : (ys.set ai yz).length = ys.length := List.length_set
              refine ⟨tp, _, rfl, SqT.of htp, rfl, _, _, rfl, _, rfl, _, rfl, S, _, _, ai, rfl, rfl, yS11, ixN_natC hai, _, _, rfl, _, rfl, _, rfl, S, _, _, zi, rfl, rfl, upd_same, ixN_natC (by rw [hl1]; exact hzi), rfl, ?_⟩
              rw [upd_upd]
              refine fin H11 _ _ _ w11 E11 (by rw [List.length_set, hl1]; omega) fun v hv => rows _ _ w11 E11 v ?_
              rcases List.mem_or_eq_of_mem_set hv with hv | rfl
              · rcases List.mem_or_eq_of_mem_set hv with hv | rfl
                · exact hv
                · exact List.mem_of_getElem? hyz
              · exact List.mem_of_getElem? hya
            · obtain ⟨t, r, rfl, ht, hrl, hri⟩ := yr ya (List.mem_of_getElem? hya)
              have ntb : t ≠ b := fun e => by
                subst e
                obtain ⟨_, _, _, e⟩ := w6
                rw [ht] at e
                cases e
              have wdp : 0 < wdOf wh ∧ wdOf wh ≤ 4 := by
                unfold wdOf
                split <;> decide
              refine ⟨_, rfl, _, rfl, S, _, _, .ref t, rfl, rfl, SqL.of yS10, atI_nat hya, t, _, rfl, .inr (SqT.of (E10 _ _ ht ntb)), fun R H11 s11 nR hR => ?_⟩
              have w11 := w10.same s11
              have nRb : R ≠ b := (w10.ne nR).symm
              refine ⟨_, rfl, _, rfl, R, _, rfl, .inl (SqL.of hR), b, _, rfl, w11, (by omega), (by omega), fun pp H12 p0 p1 w12 s12 => ?_⟩
              obtain ⟨pi, rfl⟩ : ∃ pi : Nat, pp = (pi : Int) := ⟨pp.toNat, by omega⟩
              have hpi : pi < r.length := by omega
              obtain ⟨x, hx⟩ : ∃ x, r[pi]? = some x := ⟨_, List.getElem?_eq_getElem hpi⟩
              have E12 : SameB b H6 H12 := (E10.trans (SameB.of s11)).trans s12
              have R12 := s12 _ _ hR nRb
              refine ⟨_, rfl, _, rfl, _, rfl, R, _, _, x, rfl, rfl, SqL.of R12, atI_nat hx, _, rfl, b, pl, x, xs, n, rfl, w12, E12 _ _ p6 npb, npb, xne, xlen', (hri x (List.mem_of_getElem? hx)).sameB w12 E12, (fun x hx => (x6 x hx).sameB w12 E12), n8, (by omega), fun x' H13 ix' w13 s13 => ?_⟩
              have R13 := s13 _ _ R12 nRb
              have E13 : SameB b H6 H13 := E12.trans s13
              refine ⟨_, rfl, _, rfl, R, _, _, pi, rfl, rfl, R13, ixN_natC hpi, ?_⟩
              refine ⟨_, rfl, R, _, rfl, SqL.of upd_same, fun T H14 s14 nT hT => ?_⟩
              have E14 : SameB b H6 H14 := fun a' o e nb => s14 _ _ (by
                rw [upd_ne (ne_of_none (E10 _ _ e nb) nR)]
                exact E13 _ _ e nb)
              have w14 : WellAt H14 b := (w13.up nRb.symm).same s14
              have yS14 := E14 _ _ yS nSb
              refine ⟨_, rfl, _, rfl, S, _, _, ai, rfl, rfl, yS14, ixN_natC hai, ?_⟩
              refine fin H14 _ _ _ w14 E14 (by rw [List.length_set]; omega) fun v hv => ?_
              rcases List.mem_or_eq_of_mem_set hv with hv | rfl
              · exact rows _ _ w14 E14 v hv
              · have nTS : T ≠ S := fun e => by
                  subst e
                  rw [hT] at yS14
                  cases yS14
                refine ⟨T, _, rfl, by rw [upd_ne nTS]; exact hT, by rw [List.length_set]; exact hrl, fun u hu => ?_⟩
                rcases List.mem_or_eq_of_mem_set hu with hu | rfl
                · exact (((hri u hu).sameB w14 E14).sameL set_L set_B).up (by omega)
                · exact ((ix'.sameL set_L set_B).same s14).sameL set_L set_B
          · rintro σ H11 ⟨v6, v11, rfl, w11, F11, S11, d11, r1', r2', r3', rS'⟩
            obtain ⟨j, hj, hp⟩ : ∃ j, ixN [d, V.ref lh, V.ref ll, V.ref lr].length wh = some j ∧ PartsAt (2 * n + 1) (m + 1) (upd H11 F (.lst ([d, V.ref lh, V.ref ll, V.ref lr].set j (.ref S)))) F := by
              have iF : IsL H11 F := ⟨_, F11⟩
              rcases (by omega : wh = 1 ∨ wh = 2 ∨ wh = 3) with rfl | rfl | rfl
              · exact ⟨1, rfl, d, S, ll, lr, upd_same, d11.sameL set_L set_B, rS'.sameL iF set_L nSF set_B, r2'.sameL iF set_L n2F set_B, r3'.sameL iF set_L n3F set_B⟩
              · exact ⟨2, rfl, d, lh, S, lr, upd_same, d11.sameL set_L set_B, r1'.sameL iF set_L n1F set_B, rS'.sameL iF set_L nSF set_B, r3'.sameL iF set_L n3F set_B⟩
              · exact ⟨3, rfl, d, lh, ll, S, upd_same, d11.sameL set_L set_B, r1'.sameL iF set_L n1F set_B, r2'.sameL iF set_L n2F set_B, rS'.sameL iF set_L nSF set_B⟩
            refine ⟨_, rfl, _, rfl, _, rfl, F, _, _, j, rfl, rfl, F11, hj, _, rfl, k F _ (w11.up nFb.symm) hp ?_⟩
            intro a' o e nb
            rw [upd_ne (ne_of_none e nF)]
            exact S11 _ _ e nb
end
end KP
namespace KP
open PySem L2 KD
theorem word_en {v : V} (h : wordV v = true) : ∃ x, v = .str x ∧ IsW x := by
  cases v with
  | str x => exact ⟨x, rfl, isW_of h⟩
  | _ => cases h
theorem heads_of {H : Hp} : ∀ {xs : List V} {ahead : List Str}, headsGo H ahead xs = true → ∃ (ts : List Addr) (hs : List Hd), xs = ts.map V.ref ∧ Paired (fun t r => H t = some (.tup r)) ts (hs.map hv) ∧ xs.map (nmOf H) = nms hs ∧ (∀ x ∈ nms hs, IsW x ∧ x ∉ ahead) ∧ (nms hs).Nodup ∧
    ∀ (i : Nat) (r : Hd), hs[i]? = some r → r.2 = "" ∨ r.2 ∈ ahead ∨ ∃ j, j < i ∧ (nms hs)[j]? = some r.2
  | [], _, _ => ⟨[], [], rfl, .nil, rfl, (fun _ h => nomatch h), List.nodup_nil, fun i r h => by simp at h⟩
  | x :: xs, ahead, hg => by
    rw [headsGo, Bool.and_eq_true] at hg
    obtain ⟨h1, h2⟩ := hg
    unfold headB at h1
    split at h1
    · rename_i nm up e
      simp only [Bool.and_eq_true, Bool.or_eq_true, decide_eq_true_eq, Bool.not_eq_true', decide_eq_false_iff_not] at h1
      obtain ⟨⟨a1, a2⟩, a3⟩ := h1
      obtain ⟨z, rfl, wz⟩ := word_en a1
      have zn : z ∉ ahead := fun q => a2 (List.mem_map.mpr ⟨z, q, rfl⟩)
      obtain ⟨u, rfl, hu⟩ : ∃ u : Str, up = .str u ∧ (u = "" ∨ u ∈ ahead) := by
        rcases a3 with a3 | a3
        · exact ⟨"", a3, .inl rfl⟩
        · obtain ⟨u, hu, rfl⟩ := List.mem_map.mp a3
          exact ⟨u, rfl, .inr hu⟩
      obtain ⟨t, rfl, ht⟩ := of_tup e
      have en : nmOf H (.ref t) = z := by unfold nmOf; rw [e]
      rw [en] at h2
      obtain ⟨ts, hs, e1, p, e2, w, nd, ups⟩ := heads_of h2
      refine ⟨t :: ts, (z, u) :: hs, by rw [e1]; rfl, .cons ht p, ?_, ?_, ?_, ?_⟩
      · rw [List.map_cons, en, e2]
        rfl
      · intro y hy
        rcases List.mem_cons.mp (show y ∈ z :: nms hs from hy) with rfl | hy
        · exact ⟨wz, zn⟩
        · exact ⟨(w y hy).1, fun q => (w y hy).2 (by simp [q])⟩
      · exact List.nodup_cons.mpr ⟨fun q => (w z q).2 (by simp), nd⟩
      · intro i r hi
        cases i with
        | zero =>
          have e := Option.some.inj hi
          subst e
          rcases hu with hu | hu
          · exact .inl hu
          · exact .inr (.inl hu)
        | succ i =>
          rcases ups i r hi with q | q | ⟨j, hj, q⟩
          · exact .inl q
          · rcases List.mem_append.mp q with q | q
            · exact .inr (.inl q)
            · rw [List.mem_singleton] at q
              exact .inr (.inr ⟨0, by omega, by rw [q]; rfl⟩)
          · exact .inr (.inr ⟨j + 1, by omega, q⟩)
    · cases h1
theorem lim_row {H : Hp} {d : Int} {ns : List Str} {x : V} (h : limB H d ns x = true) : ∃ (t : Addr) (r : Rw4), x = .ref t ∧ H t = some (.tup (rv r)) ∧ LimOk d ns r := by
  cases e : tupOf H x with
  | none => unfold limB at h; rw [e] at h; cases h
  | some ys =>
    by_cases hl : ys.length = 4
    · obtain ⟨hd, p, w, u, rfl⟩ := l4 hl
      rw [limB_is e] at h
      simp only [Bool.and_eq_true, decide_eq_true_eq] at h
      obtain ⟨⟨⟨h1, h2⟩, h3⟩, h4⟩ := h
      obtain ⟨z, hz, rfl⟩ := List.mem_map.mp h1
      cases p with
      | int pi =>
        cases w with
        | int wi =>
          cases u with
          | int ui =>
            obtain ⟨t, rfl, ht⟩ := of_tup e
            exact ⟨t, (z, pi, wi, ui), rfl, ht, hz, of_decide_eq_true h2, of_decide_eq_true h3, of_decide_eq_true h4⟩
          | _ => cases h4
        | _ => cases h3
      | _ => cases h2
    · rw [limB_not e hl] at h
      cases h
theorem lim_rows {H : Hp} {d : Int} {ns : List Str} : ∀ {xs : List V}, xs.all (limB H d ns) = true → ∃ (ts : List Addr) (ls : List Rw4), xs = ts.map V.ref ∧ Paired (fun t r => H t = some (.tup r)) ts (ls.map rv) ∧ (∀ r ∈ ls, LimOk d ns r) ∧ ls.length = xs.length
  | [], _ => ⟨[], [], rfl, .nil, (fun _ h => nomatch h), rfl⟩
  | x :: xs, h => by
    rw [List.all_cons, Bool.and_eq_true] at h
    obtain ⟨t, r, rfl, ht, ok⟩ := lim_row h.1
    obtain ⟨ts, ls, e, p, oks, el⟩ := lim_rows h.2
    refine ⟨t :: ts, r :: ls, by rw [e]; rfl, .cons ht p, fun r' hr' => ?_, by rw [List.length_cons, List.length_cons, el]⟩
    rcases List.mem_cons.mp hr' with q | q
    · rw [q]; exact ok
    · exact oks r' q
theorem year_of {H : Hp} {d : V} {lh ll lr : Addr} (h : yearB H d (.ref lh) (.ref ll) (.ref lr) = true) : ∃ (y : Yr) (th tl tr : List Addr), d = .int y.days ∧ y.ok ∧ RowsAt H lh th (y.hs.map hv) ∧ RowsAt H ll tl (y.ls.map rv) ∧ RowsAt H lr tr (y.rs.map rv) := by
  unfold yearB at h
  cases d with
  | int dd =>
    simp only [Bool.and_eq_true] at h
    obtain ⟨⟨⟨a1, a2⟩, a3⟩, a4⟩ := h
    have a1 := of_decide_eq_true a1
    unfold headsB at a2
    cases eh : lstOf H (.ref lh) with
    | none => rw [eh] at a2; cases a2
    | some xs =>
      rw [eh] at a2
      simp only [Bool.and_eq_true, decide_eq_true_eq] at a2
      obtain ⟨ts, hs, e1, p1, e2, w, nd, ups⟩ := heads_of a2.2
      have en : nsOf H (.ref lh) = nms hs := by unfold nsOf; rw [eh]; exact e2
      rw [en] at a3 a4
      obtain ⟨a, ea, ha⟩ := of_lst eh
      cases ea
      have hl : hs.length = xs.length := by
        have := p1.length
        rw [List.length_map] at this
        rw [e1, List.length_map, this]
      unfold limsB at a3
      cases el : lstOf H (.ref ll) with
      | none => rw [el] at a3; cases a3
      | some ys =>
        rw [el] at a3
        simp only [Bool.and_eq_true, decide_eq_true_eq] at a3
        obtain ⟨tl, ls, e3, p3, oks, el3⟩ := lim_rows a3.2
        obtain ⟨b, eb, hb⟩ := of_lst el
        cases eb
        unfold rulesB at a4
        cases er : lstOf H (.ref lr) with
        | none => rw [er] at a4; cases a4
        | some zs =>
          rw [er] at a4
          simp only [Bool.and_eq_true, decide_eq_true_eq] at a4
          obtain ⟨⟨b1, b2⟩, b3⟩ := a4
          obtain ⟨tr, e5, p5, oks5⟩ := rul_rows b2
          obtain ⟨c, ec, hc⟩ := of_lst er
          cases ec
          refine ⟨⟨dd, hs, ls, zs.map (rwOf H)⟩, ts, tl, tr, rfl, ⟨a1, ⟨nd, fun x hx => (w x hx).1, fun i r hi => ?_, by show 1 ≤ hs.length; omega, by show hs.length ≤ 8; omega⟩, oks, by show ls.length ≤ 6; omega, oks5, by show (zs.map (rwOf H)).length ≤ 4; rw [List.length_map]; omega, fun x => ?_⟩, ⟨by rw [ha, e1], p1⟩, ⟨by rw [hb, e3], p3⟩, ⟨by rw [hc, ← e5], p5⟩⟩
          · rcases ups i r hi with q | q | q
            · exact .inl q
            · cases q
            · exact .inr q
          · by_cases hx : x ∈ nms hs
            · exact of_decide_eq_true (List.all_eq_true.mp b3 x hx)
            · have e : fr (zs.map (rwOf H)) x = (0, 1) := fr_no fun r hr q => hx (q ▸ (oks5 r hr).1)
              rw [show (Yr.mk dd hs ls (zs.map (rwOf H))).rs = zs.map (rwOf H) from rfl, e]
              decide
  | _ => cases h
/-! ### the parts as the law's functions ask for them -/
theorem rows_of {n wd m : Nat} {H : Hp} {l : Addr} (h : RowsOk n wd m H l) : ∃ (ts : List Addr) (rs : List (List V)), RowsAt H l ts rs ∧ (∀ r ∈ rs, r.length = wd) ∧ (∀ r ∈ rs, ∀ x ∈ r, It n H x) ∧ ts.length ≤ m := by
  obtain ⟨xs, hl, hm, hr⟩ := h
  suffices g : ∀ xs : List V, (∀ v ∈ xs, RowOk n wd H v) → ∃ (ts : List Addr) (rs : List (List V)), xs = ts.map V.ref ∧ Paired (fun t r => H t = some (.tup r)) ts rs ∧ (∀ r ∈ rs, r.length = wd) ∧ (∀ r ∈ rs, ∀ x ∈ r, It n H x) by
    obtain ⟨ts, rs, e, p, a, b⟩ := g xs hr
    exact ⟨ts, rs, ⟨by rw [hl, e], p⟩, a, b, by rw [e, List.length_map] at hm; exact hm⟩
  intro xs
  induction xs with
  | nil => exact fun _ => ⟨[], [], rfl, .nil, (fun _ h => nomatch h), (fun _ h => nomatch h)⟩
  | cons v xs ih =>
    intro h
    obtain ⟨t, r, rfl, ht, hl, hi⟩ := h v (by simp)
    obtain ⟨ts, rs, e, p, a, b⟩ := ih fun u hu => h u (by simp [hu])
    refine ⟨t :: ts, r :: rs, by rw [e]; rfl, .cons ht p, fun r' hr' => ?_, fun r' hr' => ?_⟩
    · rcases List.mem_cons.mp hr' with rfl | hr'
      · exact hl
      · exact a r' hr'
    · rcases List.mem_cons.mp hr' with rfl | hr'
      · exact hi
      · exact b r' hr'
theorem rows_ok {n wd m : Nat} {H : Hp} {l : Addr} {ts : List Addr} {rs : List (List V)} (h : RowsAt H l ts rs) (w : ∀ r ∈ rs, r.length = wd) (i : ∀ r ∈ rs, ∀ x ∈ r, It n H x) (hm : ts.length ≤ m) : RowsOk n wd m H l := by
  obtain ⟨hl, p⟩ := h
  refine ⟨_, hl, by rw [List.length_map]; exact hm, fun v hv => ?_⟩
  obtain ⟨t, ht, rfl⟩ := List.mem_map.mp hv
  obtain ⟨j, hj⟩ := List.getElem?_of_mem ht
  obtain ⟨r, hr, hh⟩ := paired_get p hj
  have hm := List.mem_of_getElem? hr
  exact ⟨t, r, rfl, hh, w r hm, i r hm⟩
theorem rows_lv {n wd m : Nat} {H : Hp} {l : Addr} (h : RowsOk n wd m H l) : LstV H (.ref l) := by
  obtain ⟨xs, hl, hm, hr⟩ := h
  refine ⟨.lst hl, fun ys e x hx => ?_⟩
  rw [lst_of hl] at e
  injection e with e
  subst e
  obtain ⟨t, r, rfl, ht, _, hi⟩ := hr x hx
  refine ⟨.tup ht, fun zs e z hz => ?_⟩
  rw [tup_of ht] at e
  injection e with e
  subst e
  exact (hi z hz).1
theorem it_word {H : Hp} {x : Str} (h : x = "" ∨ IsW x) : It 8 H (.str x) := by
  refine It.st ?_ (by decide)
  rcases h with rfl | h
  · exact Nat.le_trans (by decide : ("" : Str).length ≤ 0) (Nat.zero_le _)
  · exact h.2.2
theorem parts_of {H : Hp} {q lh ll lr : Addr} {th tl tr : List Addr} {y : Yr} (ok : y.ok) (hq : H q = some (.lst [.int y.days, .ref lh, .ref ll, .ref lr])) (r1 : RowsAt H lh th (y.hs.map hv)) (r2 : RowsAt H ll tl (y.ls.map rv)) (r3 : RowsAt H lr tr (y.rs.map rv)) : PartsAt 8 8 H q := by
  have l1 := r1.2.length
  have l2 := r2.2.length
  have l3 := r3.2.length
  rw [List.length_map] at l1 l2 l3
  have h8 := ok.h.l8
  have h6 := ok.l6
  have h4 := ok.r4
  have wn : ∀ x ∈ nms y.hs, IsW x := ok.h.w
  refine ⟨_, lh, ll, lr, hq, It.no (.int _) (fun x z => nomatch z), rows_ok r1 ?_ ?_ (by omega), rows_ok r2 ?_ ?_ (by omega), rows_ok r3 ?_ ?_ (by omega)⟩
  · intro r hr
    obtain ⟨p, _, rfl⟩ := List.mem_map.mp hr
    rfl
  · intro r hr x hx
    obtain ⟨p, hp, rfl⟩ := List.mem_map.mp hr
    obtain ⟨i, hi⟩ := List.getElem?_of_mem hp
    simp only [hv, List.mem_cons, List.not_mem_nil, or_false] at hx
    rcases hx with rfl | rfl
    · exact it_word (.inr (wn _ (List.mem_of_getElem? (nms_get hi))))
    · rcases ok.h.up i p hi with e | ⟨j, _, e⟩
      · exact it_word (.inl e)
      · exact it_word (.inr (wn _ (List.mem_of_getElem? e)))
  · intro r hr
    obtain ⟨p, _, rfl⟩ := List.mem_map.mp hr
    rfl
  · intro r hr x hx
    obtain ⟨p, hp, rfl⟩ := List.mem_map.mp hr
    simp only [rv, List.mem_cons, List.not_mem_nil, or_false] at hx
    rcases hx with rfl | rfl | rfl | rfl
    · exact it_word (.inr (wn _ (ok.l p hp).1))
    all_goals exact It.no (.int _) (fun x z => nomatch z)
  · intro r hr
    obtain ⟨p, _, rfl⟩ := List.mem_map.mp hr
    rfl
  · intro r hr x hx
    obtain ⟨p, hp, rfl⟩ := List.mem_map.mp hr
    simp only [rv, List.mem_cons, List.not_mem_nil, or_false] at hx
    rcases hx with rfl | rfl | rfl | rfl
    · exact it_word (.inr (wn _ (ok.r p hp).1))
    all_goals exact It.no (.int _) (fun x z => nomatch z)
end KP
namespace KP
open PySem L2 KD
abbrev nLaw : List Str := ["_law_script", "_law_cell", "_law_well_here", "_law_parts_here", "_law_k", "_law_year"]
theorem scLaw : FnScope nLaw ["_law_script"] (defScope sLaw) := ⟨rfl, rfl, rfl, by decide +kernel, rfl, by decide +kernel, by decide +kernel⟩

def spLaw (K : PySem.W.Frag) : Sp := fun vs H Q _ => ∃ (a : Addr) (ns : List Int), vs = [.ref a] ∧ SqL K H a (ns.map V.int) ∧ ns.length ≤ 63 ∧ ∀ H', Q (.bl true) H'
theorem cut_intV {vs : List V} (hv : ∀ v ∈ vs, ∃ c, v = .int c) {lo hi : Option Int} : (cutV vs lo hi).length ≤ vs.length ∧ ∀ v ∈ cutV vs lo hi, ∃ c, v = .int c :=
  ⟨cutV_length vs lo hi, fun v h => by unfold cutV at h; exact hv v (List.mem_of_mem_drop (List.mem_of_mem_take h))⟩
section
variable {P : Program} {w : World} {K : PySem.W.Frag} {mg : Str → Option Value} {base : Heap} {C : Addr}
theorem ok_law {f : Addr} {fd : FuncData} (F : Fun K "law" "law" sLaw f fd) (B : Base K mg) (Wl : Cal P w K mg base 1 "_law_well" spWell) (Dr : Cal P w K mg base 1 "_law_draw" spDraw) (Pc : Cal P w K mg base 5 "_law_parts" spLParts) (Cg : Cal P w K mg base 3 "_law_changed" spChg) (Gd : Cal P w K mg base 3 "_law_good" spGood)
    (Rf : Cal P w K mg base 6 "_law_refused" spRefY) (Yc : MakT P w K mg base 4 "Year" C (spYear C)) (Dc : Cal P w K mg base 3 "_law_due" spLDue) (Ac : Cal P w K mg base 4 "_law_asked" (spLAsked C)) :
    FnOk P w K mg base CX0 7 f fd ["_law_script"] (spLaw K) := by
  refine F.ok scLaw (fun vs H Q E h => ?_) (fun cdv A outer s H vs Q E2 hr h => ?_)
  · obtain ⟨a, ns, rfl, _⟩ := h
    rfl
  · obtain ⟨a, ns, rfl, hS, hlen, k⟩ := h
    have hz : sizeLine = 16777216 := by decide
    refine ⟨_, (pss_cons (ps_for PassesOwn.never rfl (pi_list (pe_op op_catLW (pe_slice sl_listW (pv 0) po_none (po_some pe_int)) (pe_lstW (pa_cons pe_int (pa_cons pe_int (pa_cons pe_int pa_nil)))))) (pg_name (i := 1) scLaw.nd rfl (by first | exact Or.inl rfl | exact Or.inr rfl)) (pss_cons (ps_set (i := 2) scLaw.nd rfl (by first | exact Or.inl rfl | exact Or.inr rfl) (pe_cl Wl hr (by decide) (by rfl) (pa_cons (pv 1) pa_nil)))
        (pss_cons (ps_set (i := 3) scLaw.nd rfl (by first | exact Or.inl rfl | exact Or.inr rfl) (pe_cl Pc hr (by decide) (by rfl) (pa_cons (pv 2) pa_nil)))
        (pss_cons (ps_for PassesOwn.never rfl (pi_range1 (by rfl) B.range (pa_cons (pe_cl Dr hr (by decide) (by rfl) (pa_cons (pv 2) (pa_cons pe_int pa_nil))) pa_nil)) (pg_name (i := 4) scLaw.nd rfl (by first | exact Or.inl rfl | exact Or.inr rfl)) (pss_one (ps_set (i := 3) scLaw.nd rfl (by first | exact Or.inl rfl | exact Or.inr rfl) (pe_cl Cg hr (by decide) (by rfl) (pa_cons (pv 2) (pa_cons (pv 3) pa_nil))))))
        (pss_one (ps_if (pt_not (pt_val (pe_cl Gd hr (by decide) (by rfl) (pa_cons (pv 3) pa_nil)))) (pss_one (ps_if (pt_not (pt_val (pe_cl Rf hr (by decide) (by rfl) (pa_cons (pv 3) pa_nil)))) (pss_one (ps_ret pe_bl)) pss_nil)) (pss_cons (ps_set (i := 5) scLaw.nd rfl (by first | exact Or.inl rfl | exact Or.inr rfl) (pe_mkT Yc hr (by decide) (by rfl) (pa_cons (pe_ix ix_list (pv 3) pe_int (fun _ _ => rfl)) (pa_cons (pe_callTy call_listW (by rfl) B.list (by decide +kernel) (pa_cons (pe_ix ix_list (pv 3) pe_int (fun _ _ => rfl)) pa_nil)) (pa_cons (pe_callTy call_listW (by rfl) B.list (by decide +kernel) (pa_cons (pe_ix ix_list (pv 3) pe_int (fun _ _ => rfl)) pa_nil)) (pa_cons (pe_callTy call_listW (by rfl) B.list (by decide +kernel) (pa_cons (pe_ix ix_list (pv 3) pe_int (fun _ _ => rfl)) pa_nil)) pa_nil))))))
        (pss_one (ps_if (PW.pt (pw_or (pt_cmpR (op_neD hr.units) (pe_cl Ac hr (by decide) (by rfl) (pa_cons (pv 5) pa_nil)) (pe_cl Dc hr (by decide) (by rfl) (pa_cons (pv 3) pa_nil)) (nomark _)) (pw_or1 (pt_cmpR (op_neD hr.units) (pe_cl Ac hr (by decide) (by rfl) (pa_cons (pv 5) pa_nil)) (pe_cl Dc hr (by decide) (by rfl) (pa_cons (pv 3) pa_nil)) (nomark _))))) (pss_one (ps_ret pe_bl)) pss_nil)))))))))
        (pss_one (ps_ret pe_bl))), ?_⟩
    obtain ⟨cl, ci⟩ := cut_intV (vs := ns.map V.int) (fun v hv => by obtain ⟨c, _, rfl⟩ := List.mem_map.mp hv; exact ⟨c, rfl⟩) (lo := none) (hi := some 24)
    rw [List.length_map] at cl
    refine ⟨_, rfl, _, rfl, a, _, rfl, hS, fun p H1 s1 np hp => ⟨(by show 3 ≤ sizeLine; decide), fun q H2 s2 nq hq => ⟨p, q, _, _, rfl, rfl, s2 _ _ hp, hq, (by show _ + 3 ≤ _; omega), fun R H3 s3 nR hR => ?_⟩⟩⟩
    have iint : ∀ v ∈ cutV (ns.map V.int) none (some 24) ++ [V.int 2, V.int 6, V.int 9], ∃ c, v = V.int c := fun v hv => by
      rcases List.mem_append.mp hv with hv | hv
      · exact ci v hv
      · simp at hv
        rcases hv with rfl | rfl | rfl <;> exact ⟨_, rfl⟩
    generalize cutV (ns.map V.int) none (some 24) ++ [V.int 2, V.int 6, V.int 9] = items at iint hR
    refine ⟨R, rfl, ⟨_, SqL.of hR⟩, for_list (K := K) (a := R) (xs := items) (fun i σ H' => ∃ (v1 v2 v3 v4 v5 : Option V), σ = [some (.ref a), v1, v2, v3, v4, v5] ∧ Same H3 H')
      ⟨none, none, none, none, none, rfl, Same.refl _⟩ (fun i σ H' _ ⟨_, _, _, _, _, _, z⟩ => SqL.of (z _ _ hR)) ?_ (fun σ H4 _ => k _)⟩
    rintro i v σ H4 hi ⟨v1, v2, v3, v4, v5, rfl, s4⟩
    obtain ⟨c, rfl⟩ := iint v (List.mem_of_getElem? hi)
    refine ⟨_, rfl, c, rfl, fun b Hb sb nb wb => ?_⟩
    refine ⟨_, rfl, b, rfl, wb, fun q lh ll lr th tl tr y H5 ok hq r1 r2 r3 nq nlh nll nlr w5 s5 => ?_⟩
    have pa := parts_of ok hq r1 r2 r3
    refine ⟨_, rfl, b, 3, rfl, w5, by decide, by decide, fun r H6 r0 r1' w6 s6 => ?_⟩
    have pa6 : PartsAt 8 8 H6 q := by
      obtain ⟨d, lh, ll, lr, hq, id, a1, a2, a3⟩ := pa
      have nqb : q ≠ b := fun e => by
        subst e
        obtain ⟨x, y, z, e⟩ := w5
        rw [hq] at e
        cases e
      exact ⟨d, lh, ll, lr, s6 _ _ hq nqb, id.sameB w6 s6, a1.sameW w5 w6 s6, a2.sameW w5 w6 s6, a3.sameW w5 w6 s6⟩
    refine ⟨_, rfl, (by omega), (by omega), for_range (lo := 0) (n := r.toNat) (fun i σ H' => ∃ (q' : Addr) (n m : Nat) (v4 : Option V), σ = [some (.ref a), some (.int c), some (.ref b), some (.ref q'), v4, v5] ∧ 8 ≤ n ∧ n ≤ 100 * (i + 1) * (i + 1) ∧ n ≤ 8 * 3 ^ i ∧ m ≤ 8 + i ∧ PartsAt n m H' q' ∧ WellAt H' b ∧ SameB b H5 H')
      ⟨q, 8, 8, _, rfl, by decide, by decide, by decide, by decide, pa6, w6, s6⟩ ?_ ?_⟩
    · rintro i σ H7 hi7 ⟨q', n, m, v4, rfl, n8, nn, n3, mm, pa7, w7, s7⟩
      have i3 : i < 3 := by omega
      have m2 : 3 ^ i ≤ 27 := Nat.le_trans (Nat.pow_le_pow_right (by decide) (by omega : i ≤ 3)) (by decide)
      have e3 : 3 ^ (i + 1) = 3 ^ i * 3 := by rw [Nat.pow_succ]
      refine ⟨_, rfl, _, rfl, b, q', n, m, rfl, w7, pa7, n8, (by omega), (by omega), fun q2 H8 w8 pa8 s8 => ?_⟩
      exact ⟨q2, 2 * n + 1, m + 1, _, rfl, (by omega), (by
        rcases (by omega : i = 0 ∨ i = 1 ∨ i = 2) with rfl | rfl | rfl <;> omega), (by omega), (by omega), pa8, w8, s7.trans s8⟩
    · rintro σ H7 ⟨q', n, m, v4, rfl, n8, nn, n3, mm, ⟨d, lh', ll', lr', hq', id, a1, a2, a3⟩, w7, s7⟩
      have S37 : Same H3 H7 := fun p' o' ho' => by
        have h4 := s4 _ _ ho'
        have nb' : p' ≠ b := ne_of_none h4 nb
        exact s7 _ _ (s5 _ _ (sb _ _ h4) nb') nb'
      obtain ⟨t1, g1, R1, w1, i1, _⟩ := rows_of a1
      obtain ⟨t2, g2, R2, w2, i2, _⟩ := rows_of a2
      obtain ⟨t3, g3, R3, w3, i3, _⟩ := rows_of a3
      refine ⟨_, rfl, q', lh', ll', lr', t1, t2, t3, d, g1, g2, g3, rfl, hq', id.1.th, R1, R2, R3, w1, w2, w3, (fun r hr x hx => (i1 r hr x hx).1), (fun r hr x hx => (i2 r hr x hx).1), (fun r hr x hx => (i3 r hr x hx).1), fun H8 s8 => ⟨_, rfl, ?_⟩⟩
      cases hg : yearB H7 d (.ref lh') (.ref ll') (.ref lr') with
      | false =>
        have b1 := a1.same s8
        have b2 := a2.same s8
        have b3 := a3.same s8
        have hg8 : yearB H8 d (.ref lh') (.ref ll') (.ref lr') = false := by
          rw [← hg]
          unfold yearB
          cases d with
          | int dd => dsimp only; rw [headsB_same (rows_lv a1) s8, nsOf_same (rows_lv a1) s8, limsB_same (rows_lv a2) s8, rulesB_same (rows_lv a3) s8]
          | _ => rfl
        refine iteT ⟨_, rfl, q', d, _, _, _, rfl, s8 _ _ hq', (id.1.th).same s8, rows_lv b1, rows_lv b2, rows_lv b3, hg8, fun H9 s9 => ⟨_, rfl, iteF ?_⟩⟩
        exact ⟨_, _, _, _, _, rfl, S37.trans (s8.trans s9)⟩
      | true =>
        obtain ⟨y', th', tl', tr', rfl, ok', Y1, Y2, Y3⟩ := year_of hg
        have q8 := s8 _ _ hq'
        refine iteF ⟨_, rfl, q', _, 0, _, rfl, rfl, SqL.of q8, rfl, _, rfl, q', _, 1, _, rfl, rfl, SqL.of q8, rfl, lh', _, rfl, .inl (SqL.of (s8 _ _ Y1.1)), fun c1 Ha sa na ha => ?_⟩
        refine ⟨_, rfl, q', _, 2, _, rfl, rfl, SqL.of (sa _ _ q8), rfl, ll', _, rfl, .inl (SqL.of (sa _ _ (s8 _ _ Y2.1))), fun c2 Hb2 sb2 nb2 hb2 => ?_⟩
        refine ⟨_, rfl, q', _, 3, _, rfl, rfl, SqL.of (sb2 _ _ (sa _ _ q8)), rfl, lr', _, rfl, .inl (SqL.of (sb2 _ _ (sa _ _ (s8 _ _ Y3.1)))), fun c3 Hc sc nc hc => ?_⟩
        have Sc : Same H7 Hc := (s8.trans sa).trans (sb2.trans sc)
        have Q1 : RowsAt Hc c1 th' (y'.hs.map hv) := ⟨sc _ _ (sb2 _ _ ha), (Y1.same Sc).2⟩
        have Q2 : RowsAt Hc c2 tl' (y'.ls.map rv) := ⟨sc _ _ hb2, (Y2.same Sc).2⟩
        have Q3 : RowsAt Hc c3 tr' (y'.rs.map rv) := ⟨hc, (Y3.same Sc).2⟩
        refine fun x dx nx ndx nex => ?_
        have sm : Same Hc (upd (upd Hc dx (.own x)) x (.ins C dx [])) := fun b' o e => by
          rw [upd_ne (ne_of_none e nx), upd_ne (ne_of_none e ndx)]
          exact e
        refine ⟨x, dx, c1, c2, c3, th', tl', tr', y', rfl, upd_same, Q1.same sm, Q2.same sm, Q3.same sm, ok', fun H9 l1 l2 l3 hx9 P1 P2 P3 nl1 nl2 nl3 k9 => ⟨rfl, ?_⟩⟩
        have s9 : Same Hc H9 := Same.made nx ndx k9
        have hY : YearAt C [] H9 x y' := ⟨dx, l1, l2, l3, th', tl', tr', hx9, P1, P2, P3, (fun z => nomatch z), (fun z => nomatch z), (fun z => nomatch z)⟩
        have S9 : Same H7 H9 := Sc.trans s9
        have sh := (lay_due ok').shaped (by decide)
        refine ⟨_, rfl, x, y', rfl, hY, ok', fun qa xa Ha1 sa1 na1 ha1 dm1 => ⟨_, rfl, q', lh', ll', lr', th', tl', tr', y', rfl, sa1 _ _ (S9 _ _ hq'), (Y1.same S9).same sa1, (Y2.same S9).same sa1, (Y3.same S9).same sa1, ok', fun pd Hd sd nd dm2 => ⟨y'.due, y'.due, (dm1.same sd).dp, dm2.dp, sh, sh, _, rfl, ?_⟩⟩⟩
        rw [eqv_self sh]
        have Sd : Same H9 Hd := sa1.trans sd
        refine iteF ⟨_, rfl, x, y', rfl, hY.same Sd, ok', fun qa xa Ha2 sa2 na2 ha2 dm3 => ⟨_, rfl, q', lh', ll', lr', th', tl', tr', y', rfl, sa2 _ _ (Sd _ _ (S9 _ _ hq')), ((Y1.same S9).same Sd).same sa2, ((Y2.same S9).same Sd).same sa2, ((Y3.same S9).same Sd).same sa2, ok', fun pd He se ne dm4 => ⟨y'.due, y'.due, (dm3.same se).dp, dm4.dp, sh, sh, _, rfl, ?_⟩⟩⟩
        rw [eqv_self sh]
        exact iteF ⟨_, _, _, _, _, rfl, S37.trans (S9.trans (Sd.trans (sa2.trans se)))⟩
end
end KP
namespace KP
open PySem L2 KD
/-! ### from what the top has written -/
section
variable {K : PySem.W.Frag} {h : Heap} {mg : Str → Option Value}
theorem defT {x : Str} {st : Stmt} {ps : List Str} {f : Addr} {oc : Value} {od an : Option Addr} {sl : Array (Option Value)} {kV dc pm cd ct : Value} (X : K.In h) (G : h.Ns mainGlobals mg) (a : PySem.W.nsIn K mainGlobals x = some (some (.ref f)))
    (l : K.lookup f = some ⟨oc, od, .func (PySem.W.fnOf x x (defArgs st) (defBody st) (defScope st) .none kV dc pm an cd ct), sl⟩) (c : PySem.W.codeIn K cd x = true) (k : PySem.W.keepIn K (.ref f) = true)
    (hb : ∀ (kV doc pm : Value) (an : Option Addr) (cdv ct : Value) (us : List Value), us.length = ps.length → bindArgs (PySem.W.fnOf x x (defArgs st) (defBody st) (defScope st) .none kV doc pm an cdv ct) ⟨us, []⟩ = pure (ps.zip us)) : DefT K mg x st ps :=
  ⟨f, _, fun_mk l c k, (fun_mk l c k).binds hb, PySem.W.mg_of X G a⟩
/-- law itself -/
structure LawT (K : PySem.W.Frag) (mg : Str → Option Value) : Prop where
  ex : ∃ f fd, Fun K "law" "law" sLaw f fd ∧ mg "law" = some (.ref f) ∧ ∀ (s : Shared) (v : Value), BindsTo s fd ⟨[v], []⟩ [("_law_script", v)]
theorem lawT {f : Addr} {oc : Value} {od an : Option Addr} {sl : Array (Option Value)} {kV dc pm cd ct : Value} (X : K.In h) (G : h.Ns mainGlobals mg) (a : PySem.W.nsIn K mainGlobals "law" = some (some (.ref f)))
    (l : K.lookup f = some ⟨oc, od, .func (PySem.W.fnOf "law" "law" (defArgs sLaw) (defBody sLaw) (defScope sLaw) .none kV dc pm an cd ct), sl⟩) (c : PySem.W.codeIn K cd "law" = true) (k : PySem.W.keepIn K (.ref f) = true) : LawT K mg :=
  ⟨f, _, fun_mk l c k, PySem.W.mg_of X G a, fun s v => .of_eq rfl⟩
theorem methT {m qn : Str} {C f : Addr} {st : Stmt} {ps : List Str} {oc : Value} {od an : Option Addr} {sl : Array (Option Value)} {kV dc pm cd ct : Value}
    (a : PySem.W.findIn K (.ref C) m = some (some (.ref f))) (i : PySem.W.isFn K (.ref f) = true) (l : K.lookup f = some ⟨oc, od, .func (PySem.W.fnOf m qn (defArgs st) (defBody st) (defScope st) .none kV dc pm an cd ct), sl⟩) (c : PySem.W.codeIn K cd qn = true) (k : PySem.W.keepIn K (.ref f) = true)
    (hb : ∀ (kV doc pm : Value) (an : Option Addr) (cdv ct : Value) (us : List Value), us.length = ps.length → bindArgs (PySem.W.fnOf m qn (defArgs st) (defBody st) (defScope st) .none kV doc pm an cdv ct) ⟨us, []⟩ = pure (ps.zip us)) : MethT K C m qn st ps :=
  ⟨f, _, ⟨a, i, k⟩, fun_mk l c k, (fun_mk l c k).binds hb⟩
theorem initT {qn : Str} {C f : Addr} {st : Stmt} {ps : List Str} {oc : Value} {od an : Option Addr} {sl : Array (Option Value)} {kV dc pm cd ct : Value} (mk : PySem.W.makesIn K C = true) (kc : PySem.W.keepIn K (.ref C) = true)
    (a : PySem.W.findIn K (.ref C) "__init__" = some (some (.ref f))) (i : PySem.W.isFn K (.ref f) = true) (l : K.lookup f = some ⟨oc, od, .func (PySem.W.fnOf "__init__" qn (defArgs st) (defBody st) (defScope st) .none kV dc pm an cd ct), sl⟩) (c : PySem.W.codeIn K cd qn = true) (k : PySem.W.keepIn K (.ref f) = true)
    (hb : ∀ (kV doc pm : Value) (an : Option Addr) (cdv ct : Value) (us : List Value), us.length = ps.length → bindArgs (PySem.W.fnOf "__init__" qn (defArgs st) (defBody st) (defScope st) .none kV doc pm an cdv ct) ⟨us, []⟩ = pure (ps.zip us)) : InitT K C qn st ps :=
  ⟨f, _, ⟨mk, a, i, kc⟩, fun_mk l c k, (fun_mk l c k).binds hb⟩
theorem kit_self {C : Addr} : PySem.W.kitOne K (.ref C) (.ref C) = some true := by
  unfold PySem.W.kitOne
  rw [if_pos (by simp)]
theorem kit_ne2 {C D : Addr} {b : Bool} (hne : C ≠ D) (ic : PySem.W.isClsIn K D = true) (tc : PySem.W.typeIn K (.ref D) = some (.type "type")) (hs : PySem.W.subIn K (.ref C) (.ref D) = some b) : PySem.W.kitOne K (.ref C) (.ref D) = some b := by
  unfold PySem.W.kitOne
  rw [if_neg (by simpa using hne)]
  have h2 : (PySem.W.clsIn K D).isSome = true := ic
  have e2 : ((PySem.W.clsIn K D).isSome && PySem.W.typeIn K (.ref D) == some (.type "type")) = true := by
    rw [h2, tc]
    rfl
  show (if ((PySem.W.clsIn K D).isSome && PySem.W.typeIn K (.ref D) == some (.type "type")) = true then PySem.W.subIn K (.ref C) (.ref D) else none) = some b
  rw [if_pos e2]
  exact hs
theorem kit_ty2 {C : Addr} {n : String} {b : Bool} (hm : PySem.W.kitMeta n = true) (hs : PySem.W.subIn K (.ref C) (.type n) = some b) : PySem.W.kitOne K (.ref C) (.type n) = some b := by
  unfold PySem.W.kitOne
  rw [if_neg (by simp)]
  show (if PySem.W.kitMeta n = true then PySem.W.subIn K (.ref C) (.type n) else none) = some b
  rw [if_pos hm]
  exact hs
def c11 (c0 c1 c2 c3 c4 c5 c6 c7 c8 c9 c10 : Addr) : Nat → Addr
  | 0 => c0 | 1 => c1 | 2 => c2 | 3 => c3 | 4 => c4 | 5 => c5 | 6 => c6 | 7 => c7 | 8 => c8 | 9 => c9 | _ => c10
end
theorem all_mk {P : Program} {w : World} {K : PySem.W.Frag} {h : Heap} {mg : Str → Option Value} {fa C Cn Cp g0 g1 g2 g3 g4 g5 g6 g7 g8 g9 g10 : Addr}
    (X : K.In h) (G : h.Ns mainGlobals mg) (hfa : mg "law" = some (.ref fa))
    (aC : PySem.W.nsIn K mainGlobals "Year" = some (some (.ref C)))
    (T : YearF K mg C)
    (yi : InitT K C "Year.__init__" sYI ["self", "days", "heads", "limits", "rules"])
    (yn : MethT K C "names" "Year.names" sYN ["self"])
    (ya : MethT K C "above" "Year.above" sYA ["self", "name"])
    (yk : MethT K C "knots" "Year.knots" sYK ["self", "name"])
    (yu : MethT K C "under" "Year.under" sYU ["self", "name"])
    (B : Base K mg) (L : LawT K mg)
    (d0 : DefT K mg "is_whole" sWhole ["value", "least", "most"])
    (d1 : DefT K mg "is_word" sWord ["value"])
    (d2 : DefT K mg "is_list" sList ["value", "least", "most"])
    (d3 : DefT K mg "is_row" sRow ["value", "many"])
    (d4 : DefT K mg "are_heads" sHeadsP ["heads"])
    (d5 : DefT K mg "is_limit" sLimit ["row", "days", "names"])
    (d6 : DefT K mg "is_rule" sRule ["row", "days", "names"])
    (d7 : DefT K mg "is_at_most_one" sOne ["rules", "name"])
    (d8 : DefT K mg "are_limits" sLimitsP ["limits", "days", "names"])
    (d9 : DefT K mg "are_rules" sRulesP ["rules", "days", "names"])
    (d10 : DefT K mg "_law_well" sWell ["_law_cell"])
    (d11 : DefT K mg "_law_draw" sDraw ["_law_well_here", "_law_many"])
    (d12 : DefT K mg "_law_name" sName ["_law_well_here"])
    (d13 : DefT K mg "_law_names" sNames ["_law_well_here", "_law_many"])
    (d14 : DefT K mg "_law_heads" sLHeads ["_law_well_here"])
    (d15 : DefT K mg "_law_limits" sLLimits ["_law_well_here", "_law_heads_here", "_law_days"])
    (d16 : DefT K mg "_law_rules" sLRules ["_law_well_here", "_law_heads_here", "_law_days"])
    (d17 : DefT K mg "_law_parts" sLParts ["_law_well_here"])
    (d18 : DefT K mg "_law_knots" sLKnots ["_law_heads_here", "_law_name_here"])
    (d19 : DefT K mg "_law_all" sLAll ["_law_heads_here"])
    (d20 : DefT K mg "_law_asked" sLAsked ["_law_year"])
    (d21 : DefT K mg "_law_due" sLDue ["_law_parts_here"])
    (N : ErrF K mg "NoYear" Cn)
    (eg0 : PySem.W.nsIn K mainGlobals "Full" = some (some (.ref g0))) (ig0 : PySem.W.isClsIn K g0 = true) (jg0 : PySem.W.typeIn K (.ref g0) = some (.type "type")) (sg0 : PySem.W.subIn K (.ref Cn) (.ref g0) = some false)
    (eg1 : PySem.W.nsIn K mainGlobals "Leaned" = some (some (.ref g1))) (ig1 : PySem.W.isClsIn K g1 = true) (jg1 : PySem.W.typeIn K (.ref g1) = some (.type "type")) (sg1 : PySem.W.subIn K (.ref Cn) (.ref g1) = some false)
    (eg2 : PySem.W.nsIn K mainGlobals "NoDay" = some (some (.ref g2))) (ig2 : PySem.W.isClsIn K g2 = true) (jg2 : PySem.W.typeIn K (.ref g2) = some (.type "type")) (sg2 : PySem.W.subIn K (.ref Cn) (.ref g2) = some false)
    (eg3 : PySem.W.nsIn K mainGlobals "NoEntry" = some (some (.ref g3))) (ig3 : PySem.W.isClsIn K g3 = true) (jg3 : PySem.W.typeIn K (.ref g3) = some (.type "type")) (sg3 : PySem.W.subIn K (.ref Cn) (.ref g3) = some false)
    (eg4 : PySem.W.nsIn K mainGlobals "NoHead" = some (some (.ref g4))) (ig4 : PySem.W.isClsIn K g4 = true) (jg4 : PySem.W.typeIn K (.ref g4) = some (.type "type")) (sg4 : PySem.W.subIn K (.ref Cn) (.ref g4) = some false)
    (eg5 : PySem.W.nsIn K mainGlobals "NoNumber" = some (some (.ref g5))) (ig5 : PySem.W.isClsIn K g5 = true) (jg5 : PySem.W.typeIn K (.ref g5) = some (.type "type")) (sg5 : PySem.W.subIn K (.ref Cn) (.ref g5) = some false)
    (eg6 : PySem.W.nsIn K mainGlobals "NoPromise" = some (some (.ref g6))) (ig6 : PySem.W.isClsIn K g6 = true) (jg6 : PySem.W.typeIn K (.ref g6) = some (.type "type")) (sg6 : PySem.W.subIn K (.ref Cn) (.ref g6) = some false)
    (eg7 : PySem.W.nsIn K mainGlobals "NoRow" = some (some (.ref g7))) (ig7 : PySem.W.isClsIn K g7 = true) (jg7 : PySem.W.typeIn K (.ref g7) = some (.type "type")) (sg7 : PySem.W.subIn K (.ref Cn) (.ref g7) = some false)
    (eg8 : PySem.W.nsIn K mainGlobals "NoText" = some (some (.ref g8))) (ig8 : PySem.W.isClsIn K g8 = true) (jg8 : PySem.W.typeIn K (.ref g8) = some (.type "type")) (sg8 : PySem.W.subIn K (.ref Cn) (.ref g8) = some false)
    (eg9 : PySem.W.nsIn K mainGlobals "Passed" = some (some (.ref g9))) (ig9 : PySem.W.isClsIn K g9 = true) (jg9 : PySem.W.typeIn K (.ref g9) = some (.type "type")) (sg9 : PySem.W.subIn K (.ref Cn) (.ref g9) = some false)
    (eg10 : PySem.W.nsIn K mainGlobals "Taken" = some (some (.ref g10))) (ig10 : PySem.W.isClsIn K g10 = true) (jg10 : PySem.W.typeIn K (.ref g10) = some (.type "type")) (sg10 : PySem.W.subIn K (.ref Cn) (.ref g10) = some false)
    (ndE : [Cn, g0, g1, g2, g3, g4, g5, g6, g7, g8, g9, g10].Nodup)
    (kV : PySem.W.kitOne K (.ref Cn) (.type "ValueError") = some true)
    (xc : ExcC K Cn)
    (eP : PySem.W.nsIn K mainGlobals "PurseError" = some (some (.ref Cp)))
    (xm : PySem.W.exmOne K (.ref Cn) (.ref Cp) = some true)
    (ve : mg "ValueError" = none)
    (d22 : DefT K mg "_law_refused" sRef ["_law_parts_here"])
    (d23 : DefT K mg "_law_word" sLWord ["_law_thing_here"])
    (d24 : DefT K mg "_law_within" sWithin ["_law_thing_here", "_law_least", "_law_most"])
    (d25 : DefT K mg "_law_rows" sLRows ["_law_thing_here", "_law_most", "_law_wide"])
    (d26 : DefT K mg "_law_good" sGood ["_law_parts_here"])
    (d27 : DefT K mg "_law_at_most_one" sLOne ["_law_some"])
    (d28 : DefT K mg "_law_thing" sThing ["_law_well_here", "_law_thing_here", "_law_pool"])
    (d29 : DefT K mg "_law_changed" sChg ["_law_well_here", "_law_parts_here"]) :
    ∃ fd : FuncData, (∀ (s : Shared) (v : Value), BindsTo s fd ⟨[v], []⟩ [("_law_script", v)]) ∧ ∀ base : Heap, K.In base → base.Ns mainGlobals mg → FnOk P w K mg base CX0 7 fa fd ["_law_script"] (spLaw K) := by
  obtain ⟨f, fd, F, hm, hb⟩ := L.ex
  have ef : fa = f := by
    have e := hfa.symm.trans hm
    injection e with e
    injection e
  subst ef
  refine ⟨fd, hb, fun base _ _ => ?_⟩
  have kWh : Cal P w K mg base 1 "is_whole" spWhole := c_whole B d0
  have kWo : Cal P w K mg base 1 "is_word" spWord := c_word B d1
  have kLs : Cal P w K mg base 1 "is_list" spList := c_list B d2
  have kRo : Cal P w K mg base 1 "is_row" spRow := c_row B d3
  have kHs : Cal P w K mg base 2 "are_heads" spHeadsP := c_headsP B kLs kRo kWo d4
  have kLi : Cal P w K mg base 2 "is_limit" spLimit := c_limit B kRo kWh d5
  have kRu : Cal P w K mg base 2 "is_rule" spRule := c_rule B kRo kWh d6
  have kOn : Cal P w K mg base 1 "is_at_most_one" spOne := c_one d7
  have kLs2 : Cal P w K mg base 3 "are_limits" spLimitsP := c_limitsP B kLs kLi d8
  have kRs2 : Cal P w K mg base 3 "are_rules" spRulesP := c_rulesP B kLs kRu kOn d9
  have kY : MakT P w K mg base 4 "Year" C (spYear C) := c_year B T kWh kHs kLs2 kRs2 yi
  have kYn : MetT P w K mg base 1 C "names" (spYN C) := c_yn T yn
  have kYa : MetT P w K mg base 1 C "above" (spYA C) := c_ya T ya
  have kYk : MetT P w K mg base 2 C "knots" (spYK C) := c_yk T kYa yk
  have kYu : MetT P w K mg base 3 C "under" (spYU C) := c_yu T kYa kYn kYk yu
  have kWl : Cal P w K mg base 1 "_law_well" spWell := c_well B d10
  have kDr : Cal P w K mg base 1 "_law_draw" spDraw := c_draw d11
  have kNm : Cal P w K mg base 2 "_law_name" spName := c_name B kDr d12
  have kNs : Cal P w K mg base 3 "_law_names" spNames := c_names B kDr kNm d13
  have kLH : Cal P w K mg base 4 "_law_heads" spLHeads := c_lheads B kDr kNs d14
  have kLL : Cal P w K mg base 2 "_law_limits" spLLimits := c_llimits B kDr d15
  have kLR : Cal P w K mg base 2 "_law_rules" spLRules := c_lrules B kDr d16
  have kP : Cal P w K mg base 5 "_law_parts" spLParts := c_lparts kDr kLH kLL kLR d17
  have kK : Cal P w K mg base 1 "_law_knots" spLKnots := c_lknots B d18
  have kA : Cal P w K mg base 2 "_law_all" spLAll := c_lall kK d19
  have kD : Cal P w K mg base 3 "_law_due" spLDue := c_ldue kA d21
  have kAs : Cal P w K mg base 4 "_law_asked" (spLAsked C) := c_lasked B T kYa kYn kYk kYu d20
  have kitA : ∀ i < 11, PySem.W.kitOne K (.ref Cn) (.ref (c11 g0 g1 g2 g3 g4 g5 g6 g7 g8 g9 g10 i)) = some false := by
    intro i hi
    match i, hi with
    | 0, _ => exact kit_ne2 (fun e => absurd (L2.nd_ix ndE (i := 0) (j := 1) (x := Cn) rfl (congrArg some e.symm)) (by decide)) ig0 jg0 sg0
    | 1, _ => exact kit_ne2 (fun e => absurd (L2.nd_ix ndE (i := 0) (j := 2) (x := Cn) rfl (congrArg some e.symm)) (by decide)) ig1 jg1 sg1
    | 2, _ => exact kit_ne2 (fun e => absurd (L2.nd_ix ndE (i := 0) (j := 3) (x := Cn) rfl (congrArg some e.symm)) (by decide)) ig2 jg2 sg2
    | 3, _ => exact kit_ne2 (fun e => absurd (L2.nd_ix ndE (i := 0) (j := 4) (x := Cn) rfl (congrArg some e.symm)) (by decide)) ig3 jg3 sg3
    | 4, _ => exact kit_ne2 (fun e => absurd (L2.nd_ix ndE (i := 0) (j := 5) (x := Cn) rfl (congrArg some e.symm)) (by decide)) ig4 jg4 sg4
    | 5, _ => exact kit_ne2 (fun e => absurd (L2.nd_ix ndE (i := 0) (j := 6) (x := Cn) rfl (congrArg some e.symm)) (by decide)) ig5 jg5 sg5
    | 6, _ => exact kit_ne2 (fun e => absurd (L2.nd_ix ndE (i := 0) (j := 7) (x := Cn) rfl (congrArg some e.symm)) (by decide)) ig6 jg6 sg6
    | 7, _ => exact kit_ne2 (fun e => absurd (L2.nd_ix ndE (i := 0) (j := 8) (x := Cn) rfl (congrArg some e.symm)) (by decide)) ig7 jg7 sg7
    | 8, _ => exact kit_ne2 (fun e => absurd (L2.nd_ix ndE (i := 0) (j := 9) (x := Cn) rfl (congrArg some e.symm)) (by decide)) ig8 jg8 sg8
    | 9, _ => exact kit_ne2 (fun e => absurd (L2.nd_ix ndE (i := 0) (j := 10) (x := Cn) rfl (congrArg some e.symm)) (by decide)) ig9 jg9 sg9
    | 10, _ => exact kit_ne2 (fun e => absurd (L2.nd_ix ndE (i := 0) (j := 11) (x := Cn) rfl (congrArg some e.symm)) (by decide)) ig10 jg10 sg10
  have Er : ErrAll K mg Cn Cp (c11 g0 g1 g2 g3 g4 g5 g6 g7 g8 g9 g10) := ⟨PySem.W.mg_of X G eg0, PySem.W.mg_of X G eg1, PySem.W.mg_of X G eg2, PySem.W.mg_of X G eg3, PySem.W.mg_of X G eg4, PySem.W.mg_of X G eg5, PySem.W.mg_of X G eg6, PySem.W.mg_of X G eg7, PySem.W.mg_of X G eg8, PySem.W.mg_of X G eg9, PySem.W.mg_of X G eg10, kitA, kit_self, kV, xc, PySem.W.mg_of X G eP, xm, ve⟩
  have vWh : Cal P w K mg base 1 "is_whole" spWholeV := c_wholeV B d0
  have vWo : Cal P w K mg base 1 "is_word" spWordV := c_wordV B d1
  have vLs : Cal P w K mg base 1 "is_list" spListV := c_listV B d2
  have vRo : Cal P w K mg base 1 "is_row" spRowV := c_rowV B d3
  have vHs : Cal P w K mg base 2 "are_heads" spHeadsV := c_headsV B vLs vRo vWo d4
  have vLi : Cal P w K mg base 2 "is_limit" spLimitV := c_limitV B vRo vWh d5
  have vRu : Cal P w K mg base 2 "is_rule" spRuleV := c_ruleV B vRo vWh d6
  have vOn : Cal P w K mg base 1 "is_at_most_one" spOneV := c_oneV d7
  have vLm : Cal P w K mg base 3 "are_limits" spLimitsV := c_limitsV B vLs vLi d8
  have vRl : Cal P w K mg base 3 "are_rules" spRulesV := c_rulesV B vLs vRu vOn d9
  have yB : MakX P w K mg base 4 "Year" C (spYearB C Cn) := c_yearB B T N vWh vHs vLm vRl yi
  have kRf : Cal P w K mg base 6 "_law_refused" spRefY := c_refY B N Er yB d22
  have kLw : Cal P w K mg base 1 "_law_word" spWordV := c_lword B d23
  have kWi : Cal P w K mg base 1 "_law_within" spWholeV := c_within B d24
  have kLr : Cal P w K mg base 1 "_law_rows" spLRows := c_lrows B d25
  have kLo : Cal P w K mg base 2 "_law_at_most_one" spLOne := c_lone kWi d27
  have kGd : Cal P w K mg base 3 "_law_good" spGood := c_good B kWi kLw kLr kLo d26
  have kTg : Cal P w K mg base 2 "_law_thing" spThing := c_thing B kDr d28
  have kCg : Cal P w K mg base 3 "_law_changed" spChg := c_changed B kDr kTg d29
  exact ok_law F B kWl kDr kP kCg kGd kRf kY kD kAs
theorem walk {l : PySem.W.OpenLaw} {q : Program} {loose : List Str} {XP : (Str → Option Value) → Heap → Prop} {YP : World → Heap → Prop} {d : DefRec} {K : Params → PySem.W.Frag} (hn : l.most = some 63) (hdf : d.params.defaults = [])
    (hY : ∀ (w : World) (h : Heap), YP w h → (K w.params).In h)
    (F : ∀ (w : World) (mg : Str → Option Value) (fa : Addr) (h : Heap), (K w.params).In h → h.Ns mainGlobals mg → mg d.name = some (.ref fa) →
      ∃ fd : FuncData, (∀ (s : Shared) (u : Value), BindsTo s fd ⟨[u], []⟩ [("_law_script", u)]) ∧ ∀ base : Heap, (K w.params).In base → base.Ns mainGlobals mg → FnOk l.prog w (K w.params) mg base CX0 7 fa fd ["_law_script"] (spLaw (K w.params))) :
    PySem.W.WalkO q loose XP YP l.row.toRowW d [] (fun f vs => PySem.call f vs) :=
  L2.walk_of (n := 63) (k := 7) (x := "_law_script") (CX := fun _ => CX0) (sp := fun w => spLaw (K w.params)) hn (by decide) hdf ⟨rfl, by decide, by decide⟩ hY F (fun _ _ a ns hl _ hS => ⟨a, ns, rfl, hS, hl, fun _ => rfl⟩) fun _ _ _ _ _ z => z
end KP
open PySem PySem.W PyProof.Rows
set_option maxRecDepth 100000 in
set_option maxHeartbeats 0 in
theorem PySem.Challenge.cw_knotpurse_k09_whole_years_spoilt_anywher_holds : PySem.Challenge.rw_knotpurse_k09_whole_years_spoilt_anywher.Holds := by
  w_on; o_law; k_head; (case hw => w_witness2)
  k_fill
  refine KP.walk (l := PySem.Challenge.rw_knotpurse_k09_whole_years_spoilt_anywher) rfl rfl (fun w h Y => PySem.W.kIn_of Y) ?F
  case F =>
    intro w mg fa h KX G hmg
    refine' KP.all_mk KX G hmg ?aC ?T ?yi ?yn ?ya ?yk ?yu ?B ?L ?d0 ?d1 ?d2 ?d3 ?d4 ?d5 ?d6 ?d7 ?d8 ?d9 ?d10 ?d11 ?d12 ?d13 ?d14 ?d15 ?d16 ?d17 ?d18 ?d19 ?d20 ?d21 ?q_N ?q_eg0 ?q_ig0 ?q_jg0 ?q_sg0 ?q_eg1 ?q_ig1 ?q_jg1 ?q_sg1 ?q_eg2 ?q_ig2 ?q_jg2 ?q_sg2 ?q_eg3 ?q_ig3 ?q_jg3 ?q_sg3 ?q_eg4 ?q_ig4 ?q_jg4 ?q_sg4 ?q_eg5 ?q_ig5 ?q_jg5 ?q_sg5 ?q_eg6 ?q_ig6 ?q_jg6 ?q_sg6 ?q_eg7 ?q_ig7 ?q_jg7 ?q_sg7 ?q_eg8 ?q_ig8 ?q_jg8 ?q_sg8 ?q_eg9 ?q_ig9 ?q_jg9 ?q_sg9 ?q_eg10 ?q_ig10 ?q_jg10 ?q_sg10 ?q_ndE ?q_kV ?q_xc ?q_eP ?q_xm ?q_ve ?d22 ?d23 ?d24 ?d25 ?d26 ?d27 ?d28 ?d29
    (case aC => k_is)
    (case T => refine' ⟨⟨?p1, ?p2, ?p3, ?p4⟩, PySem.W.mg_of KX G ?p5, ?p6, ?p7, ?p8, ?p9⟩; (case p1 => k_is); (case p2 => k_is); (case p3 => k_is); (case p4 => k_is); (case p5 => k_is); (case p6 => show PySem.W.findIn _ _ _ = _; k_is); (case p7 => show PySem.W.findIn _ _ _ = _; k_is); (case p8 => show PySem.W.findIn _ _ _ = _; k_is); (case p9 => show PySem.W.findIn _ _ _ = _; k_is))
    (case yi => refine' KP.initT ?m ?kc ?a ?i ?l ?c ?k (fun _ _ _ _ _ _ us hl => match us, hl with | [_, _, _, _, _], _ => rfl); (case m => k_is); (case kc => k_is); (case a => k_is); (case i => k_is); (case l => k_is); (case c => k_is); (case k => k_is))
    (case yn => refine' KP.methT ?a ?i ?l ?c ?k (fun _ _ _ _ _ _ us hl => match us, hl with | [_], _ => rfl); (case a => k_is); (case i => k_is); (case l => k_is); (case c => k_is); (case k => k_is))
    (case ya => refine' KP.methT ?a ?i ?l ?c ?k (fun _ _ _ _ _ _ us hl => match us, hl with | [_, _], _ => rfl); (case a => k_is); (case i => k_is); (case l => k_is); (case c => k_is); (case k => k_is))
    (case yk => refine' KP.methT ?a ?i ?l ?c ?k (fun _ _ _ _ _ _ us hl => match us, hl with | [_, _], _ => rfl); (case a => k_is); (case i => k_is); (case l => k_is); (case c => k_is); (case k => k_is))
    (case yu => refine' KP.methT ?a ?i ?l ?c ?k (fun _ _ _ _ _ _ us hl => match us, hl with | [_, _], _ => rfl); (case a => k_is); (case i => k_is); (case l => k_is); (case c => k_is); (case k => k_is))
    (case B => exact ⟨PySem.W.mg_none_of KX G (by k_is), PySem.W.mg_none_of KX G (by k_is), PySem.W.mg_none_of KX G (by k_is), PySem.W.mg_none_of KX G (by k_is), PySem.W.mg_none_of KX G (by k_is), PySem.W.mg_none_of KX G (by k_is), PySem.W.mg_none_of KX G (by k_is), PySem.W.mg_none_of KX G (by k_is), ⟨_, PySem.W.mg_of KX G (by k_is)⟩, ⟨_, PySem.W.mg_of KX G (by k_is)⟩, PySem.W.mg_none_of KX G (by k_is), PySem.W.mg_none_of KX G (by k_is), ⟨_, PySem.W.mg_of KX G (by k_is)⟩, ⟨_, PySem.W.mg_of KX G (by k_is)⟩, ⟨_, PySem.W.mg_of KX G (by k_is)⟩, ⟨_, PySem.W.mg_of KX G (by k_is)⟩, ⟨_, PySem.W.mg_of KX G (by k_is)⟩, ⟨_, PySem.W.mg_of KX G (by k_is)⟩⟩)
    (case L => refine' KP.lawT KX G ?a ?l ?c ?k; (case a => k_is); (case l => k_is); (case c => k_is); (case k => k_is))
    (case d0 => refine' KP.defT KX G ?a ?l ?c ?k (fun _ _ _ _ _ _ us hl => match us, hl with | [_, _, _], _ => rfl); (case a => k_is); (case l => k_is); (case c => k_is); (case k => k_is))
    (case d1 => refine' KP.defT KX G ?a ?l ?c ?k (fun _ _ _ _ _ _ us hl => match us, hl with | [_], _ => rfl); (case a => k_is); (case l => k_is); (case c => k_is); (case k => k_is))
    (case d2 => refine' KP.defT KX G ?a ?l ?c ?k (fun _ _ _ _ _ _ us hl => match us, hl with | [_, _, _], _ => rfl); (case a => k_is); (case l => k_is); (case c => k_is); (case k => k_is))
    (case d3 => refine' KP.defT KX G ?a ?l ?c ?k (fun _ _ _ _ _ _ us hl => match us, hl with | [_, _], _ => rfl); (case a => k_is); (case l => k_is); (case c => k_is); (case k => k_is))
    (case d4 => refine' KP.defT KX G ?a ?l ?c ?k (fun _ _ _ _ _ _ us hl => match us, hl with | [_], _ => rfl); (case a => k_is); (case l => k_is); (case c => k_is); (case k => k_is))
    (case d5 => refine' KP.defT KX G ?a ?l ?c ?k (fun _ _ _ _ _ _ us hl => match us, hl with | [_, _, _], _ => rfl); (case a => k_is); (case l => k_is); (case c => k_is); (case k => k_is))
    (case d6 => refine' KP.defT KX G ?a ?l ?c ?k (fun _ _ _ _ _ _ us hl => match us, hl with | [_, _, _], _ => rfl); (case a => k_is); (case l => k_is); (case c => k_is); (case k => k_is))
    (case d7 => refine' KP.defT KX G ?a ?l ?c ?k (fun _ _ _ _ _ _ us hl => match us, hl with | [_, _], _ => rfl); (case a => k_is); (case l => k_is); (case c => k_is); (case k => k_is))
    (case d8 => refine' KP.defT KX G ?a ?l ?c ?k (fun _ _ _ _ _ _ us hl => match us, hl with | [_, _, _], _ => rfl); (case a => k_is); (case l => k_is); (case c => k_is); (case k => k_is))
    (case d9 => refine' KP.defT KX G ?a ?l ?c ?k (fun _ _ _ _ _ _ us hl => match us, hl with | [_, _, _], _ => rfl); (case a => k_is); (case l => k_is); (case c => k_is); (case k => k_is))
    (case d10 => refine' KP.defT KX G ?a ?l ?c ?k (fun _ _ _ _ _ _ us hl => match us, hl with | [_], _ => rfl); (case a => k_is); (case l => k_is); (case c => k_is); (case k => k_is))
    (case d11 => refine' KP.defT KX G ?a ?l ?c ?k (fun _ _ _ _ _ _ us hl => match us, hl with | [_, _], _ => rfl); (case a => k_is); (case l => k_is); (case c => k_is); (case k => k_is))
    (case d12 => refine' KP.defT KX G ?a ?l ?c ?k (fun _ _ _ _ _ _ us hl => match us, hl with | [_], _ => rfl); (case a => k_is); (case l => k_is); (case c => k_is); (case k => k_is))
    (case d13 => refine' KP.defT KX G ?a ?l ?c ?k (fun _ _ _ _ _ _ us hl => match us, hl with | [_, _], _ => rfl); (case a => k_is); (case l => k_is); (case c => k_is); (case k => k_is))
    (case d14 => refine' KP.defT KX G ?a ?l ?c ?k (fun _ _ _ _ _ _ us hl => match us, hl with | [_], _ => rfl); (case a => k_is); (case l => k_is); (case c => k_is); (case k => k_is))
    (case d15 => refine' KP.defT KX G ?a ?l ?c ?k (fun _ _ _ _ _ _ us hl => match us, hl with | [_, _, _], _ => rfl); (case a => k_is); (case l => k_is); (case c => k_is); (case k => k_is))
    (case d16 => refine' KP.defT KX G ?a ?l ?c ?k (fun _ _ _ _ _ _ us hl => match us, hl with | [_, _, _], _ => rfl); (case a => k_is); (case l => k_is); (case c => k_is); (case k => k_is))
    (case d17 => refine' KP.defT KX G ?a ?l ?c ?k (fun _ _ _ _ _ _ us hl => match us, hl with | [_], _ => rfl); (case a => k_is); (case l => k_is); (case c => k_is); (case k => k_is))
    (case d18 => refine' KP.defT KX G ?a ?l ?c ?k (fun _ _ _ _ _ _ us hl => match us, hl with | [_, _], _ => rfl); (case a => k_is); (case l => k_is); (case c => k_is); (case k => k_is))
    (case d19 => refine' KP.defT KX G ?a ?l ?c ?k (fun _ _ _ _ _ _ us hl => match us, hl with | [_], _ => rfl); (case a => k_is); (case l => k_is); (case c => k_is); (case k => k_is))
    (case d20 => refine' KP.defT KX G ?a ?l ?c ?k (fun _ _ _ _ _ _ us hl => match us, hl with | [_], _ => rfl); (case a => k_is); (case l => k_is); (case c => k_is); (case k => k_is))
    (case d21 => refine' KP.defT KX G ?a ?l ?c ?k (fun _ _ _ _ _ _ us hl => match us, hl with | [_], _ => rfl); (case a => k_is); (case l => k_is); (case c => k_is); (case k => k_is))
    (case q_N => refine' ⟨PySem.W.mg_of KX G ?z1, ?z2, ?z3, ?z4, ?z5⟩; (case z1 => k_is); (case z2 => k_exc); (case z3 => k_is); (case z4 => k_is); (case z5 => k_is))
    (case q_eg0 => k_is)
    (case q_ig0 => k_is)
    (case q_jg0 => k_is)
    (case q_sg0 => k_is)
    (case q_eg1 => k_is)
    (case q_ig1 => k_is)
    (case q_jg1 => k_is)
    (case q_sg1 => k_is)
    (case q_eg2 => k_is)
    (case q_ig2 => k_is)
    (case q_jg2 => k_is)
    (case q_sg2 => k_is)
    (case q_eg3 => k_is)
    (case q_ig3 => k_is)
    (case q_jg3 => k_is)
    (case q_sg3 => k_is)
    (case q_eg4 => k_is)
    (case q_ig4 => k_is)
    (case q_jg4 => k_is)
    (case q_sg4 => k_is)
    (case q_eg5 => k_is)
    (case q_ig5 => k_is)
    (case q_jg5 => k_is)
    (case q_sg5 => k_is)
    (case q_eg6 => k_is)
    (case q_ig6 => k_is)
    (case q_jg6 => k_is)
    (case q_sg6 => k_is)
    (case q_eg7 => k_is)
    (case q_ig7 => k_is)
    (case q_jg7 => k_is)
    (case q_sg7 => k_is)
    (case q_eg8 => k_is)
    (case q_ig8 => k_is)
    (case q_jg8 => k_is)
    (case q_sg8 => k_is)
    (case q_eg9 => k_is)
    (case q_ig9 => k_is)
    (case q_jg9 => k_is)
    (case q_sg9 => k_is)
    (case q_eg10 => k_is)
    (case q_ig10 => k_is)
    (case q_jg10 => k_is)
    (case q_sg10 => k_is)
    (case q_ndE => decide)
    (case q_kV => refine' KP.kit_ty2 (by decide +kernel) ?z1; (case z1 => k_is))
    (case q_xc => exact ⟨by k_is, by k_is, by k_is, by k_is, by k_is, by k_is, by k_is, by k_is⟩)
    (case q_eP => k_is)
    (case q_xm => refine' PySem.W.exm_ref ?z1 ?z2 ?z3 ?z4; (case z1 => k_is); (case z2 => k_is); (case z3 => k_is); (case z4 => k_is))
    (case q_ve => exact PySem.W.mg_none_of KX G (by k_is))
    (case d22 => refine' KP.defT KX G ?a ?l ?c ?k (fun _ _ _ _ _ _ us hl => match us, hl with | [_], _ => rfl); (case a => k_is); (case l => k_is); (case c => k_is); (case k => k_is))
    (case d23 => refine' KP.defT KX G ?a ?l ?c ?k (fun _ _ _ _ _ _ us hl => match us, hl with | [_], _ => rfl); (case a => k_is); (case l => k_is); (case c => k_is); (case k => k_is))
    (case d24 => refine' KP.defT KX G ?a ?l ?c ?k (fun _ _ _ _ _ _ us hl => match us, hl with | [_, _, _], _ => rfl); (case a => k_is); (case l => k_is); (case c => k_is); (case k => k_is))
    (case d25 => refine' KP.defT KX G ?a ?l ?c ?k (fun _ _ _ _ _ _ us hl => match us, hl with | [_, _, _], _ => rfl); (case a => k_is); (case l => k_is); (case c => k_is); (case k => k_is))
    (case d26 => refine' KP.defT KX G ?a ?l ?c ?k (fun _ _ _ _ _ _ us hl => match us, hl with | [_], _ => rfl); (case a => k_is); (case l => k_is); (case c => k_is); (case k => k_is))
    (case d27 => refine' KP.defT KX G ?a ?l ?c ?k (fun _ _ _ _ _ _ us hl => match us, hl with | [_], _ => rfl); (case a => k_is); (case l => k_is); (case c => k_is); (case k => k_is))
    (case d28 => refine' KP.defT KX G ?a ?l ?c ?k (fun _ _ _ _ _ _ us hl => match us, hl with | [_, _, _], _ => rfl); (case a => k_is); (case l => k_is); (case c => k_is); (case k => k_is))
    (case d29 => refine' KP.defT KX G ?a ?l ?c ?k (fun _ _ _ _ _ _ us hl => match us, hl with | [_, _], _ => rfl); (case a => k_is); (case l => k_is); (case c => k_is); (case k => k_is))
