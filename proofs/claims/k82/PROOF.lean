import PyProof.Rows.All
import Wide.All
import OpenK.AllK
import Wide.FinOn
import HandS.ForMost
import HandS.Walk
import HandS.Wide
import HandS.IsInst
import HandS.NoneIn
import HandS.Style
import HandS.Codes
import HandS.ForExc
import HandS.TupAny
import PyProof.NeKinds
import HandS.ExcIs
import PyProof.Rows.MatchSeqLen
import KE.KUnpackStar
import HandS.FStr
import HandS.RaiseMore
import HandS.ExcCtx
import HandS.SuiteRaise
import HandS.RaiseFrom
import KE.KStateDown
import HandS.Head0
import HandS.Head1
import HandS.Head2
import HandS.Words
import HandS.HeadEnd
import HandS.HeadHook1
import PySem.Challenge.RW_knotpurse_k82_no_year_as_text
set_option Elab.async false
set_option maxRecDepth 100000
set_option linter.all false
namespace KP
open PySem L2
def top (i : Nat) : Stmt := PySem.Challenge.pw_knotpurse_k82_no_year_as_text.main.body.getD i (.Pass ⟨0, 0, 0, 0⟩)
/-! ### how a def of the text is known, and called -/
structure DefT (K : PySem.W.Frag) (mg : Str → Option Value) (x : Str) (st : Stmt) (ps : List Str) : Prop where
  ex : ∃ f fd, Fun K x x st f fd ∧ Binds K fd ps [] ∧ mg x = some (.ref f)
structure Cal (P : Program) (w : World) (K : PySem.W.Frag) (mg : Str → Option Value) (base : Heap) (k : Nat) (x : Str) (sp : Sp) : Prop where
  ex : ∃ f fd ps, FnOk P w K mg base CX0 k f fd ps sp ∧ mg x = some (.ref f) ∧ PySem.W.keepIn K (.ref f) = true ∧ Binds K fd ps []
section
variable {P : Program} {w : World} {K : PySem.W.Frag} {mg : Str → Option Value} {base : Heap}
theorem cal {x : Str} {st : Stmt} {N ps : List Str} {k : Nat} {sp : Sp} (D : DefT K mg x st ps) (S : FnScope N ps (defScope st)) (len : ∀ vs H Q E, sp vs H Q E → vs.length = ps.length)
    (hbody : ∀ (f : Addr) (cdv : Value) (A : Around) (outer : List Env) (s : Shared) (H : Hp) (vs : List V) (Q : VK) (E : XK), Room k (A.deeper (PyProof.Rows.envOfC x (defScope st) s.heap.objs.size f cdv)) → sp vs H Q E →
      ∃ t, PSs (cxOf CX0 P w K mg base N x (defScope st) f cdv A outer s H E).nox (defBody st) t ∧ t { nx := fun _ H' => Q .non H', rt := Q } (start N vs) H) : Cal P w K mg base (k + 1) x sp := by
  obtain ⟨f, fd, F, b, m⟩ := D.ex
  exact ⟨f, fd, ps, F.ok S len (hbody f), m, F.kp, b⟩
end
section
variable {X : Cx} {k j : Nat} {x : Str} {sp : Sp} {p pos : Pos} {e : Expr} {es : List Expr} {t : TA}
/-- f(e, ..) -/
theorem pe_cl (c : Cal X.prog X.w X.K X.mg X.base k x sp) (hr : Room j X.A) (hk : k ≤ j) (hg : Gl X x) (ha : PA X (e :: es) t)
    (hdb : (x == ("__debug__" : Str)) = false := by decide) (he : starEach (e :: es) X.env = (false, eval e X.env) :: starEach es X.env := by rfl) (hpl : (backTo pos (starEach es X.env)).any (·.1) = false := by rfl) :
    PE X (.Call (.Name x p) (e :: es) [] pos) (tCall sp [] E0 t) := by
  obtain ⟨f, fd, ps, F, m, kp, b⟩ := c.ex
  exact pe_call F (hr.mono hk) hg m kp b .nil pass0 ha hdb he hpl
end
theorem yes {σ : L2.St} {H : Hp} {Q : Bool → Hp → Prop} (h : Q true H) : tYes σ H Q := h
/-! ### texts of letters -/
def letters : Str := "abcdefghijklmnopqrstuvwxyz"
def Ltr (c : Nat) : Prop := c ∈ letters.cps.toList
def IsW (x : Str) : Prop := (∀ c ∈ x.cps.toList, Ltr c) ∧ 1 ≤ x.length ∧ x.length ≤ 8
def IsN (x : Str) : Prop := x = "" ∨ IsW x
/-! ### the written part: what of it the walk asks -/
structure Base (K : PySem.W.Frag) (mg : Str → Option Value) : Prop where
  isi : mg "isinstance" = none
  bool : mg "bool" = none
  int : mg "int" = none
  str : mg "str" = none
  tuple : mg "tuple" = none
  len : mg "len" = none
  all : mg "all" = none
  range : mg "range" = none
  letters : ∃ t, mg "LETTERS" = some (.str letters t)
  mostL : ∃ t, mg "MOST_LETTERS" = some (.int 8 t)
  list : mg "list" = none
  dict : mg "dict" = none
  mostD : ∃ t, mg "MOST_DAYS" = some (.int 30 t)
  mostH : ∃ t, mg "MOST_HEADS" = some (.int 8 t)
  mostLi : ∃ t, mg "MOST_LIMITS" = some (.int 6 t)
  mostR : ∃ t, mg "MOST_RULES" = some (.int 4 t)
  mostM : ∃ t, mg "MOST_LIMIT" = some (.int 1000000000000000 t)
  mostW : ∃ t, mg "MOST_WHOLE" = some (.int 1000 t)
abbrev sWhole : Stmt := top 17
abbrev sWord : Stmt := top 18
def spWhole : Sp := fun vs H Q _ => ∃ v lo hi : Int, vs = [.int v, .int lo, .int hi] ∧ Q (.bl (decide (lo ≤ v ∧ v ≤ hi))) H
def spWord : Sp := fun vs H Q _ => ∃ x : Str, vs = [.str x] ∧ IsW x ∧ ∀ H', Same H H' → Q (.bl true) H'
section
variable {P : Program} {w : World} {K : PySem.W.Frag} {mg : Str → Option Value} {base : Heap}
theorem scWhole : FnScope ["value", "least", "most"] ["value", "least", "most"] (defScope sWhole) := ⟨rfl, rfl, rfl, by decide +kernel, rfl, by decide +kernel, by decide +kernel⟩
theorem c_whole (B : Base K mg) (D : DefT K mg "is_whole" sWhole ["value", "least", "most"]) : Cal P w K mg base 1 "is_whole" spWhole := by
  refine cal D scWhole (fun vs H Q E h => ?_) (fun f cdv A outer s H vs Q E hr h => ?_)
  · obtain ⟨v, lo, hi, rfl, _⟩ := h
    rfl
  · obtain ⟨v, lo, hi, rfl, k⟩ := h
    refine ⟨_, pss_cons (ps_if (PW.pt (pw_or (pt_val (pe_callB call_isi (by rfl) B.isi (by decide +kernel) (pa_cons (pv 0) (pa_cons (pe_bltn (v := .ty "bool") (by rfl) B.bool (by decide +kernel) rfl) pa_nil))))
        (pw_or1 (pt_not (pt_val (pe_callB call_isi (by rfl) B.isi (by decide +kernel) (pa_cons (pv 0) (pa_cons (pe_bltn (v := .ty "int") (by rfl) B.int (by decide +kernel) rfl) pa_nil)))))))) (pss_one (ps_ret pe_bl)) pss_nil)
      (pss_one (ps_ret (pe_chain op_le op_le (pv 1) (pv 0) (pv 2)))), ?_⟩
    refine ⟨_, rfl, _, _, _, _, false, rfl, .ty _, .base (.int _), kit_ty (by decide +kernel), _, rfl, iteF ?_⟩
    refine ⟨_, rfl, _, _, _, _, true, rfl, .ty _, .base (.int _), kit_ty (by decide +kernel), _, rfl, iteF ?_⟩
    refine ⟨_, rfl, _, rfl, _, _, rfl, rfl, _, rfl, ?_⟩
    by_cases h1 : lo ≤ v
    · rw [if_pos (decide_eq_true h1)]
      refine ⟨_, rfl, _, _, rfl, rfl, ?_⟩
      by_cases h2 : v ≤ hi
      · show Q (.bl (decide (v ≤ hi))) H
        rw [decide_eq_true h2]
        rw [decide_eq_true ⟨h1, h2⟩] at k
        exact k
      · show Q (.bl (decide (v ≤ hi))) H
        rw [decide_eq_false h2]
        rw [decide_eq_false fun z => h2 z.2] at k
        exact k
    · rw [if_neg (by rw [decide_eq_false h1]; exact Bool.false_ne_true)]
      rw [decide_eq_false fun z => h1 z.1] at k
      exact k
/-- a new object leaves the rest as it was -/
theorem same_new {H : Hp} {a : Addr} {o : HO} (h : H a = none) : Same H (upd H a o) := fun b u e => by
  rw [upd_ne (ne_of_none e h)]
  exact e
theorem map_rep {n : Nat} : (List.replicate n true).map V.bl = List.replicate n (V.bl true) := by simp
theorem all_rep {n : Nat} : (List.replicate n true).all id = true := by
  rw [List.all_eq_true]
  intro x hx
  exact (List.mem_replicate.mp hx).2
theorem scWord : FnScope ["value", "sign"] ["value"] (defScope sWord) := ⟨rfl, rfl, rfl, by decide +kernel, rfl, by decide +kernel, by decide +kernel⟩
theorem c_word (B : Base K mg) (D : DefT K mg "is_word" sWord ["value"]) : Cal P w K mg base 1 "is_word" spWord := by
  obtain ⟨tL, hL⟩ := B.letters
  obtain ⟨tM, hM⟩ := B.mostL
  refine cal D scWord (fun vs H Q E h => ?_) (fun f cdv A outer s H vs Q E hr h => ?_)
  · obtain ⟨x, rfl, _⟩ := h
    rfl
  · obtain ⟨x, rfl, ⟨hl, h1, h8⟩, k⟩ := h
    refine ⟨_, pss_cons (ps_if (PW.pt (pw_or (pt_not (pt_val (pe_callB call_isi (by rfl) B.isi (by decide +kernel) (pa_cons (pv 0) (pa_cons (pe_bltn (v := .ty "str") (by rfl) B.str (by decide +kernel) rfl) pa_nil)))))
        (pw_or1 (pt_not (pt_chain op_le op_le pe_int (pe_callB call_len_str (by rfl) B.len (by decide +kernel) (pa_cons (pv 0) pa_nil)) (pe_glob (v := .int 8) rfl hM ⟨_, rfl⟩)))))) (pss_one (ps_ret pe_bl)) pss_nil)
      (pss_one (ps_ret (pe_callB (cr_all rfl) (by rfl) B.all (by decide +kernel) (pa_cons (pe_lc (own := [("sign", 1)]) (g := gName 1) (tt := tYes) rfl scWord.nd (pi_str (pv 0)) (blkOk_by (N := ["value", "sign"]) (sc := defScope sWord) (by decide +kernel))
        (fun _ _ _ _ _ => pg_name (i := 1) scWord.nd rfl (Or.inl rfl)) (fun _ _ _ _ _ => pts_nil) (fun _ _ _ _ _ => pe_cmpR op_in_sign (pv 1) (pe_glob (v := .str letters) rfl hL ⟨_, rfl⟩) rfl)) pa_nil)))), ?_⟩
    refine ⟨_, rfl, _, _, _, _, true, rfl, .ty _, .base (.str _), kit_ty (by decide +kernel), _, rfl, iteF ?_⟩
    have hs : x.length ≤ sizeLine := Nat.le_trans h8 (by decide)
    refine ⟨_, rfl, _, rfl, hs, _, _, rfl, rfl, _, rfl, ?_⟩
    rw [if_pos (decide_eq_true (show (1 : Int) ≤ ((x.length : Nat) : Int) by omega))]
    refine ⟨_, _, rfl, rfl, _, rfl, ?_⟩
    have e8 : decide (((x.length : Nat) : Int) ≤ 8) = true := decide_eq_true (by omega)
    rw [e8]
    refine iteF ?_
    refine ⟨_, rfl, x, rfl, fun D hD => lc_it walk_str (fun i H' => H' = upd H D (.lst (List.replicate i (V.bl true)))) rfl (fun _ _ _ _ => trivial) ?_ ?_⟩
    · rintro i v H1 H2 hi rfl ⟨rfl, c, hc, rfl⟩
      refine ⟨rfl, yes (iteT ⟨_, rfl, c, letters, rfl, rfl, _, upd_same, ?_, ?_⟩)⟩
      · rw [List.length_replicate]
        have : x.cps.size ≤ 8 := h8
        have e : sizeLine = 16777216 := by decide
        omega
      · have ec : decide (c ∈ letters.cps.toList) = true := decide_eq_true (hl c (by
          have := Array.mem_of_getElem? hc
          simpa using this))
        rw [ec, upd_upd]
        congr 2
        exact (List.replicate_succ' (n := i) (a := V.bl true)).symm ▸ rfl
    · rintro H1 rfl
      refine ⟨D, List.replicate x.cps.size true, rfl, SqL.of (by rw [upd_same, map_rep]), ?_⟩
      rw [all_rep]
      exact k _ (same_new hD)
end
end KP
namespace KP
open PySem L2
/-! ### numbers drawn -/
def WellAt (H : Hp) (a : Addr) : Prop := ∃ x y z : Int, H a = some (.lst [.int x, .int y, .int z])
/-- all but a is as it was -/
def SameB (a : Addr) (H H' : Hp) : Prop := ∀ b o, H b = some o → b ≠ a → H' b = some o
theorem SameB.trans {a : Addr} {H H1 H2 : Hp} (p : SameB a H H1) (q : SameB a H1 H2) : SameB a H H2 := fun b o e hb => q b o (p b o e hb) hb
theorem SameB.refl {a : Addr} {H : Hp} : SameB a H H := fun _ _ e _ => e
theorem SameB.of {a : Addr} {H H' : Hp} (s : Same H H') : SameB a H H' := fun b o e _ => s b o e
theorem SameB.newD {a D : Addr} {H H1 H2 : Hp} {o : HO} (hD : H D = none) (p : SameB a H H1) : SameB a H (upd H1 D o) := fun b u e hb => by
  rw [upd_ne (ne_of_none e hD)]
  exact p b u e hb
theorem WellAt.up {H : Hp} {a D : Addr} {o : HO} (h : WellAt H a) (hn : a ≠ D) : WellAt (upd H D o) a := by
  obtain ⟨x, y, z, e⟩ := h
  exact ⟨x, y, z, by rw [upd_ne hn]; exact e⟩
theorem WellAt.new {H : Hp} {a D : Addr} {o : HO} (h : WellAt H a) (hD : H D = none) : WellAt (upd H D o) a := by
  obtain ⟨x, y, z, e⟩ := id h
  exact h.up (ne_of_none e hD)
theorem WellAt.ne {H : Hp} {a D : Addr} (h : WellAt H a) (hD : H D = none) : a ≠ D := by
  obtain ⟨x, y, z, e⟩ := h
  exact ne_of_none e hD
abbrev sWell : Stmt := top 72
abbrev sDraw : Stmt := top 73
abbrev sName : Stmt := top 74
def spWell : Sp := fun vs H Q _ => ∃ c : Int, vs = [.int c] ∧ ∀ a H', Same H H' → H a = none → WellAt H' a → Q (.ref a) H'
def spDraw : Sp := fun vs H Q _ => ∃ (a : Addr) (m : Int), vs = [.ref a, .int m] ∧ WellAt H a ∧ 0 < m ∧ m < 1180591620717411303424 ∧ ∀ r H', 0 ≤ r → r < m → WellAt H' a → SameB a H H' → Q (.int r) H'
def spName : Sp := fun vs H Q _ => ∃ a : Addr, vs = [.ref a] ∧ WellAt H a ∧ ∀ x H', IsW x → WellAt H' a → SameB a H H' → Q (.str x) H'
section
variable {P : Program} {w : World} {K : PySem.W.Frag} {mg : Str → Option Value} {base : Heap}
theorem scWell : FnScope ["_law_cell"] ["_law_cell"] (defScope sWell) := ⟨rfl, rfl, rfl, by decide +kernel, rfl, by decide +kernel, by decide +kernel⟩
theorem c_well (B : Base K mg) (D : DefT K mg "_law_well" sWell ["_law_cell"]) : Cal P w K mg base 1 "_law_well" spWell := by
  refine cal D scWell (fun vs H Q E h => ?_) (fun f cdv A outer s H vs Q E hr h => ?_)
  · obtain ⟨c, rfl, _⟩ := h
    rfl
  · obtain ⟨c, rfl, k⟩ := h
    refine ⟨_, pss_one (ps_ret (pe_lst (pa_cons (pe_op op_mul (pv 0) (pe_callTy call_int1 (by rfl) B.int (by decide +kernel) (pa_cons (pe_cmpR op_ge (pv 0) (pe_op op_pow pe_int pe_int) (nomark _)) pa_nil)))
      (pa_cons (pe_op op_mod (pv 0) pe_int) (pa_cons pe_int pa_nil))))), ?_⟩
    refine ⟨_, rfl, _, rfl, _, _, rfl, rfl, ⟨by decide, by decide, by decide⟩, _, _, rfl, rfl, Or.inr ⟨_, rfl, _, _, rfl, rfl, Or.inr ?_, ?_⟩⟩
    · split <;> constructor <;> decide
    · refine ⟨_, rfl, _, _, rfl, rfl, (by show (0 : Int) < 2147483647; decide), (by show 3 ≤ sizeLine; decide), fun l hl => ?_⟩
      exact k l _ (same_new hl) hl ⟨_, _, _, upd_same⟩
theorem scDraw : FnScope ["_law_well_here", "_law_many", "_law_found", "_law_number"] ["_law_well_here", "_law_many"] (defScope sDraw) := ⟨rfl, rfl, rfl, by decide +kernel, rfl, by decide +kernel, by decide +kernel⟩
theorem c_draw (D : DefT K mg "_law_draw" sDraw ["_law_well_here", "_law_many"]) : Cal P w K mg base 1 "_law_draw" spDraw := by
  refine cal D scDraw (fun vs H Q E h => ?_) (fun f cdv A outer s H vs Q E hr h => ?_)
  · obtain ⟨a, m, rfl, _⟩ := h
    rfl
  · obtain ⟨a, m, rfl, ⟨x, y, z, ha⟩, m0, m1, k⟩ := h
    refine ⟨_, pss_cons (ps_if (pt_cmpR op_gt (pe_ix ix_list (pv 0) pe_int (fun _ _ => rfl)) pe_int (nomark _))
        (pss_cons (ps_set (i := 2) scDraw.nd rfl (Or.inl rfl) (pe_op op_mod (pe_ix ix_list (pv 0) pe_int (fun _ _ => rfl)) (pv 1)))
        (pss_cons (ps_asg (pe_op op_fdivW (pe_ix ix_list (pv 0) pe_int (fun _ _ => rfl)) (pv 1)) (pg_sub (pv 0) pe_int set_list))
        (pss_one (ps_ret (pv 2))))) pss_nil)
      (pss_cons (ps_asg (pe_op op_add (pe_ix ix_list (pv 0) pe_int (fun _ _ => rfl)) pe_int) (pg_sub (pv 0) pe_int set_list))
      (pss_cons (ps_set (i := 3) scDraw.nd rfl (Or.inl rfl) (pe_op op_mod (pe_op op_mul (pe_op op_add (pe_op op_add (pe_ix ix_list (pv 0) pe_int (fun _ _ => rfl)) (pe_op op_mul pe_int (pe_ix ix_list (pv 0) pe_int (fun _ _ => rfl)))) pe_int) pe_int) pe_int))
      (pss_cons (ps_set (i := 3) scDraw.nd rfl (Or.inl rfl) (pe_op op_mod (pe_op op_mul (pv 3) (pe_op op_add (pe_op op_fdiv (pv 3) pe_int) pe_int)) pe_int))
      (pss_one (ps_ret (pe_op op_mod (pe_op op_mod (pe_op op_mul (pv 3) (pe_op op_add (pe_op op_fdiv (pv 3) pe_int) pe_int)) pe_int) (pv 1))))))), ?_⟩
    refine ⟨_, rfl, a, _, 0, .int x, rfl, rfl, SqL.of ha, rfl, _, _, rfl, rfl, _, rfl, ite2 (fun c => ?_) (fun c => ?_)⟩
    · refine ⟨_, rfl, a, _, 0, .int x, rfl, rfl, SqL.of ha, rfl, _, rfl, _, _, rfl, rfl, m0, ?_⟩
      refine ⟨_, rfl, a, _, 0, .int x, rfl, rfl, SqL.of ha, rfl, _, rfl, _, _, rfl, rfl, wide_div m0 (b := 70) (by omega) (by decide) (by decide), ?_⟩
      refine ⟨_, rfl, a, _, 0, 0, rfl, rfl, ha, rfl, ?_⟩
      refine ⟨_, rfl, k _ _ (Int.emod_nonneg _ (by omega)) (Int.emod_lt_of_pos _ m0) ⟨_, _, _, upd_same⟩ fun b o e hb => ?_⟩
      rw [upd_ne hb]
      exact e
    · refine ⟨_, rfl, a, _, 2, .int z, rfl, rfl, SqL.of ha, rfl, _, _, rfl, rfl, _, rfl, a, _, 2, 2, rfl, rfl, ha, rfl, ?_⟩
      have h1 : ∀ n : Int, -(2 ^ 64) < n % 2147483647 ∧ n % 2147483647 < 2 ^ 64 := fun n => by omega
      refine ⟨_, rfl, a, _, 1, .int y, rfl, rfl, SqL.of upd_same, rfl, _, rfl, a, _, 2, .int (z + 1), rfl, rfl, SqL.of upd_same, rfl, _, _, rfl, rfl, Or.inl ⟨by decide, by decide⟩, _, _, rfl, rfl, _, _, rfl, rfl, _, _, rfl, rfl, Or.inr ⟨by decide, by decide⟩, _, _, rfl, rfl, (by show (0 : Int) < 2147483647; decide), ?_⟩
      refine ⟨_, rfl, _, rfl, _, _, rfl, rfl, ⟨by decide, by decide⟩, _, _, rfl, rfl, _, _, rfl, rfl, Or.inl (h1 _), _, _, rfl, rfl, (by show (0 : Int) < 2147483647; decide), ?_⟩
      refine ⟨_, rfl, _, rfl, _, _, rfl, rfl, ⟨by decide, by decide⟩, _, _, rfl, rfl, _, _, rfl, rfl, Or.inl (h1 _), _, _, rfl, rfl, (by show (0 : Int) < 2147483399; decide), _, rfl, _, _, rfl, rfl, m0, ?_⟩
      refine k _ _ (Int.emod_nonneg _ (by omega)) (Int.emod_lt_of_pos _ m0) ⟨_, _, _, upd_same⟩ fun b o e hb => ?_
      rw [upd_ne hb]
      exact e
theorem join_signs : ∀ cs : List Nat, TL.joinL [] (cs.map fun c => [c]) = cs
  | [] => rfl
  | [c] => rfl
  | c :: d :: r => by
    show [c] ++ ([] ++ TL.joinL [] ((d :: r).map fun c => [c])) = c :: d :: r
    rw [join_signs (d :: r)]
    rfl
theorem join_is (cs : List Nat) : Txt.join "" (cs.map fun c => (⟨#[c]⟩ : Str)) = SX.S cs := by
  have h := SX.join_S [] (cs.map fun c => [c])
  rw [join_signs, List.map_map] at h
  exact h
theorem isW_S {cs : List Nat} (h : ∀ c ∈ cs, Ltr c) (h1 : 1 ≤ cs.length) (h8 : cs.length ≤ 8) : IsW (SX.S cs) := ⟨fun c hc => h c (by simpa using hc), by rw [SX.S_len]; exact h1, by rw [SX.S_len]; exact h8⟩
def names16 : List Str := ["in", "year", "head", "limit", "rule", "back", "right", "give", "hold", "move", "spend", "promise", "lessen", "out", "none", "carried"]
def wordB (x : Str) : Bool := x.cps.toList.all (fun c => decide (c ∈ letters.cps.toList)) && decide (1 ≤ x.length) && decide (x.length ≤ 8)
theorem isW_of {x : Str} (h : wordB x = true) : IsW x := by
  unfold wordB at h
  simp only [Bool.and_eq_true, List.all_eq_true, decide_eq_true_eq] at h
  exact ⟨h.1.1, h.1.2, h.2⟩
theorem names16_ok : ∀ x ∈ names16, IsW x := by
  have h : names16.all wordB = true := by decide +kernel
  intro x hx
  exact isW_of (List.all_eq_true.mp h x hx)
theorem get_lt {α : Type} {l : List α} {r : Int} (h0 : 0 ≤ r) (h1 : r < (l.length : Int)) : ∃ v, atI l r = some v ∧ v ∈ l := by
  obtain ⟨j, rfl⟩ : ∃ j : Nat, r = (j : Int) := ⟨r.toNat, by omega⟩
  have hj : j < l.length := by omega
  exact ⟨l[j], atI_nat (List.getElem?_eq_getElem hj), List.getElem_mem hj⟩
theorem let_get {r : Int} (h0 : 0 ≤ r) (h1 : r < 26) : ∃ c, letters.cps[r.toNat]? = some c ∧ Ltr c := by
  have e : letters.cps.size = 26 := by decide +kernel
  have hj : r.toNat < letters.cps.size := by omega
  refine ⟨letters.cps[r.toNat], by simp [hj], ?_⟩
  show _ ∈ letters.cps.toList
  simp
theorem scName : FnScope ["_law_well_here", "_law_some", "_law_signs", "_law_k"] ["_law_well_here"] (defScope sName) := ⟨rfl, rfl, rfl, by decide +kernel, rfl, by decide +kernel, by decide +kernel⟩
theorem c_name (B : Base K mg) (Dr : Cal P w K mg base 1 "_law_draw" spDraw) (D : DefT K mg "_law_name" sName ["_law_well_here"]) : Cal P w K mg base 2 "_law_name" spName := by
  refine cal D scName (fun vs H Q E h => ?_) (fun f cdv A outer s H vs Q E hr h => ?_)
  · obtain ⟨a, rfl, _⟩ := h
    rfl
  · obtain ⟨a, rfl, ha, k⟩ := h
    refine ⟨_, pss_cons (ps_if (pt_cmpR op_eq (pe_cl Dr hr (by decide) (by rfl) (pa_cons (pv 0) (pa_cons pe_int pa_nil))) pe_int (nomark _))
        (pss_cons (ps_set (i := 1) scName.nd rfl (Or.inl rfl) (pe_lst (pa_cons pe_str (pa_cons pe_str (pa_cons pe_str (pa_cons pe_str (pa_cons pe_str (pa_cons pe_str (pa_cons pe_str (pa_cons pe_str (pa_cons pe_str (pa_cons pe_str (pa_cons pe_str (pa_cons pe_str pa_nil))))))))))))))
        (pss_one (ps_ret (pe_ix ix_list (pe_op op_cat (pv 1) (pe_lst (pa_cons pe_str (pa_cons pe_str (pa_cons pe_str (pa_cons pe_str pa_nil)))))) (pe_cl Dr hr (by decide) (by rfl) (pa_cons (pv 0) (pa_cons pe_int pa_nil))) (fun _ _ => rfl))))) pss_nil)
      (pss_cons (ps_set (i := 2) scName.nd rfl (by first | exact Or.inl rfl | exact Or.inr rfl) pe_str)
      (pss_one (ps_ret (pe_join pe_str (pe_lc (own := [("_law_k", 3)]) (g := gName 3) (tt := tYes) rfl scName.nd (pi_range1 (by rfl) B.range (pa_cons (pe_op op_add pe_int (pe_cl Dr hr (by decide) (by rfl) (pa_cons (pv 0) (pa_cons pe_int pa_nil)))) pa_nil))
        (blkOk_by (N := ["_law_well_here", "_law_some", "_law_signs", "_law_k"]) (sc := defScope sName) (by decide +kernel)) (fun _ _ _ _ _ => pg_name (i := 3) scName.nd rfl (Or.inl rfl)) (fun _ _ _ _ _ => pts_nil)
        (fun _ _ _ _ _ => pe_item_str (pv 2) (pe_cl Dr hr (by decide) (by rfl) (pa_cons (pv 0) (pa_cons pe_int pa_nil))) (fun _ _ => rfl))))))), ?_⟩
    refine ⟨_, rfl, a, 8, rfl, ha, by decide, by decide, fun r H1 r0 r8 w1 s1 => ⟨rfl, _, rfl, ite2 (fun _ => ?_) (fun _ => ?_)⟩⟩
    · refine ⟨(by show 12 ≤ sizeLine; decide), fun p hp => ?_⟩
      refine ⟨_, rfl, (by show 4 ≤ sizeLine; decide), fun q hq => ?_⟩
      have pq : p ≠ q := ne_of_none upd_same hq
      refine ⟨p, q, _, _, rfl, rfl, (by rw [upd_ne pq]; exact upd_same), upd_same, (by show 12 + 4 ≤ sizeLine; decide), fun t ht => ?_⟩
      refine ⟨_, rfl, a, 16, rfl, ((w1.new hp).new hq).new ht, by decide, by decide, fun r2 H2 r20 r216 w2 s2 => ?_⟩
      obtain ⟨v, hv, hm⟩ := get_lt (l := names16.map V.str) r20 (by show r2 < 16; exact r216)
      obtain ⟨x, hx, rfl⟩ := List.mem_map.mp hm
      have ta : a ≠ t := ((w1.new hp).new hq).ne ht
      refine ⟨t, _, r2, .str x, rfl, rfl, SqL.of (s2 t _ upd_same ta.symm), hv, ?_⟩
      refine k x H2 (names16_ok x hx) w2 (s1.trans fun b o e hb => s2 b o ?_ hb)
      exact same_new ht b o (same_new hq b o (same_new hp b o e))
    · refine ⟨⟨_, rfl⟩, _, rfl, a, 8, rfl, w1, by decide, by decide, fun r2 H2 r20 r28 w2 s2 => ?_⟩
      have hn : (1 + r2).toNat ≤ 8 := by omega
      refine ⟨_, _, rfl, rfl, (1 + r2), rfl, by omega, by omega, fun D hD => lc_range (lo := 0) (n := (1 + r2).toNat)
        (fun i H' => ∃ cs : List Nat, cs.length = i ∧ (∀ c ∈ cs, Ltr c) ∧ H' D = some (.lst (cs.map fun c => V.str ⟨#[c]⟩)) ∧ WellAt H' a ∧ SameB a H H')
        ⟨[], rfl, (fun _ h => nomatch h), upd_same, w2.new hD, ?_⟩ ?_ ?_⟩
      · exact (s1.trans s2).trans (SameB.of (same_new hD))
      · rintro i H3 hi ⟨cs, hl, hL, hd, wd, sd⟩
        refine ⟨rfl, yes (iteT ⟨_, rfl, _, rfl, a, 26, rfl, wd, by decide, by decide, fun r3 H4 r30 r326 w4 s4 => ?_⟩)⟩
        obtain ⟨c, hc, hcl⟩ := let_get r30 r326
        have e26 : (letters.length : Int) = 26 := by decide +kernel
        refine ⟨letters, r3, c, rfl, rfl, r30, by omega, by rw [e26]; exact r326, hc, _, s4 D _ hd (w2.ne hD).symm, ?_, cs ++ [c], by simp [hl], ?_, ?_, w4.up (w2.ne hD), ?_⟩
        · rw [List.length_map, hl]
          have e : sizeLine = 16777216 := by decide
          omega
        · intro x hx
          rcases List.mem_append.mp hx with hx | hx
          · exact hL x hx
          · rw [List.mem_singleton.mp hx]; exact hcl
        · rw [upd_same, List.map_append]; rfl
        · intro b o e hb
          by_cases hbD : b = D
          · subst hbD
            have q1 := (s1.trans s2) b o e hb
            rw [hD] at q1; cases q1
          · rw [upd_ne hbD]; exact (sd.trans s4) b o e hb
      · rintro H3 ⟨cs, hl, hL, hd, wd, sd⟩
        refine ⟨_, D, cs.map fun c => (⟨#[c]⟩ : Str), rfl, rfl, Or.inl (SqL.of (by rw [hd, List.map_map]; rfl)), ?_, ?_⟩
        · rw [List.map_map, List.length_map, hl]
          have e1 : ∀ l : List Nat, (l.map (Function.comp (fun x : Str => x.length) fun c => (⟨#[c]⟩ : Str))).sum = l.length := by
            intro l
            induction l with
            | nil => rfl
            | cons c l ih => rw [List.map_cons, List.sum_cons, ih]; show 1 + l.length = _; rw [List.length_cons]; omega
          rw [e1, hl]
          show _ + _ * 0 ≤ _
          omega
        · rw [join_is]
          exact k _ H3 (isW_S hL (by omega) (by omega)) wd sd
end
end KP
namespace KP
open PySem L2
/-! ### the mathematics of names -/
theorem len_le_of_sub {α : Type} [DecidableEq α] : ∀ {l m : List α}, l.Nodup → (∀ x ∈ l, x ∈ m) → l.length ≤ m.length
  | [], _, _, _ => Nat.zero_le _
  | a :: l, m, hn, hs => by
    have ha : a ∈ m := hs a List.mem_cons_self
    have hn' := List.nodup_cons.mp hn
    have ih := len_le_of_sub (l := l) (m := m.erase a) hn'.2 (fun x hx => (List.mem_erase_of_ne (fun (e : x = a) => hn'.1 (e ▸ hx))).mpr (hs x (List.mem_cons_of_mem _ hx)))
    have e := List.length_erase_of_mem ha
    have p := List.length_pos_of_mem ha
    rw [List.length_cons]
    omega
def stem (y : Str) : Str := cutS y none (some 7)
def cands (y : Str) : List Str := y :: letters.cps.toList.map fun c => stem y ++ (⟨#[c]⟩ : Str)
theorem stem_S (y : Str) : stem y = SX.S (y.cps.toList.take 7) := by
  unfold stem
  rw [C8.cutS_slice]
  have h := SX.slice_to (a := y.cps.toList) (i := 7) (by decide)
  rw [SX.S_tl] at h
  exact h
theorem cand_S (y : Str) (c : Nat) : stem y ++ (⟨#[c]⟩ : Str) = SX.S (y.cps.toList.take 7 ++ [c]) := by
  rw [stem_S]
  exact SX.S_cat _ [c]
theorem cands_ok {y : Str} (h : IsW y) : ∀ x ∈ cands y, IsW x := by
  intro x hx
  rcases List.mem_cons.mp hx with rfl | hx
  · exact h
  · obtain ⟨c, hc, rfl⟩ := List.mem_map.mp hx
    rw [cand_S]
    refine isW_S (fun d hd => ?_) (by simp) (by simp; omega)
    rcases List.mem_append.mp hd with hd | hd
    · exact h.1 d (List.mem_of_mem_take hd)
    · rw [List.mem_singleton.mp hd]; exact hc
theorem letters_nd : letters.cps.toList.Nodup := by decide +kernel
theorem letters_len : letters.cps.toList.length = 26 := by decide +kernel
theorem nodup_map {α β : Type} {f : α → β} (hf : ∀ a b, f a = f b → a = b) : ∀ {l : List α}, l.Nodup → (l.map f).Nodup
  | [], _ => List.nodup_nil
  | a :: l, h => by
    have h' := List.nodup_cons.mp h
    rw [List.map_cons, List.nodup_cons]
    refine ⟨fun hm => ?_, nodup_map hf h'.2⟩
    obtain ⟨b, hb, e⟩ := List.mem_map.mp hm
    exact h'.1 (hf b a e ▸ hb)
def fresh (y : Str) (xs : List Str) : List Str := (cands y).filter fun c => !decide (c ∈ xs)
theorem fresh_ne {y : Str} {xs : List Str} (h : xs.length ≤ 8) : ∃ z zs, fresh y xs = z :: zs ∧ z ∈ cands y ∧ ¬ z ∈ xs := by
  cases e : fresh y xs with
  | nil =>
    exfalso
    have nd : (letters.cps.toList.map fun c => stem y ++ (⟨#[c]⟩ : Str)).Nodup := nodup_map (fun a b q => by
      rw [cand_S, cand_S] at q
      have := List.append_cancel_left (SX.S_inj q)
      simpa using this) letters_nd
    have hle := len_le_of_sub (m := xs) nd (fun x hx => by
      by_cases hm : x ∈ xs
      · exact hm
      · have : x ∈ fresh y xs := List.mem_filter.mpr ⟨List.mem_cons_of_mem _ hx, by simp [hm]⟩
        rw [e] at this
        cases this)
    rw [List.length_map, letters_len] at hle
    omega
  | cons z zs =>
    have hz : z ∈ fresh y xs := by rw [e]; exact List.mem_cons_self
    have h2 := List.mem_filter.mp hz
    exact ⟨z, zs, rfl, h2.1, by simpa using h2.2⟩
theorem strOk_W {x : Str} (h : IsW x) : PyData.strOk x = true := by
  have hb : letters.cps.toList.all (· < 0x110000) = true := by decide +kernel
  unfold PyData.strOk
  rw [← Array.all_toList, List.all_eq_true]
  intro c hc
  exact List.all_eq_true.mp hb c (h.1 c hc)
theorem canLay_strs : ∀ {xs : List Str}, (∀ x ∈ xs, PyData.strOk x = true) → PyData.canLayAll0 (xs.map PyData.str) = true
  | [], _ => rfl
  | x :: xs, h => by
    show (PyData.strOk x && PyData.canLayAll0 (xs.map PyData.str)) = true
    rw [h x List.mem_cons_self, canLay_strs fun y hy => h y (List.mem_cons_of_mem _ hy)]
    rfl
theorem depth_strs : ∀ {xs : List Str}, PyData.depthAll (xs.map PyData.str) = 0
  | [] => rfl
  | x :: xs => by
    show max 0 (PyData.depthAll (xs.map PyData.str)) = 0
    rw [depth_strs]
    rfl
theorem shaped_strs {xs : List Str} (h : ∀ x ∈ xs, PyData.strOk x = true) : SeqAt.shaped (.list (xs.map PyData.str)) = true := by
  have h1 : (PyData.list (xs.map PyData.str)).canLay0 = true := canLay_strs h
  have h2 : (PyData.list (xs.map PyData.str)).depth ≤ 64 := by
    show PyData.depthAll (xs.map PyData.str) + 1 ≤ 64
    rw [depth_strs]; decide
  unfold SeqAt.shaped
  rw [h1, decide_eq_true h2]
  rfl
theorem dp_strs {K : PySem.W.Frag} {H : Hp} : ∀ (xs : List Str), DpAll K H (xs.map V.str) (xs.map PyData.str)
  | [] => .nil
  | x :: xs => .cons (.str x) (dp_strs xs)
theorem inV_str {x : Str} : ∀ {xs : List Str}, inV (.str x) (xs.map V.str) = decide (x ∈ xs)
  | [] => by simp [inV]
  | y :: xs => by
    have ih := inV_str (x := x) (xs := xs)
    unfold inV at ih ⊢
    rw [List.map_cons, List.any_cons, ih]
    show ((y == x) || decide (x ∈ xs)) = decide (x ∈ y :: xs)
    by_cases h : y = x
    · subst h; simp
    · have h' : (y == x) = false := beq_eq_false_iff_ne.mpr h
      have h'' : ¬ x = y := fun e => h e.symm
      rw [h']; simp [h'']
theorem flat_strs {xs : List Str} : (xs.map V.str).all flatV = true := by
  rw [List.all_eq_true]
  intro v hv
  obtain ⟨x, _, rfl⟩ := List.mem_map.mp hv
  rfl
theorem take_more {α : Type} : ∀ {l : List α} {i : Nat} {x : α}, l[i]? = some x → l.take (i + 1) = l.take i ++ [x]
  | [], i, x, h => by simp at h
  | a :: l, 0, x, h => by
    have e : a = x := Option.some.inj h
    subst e
    rfl
  | a :: l, i + 1, x, h => by
    have ih := take_more (l := l) (i := i) (x := x) h
    show a :: l.take (i + 1) = a :: l.take i ++ [x]
    rw [ih]
    rfl
abbrev sNames : Stmt := top 75
def spNames : Sp := fun vs H Q _ => ∃ (a : Addr) (m : Nat), vs = [.ref a, .int (m : Int)] ∧ WellAt H a ∧ m ≤ 8 ∧ ∀ (p : Addr) (xs : List Str) (H' : Hp), xs.length = m → (∀ x ∈ xs, IsW x) → xs.Nodup → H p = none → H' p = some (.lst (xs.map V.str)) → WellAt H' a → SameB a H H' → Q (.ref p) H'
section
variable {P : Program} {w : World} {K : PySem.W.Frag} {mg : Str → Option Value} {base : Heap}
abbrev nNames : List Str := ["_law_well_here", "_law_many", "_law_found", "_law_k", "_law_name_here", "_law_some", "_law_sign", "_law_one"]
theorem scNames : FnScope nNames ["_law_well_here", "_law_many"] (defScope sNames) := ⟨rfl, rfl, rfl, by decide +kernel, rfl, by decide +kernel, by decide +kernel⟩
theorem c_names (B : Base K mg) (Dr : Cal P w K mg base 1 "_law_draw" spDraw) (Nm : Cal P w K mg base 2 "_law_name" spName) (D : DefT K mg "_law_names" sNames ["_law_well_here", "_law_many"]) : Cal P w K mg base 3 "_law_names" spNames := by
  refine cal D scNames (fun vs H Q E h => ?_) (fun f cdv A outer s H vs Q E hr h => ?_)
  · obtain ⟨a, m, rfl, _⟩ := h
    rfl
  · obtain ⟨a, m, rfl, ha, m8, k⟩ := h
    refine ⟨_, pss_cons (ps_set (i := 2) scNames.nd rfl (by first | exact Or.inl rfl | exact Or.inr rfl) (pe_lst pa_nil))
      (pss_cons (ps_for PassesOwn.never rfl (pi_range1 (by rfl) B.range (pa_cons (pv 1) pa_nil)) (pg_name (i := 3) scNames.nd rfl (Or.inl rfl))
        (pss_cons (ps_set (i := 4) scNames.nd rfl (by first | exact Or.inl rfl | exact Or.inr rfl) (pe_cl Nm hr (by decide) (by rfl) (pa_cons (pv 0) pa_nil)))
        (C8.pss_cut (ps_if (PW.pt (pw_and (pt_cmpR (op_neD hr.units) (pv 2) (pe_lst pa_nil) (nomark _)) (pw_and1 (pt_cmpR op_eq (pe_cl Dr hr (by decide) (by rfl) (pa_cons (pv 0) (pa_cons pe_int pa_nil))) pe_int (nomark _)))))
          (pss_one (ps_set (i := 4) scNames.nd rfl (by first | exact Or.inl rfl | exact Or.inr rfl) (pe_ix ix_list (pv 2) (pe_cl Dr hr (by decide) (by rfl) (pa_cons (pv 0) (pa_cons (pe_callB call_len_seq (by rfl) B.len PySem.boot_len (pa_cons (pv 2) pa_nil)) pa_nil))) (fun _ _ => rfl)))) pss_nil)
        (pss_cons (ps_set (i := 5) scNames.nd rfl (by first | exact Or.inl rfl | exact Or.inr rfl) (pe_op op_cat (pe_lst (pa_cons (pv 4) pa_nil))
          (pe_lc (own := [("_law_sign", 6)]) (g := gName 6) (tt := tYes) rfl scNames.nd (pi_str pe_str) (blkOk_by (N := nNames) (sc := defScope sNames) (by decide +kernel)) (fun _ _ _ _ _ => pg_name (i := 6) scNames.nd rfl (Or.inl rfl)) (fun _ _ _ _ _ => pts_nil)
            (fun _ _ _ _ _ => pe_op op_add_str (pe_slice sl_str (pv 4) po_none (po_some pe_int)) (pv 6)))))
        (pss_one (ps_expr (pe_bm PySem.F.plainAttrs_list PySem.F.slot_list_append PySem.F.type_list_append mt_append (pv 2) (pa_cons (pe_ix ix_list
          (pe_lc (own := [("_law_one", 7)]) (g := gName 7) (tt := tTest (tOp (rIn K true) (tVar 7) (tVar 2))) rfl scNames.nd (pi_list (pv 5)) (blkOk_by (N := nNames) (sc := defScope sNames) (by decide +kernel)) (fun _ _ _ _ _ => pg_name (i := 7) scNames.nd rfl (Or.inl rfl))
            (fun _ _ _ _ _ => pts_one (pt_cmpR op_notIn_seq (pv 7) (pv 2) rfl)) (fun _ _ _ _ _ => pv 7)) pe_int (fun _ _ => rfl)) pa_nil))))))))
      (pss_one (ps_ret (pv 2)))), ?_⟩
    refine ⟨(by show 0 ≤ sizeLine; decide), fun F hF => ?_⟩
    have aF : a ≠ F := ha.ne hF
    refine ⟨_, rfl, _, rfl, by omega, by omega, for_range (lo := 0) (n := (m : Int).toNat) (fun i σ H' => ∃ (xs : List Str) (v3 v4 v5 : Option V), σ = [some (.ref a), some (.int (m : Int)), some (.ref F), v3, v4, v5, none, none] ∧ xs.length = i ∧ (∀ x ∈ xs, IsW x) ∧ xs.Nodup ∧ H' F = some (.lst (xs.map V.str)) ∧ WellAt H' a ∧ SameB a H H')
      ⟨[], none, none, none, rfl, rfl, (fun _ h => nomatch h), List.nodup_nil, upd_same, ha.new hF, SameB.of (same_new hF)⟩ ?_ ?_⟩
    · rintro i σ H1 hi ⟨xs, v3, v4, v5, rfl, hl, hw, hnd, hx, w1, s1⟩
      have hl8 : xs.length ≤ 8 := by omega
      have hz : sizeLine = 16777216 := by decide
      refine ⟨_, rfl, a, rfl, w1, fun y H2 hy w2 s2 => ?_⟩
      have hx2 : H2 F = some (.lst (xs.map V.str)) := s2 F _ hx aF.symm
      refine ⟨fun σ' H' => ∃ (y : Str) (v3 v5 : Option V), σ' = [some (.ref a), some (.int (m : Int)), some (.ref F), v3, some (.str y), v5, none, none] ∧ IsW y ∧ H' F = some (.lst (xs.map V.str)) ∧ WellAt H' a ∧ SameB a H H', ?_, ?_⟩
      · refine ⟨_, rfl, (by show 0 ≤ sizeLine; decide), fun t ht => ?_⟩
        have Ft : F ≠ t := ne_of_none hx2 ht
        refine ⟨.list (xs.map PyData.str), .list [], .lst (SqL.of (by rw [upd_ne Ft]; exact hx2)) (dp_strs xs), .lst (SqL.of upd_same) .nil, shaped_strs (fun x h => strOk_W (hw x h)), by decide +kernel, _, rfl, ?_⟩
        have s3 : SameB a H (upd H2 t (.lst [])) := (s1.trans s2).trans (SameB.of (same_new ht))
        have w3 : WellAt (upd H2 t (.lst [])) a := w2.new ht
        have hx3 : (upd H2 t (.lst [])) F = some (.lst (xs.map V.str)) := by rw [upd_ne Ft]; exact hx2
        refine ite2 (fun c => ?_) (fun _ => ?_)
        · refine ⟨_, rfl, a, 3, rfl, w3, by decide, by decide, fun r H4 r0 r3 w4 s4 => ⟨rfl, _, rfl, ite2 (fun _ => ?_) (fun _ => ?_)⟩⟩
          · have hx4 : H4 F = some (.lst (xs.map V.str)) := s4 F _ hx3 aF.symm
            have hp : 0 < xs.length := by
              rcases Nat.eq_zero_or_pos xs.length with e | e
              · have e2 := List.length_eq_zero_iff.mp e
                subst e2
                exact absurd c (by decide +kernel)
              · exact e
            refine ⟨_, rfl, _, rfl, _, rfl, F, _, rfl, .inl (SqL.of hx4), a, _, rfl, w4, (by rw [List.length_map]; omega), (by rw [List.length_map]; omega), fun r2 H5 r20 r21 w5 s5 => ?_⟩
            obtain ⟨v, hv, hm⟩ := get_lt (l := xs.map V.str) r20 r21
            obtain ⟨z, hzm, rfl⟩ := List.mem_map.mp hm
            exact ⟨F, _, r2, .str z, rfl, rfl, SqL.of (s5 F _ hx4 aF.symm), hv, z, _, _, rfl, hw z hzm, s5 F _ hx4 aF.symm, w5, (s3.trans s4).trans s5⟩
          · exact ⟨y, _, _, rfl, hy, s4 F _ hx3 aF.symm, w4, s3.trans s4⟩
        · exact iteF ⟨y, _, _, rfl, hy, hx3, w3, s3⟩
      · rintro σ H3 ⟨y, v3, v5, rfl, hy, hx3, w3, s3⟩
        refine ⟨_, rfl, (by show 1 ≤ sizeLine; decide), fun l hl2 => ?_⟩
        refine ⟨_, rfl, fun D hD => lc_it walk_str (fun i H' => H' = upd (upd H3 l (.lst [.str y])) D (.lst ((letters.cps.toList.take i).map fun c => V.str (stem y ++ (⟨#[c]⟩ : Str))))) rfl (fun _ _ _ _ => trivial) ?_ ?_⟩
        · rintro i v H4 H5 hi rfl ⟨rfl, c, hc, rfl⟩
          have hi26 : i < 26 := by
            have e : (Str.cps "abcdefghijklmnopqrstuvwxyz").size = 26 := by decide +kernel
            omega
          have hst : (stem y).length ≤ 8 := Nat.le_trans (cutS_length y none (some 7)) hy.2.2
          refine ⟨rfl, yes (iteT ⟨_, rfl, _, rfl, y, rfl, (by have := hy.2.2; omega), _, rfl, _, _, rfl, rfl, ?_, _, upd_same, ?_, ?_⟩)⟩
          · show (stem y).length + 1 ≤ sizeLine
            omega
          · rw [List.length_map, List.length_take]
            omega
          · rw [upd_upd]
            congr 2
            rw [take_more (l := letters.cps.toList) (x := c) (by rw [← hc]; exact Array.getElem?_toList ..), List.map_append]
            rfl
        · rintro H4 rfl
          have lD : l ≠ D := ne_of_none upd_same hD
          have e26 : (letters.cps.toList.take (Str.cps "abcdefghijklmnopqrstuvwxyz").size) = letters.cps.toList := List.take_of_length_le (by rw [letters_len]; decide +kernel)
          rw [e26]
          refine ⟨l, D, _, _, rfl, rfl, (by rw [upd_ne lD]; exact upd_same), upd_same, (by rw [List.length_map, letters_len]; show 1 + 26 ≤ sizeLine; decide), fun p hp => ?_⟩
          have hxl : (upd H3 l (.lst [.str y])) F = some (.lst (xs.map V.str)) := same_new hl2 _ _ hx3
          have hxD := same_new (o := .lst (letters.cps.toList.map fun c => V.str (stem y ++ (⟨#[c]⟩ : Str)))) hD _ _ hxl
          have hxp := same_new (o := .lst ([V.str y] ++ letters.cps.toList.map fun c => V.str (stem y ++ (⟨#[c]⟩ : Str)))) hp _ _ hxD
          have w4 := ((w3.new (o := .lst [.str y]) hl2).new (o := .lst (letters.cps.toList.map fun c => V.str (stem y ++ (⟨#[c]⟩ : Str)))) hD).new (o := .lst ([V.str y] ++ letters.cps.toList.map fun c => V.str (stem y ++ (⟨#[c]⟩ : Str)))) hp
          have s4 : SameB a H _ := ((s3.trans (SameB.of (same_new (o := .lst [.str y]) hl2))).trans (SameB.of (same_new (o := .lst (letters.cps.toList.map fun c => V.str (stem y ++ (⟨#[c]⟩ : Str)))) hD))).trans (SameB.of (same_new (o := .lst ([V.str y] ++ letters.cps.toList.map fun c => V.str (stem y ++ (⟨#[c]⟩ : Str)))) hp))
          have ec : [V.str y] ++ letters.cps.toList.map (fun c => V.str (stem y ++ (⟨#[c]⟩ : Str))) = (cands y).map V.str := by
            unfold cands
            rw [List.map_cons, List.map_map]
            rfl
          generalize hH4 : upd (upd (upd H3 l (.lst [.str y])) D (.lst (letters.cps.toList.map fun c => V.str (stem y ++ (⟨#[c]⟩ : Str))))) p (.lst ([V.str y] ++ letters.cps.toList.map fun c => V.str (stem y ++ (⟨#[c]⟩ : Str)))) = H4 at *
          have hp4 : H4 p = some (.lst ((cands y).map V.str)) := by rw [← hH4, upd_same, ec]
          refine ⟨_, rfl, .inl ⟨rfl, _, SqL.of hxp⟩, _, rfl, p, rfl, ⟨_, SqL.of hp4⟩, fun D2 hD2 => lc_it (walk_list (xs := (cands y).map V.str))
            (fun i H' => H' = upd H4 D2 (.lst ((((cands y).take i).filter fun c => !decide (c ∈ xs)).map V.str))) rfl (fun i H' _ e => by rw [e]; exact SqL.of (same_new hD2 _ _ hp4)) ?_ ?_⟩
          · rintro i v H5 H6 hi rfl ⟨rfl, hv⟩
            obtain ⟨z, hz2, rfl⟩ : ∃ z, (cands y)[i]? = some z ∧ v = V.str z := by
              rw [List.getElem?_map] at hv
              cases e : (cands y)[i]? with
              | none => rw [e] at hv; cases hv
              | some z => rw [e] at hv; exact ⟨z, rfl, (Option.some.inj hv).symm⟩
            refine ⟨rfl, _, rfl, _, rfl, F, _, rfl, .inl (SqL.of (same_new hD2 _ _ hxp)), rfl, flat_strs, _, rfl, ?_⟩
            show if (!inV (.str z) (xs.map V.str)) = true then _ else _
            rw [inV_str]
            have et := take_more hz2
            refine ite2 (fun c => ?_) (fun c => ?_)
            · refine ⟨_, rfl, _, upd_same, ?_, ?_⟩
              · have h1 : (((cands y).take i).filter fun c => !decide (c ∈ xs)).length ≤ ((cands y).take i).length := List.length_filter_le _ _
                rw [List.length_map]
                rw [List.length_take] at h1
                have h2 : (cands y).length = 27 := by unfold cands; rw [List.length_cons, List.length_map, letters_len]
                omega
              · rw [upd_upd, et, List.filter_append, List.map_append]
                congr 2
                rw [List.filter_cons, if_pos c]
                rfl
            · rw [et, List.filter_append, List.filter_cons, if_neg c]
              simp
          · rintro H5 rfl
            rw [List.length_map, List.take_length]
            obtain ⟨z, zs, ef, hzc, hzn⟩ := fresh_ne (y := y) hl8
            have ef2 : (cands y).filter (fun c => !decide (c ∈ xs)) = z :: zs := ef
            rw [ef2]
            refine ⟨D2, _, 0, .str z, rfl, rfl, SqL.of upd_same, atI_nat (j := 0) rfl, F, _, _, rfl, rfl, same_new hD2 _ _ hxp, (by rw [List.length_map]; omega), ?_⟩
            refine ⟨xs ++ [z], _, _, _, rfl, by rw [List.length_append, hl]; rfl, ?_, ?_, ?_, ?_, ?_⟩
            · intro x hx
              rcases List.mem_append.mp hx with hx | hx
              · exact hw x hx
              · rw [List.mem_singleton.mp hx]; exact cands_ok hy z hzc
            · refine List.nodup_append.mpr ⟨hnd, by simp, fun x hx u hu => ?_⟩
              rw [List.mem_singleton.mp hu]
              intro e
              exact hzn (e ▸ hx)
            · rw [upd_same, List.map_append]; rfl
            · exact (w4.new hD2).up aF
            · intro b o e hb
              have hbF : b ≠ F := ne_of_none e hF
              rw [upd_ne hbF]
              exact same_new hD2 _ _ (s4 b o e hb)
    · rintro σ H1 ⟨xs, v3, v4, v5, rfl, hl, hw, hnd, hx, w1, s1⟩
      exact ⟨_, rfl, k F xs H1 (by rw [hl]; rfl) hw hnd hF hx w1 s1⟩
end
end KP
/-! years: the mathematics -/
namespace KP
open PySem L2
abbrev Hd := Str × Str
abbrev Rw4 := Str × Int × Int × Int
def nms (hs : List Hd) : List Str := hs.map (·.1)
def up (hs : List Hd) (x : Str) : Str := ((hs.find? fun r => decide (r.1 = x)).map (·.2)).getD ""
structure VH (hs : List Hd) : Prop where
  nd : (nms hs).Nodup
  w : ∀ x ∈ nms hs, IsW x
  up : ∀ (i : Nat) (r : Hd), hs[i]? = some r → r.2 = "" ∨ ∃ j, j < i ∧ (nms hs)[j]? = some r.2
  l1 : 1 ≤ hs.length
  l8 : hs.length ≤ 8
theorem isW_ne {x : Str} (h : IsW x) : x ≠ "" := fun e => by
  have h1 := h.2.1
  rw [e] at h1
  exact absurd h1 (by decide)
theorem nms_get {hs : List Hd} {i : Nat} {r : Hd} (h : hs[i]? = some r) : (nms hs)[i]? = some r.1 := by
  unfold nms
  rw [List.getElem?_map, h]
  rfl
theorem get_nms {hs : List Hd} {i : Nat} {x : Str} (h : (nms hs)[i]? = some x) : ∃ u, hs[i]? = some (x, u) := by
  unfold nms at h
  rw [List.getElem?_map] at h
  cases e : hs[i]? with
  | none => rw [e] at h; cases h
  | some r =>
    rw [e] at h
    have : r.1 = x := Option.some.inj h
    exact ⟨r.2, by rw [← this]⟩
theorem mem_nms {hs : List Hd} {x : Str} (h : x ∈ nms hs) : ∃ (i : Nat) (u : Str), hs[i]? = some (x, u) := by
  obtain ⟨i, hi⟩ := List.mem_iff_getElem?.mp h
  obtain ⟨u, hu⟩ := get_nms hi
  exact ⟨i, u, hu⟩
theorem up_at : ∀ {hs : List Hd} {i : Nat} {r : Hd}, (nms hs).Nodup → hs[i]? = some r → up hs r.1 = r.2
  | [], i, r, _, h => by simp at h
  | a :: hs, 0, r, _, h => by
    have e : a = r := Option.some.inj h
    subst e
    unfold up
    rw [List.find?_cons_of_pos (by simp)]
    rfl
  | a :: hs, i + 1, r, hn, h => by
    have hn' := List.nodup_cons.mp (show (a.1 :: nms hs).Nodup from hn)
    have h' : hs[i]? = some r := h
    have ne : ¬ a.1 = r.1 := fun e => hn'.1 (by rw [e]; exact List.mem_iff_getElem?.mpr ⟨i, nms_get h'⟩)
    have ih := up_at hn'.2 h'
    unfold up at ih ⊢
    rw [List.find?_cons_of_neg (by simpa using ne)]
    exact ih
def rk (hs : List Hd) (x : Str) : Nat := if x = "" then 0 else (nms hs).idxOf x + 1
theorem idx_of {l : List Str} (hn : l.Nodup) {i : Nat} {x : Str} (h : l[i]? = some x) : l.idxOf x = i := by
  have hm : x ∈ l := List.mem_of_getElem? h
  have hlt : l.idxOf x < l.length := List.idxOf_lt_length_of_mem hm
  have e : l[l.idxOf x]? = some x := by
    rw [List.getElem?_eq_getElem hlt]
    simp
  exact nd_ix hn e h
theorem rk_at {hs : List Hd} (V : VH hs) {i : Nat} {x : Str} (h : (nms hs)[i]? = some x) : rk hs x = i + 1 := by
  unfold rk
  rw [if_neg (isW_ne (V.w x (List.mem_of_getElem? h))), idx_of V.nd h]
theorem rk_nil {hs : List Hd} : rk hs "" = 0 := by unfold rk; rw [if_pos rfl]
theorem up_ok {hs : List Hd} (V : VH hs) {x : Str} (h : x ∈ nms hs) : rk hs (up hs x) < rk hs x ∧ (up hs x = "" ∨ up hs x ∈ nms hs) := by
  obtain ⟨i, u, hi⟩ := mem_nms h
  have e1 := up_at V.nd hi
  dsimp only at e1
  rw [e1, rk_at V (nms_get hi)]
  rcases V.up i _ hi with e | ⟨j, hj, hu⟩
  · dsimp only at e
    subst e
    exact ⟨by rw [rk_nil]; omega, .inl rfl⟩
  · dsimp only at hu
    exact ⟨by rw [rk_at V hu]; omega, .inr (List.mem_of_getElem? hu)⟩
def chain (hs : List Hd) : Nat → Str → List Str
  | 0, _ => []
  | n + 1, x => if x = "" then [] else x :: chain hs n (up hs x)
theorem chain_nil {hs : List Hd} : ∀ n, chain hs n "" = []
  | 0 => rfl
  | n + 1 => by unfold chain; rw [if_pos rfl]
theorem chain_cons {hs : List Hd} {n : Nat} {x : Str} (h : x ≠ "") : chain hs (n + 1) x = x :: chain hs n (up hs x) := by
  show (if x = "" then [] else x :: chain hs n (up hs x)) = _
  rw [if_neg h]
theorem rk_pos {hs : List Hd} (V : VH hs) {x : Str} (h : x ∈ nms hs) : 1 ≤ rk hs x := by
  unfold rk
  rw [if_neg (isW_ne (V.w x h))]
  omega
theorem chain_eq {hs : List Hd} (V : VH hs) : ∀ {n m : Nat} {x : Str}, (x = "" ∨ x ∈ nms hs) → rk hs x ≤ n → rk hs x ≤ m → chain hs n x = chain hs m x
  | 0, m, x, hx, hn, hm => by
    rcases hx with rfl | hx
    · rw [chain_nil, chain_nil]
    · have := rk_pos V hx
      omega
  | n + 1, m, x, hx, hn, hm => by
    rcases hx with rfl | hx
    · rw [chain_nil, chain_nil]
    · have hp := rk_pos V hx
      obtain ⟨m', rfl⟩ : ∃ m', m = m' + 1 := ⟨m - 1, by omega⟩
      have hne := isW_ne (V.w x hx)
      have hu := up_ok V hx
      rw [chain_cons hne, chain_cons hne, chain_eq V (m := m') hu.2 (by omega) (by omega)]
def kn (hs : List Hd) (x : Str) : List Str := chain hs hs.length x
theorem rk_le {hs : List Hd} (V : VH hs) {x : Str} (h : x ∈ nms hs) : rk hs x ≤ hs.length := by
  obtain ⟨i, hi⟩ := List.mem_iff_getElem?.mp h
  rw [rk_at V hi]
  have := (List.getElem?_eq_some_iff.mp hi).1
  unfold nms at this
  rw [List.length_map] at this
  omega
theorem kn_nil {hs : List Hd} : kn hs "" = [] := chain_nil _
theorem kn_step {hs : List Hd} (V : VH hs) {x : Str} (h : x ∈ nms hs) : kn hs x = x :: kn hs (up hs x) := by
  have h1 := rk_le V h
  have h2 := rk_pos V h
  have hu := up_ok V h
  obtain ⟨m, hm⟩ : ∃ m, hs.length = m + 1 := ⟨hs.length - 1, by omega⟩
  unfold kn
  rw [hm, chain_cons (isW_ne (V.w x h))]
  congr 1
  exact chain_eq V hu.2 (by omega) (by omega)
theorem chain_mem {hs : List Hd} (V : VH hs) : ∀ {n : Nat} {x z : Str}, (x = "" ∨ x ∈ nms hs) → z ∈ chain hs n x → z ∈ nms hs
  | 0, x, z, _, h => by cases h
  | n + 1, x, z, hx, h => by
    rcases hx with rfl | hx
    · rw [chain_nil] at h; cases h
    · rw [chain_cons (isW_ne (V.w x hx))] at h
      rcases List.mem_cons.mp h with rfl | h
      · exact hx
      · exact chain_mem V (up_ok V hx).2 h
theorem chain_len {hs : List Hd} : ∀ (n : Nat) (x : Str), (chain hs n x).length ≤ n
  | 0, x => by simp [chain]
  | n + 1, x => by
    by_cases h : x = ""
    · subst h; rw [chain_nil]; simp
    · rw [chain_cons h, List.length_cons]; have := chain_len (hs := hs) n (up hs x); omega
theorem kn_mem {hs : List Hd} (V : VH hs) {x z : Str} (h : x ∈ nms hs) (hz : z ∈ kn hs x) : z ∈ nms hs := chain_mem V (.inr h) hz
theorem kn_len {hs : List Hd} (V : VH hs) (x : Str) : (kn hs x).length ≤ 8 := Nat.le_trans (chain_len _ _) V.l8
def und (hs : List Hd) (x : Str) : List Str := (nms hs).filter fun h => decide (x ∈ kn hs h)
/-! limits and rules -/
def LimOk (days : Int) (ns : List Str) (r : Rw4) : Prop := r.1 ∈ ns ∧ (1 ≤ r.2.1 ∧ r.2.1 ≤ days) ∧ (r.2.1 ≤ r.2.2.1 ∧ r.2.2.1 ≤ days) ∧ (0 ≤ r.2.2.2 ∧ r.2.2.2 ≤ 1000000000000000)
def RulOk (days : Int) (ns : List Str) (r : Rw4) : Prop := r.1 ∈ ns ∧ (1 ≤ r.2.2.1 ∧ r.2.2.1 ≤ 1000) ∧ (0 ≤ r.2.1 ∧ r.2.1 ≤ r.2.2.1) ∧ (2 ≤ r.2.2.2 ∧ r.2.2.2 ≤ days + 1)
def frS (x : Str) (p : Int × Int) (r : Rw4) : Int × Int := if r.1 = x then (p.1 * r.2.2.1 + r.2.1 * p.2, p.2 * r.2.2.1) else p
def fr (rs : List Rw4) (x : Str) : Int × Int := rs.foldl (frS x) (0, 1)
theorem fr_snoc (rs : List Rw4) (x : Str) (r : Rw4) : fr (rs ++ [r]) x = frS x (fr rs x) r := by unfold fr; rw [List.foldl_append]; rfl
structure Yr where
  days : Int
  hs : List Hd
  ls : List Rw4
  rs : List Rw4
structure Yr.ok (y : Yr) : Prop where
  d : 1 ≤ y.days ∧ y.days ≤ 30
  h : VH y.hs
  l : ∀ r ∈ y.ls, LimOk y.days (nms y.hs) r
  l6 : y.ls.length ≤ 6
  r : ∀ r ∈ y.rs, RulOk y.days (nms y.hs) r
  r4 : y.rs.length ≤ 4
  one : ∀ x, (fr y.rs x).1 ≤ (fr y.rs x).2
/-! rows in the heap -/
def hv (r : Hd) : List V := [.str r.1, .str r.2]
def rv (r : Rw4) : List V := [.str r.1, .int r.2.1, .int r.2.2.1, .int r.2.2.2]
/-- a list of tuples -/
def RowsAt (H : Hp) (l : Addr) (ts : List Addr) (rows : List (List V)) : Prop := H l = some (.lst (ts.map V.ref)) ∧ Paired (fun t r => H t = some (.tup r)) ts rows
theorem paired_mono {H H' : Hp} (h : ∀ b r, H b = some (.tup r) → H' b = some (.tup r)) : ∀ {ts : List Addr} {rows : List (List V)}, Paired (fun t r => H t = some (.tup r)) ts rows → Paired (fun t r => H' t = some (.tup r)) ts rows
  | _, _, .nil => .nil
  | _, _, .cons a p => .cons (h _ _ a) (paired_mono h p)
theorem paired_get {H : Hp} : ∀ {ts : List Addr} {rows : List (List V)} {i : Nat} {t : Addr}, Paired (fun t r => H t = some (.tup r)) ts rows → ts[i]? = some t → ∃ r, rows[i]? = some r ∧ H t = some (.tup r)
  | _, _, _, _, .nil, h => by simp at h
  | _, _, 0, t, .cons a p, h => by
    have e := Option.some.inj h
    subst e
    exact ⟨_, rfl, a⟩
  | _, _, i + 1, t, .cons a p, h => paired_get (i := i) (t := t) p (by simpa using h)
theorem paired_snoc {H : Hp} {t : Addr} {r : List V} (h : H t = some (.tup r)) : ∀ {ts : List Addr} {rows : List (List V)}, Paired (fun t r => H t = some (.tup r)) ts rows → Paired (fun t r => H t = some (.tup r)) (ts ++ [t]) (rows ++ [r])
  | _, _, .nil => .cons h .nil
  | _, _, .cons a p => .cons a (paired_snoc h p)
end KP
namespace KP
open PySem L2
theorem ifT {c A B : Prop} [Decidable c] (h : c) (ha : A) : if c then A else B := by
  rw [if_pos h]
  exact ha
theorem ifF {c A B : Prop} [Decidable c] (h : ¬ c) (hb : B) : if c then A else B := by
  rw [if_neg h]
  exact hb
abbrev sList : Stmt := top 20
abbrev sRow : Stmt := top 21
abbrev sHeadsP : Stmt := top 43
abbrev sLimit : Stmt := top 44
abbrev sRule : Stmt := top 45
abbrev sOne : Stmt := top 46
abbrev sLimitsP : Stmt := top 47
abbrev sRulesP : Stmt := top 48
def spList : Sp := fun vs H Q _ => ∃ (l : Addr) (xs : List V) (a b : Int), vs = [.ref l, .int a, .int b] ∧ H l = some (.lst xs) ∧ Q (.bl (decide (a ≤ (xs.length : Int) ∧ (xs.length : Int) ≤ b))) H
def spRow : Sp := fun vs H Q _ => ∃ (t : Addr) (xs : List V) (m : Int), vs = [.ref t, .int m] ∧ H t = some (.tup xs) ∧ Q (.bl (decide ((xs.length : Int) = m))) H
def spHeadsP : Sp := fun vs H Q _ => ∃ (l : Addr) (ts : List Addr) (hs : List Hd), vs = [.ref l] ∧ RowsAt H l ts (hs.map hv) ∧ VH hs ∧ ∀ H', Same H H' → Q (.bl true) H'
def spLimit : Sp := fun vs H Q _ => ∃ (t n : Addr) (d : Int) (ns : List Str) (r : Rw4), vs = [.ref t, .int d, .ref n] ∧ H t = some (.tup (rv r)) ∧ H n = some (.lst (ns.map V.str)) ∧ LimOk d ns r ∧ Q (.bl true) H
def spRule : Sp := fun vs H Q _ => ∃ (t n : Addr) (d : Int) (ns : List Str) (r : Rw4), vs = [.ref t, .int d, .ref n] ∧ H t = some (.tup (rv r)) ∧ H n = some (.lst (ns.map V.str)) ∧ RulOk d ns r ∧ Q (.bl true) H
def spOne : Sp := fun vs H Q _ => ∃ (l : Addr) (ts : List Addr) (x : Str) (rs : List Rw4), vs = [.ref l, .str x] ∧ RowsAt H l ts (rs.map rv) ∧ (∀ r ∈ rs, (0 ≤ r.2.1 ∧ r.2.1 ≤ 1000) ∧ 1 ≤ r.2.2.1 ∧ r.2.2.1 ≤ 1000) ∧ (fr rs x).1 ≤ (fr rs x).2 ∧ Q (.bl true) H
def spLimitsP : Sp := fun vs H Q _ => ∃ (l n : Addr) (ts : List Addr) (d : Int) (ns : List Str) (rs : List Rw4), vs = [.ref l, .int d, .ref n] ∧ RowsAt H l ts (rs.map rv) ∧ H n = some (.lst (ns.map V.str)) ∧ (∀ r ∈ rs, LimOk d ns r) ∧ rs.length ≤ 6 ∧ ∀ H', Same H H' → Q (.bl true) H'
def spRulesP : Sp := fun vs H Q _ => ∃ (l n : Addr) (ts : List Addr) (d : Int) (ns : List Str) (rs : List Rw4), vs = [.ref l, .int d, .ref n] ∧ RowsAt H l ts (rs.map rv) ∧ H n = some (.lst (ns.map V.str)) ∧ (∀ r ∈ rs, RulOk d ns r) ∧ rs.length ≤ 4 ∧ ns.length ≤ 8 ∧ (∀ x, (fr rs x).1 ≤ (fr rs x).2) ∧ ∀ H', Same H H' → Q (.bl true) H'
theorem RowsAt.same {H H' : Hp} {l : Addr} {ts : List Addr} {rows : List (List V)} (h : RowsAt H l ts rows) (s : Same H H') : RowsAt H' l ts rows := ⟨s _ _ h.1, paired_mono (fun _ _ e => s _ _ e) h.2⟩
theorem RowsAt.len {H : Hp} {l : Addr} {ts : List Addr} {rows : List (List V)} (h : RowsAt H l ts rows) : ts.length = rows.length := Paired.length h.2
/-- the i-th item of a list of rows -/
theorem row_get {α : Type} {H : Hp} {l : Addr} {ts : List Addr} {rs : List α} {f : α → List V} {i : Nat} {y : V} (h : RowsAt H l ts (rs.map f)) (hy : (ts.map V.ref)[i]? = some y) : ∃ t r, y = .ref t ∧ rs[i]? = some r ∧ H t = some (.tup (f r)) ∧ ts[i]? = some t := by
  rw [List.getElem?_map] at hy
  cases e : ts[i]? with
  | none => rw [e] at hy; cases hy
  | some t =>
    rw [e] at hy
    obtain ⟨r', hr', ht⟩ := paired_get h.2 e
    rw [List.getElem?_map] at hr'
    cases e2 : rs[i]? with
    | none => rw [e2] at hr'; cases hr'
    | some r =>
      rw [e2] at hr'
      have := Option.some.inj hr'
      subst this
      exact ⟨t, r, (Option.some.inj hy).symm, rfl, ht, rfl⟩
section
variable {P : Program} {w : World} {K : PySem.W.Frag} {mg : Str → Option Value} {base : Heap}
theorem scList : FnScope ["value", "least", "most"] ["value", "least", "most"] (defScope sList) := ⟨rfl, rfl, rfl, by decide +kernel, rfl, by decide +kernel, by decide +kernel⟩
theorem c_list (B : Base K mg) (D : DefT K mg "is_list" sList ["value", "least", "most"]) : Cal P w K mg base 1 "is_list" spList := by
  refine cal D scList (fun vs H Q E h => ?_) (fun f cdv A outer s H vs Q E hr h => ?_)
  · obtain ⟨l, xs, a, b, rfl, _⟩ := h
    rfl
  · obtain ⟨l, xs, a, b, rfl, hl, k⟩ := h
    refine ⟨_, pss_one (ps_ret (pe_and (pe_callB call_isi (by rfl) B.isi (by decide +kernel) (pa_cons (pv 0) (pa_cons (pe_bltn (v := .ty "list") (by rfl) B.list (by decide +kernel) rfl) pa_nil)))
      (pe_one (pe_chain op_le op_le (pv 1) (pe_callB call_len_seq (by rfl) B.len PySem.boot_len (pa_cons (pv 0) pa_nil)) (pv 2))))), ?_⟩
    refine ⟨_, rfl, _, _, _, _, true, rfl, .ty _, .base (.lst hl), kit_ty (by decide +kernel), _, rfl, iteT ?_⟩
    refine ⟨_, rfl, _, rfl, l, _, rfl, .inl (SqL.of hl), _, _, rfl, rfl, _, rfl, ?_⟩
    by_cases h1 : a ≤ (xs.length : Int)
    · refine ifT (decide_eq_true h1) ⟨_, rfl, _, _, rfl, rfl, ?_⟩
      show Q (.bl (decide ((xs.length : Int) ≤ b))) H
      by_cases h2 : (xs.length : Int) ≤ b
      · rw [decide_eq_true h2]
        rw [decide_eq_true ⟨h1, h2⟩] at k
        exact k
      · rw [decide_eq_false h2]
        rw [decide_eq_false fun z => h2 z.2] at k
        exact k
    · refine ifF (by rw [decide_eq_false h1]; exact Bool.false_ne_true) ?_
      rw [decide_eq_false fun z => h1 z.1] at k
      exact k
theorem scRow : FnScope ["value", "many"] ["value", "many"] (defScope sRow) := ⟨rfl, rfl, rfl, by decide +kernel, rfl, by decide +kernel, by decide +kernel⟩
theorem c_row (B : Base K mg) (D : DefT K mg "is_row" sRow ["value", "many"]) : Cal P w K mg base 1 "is_row" spRow := by
  refine cal D scRow (fun vs H Q E h => ?_) (fun f cdv A outer s H vs Q E hr h => ?_)
  · obtain ⟨l, xs, m, rfl, _⟩ := h
    rfl
  · obtain ⟨l, xs, m, rfl, hl, k⟩ := h
    refine ⟨_, pss_one (ps_ret (pe_and (pe_callB call_isi (by rfl) B.isi (by decide +kernel) (pa_cons (pv 0) (pa_cons (pe_bltn (v := .ty "tuple") (by rfl) B.tuple (by decide +kernel) rfl) pa_nil)))
      (pe_one (pe_cmpR op_eq (pe_callB call_len_seq (by rfl) B.len PySem.boot_len (pa_cons (pv 0) pa_nil)) (pv 1) (nomark _))))), ?_⟩
    refine ⟨_, rfl, _, _, _, _, true, rfl, .ty _, .base (.tup hl), kit_ty (by decide +kernel), _, rfl, iteT ?_⟩
    refine ⟨_, rfl, l, _, rfl, .inr (SqT.of hl), _, rfl, rfl, ?_⟩
    have e : decide (V.int (xs.length : Int) = V.int m) = decide ((xs.length : Int) = m) := by
      by_cases h : (xs.length : Int) = m
      · rw [h]; simp
      · rw [decide_eq_false h, decide_eq_false fun z => h (by injection z)]
    show Q (.bl (decide (V.int (xs.length : Int) = V.int m))) H
    rw [e]
    exact k
abbrev nHeadsP : List Str := ["heads", "ahead", "row", "name", "upper"]
theorem scHeadsP : FnScope nHeadsP ["heads"] (defScope sHeadsP) := ⟨rfl, rfl, rfl, by decide +kernel, rfl, by decide +kernel, by decide +kernel⟩
theorem c_headsP (B : Base K mg) (Ls : Cal P w K mg base 1 "is_list" spList) (Ro : Cal P w K mg base 1 "is_row" spRow) (Wo : Cal P w K mg base 1 "is_word" spWord) (D : DefT K mg "are_heads" sHeadsP ["heads"]) : Cal P w K mg base 2 "are_heads" spHeadsP := by
  obtain ⟨tH, hH⟩ := B.mostH
  refine cal D scHeadsP (fun vs H Q E h => ?_) (fun f cdv A outer s H vs Q E hr h => ?_)
  · obtain ⟨l, ts, hs, rfl, _⟩ := h
    rfl
  · obtain ⟨l, ts, hs, rfl, R, Vh, k⟩ := h
    have hz : sizeLine = 16777216 := by decide
    have tl : ts.length = hs.length := by rw [R.len, List.length_map]
    have h1 := Vh.l1
    have h8 := Vh.l8
    refine ⟨_, pss_cons (ps_if (pt_not (pt_val (pe_cl Ls hr (by decide) (by rfl) (pa_cons (pv 0) (pa_cons pe_int (pa_cons (pe_glob (v := .int 8) rfl hH ⟨_, rfl⟩) pa_nil)))))) (pss_one (ps_ret pe_bl)) pss_nil)
      (pss_cons (ps_set (i := 1) scHeadsP.nd rfl (Or.inl rfl) (pe_lst pa_nil))
      (pss_cons (ps_for PassesOwn.never rfl (pi_list (pv 0)) (pg_name (i := 2) scHeadsP.nd rfl (Or.inl rfl))
        (pss_cons (ps_if (pt_not (pt_val (pe_cl Ro hr (by decide) (by rfl) (pa_cons (pv 2) (pa_cons pe_int pa_nil))))) (pss_one (ps_ret pe_bl)) pss_nil)
        (pss_cons (ps_asg (pv 2) (pg_tup rfl (pgs_cons (pg_name (i := 3) scHeadsP.nd rfl (Or.inl rfl)) (pgs_cons (pg_name (i := 4) scHeadsP.nd rfl (Or.inl rfl)) pgs_nil))))
        (pss_cons (ps_if (PW.pt (pw_or (pt_not (pt_val (pe_cl Wo hr (by decide) (by rfl) (pa_cons (pv 3) pa_nil)))) (pw_or1 (pt_cmpR op_in_seq (pv 3) (pv 1) rfl)))) (pss_one (ps_ret pe_bl)) pss_nil)
        (pss_cons (ps_if (PW.pt (pw_and (pt_cmpR op_ne (pv 4) pe_str (nomark _)) (pw_and1 (pt_cmpR op_notIn_seq (pv 4) (pv 1) rfl)))) (pss_one (ps_ret pe_bl)) pss_nil)
        (pss_one (ps_expr (pe_bm PySem.F.plainAttrs_list PySem.F.slot_list_append PySem.F.type_list_append mt_append (pv 1) (pa_cons (pv 3) pa_nil)))))))))
      (pss_one (ps_ret pe_bl)))), ?_⟩
    refine ⟨_, rfl, l, _, _, _, rfl, R.1, _, rfl, ?_⟩
    rw [decide_eq_true (show (1 : Int) ≤ ((ts.map V.ref).length : Int) ∧ ((ts.map V.ref).length : Int) ≤ 8 by rw [List.length_map, tl]; omega)]
    refine iteF ⟨(by show 0 ≤ sizeLine; decide), fun A2 hA => ?_⟩
    have lA : l ≠ A2 := ne_of_none R.1 hA
    refine ⟨_, rfl, l, rfl, ⟨_, SqL.of (same_new hA _ _ R.1)⟩, for_list (K := K) (a := l) (xs := ts.map V.ref) (fun i σ H' => ∃ (v2 v3 v4 : Option V), σ = [some (.ref l), some (.ref A2), v2, v3, v4] ∧ Same H H' ∧ H' A2 = some (.lst (((nms hs).take i).map V.str)))
      ⟨none, none, none, rfl, same_new hA, upd_same⟩ (fun i σ H' _ ⟨_, _, _, _, s1, _⟩ => SqL.of (s1 _ _ R.1)) ?_ ?_⟩
    · rintro i y σ H1 hi ⟨v2, v3, v4, rfl, s1, a1⟩
      obtain ⟨t, r, rfl, hr1, ht, hti⟩ := row_get R hi
      have hi8 : i < ts.length := (List.getElem?_eq_some_iff.mp hti).1
      have ht1 := s1 _ _ ht
      have hn := nms_get hr1
      have hm : r.1 ∈ nms hs := List.mem_of_getElem? hn
      refine ⟨_, rfl, t, _, _, rfl, ht1, _, rfl, iteF ?_⟩
      refine ⟨_, rfl, t, _, rfl, SqT.of ht1, rfl, _, _, rfl, _, _, rfl, rfl, ?_⟩
      refine ⟨_, rfl, r.1, rfl, Vh.w _ hm, fun H2 s2 => ⟨_, rfl, iteF ?_⟩⟩
      have a2 := s2 _ _ a1
      refine ⟨_, rfl, _, rfl, A2, _, rfl, .inl (SqL.of a2), rfl, flat_strs, _, rfl, ?_⟩
      show if (inV (.str r.1) (((nms hs).take i).map V.str)) = true then _ else _
      rw [inV_str]
      have nin : ¬ r.1 ∈ (nms hs).take i := fun hmem => by
        obtain ⟨j, hj⟩ := List.mem_iff_getElem?.mp hmem
        rw [List.getElem?_take] at hj
        split at hj
        · rename_i hlt
          have := nd_ix Vh.nd hj hn
          omega
        · cases hj
      rw [decide_eq_false nin]
      refine iteF ?_
      have app : ∀ (H3 : Hp), H3 = H2 → ∃ l' xs y, V.ref A2 = .ref l' ∧ [V.str r.1] = [y] ∧ H3 l' = some (.lst xs) ∧ xs.length < sizeLine ∧ ∃ (v2 v3 v4 : Option V), [some (V.ref l), some (V.ref A2), some (V.ref t), some (V.str r.1), some (V.str r.2)] = [some (.ref l), some (.ref A2), v2, v3, v4] ∧ Same H (upd H3 l' (.lst (xs ++ [y]))) ∧ (upd H3 l' (.lst (xs ++ [y]))) A2 = some (.lst (((nms hs).take (i + 1)).map V.str)) := by
        rintro H3 rfl
        refine ⟨A2, _, _, rfl, rfl, a2, ?_, _, _, _, rfl, fun b o e => ?_, ?_⟩
        · rw [List.length_map, List.length_take]; omega
        · rw [upd_ne (ne_of_none e hA)]
          exact s2 _ _ (s1 _ _ e)
        · rw [upd_same, take_more hn, List.map_append]
          rfl
      refine ⟨_, rfl, rfl, _, rfl, ite2 (fun c => ?_) (fun c => ?_)⟩
      · refine ⟨_, rfl, _, rfl, A2, _, rfl, .inl (SqL.of a2), rfl, flat_strs, _, rfl, ?_⟩
        show if (!inV (.str r.2) (((nms hs).take i).map V.str)) = true then _ else _
        rw [inV_str]
        have hin : r.2 ∈ (nms hs).take i := by
          rcases Vh.up i r hr1 with e | ⟨j, hj, hu⟩
          · exfalso
            rw [e] at c
            exact absurd c (by decide +kernel)
          · exact List.mem_iff_getElem?.mpr ⟨j, by rw [List.getElem?_take, if_pos hj]; exact hu⟩
        rw [decide_eq_true hin]
        refine iteF ?_
        exact ⟨_, rfl, .inl ⟨rfl, _, SqL.of a2⟩, _, rfl, app _ rfl⟩
      · exact iteF ⟨_, rfl, .inl ⟨rfl, _, SqL.of a2⟩, _, rfl, app _ rfl⟩
    · rintro σ H1 ⟨v2, v3, v4, rfl, s1, a1⟩
      exact k _ s1
end
end KP
namespace KP
open PySem L2
section
variable {P : Program} {w : World} {K : PySem.W.Frag} {mg : Str → Option Value} {base : Heap}
abbrev nLimit : List Str := ["row", "days", "names", "head", "first", "last", "most"]
theorem scLimit : FnScope nLimit ["row", "days", "names"] (defScope sLimit) := ⟨rfl, rfl, rfl, by decide +kernel, rfl, by decide +kernel, by decide +kernel⟩
theorem c_limit (B : Base K mg) (Ro : Cal P w K mg base 1 "is_row" spRow) (Wh : Cal P w K mg base 1 "is_whole" spWhole) (D : DefT K mg "is_limit" sLimit ["row", "days", "names"]) : Cal P w K mg base 2 "is_limit" spLimit := by
  obtain ⟨tM, hM⟩ := B.mostM
  refine cal D scLimit (fun vs H Q E h => ?_) (fun f cdv A outer s H vs Q E hr h => ?_)
  · obtain ⟨t, n, d, ns, r, rfl, _⟩ := h
    rfl
  · obtain ⟨t, n, d, ns, r, rfl, ht, hn, ⟨o1, o2, o3, o4⟩, k⟩ := h
    refine ⟨_, pss_cons (ps_if (pt_not (pt_val (pe_cl Ro hr (by decide) (by rfl) (pa_cons (pv 0) (pa_cons pe_int pa_nil))))) (pss_one (ps_ret pe_bl)) pss_nil)
      (pss_cons (ps_asg (pv 0) (pg_tup rfl (pgs_cons (pg_name (i := 3) scLimit.nd rfl (Or.inl rfl)) (pgs_cons (pg_name (i := 4) scLimit.nd rfl (Or.inl rfl)) (pgs_cons (pg_name (i := 5) scLimit.nd rfl (Or.inl rfl)) (pgs_cons (pg_name (i := 6) scLimit.nd rfl (Or.inl rfl)) pgs_nil))))))
      (pss_cons (ps_if (PW.pt (pw_or (pt_cmpR op_notIn_seq (pv 3) (pv 2) rfl) (pw_or1 (pt_not (pt_val (pe_cl Wh hr (by decide) (by rfl) (pa_cons (pv 4) (pa_cons pe_int (pa_cons (pv 1) pa_nil))))))))) (pss_one (ps_ret pe_bl)) pss_nil)
      (pss_one (ps_ret (pe_and (pe_cl Wh hr (by decide) (by rfl) (pa_cons (pv 5) (pa_cons (pv 4) (pa_cons (pv 1) pa_nil)))) (pe_one (pe_cl Wh hr (by decide) (by rfl) (pa_cons (pv 6) (pa_cons pe_int (pa_cons (pe_glob (v := .int 1000000000000000) rfl hM ⟨_, rfl⟩) pa_nil)))))))))), ?_⟩
    refine ⟨_, rfl, t, _, _, rfl, ht, _, rfl, iteF ?_⟩
    refine ⟨_, rfl, t, _, rfl, SqT.of ht, rfl, _, _, rfl, _, _, rfl, _, _, rfl, _, _, rfl, rfl, ?_⟩
    refine ⟨_, rfl, _, rfl, n, _, rfl, .inl (SqL.of hn), rfl, flat_strs, _, rfl, ?_⟩
    show if (!inV (.str r.1) (ns.map V.str)) = true then _ else _
    rw [inV_str, decide_eq_true o1]
    refine iteF ⟨_, rfl, _, rfl, _, _, _, rfl, _, rfl, ?_⟩
    rw [decide_eq_true o2]
    refine iteF ⟨_, rfl, _, rfl, _, rfl, _, _, _, rfl, _, rfl, ?_⟩
    rw [decide_eq_true o3]
    refine iteT ⟨_, rfl, _, _, _, rfl, ?_⟩
    rw [decide_eq_true o4]
    exact k
abbrev nRule : List Str := ["row", "days", "names", "head", "part", "whole", "until"]
theorem scRule : FnScope nRule ["row", "days", "names"] (defScope sRule) := ⟨rfl, rfl, rfl, by decide +kernel, rfl, by decide +kernel, by decide +kernel⟩
theorem c_rule (B : Base K mg) (Ro : Cal P w K mg base 1 "is_row" spRow) (Wh : Cal P w K mg base 1 "is_whole" spWhole) (D : DefT K mg "is_rule" sRule ["row", "days", "names"]) : Cal P w K mg base 2 "is_rule" spRule := by
  obtain ⟨tM, hM⟩ := B.mostW
  refine cal D scRule (fun vs H Q E h => ?_) (fun f cdv A outer s H vs Q E hr h => ?_)
  · obtain ⟨t, n, d, ns, r, rfl, _⟩ := h
    rfl
  · obtain ⟨t, n, d, ns, r, rfl, ht, hn, ⟨o1, o2, o3, o4⟩, k⟩ := h
    refine ⟨_, pss_cons (ps_if (pt_not (pt_val (pe_cl Ro hr (by decide) (by rfl) (pa_cons (pv 0) (pa_cons pe_int pa_nil))))) (pss_one (ps_ret pe_bl)) pss_nil)
      (pss_cons (ps_asg (pv 0) (pg_tup rfl (pgs_cons (pg_name (i := 3) scRule.nd rfl (Or.inl rfl)) (pgs_cons (pg_name (i := 4) scRule.nd rfl (Or.inl rfl)) (pgs_cons (pg_name (i := 5) scRule.nd rfl (Or.inl rfl)) (pgs_cons (pg_name (i := 6) scRule.nd rfl (Or.inl rfl)) pgs_nil))))))
      (pss_cons (ps_if (PW.pt (pw_or (pt_cmpR op_notIn_seq (pv 3) (pv 2) rfl) (pw_or1 (pt_not (pt_val (pe_cl Wh hr (by decide) (by rfl) (pa_cons (pv 5) (pa_cons pe_int (pa_cons (pe_glob (v := .int 1000) rfl hM ⟨_, rfl⟩) pa_nil))))))))) (pss_one (ps_ret pe_bl)) pss_nil)
      (pss_one (ps_ret (pe_and (pe_cl Wh hr (by decide) (by rfl) (pa_cons (pv 4) (pa_cons pe_int (pa_cons (pv 5) pa_nil)))) (pe_one (pe_cl Wh hr (by decide) (by rfl) (pa_cons (pv 6) (pa_cons pe_int (pa_cons (pe_op op_add (pv 1) pe_int) pa_nil)))))))))), ?_⟩
    refine ⟨_, rfl, t, _, _, rfl, ht, _, rfl, iteF ?_⟩
    refine ⟨_, rfl, t, _, rfl, SqT.of ht, rfl, _, _, rfl, _, _, rfl, _, _, rfl, _, _, rfl, rfl, ?_⟩
    refine ⟨_, rfl, _, rfl, n, _, rfl, .inl (SqL.of hn), rfl, flat_strs, _, rfl, ?_⟩
    show if (!inV (.str r.1) (ns.map V.str)) = true then _ else _
    rw [inV_str, decide_eq_true o1]
    refine iteF ⟨_, rfl, _, _, _, rfl, _, rfl, ?_⟩
    rw [decide_eq_true o2]
    refine iteF ⟨_, rfl, _, rfl, _, _, _, rfl, _, rfl, ?_⟩
    rw [decide_eq_true o3]
    refine iteT ⟨_, rfl, _, rfl, _, _, rfl, rfl, _, _, _, rfl, ?_⟩
    rw [decide_eq_true o4]
    exact k
abbrev nOne : List Str := ["rules", "name", "top", "bottom", "head", "part", "whole", "until"]
theorem scOne : FnScope nOne ["rules", "name"] (defScope sOne) := ⟨rfl, rfl, rfl, by decide +kernel, rfl, by decide +kernel, by decide +kernel⟩
theorem c_one (D : DefT K mg "is_at_most_one" sOne ["rules", "name"]) : Cal P w K mg base 1 "is_at_most_one" spOne := by
  refine cal D scOne (fun vs H Q E h => ?_) (fun f cdv A outer s H vs Q E hr h => ?_)
  · obtain ⟨l, ts, x, rs, rfl, _⟩ := h
    rfl
  · obtain ⟨l, ts, x, rs, rfl, R, hb, h1, k⟩ := h
    refine ⟨_, pss_cons (ps_set (i := 2) scOne.nd rfl (Or.inl rfl) pe_int) (pss_cons (ps_set (i := 3) scOne.nd rfl (Or.inl rfl) pe_int)
      (pss_cons (ps_for PassesOwn.never rfl (pi_list (pv 0)) (pg_tup rfl (pgs_cons (pg_name (i := 4) scOne.nd rfl (Or.inl rfl)) (pgs_cons (pg_name (i := 5) scOne.nd rfl (Or.inl rfl)) (pgs_cons (pg_name (i := 6) scOne.nd rfl (Or.inl rfl)) (pgs_cons (pg_name (i := 7) scOne.nd rfl (Or.inl rfl)) pgs_nil)))))
        (pss_one (ps_if (pt_cmpR op_eq (pv 4) (pv 1) (nomark _))
          (pss_cons (ps_set (i := 2) scOne.nd rfl (Or.inl rfl) (pe_op op_add (pe_op op_mul (pv 2) (pv 6)) (pe_op op_mul (pv 5) (pv 3)))) (pss_one (ps_set (i := 3) scOne.nd rfl (Or.inl rfl) (pe_op op_mul (pv 3) (pv 6))))) pss_nil)))
      (pss_one (ps_ret (pe_cmpR op_le (pv 2) (pv 3) (nomark _)))))), ?_⟩
    refine ⟨_, rfl, l, rfl, ⟨_, SqL.of R.1⟩, for_list (K := K) (a := l) (xs := ts.map V.ref) (fun i σ H' => ∃ (v4 v5 v6 v7 : Option V), σ = [some (.ref l), some (.str x), some (.int (fr (rs.take i) x).1), some (.int (fr (rs.take i) x).2), v4, v5, v6, v7] ∧ H' = H)
      ⟨none, none, none, none, rfl, rfl⟩ (fun i σ H' _ ⟨_, _, _, _, _, e⟩ => by rw [e]; exact SqL.of R.1) ?_ ?_⟩
    · rintro i y σ H1 hi ⟨v4, v5, v6, v7, rfl, rfl⟩
      obtain ⟨t, r, rfl, hr1, ht, hti⟩ := row_get R hi
      have bb := hb r (List.mem_of_getElem? hr1)
      have step := fr_snoc (rs.take i) x r
      rw [← take_more hr1] at step
      refine ⟨t, _, rfl, SqT.of ht, rfl, _, _, rfl, _, _, rfl, _, _, rfl, _, _, rfl, rfl, ?_⟩
      refine ⟨_, rfl, _, rfl, rfl, _, rfl, ite2 (fun c => ?_) (fun c => ?_)⟩
      · have e : r.1 = x := by have := of_decide_eq_true c; injection this
        have e2 : frS x (fr (rs.take i) x) r = ((fr (rs.take i) x).1 * r.2.2.1 + r.2.1 * (fr (rs.take i) x).2, (fr (rs.take i) x).2 * r.2.2.1) := by unfold frS; rw [if_pos e]
        rw [e2] at step
        refine ⟨_, rfl, _, rfl, _, _, rfl, rfl, Or.inr ⟨by omega, by omega⟩, _, rfl, _, rfl, _, _, rfl, rfl, Or.inl ⟨by omega, by omega⟩, _, _, rfl, rfl, ?_⟩
        refine ⟨_, rfl, _, rfl, _, _, rfl, rfl, Or.inr ⟨by omega, by omega⟩, ?_⟩
        refine ⟨some (.str r.1), some (.int r.2.1), some (.int r.2.2.1), some (.int r.2.2.2), ?_, rfl⟩
        rw [step]
        rfl
      · have e : ¬ r.1 = x := fun z => c (decide_eq_true (by rw [z]))
        have e2 : frS x (fr (rs.take i) x) r = fr (rs.take i) x := by unfold frS; rw [if_neg e]
        rw [e2] at step
        refine ⟨some (.str r.1), some (.int r.2.1), some (.int r.2.2.1), some (.int r.2.2.2), ?_, rfl⟩
        rw [step]
        rfl
    · rintro σ H1 ⟨v4, v5, v6, v7, rfl, rfl⟩
      have el : rs.take (ts.map V.ref).length = rs := by rw [List.length_map, R.len, List.length_map]; exact List.take_length
      rw [el]
      refine ⟨_, rfl, _, rfl, _, _, rfl, rfl, ?_⟩
      show Q (.bl (decide ((fr rs x).1 ≤ (fr rs x).2))) H1
      rw [decide_eq_true h1]
      exact k
/-- all([f(..) for x in xs]): a list of Trues grows -/
theorem rep_snoc {i : Nat} : List.replicate i (V.bl true) ++ [V.bl true] = List.replicate (i + 1) (V.bl true) := List.replicate_succ'.symm
abbrev nLimitsP : List Str := ["limits", "days", "names", "row"]
theorem scLimitsP : FnScope nLimitsP ["limits", "days", "names"] (defScope sLimitsP) := ⟨rfl, rfl, rfl, by decide +kernel, rfl, by decide +kernel, by decide +kernel⟩
theorem c_limitsP (B : Base K mg) (Ls : Cal P w K mg base 1 "is_list" spList) (Li : Cal P w K mg base 2 "is_limit" spLimit) (D : DefT K mg "are_limits" sLimitsP ["limits", "days", "names"]) : Cal P w K mg base 3 "are_limits" spLimitsP := by
  obtain ⟨tM, hM⟩ := B.mostLi
  refine cal D scLimitsP (fun vs H Q E h => ?_) (fun f cdv A outer s H vs Q E hr h => ?_)
  · obtain ⟨l, n, ts, d, ns, rs, rfl, _⟩ := h
    rfl
  · obtain ⟨l, n, ts, d, ns, rs, rfl, R, hn, hok, h6, k⟩ := h
    have hz : sizeLine = 16777216 := by decide
    have tl : ts.length = rs.length := by rw [R.len, List.length_map]
    refine ⟨_, pss_one (ps_ret (pe_and (pe_cl Ls hr (by decide) (by rfl) (pa_cons (pv 0) (pa_cons pe_int (pa_cons (pe_glob (v := .int 6) rfl hM ⟨_, rfl⟩) pa_nil))))
      (pe_one (pe_callB (cr_all rfl) (by rfl) B.all (by decide +kernel) (pa_cons (pe_lc (own := [("row", 3)]) (g := gName 3) (tt := tYes) rfl scLimitsP.nd (pi_list (pv 0)) (blkOk_by (N := nLimitsP) (sc := defScope sLimitsP) (by decide +kernel))
        (fun _ _ _ _ _ => pg_name (i := 3) scLimitsP.nd rfl (Or.inl rfl)) (fun _ _ _ _ _ => pts_nil) (fun _ _ _ _ _ => pe_cl Li hr (by decide) (by rfl) (pa_cons (pv 3) (pa_cons (pv 1) (pa_cons (pv 2) pa_nil))))) pa_nil))))), ?_⟩
    refine ⟨_, rfl, l, _, _, _, rfl, R.1, _, rfl, ?_⟩
    rw [decide_eq_true (show (0 : Int) ≤ ((ts.map V.ref).length : Int) ∧ ((ts.map V.ref).length : Int) ≤ 6 by rw [List.length_map, tl]; omega)]
    refine iteT ⟨_, rfl, l, rfl, ⟨_, SqL.of R.1⟩, fun D2 hD => lc_it (walk_list (xs := ts.map V.ref)) (fun i H' => H' = upd H D2 (.lst (List.replicate i (V.bl true)))) rfl (fun i H' _ e => by rw [e]; exact SqL.of (same_new hD _ _ R.1)) ?_ ?_⟩
    · rintro i v H1 H2 hi rfl ⟨rfl, hv⟩
      obtain ⟨t, r, rfl, hr1, ht, hti⟩ := row_get R hv
      refine ⟨rfl, yes (iteT ⟨_, rfl, _, rfl, _, rfl, t, n, d, ns, r, rfl, same_new hD _ _ ht, same_new hD _ _ hn, hok r (List.mem_of_getElem? hr1), _, upd_same, ?_, ?_⟩)⟩
      · rw [List.length_replicate]
        rw [List.length_map, tl] at hi
        omega
      · rw [upd_upd, rep_snoc]
    · rintro H1 rfl
      refine ⟨D2, List.replicate (ts.map V.ref).length true, rfl, SqL.of (by rw [upd_same, map_rep]), ?_⟩
      rw [all_rep]
      exact k _ (same_new hD)
abbrev nRulesP : List Str := ["rules", "days", "names", "row", "name"]
theorem scRulesP : FnScope nRulesP ["rules", "days", "names"] (defScope sRulesP) := ⟨rfl, rfl, rfl, by decide +kernel, rfl, by decide +kernel, by decide +kernel⟩
theorem c_rulesP (B : Base K mg) (Ls : Cal P w K mg base 1 "is_list" spList) (Ru : Cal P w K mg base 2 "is_rule" spRule) (On : Cal P w K mg base 1 "is_at_most_one" spOne) (D : DefT K mg "are_rules" sRulesP ["rules", "days", "names"]) : Cal P w K mg base 3 "are_rules" spRulesP := by
  obtain ⟨tM, hM⟩ := B.mostR
  refine cal D scRulesP (fun vs H Q E h => ?_) (fun f cdv A outer s H vs Q E hr h => ?_)
  · obtain ⟨l, n, ts, d, ns, rs, rfl, _⟩ := h
    rfl
  · obtain ⟨l, n, ts, d, ns, rs, rfl, R, hn, hok, h4, h8, hone, k⟩ := h
    have hz : sizeLine = 16777216 := by decide
    have tl : ts.length = rs.length := by rw [R.len, List.length_map]
    refine ⟨_, pss_cons (ps_if (PW.pt (pw_or (pt_not (pt_val (pe_cl Ls hr (by decide) (by rfl) (pa_cons (pv 0) (pa_cons pe_int (pa_cons (pe_glob (v := .int 4) rfl hM ⟨_, rfl⟩) pa_nil))))))
      (pw_or1 (pt_not (pt_val (pe_callB (cr_all rfl) (by rfl) B.all (by decide +kernel) (pa_cons (pe_lc (own := [("row", 3)]) (g := gName 3) (tt := tYes) rfl scRulesP.nd (pi_list (pv 0)) (blkOk_by (N := nRulesP) (sc := defScope sRulesP) (by decide +kernel))
        (fun _ _ _ _ _ => pg_name (i := 3) scRulesP.nd rfl (Or.inl rfl)) (fun _ _ _ _ _ => pts_nil) (fun _ _ _ _ _ => pe_cl Ru hr (by decide) (by rfl) (pa_cons (pv 3) (pa_cons (pv 1) (pa_cons (pv 2) pa_nil))))) pa_nil))))))) (pss_one (ps_ret pe_bl)) pss_nil)
      (pss_one (ps_ret (pe_callB (cr_all rfl) (by rfl) B.all (by decide +kernel) (pa_cons (pe_lc (own := [("name", 4)]) (g := gName 4) (tt := tYes) rfl scRulesP.nd (pi_list (pv 2)) (blkOk_by (N := nRulesP) (sc := defScope sRulesP) (by decide +kernel))
        (fun _ _ _ _ _ => pg_name (i := 4) scRulesP.nd rfl (Or.inl rfl)) (fun _ _ _ _ _ => pts_nil) (fun _ _ _ _ _ => pe_cl On hr (by decide) (by rfl) (pa_cons (pv 0) (pa_cons (pv 4) pa_nil)))) pa_nil)))), ?_⟩
    refine ⟨_, rfl, l, _, _, _, rfl, R.1, _, rfl, ?_⟩
    rw [decide_eq_true (show (0 : Int) ≤ ((ts.map V.ref).length : Int) ∧ ((ts.map V.ref).length : Int) ≤ 4 by rw [List.length_map, tl]; omega)]
    refine iteF ⟨_, rfl, l, rfl, ⟨_, SqL.of R.1⟩, fun D2 hD => lc_it (walk_list (xs := ts.map V.ref)) (fun i H' => H' = upd H D2 (.lst (List.replicate i (V.bl true)))) rfl (fun i H' _ e => by rw [e]; exact SqL.of (same_new hD _ _ R.1)) ?_ ?_⟩
    · rintro i v H1 H2 hi rfl ⟨rfl, hv⟩
      obtain ⟨t, r, rfl, hr1, ht, hti⟩ := row_get R hv
      refine ⟨rfl, yes (iteT ⟨_, rfl, _, rfl, _, rfl, t, n, d, ns, r, rfl, same_new hD _ _ ht, same_new hD _ _ hn, hok r (List.mem_of_getElem? hr1), _, upd_same, ?_, ?_⟩)⟩
      · rw [List.length_replicate]
        rw [List.length_map, tl] at hi
        omega
      · rw [upd_upd, rep_snoc]
    · rintro H1 rfl
      refine ⟨D2, List.replicate (ts.map V.ref).length true, rfl, SqL.of (by rw [upd_same, map_rep]), _, rfl, ?_⟩
      rw [all_rep]
      refine iteF ?_
      have sD : Same H (upd H D2 (.lst (List.replicate (ts.map V.ref).length (V.bl true)))) := same_new hD
      generalize upd H D2 (.lst (List.replicate (ts.map V.ref).length (V.bl true))) = H2 at sD
      have R2 := R.same sD
      refine ⟨_, rfl, n, rfl, ⟨_, SqL.of (sD _ _ hn)⟩, fun D3 hD3 => lc_it (walk_list (xs := ns.map V.str)) (fun i H' => H' = upd H2 D3 (.lst (List.replicate i (V.bl true)))) rfl (fun i H' _ e => by rw [e]; exact SqL.of (same_new hD3 _ _ (sD _ _ hn))) ?_ ?_⟩
      · rintro i v H3 H4 hi rfl ⟨rfl, hv⟩
        obtain ⟨x, hx, rfl⟩ : ∃ x, ns[i]? = some x ∧ v = V.str x := by
          rw [List.getElem?_map] at hv
          cases z : ns[i]? with
          | none => rw [z] at hv; cases hv
          | some x => rw [z] at hv; exact ⟨x, rfl, (Option.some.inj hv).symm⟩
        refine ⟨rfl, yes (iteT ⟨_, rfl, _, rfl, l, ts, x, rs, rfl, R2.same (same_new hD3), (fun r hr => ?_), hone x, _, upd_same, ?_, ?_⟩)⟩
        · obtain ⟨_, o2, o3, _⟩ := hok r hr
          omega
        · rw [List.length_replicate]
          rw [List.length_map] at hi
          omega
        · rw [upd_upd, rep_snoc]
      · rintro H3 rfl
        refine ⟨D3, List.replicate (ns.map V.str).length true, rfl, SqL.of (by rw [upd_same, map_rep]), ?_⟩
        rw [all_rep]
        exact k _ (sD.trans (same_new hD3))
end
end KP
namespace KP
open PySem L2
theorem put1 (a : Str) (x : V) : putF a x [] = [(a, x)] := rfl
theorem put2 {a b : Str} (h : a ≠ b) (x y : V) : putF b y [(a, x)] = [(a, x), (b, y)] := by
  show (if a = b then (a, y) :: [] else (a, x) :: putF b y []) = _
  rw [if_neg h]
  rfl
theorem put3 {a b c : Str} (h : a ≠ c) (h2 : b ≠ c) (x y z : V) : putF c z [(a, x), (b, y)] = [(a, x), (b, y), (c, z)] := by
  show (if a = c then _ else (a, x) :: putF c z [(b, y)]) = _
  rw [if_neg h, put2 h2]
theorem put4 {a b c d : Str} (h : a ≠ d) (h2 : b ≠ d) (h3 : c ≠ d) (x y z u : V) : putF d u [(a, x), (b, y), (c, z)] = [(a, x), (b, y), (c, z), (d, u)] := by
  show (if a = d then _ else (a, x) :: putF d u [(b, y), (c, z)]) = _
  rw [if_neg h, put3 h2 h3]
structure MakT (P : Program) (w : World) (K : PySem.W.Frag) (mg : Str → Option Value) (base : Heap) (k : Nat) (x : Str) (C : Addr) (sp : Sp) : Prop where
  ex : ∃ f fd ps, Mk K C f ∧ FnOk P w K mg base CX0 k f fd ps sp ∧ mg x = some (.ref C) ∧ Binds K fd ps []
structure MetT (P : Program) (w : World) (K : PySem.W.Frag) (mg : Str → Option Value) (base : Heap) (k : Nat) (C : Addr) (m : Str) (sp : Sp) : Prop where
  ex : ∃ f fd ps, Cls K C ∧ Meth K C m f ∧ FnOk P w K mg base CX0 k f fd ps sp ∧ Binds K fd ps []
section
variable {X : Cx} {k j : Nat} {x m : Str} {C : Addr} {sp : Sp} {p pos apos : Pos} {e o : Expr} {es : List Expr} {ta : TE} {t : TA}
theorem pe_mkT (c : MakT X.prog X.w X.K X.mg X.base k x C sp) (hr : Room j X.A) (hk : k + 1 ≤ j) (hg : Gl X x) (ha : PA X (e :: es) t)
    (hdb : (x == ("__debug__" : Str)) = false := by decide) (he : starEach (e :: es) X.env = (false, eval e X.env) :: starEach es X.env := by rfl) (hpl : (backTo pos (starEach es X.env)).any (·.1) = false := by rfl) :
    PE X (.Call (.Name x p) (e :: es) [] pos) (tMake C sp [] E0 t) := by
  obtain ⟨f, fd, ps, M, F, m, b⟩ := c.ex
  exact pe_make M F (hr.mono hk) hg m b .nil pass0 ha hdb he hpl
theorem pe_mtT0 {pl : Sem Bool} (c : MetT X.prog X.w X.K X.mg X.base k C m sp) (hr : Room j X.A) (hk : k ≤ j) (he : PE X o ta)
    (ht : eval (.Call (.Attribute o m apos) [] [] pos) X.env = (do
      let ov ← eval o X.env
      standAt apos.atName
      let (f, first) ← holding [ov] (getMethod ov m pl)
      callWith pos f first (backTo pos (starEach [] X.env)) (backToKw pos (keywordEach [] X.env))) := by rfl) :
    PE X (.Call (.Attribute o m apos) [] [] pos) (tMeth C m sp [] E0 ta tNil) := by
  obtain ⟨f, fd, ps, c, hm, F, b⟩ := c.ex
  exact pe_meth0 he c hm F (hr.mono hk) b .nil pass0 ht
theorem pe_mtT {pl : Sem Bool} (c : MetT X.prog X.w X.K X.mg X.base k C m sp) (hr : Room j X.A) (hk : k ≤ j) (he : PE X o ta) (ha : PA X (e :: es) t)
    (hst : starEach (e :: es) X.env = (false, eval e X.env) :: starEach es X.env := by rfl) (hpl : (backTo pos (starEach es X.env)).any (·.1) = false := by rfl)
    (ht : eval (.Call (.Attribute o m apos) (e :: es) [] pos) X.env = (do
      let ov ← eval o X.env
      standAt apos.atName
      let (f, first) ← holding [ov] (getMethod ov m pl)
      callWith pos f first (backTo pos (starEach (e :: es) X.env)) (backToKw pos (keywordEach [] X.env))) := by rfl) :
    PE X (.Call (.Attribute o m apos) (e :: es) [] pos) (tMeth C m sp [] E0 ta t) := by
  obtain ⟨f, fd, ps, c, hm, F, b⟩ := c.ex
  exact pe_meth he c hm F (hr.mono hk) b .nil pass0 ha hst hpl ht
end

/-! ### a year in the heap -/
def yf (d : Int) (l1 l2 l3 : Addr) : List (Str × V) := [("days", .int d), ("heads", .ref l1), ("limits", .ref l2), ("rules", .ref l3)]
/-- lists at M alone may change -/
def KeepM (M : List Addr) (H H' : Hp) : Prop := ∀ b o, H b = some o → (b ∈ M → ∀ xs, o ≠ .lst xs) → H' b = some o
theorem KeepM.of {M : List Addr} {H H' : Hp} (s : Same H H') : KeepM M H H' := fun b o e _ => s b o e
theorem KeepM.trans {M : List Addr} {H H1 H2 : Hp} (s : KeepM M H H1) (t : KeepM M H1 H2) : KeepM M H H2 := fun b o e n => t b o (s b o e n) n
theorem KeepM.ofB {M : List Addr} {a : Addr} {H H' : Hp} {xs : List V} (s : SameB a H H') (h : H a = some (.lst xs)) (ha : a ∈ M) : KeepM M H H' := fun b o e n => s b o e fun z => by
  subst z
  rw [h] at e
  exact n ha xs (Option.some.inj e).symm
theorem KeepM.tup {M : List Addr} {H H' : Hp} (s : KeepM M H H') {b : Addr} {r : List V} (e : H b = some (.tup r)) : H' b = some (.tup r) := s b _ e fun _ _ z => nomatch z
theorem KeepM.lst {M : List Addr} {H H' : Hp} (s : KeepM M H H') {b : Addr} {r : List V} (e : H b = some (.lst r)) (h : b ∉ M) : H' b = some (.lst r) := s b _ e fun z => absurd z h
theorem RowsAt.keep {M : List Addr} {H H' : Hp} {l : Addr} {ts : List Addr} {rows : List (List V)} (h : RowsAt H l ts rows) (s : KeepM M H H') (hl : l ∉ M) : RowsAt H' l ts rows := ⟨s.lst h.1 hl, paired_mono (fun _ _ e => s.tup e) h.2⟩
structure YearAt (C : Addr) (M : List Addr) (H : Hp) (p : Addr) (y : Yr) : Prop where
  ex : ∃ dx l1 l2 l3 t1 t2 t3, H p = some (.ins C dx (yf y.days l1 l2 l3)) ∧ RowsAt H l1 t1 (y.hs.map hv) ∧ RowsAt H l2 t2 (y.ls.map rv) ∧ RowsAt H l3 t3 (y.rs.map rv) ∧ l1 ∉ M ∧ l2 ∉ M ∧ l3 ∉ M
theorem YearAt.keep {C : Addr} {M : List Addr} {H H' : Hp} {p : Addr} {y : Yr} (h : YearAt C M H p y) (s : KeepM M H H') : YearAt C M H' p y := by
  obtain ⟨dx, l1, l2, l3, t1, t2, t3, hp, r1, r2, r3, n1, n2, n3⟩ := h.ex
  exact ⟨dx, l1, l2, l3, t1, t2, t3, s _ _ hp (fun _ _ z => nomatch z), r1.keep s n1, r2.keep s n2, r3.keep s n3, n1, n2, n3⟩
theorem YearAt.sub {C : Addr} {M M' : List Addr} {H : Hp} {p : Addr} {y : Yr} (h : YearAt C M H p y) (s : ∀ a, a ∈ M' → a ∈ M) : YearAt C M' H p y := by
  obtain ⟨dx, l1, l2, l3, t1, t2, t3, hp, r1, r2, r3, n1, n2, n3⟩ := h.ex
  exact ⟨dx, l1, l2, l3, t1, t2, t3, hp, r1, r2, r3, fun z => n1 (s _ z), fun z => n2 (s _ z), fun z => n3 (s _ z)⟩
theorem YearAt.nil {C : Addr} {M : List Addr} {H : Hp} {p : Addr} {y : Yr} (h : YearAt C M H p y) : YearAt C [] H p y := h.sub fun _ z => nomatch z
theorem YearAt.ext {C : Addr} {M : List Addr} {H : Hp} {p a : Addr} {y : Yr} (h : YearAt C M H p y) (ha : H a = none) : YearAt C (a :: M) H p y := by
  obtain ⟨dx, l1, l2, l3, t1, t2, t3, hp, r1, r2, r3, n1, n2, n3⟩ := h.ex
  have g : ∀ {l : Addr} {o : HO}, H l = some o → l ∉ M → l ∉ a :: M := fun e n z => by
    rcases List.mem_cons.mp z with z | z
    · exact ne_of_none e ha z
    · exact n z
  exact ⟨dx, l1, l2, l3, t1, t2, t3, hp, r1, r2, r3, g r1.1 n1, g r2.1 n2, g r3.1 n3⟩
theorem YearAt.same {C : Addr} {M : List Addr} {H H' : Hp} {p : Addr} {y : Yr} (h : YearAt C M H p y) (s : Same H H') : YearAt C M H' p y := h.keep (KeepM.of s)
/-! ### the class -/
structure YearF (K : PySem.W.Frag) (mg : Str → Option Value) (C : Addr) : Prop where
  cl : Cls K C
  mgC : mg "Year" = some (.ref C)
  nd : NoAttr K C "days"
  nh : NoAttr K C "heads"
  nl : NoAttr K C "limits"
  nr : NoAttr K C "rules"
structure MethT (K : PySem.W.Frag) (C : Addr) (m q : Str) (st : Stmt) (ps : List Str) : Prop where
  ex : ∃ f fd, Meth K C m f ∧ Fun K m q st f fd ∧ Binds K fd ps []
structure InitT (K : PySem.W.Frag) (C : Addr) (q : Str) (st : Stmt) (ps : List Str) : Prop where
  ex : ∃ f fd, Mk K C f ∧ Fun K "__init__" q st f fd ∧ Binds K fd ps []
abbrev sYI : Stmt := inClass (top 49) 0
abbrev sYN : Stmt := inClass (top 49) 1
abbrev sYA : Stmt := inClass (top 49) 2
abbrev sYK : Stmt := inClass (top 49) 3
abbrev sYU : Stmt := inClass (top 49) 4
def spYear (C : Addr) : Sp := fun vs H Q _ => ∃ (p dx lh ll lr : Addr) (th tl tr : List Addr) (y : Yr), vs = [.ref p, .int y.days, .ref lh, .ref ll, .ref lr] ∧ H p = some (.ins C dx []) ∧ RowsAt H lh th (y.hs.map hv) ∧ RowsAt H ll tl (y.ls.map rv) ∧ RowsAt H lr tr (y.rs.map rv) ∧ y.ok ∧
  ∀ (H' : Hp) (l1 l2 l3 : Addr), H' p = some (.ins C dx (yf y.days l1 l2 l3)) → RowsAt H' l1 th (y.hs.map hv) → RowsAt H' l2 tl (y.ls.map rv) → RowsAt H' l3 tr (y.rs.map rv) → H l1 = none → H l2 = none → H l3 = none → (∀ b o, H b = some o → b ≠ p → H' b = some o) → Q .non H'
def spYN (C : Addr) : Sp := fun vs H Q _ => ∃ (p : Addr) (y : Yr), vs = [.ref p] ∧ YearAt C [] H p y ∧ y.hs.length ≤ 8 ∧ ∀ q, H q = none → Q (.ref q) (upd H q (.lst ((nms y.hs).map V.str)))
def spYA (C : Addr) : Sp := fun vs H Q _ => ∃ (p : Addr) (y : Yr) (x : Str), vs = [.ref p, .str x] ∧ YearAt C [] H p y ∧ VH y.hs ∧ x ∈ nms y.hs ∧ Q (.str (up y.hs x)) H
def spYK (C : Addr) : Sp := fun vs H Q _ => ∃ (p : Addr) (y : Yr) (x : Str), vs = [.ref p, .str x] ∧ YearAt C [] H p y ∧ VH y.hs ∧ x ∈ nms y.hs ∧ ∀ q, H q = none → Q (.ref q) (upd H q (.lst ((kn y.hs x).map V.str)))
def spYU (C : Addr) : Sp := fun vs H Q _ => ∃ (p : Addr) (y : Yr) (x : Str), vs = [.ref p, .str x] ∧ YearAt C [] H p y ∧ VH y.hs ∧ x ∈ nms y.hs ∧ ∀ q H', Same H H' → H q = none → H' q = some (.lst ((und y.hs x).map V.str)) → Q (.ref q) H'
theorem yf_no {d : Int} {l1 l2 l3 : Addr} {m : Str} (h1 : m ≠ "days") (h2 : m ≠ "heads") (h3 : m ≠ "limits") (h4 : m ≠ "rules") : (yf d l1 l2 l3).lookup m = none := by
  unfold yf
  simp only [List.lookup, beq_eq_false_iff_ne.mpr h1, beq_eq_false_iff_ne.mpr h2, beq_eq_false_iff_ne.mpr h3, beq_eq_false_iff_ne.mpr h4]
section
variable {P : Program} {w : World} {K : PySem.W.Frag} {mg : Str → Option Value} {base : Heap} {C : Addr}
abbrev nYI : List Str := ["self", "days", "heads", "limits", "rules", "names", "row"]
theorem scYI : FnScope nYI ["self", "days", "heads", "limits", "rules"] (defScope sYI) := ⟨rfl, rfl, rfl, by decide +kernel, rfl, by decide +kernel, by decide +kernel⟩
theorem c_year (B : Base K mg) (T : YearF K mg C) (Wh : Cal P w K mg base 1 "is_whole" spWhole) (Hs : Cal P w K mg base 2 "are_heads" spHeadsP) (Li : Cal P w K mg base 3 "are_limits" spLimitsP) (Ru : Cal P w K mg base 3 "are_rules" spRulesP)
    (D : InitT K C "Year.__init__" sYI ["self", "days", "heads", "limits", "rules"]) : MakT P w K mg base 4 "Year" C (spYear C) := by
  obtain ⟨tD, hD⟩ := B.mostD
  obtain ⟨f, fd, M, F, b⟩ := D.ex
  refine ⟨f, fd, _, M, F.ok scYI (fun vs H Q E h => ?_) (fun cdv A outer s H vs Q E hr h => ?_), T.mgC, b⟩
  · obtain ⟨p, dx, lh, ll, lr, th, tl, tr, y, rfl, _⟩ := h
    rfl
  · obtain ⟨p, dx, lh, ll, lr, th, tl, tr, y, rfl, hp, r1, r2, r3, ok, k⟩ := h
    have hz : sizeLine = 16777216 := by decide
    have thl : th.length = y.hs.length := by rw [r1.len, List.length_map]
    have h8 := ok.h.l8
    refine ⟨_, pss_cons (ps_if (pt_not (pt_val (pe_cl Wh hr (by decide) (by rfl) (pa_cons (pv 1) (pa_cons pe_int (pa_cons (pe_glob (v := .int 30) rfl hD ⟨_, rfl⟩) pa_nil)))))) (pss_one ps_never) pss_nil)
      (pss_cons (ps_if (pt_not (pt_val (pe_cl Hs hr (by decide) (by rfl) (pa_cons (pv 2) pa_nil)))) (pss_one ps_never) pss_nil)
      (pss_cons (ps_setLc (i := 5) (own := [("row", 6)]) (g := gName 6) (tt := tYes) (te := tOp (rIxT K) (tVar 6) (tC (.int 0))) rfl scYI.nd rfl rfl (sw_true rfl rfl rfl (by decide +kernel)) (pi_list (pv 2)) (blkOk_by (N := nYI) (sc := defScope sYI) (by decide +kernel))
        (fun _ _ _ _ _ => pg_name (i := 6) scYI.nd rfl (Or.inl rfl)) (fun _ _ _ _ _ => pts_nil) (fun _ _ _ _ _ => pe_ix ix_tup (pv 6) pe_int (fun _ _ => rfl)))
      (pss_cons (ps_if (pt_not (pt_val (pe_cl Li hr (by decide) (by rfl) (pa_cons (pv 3) (pa_cons (pv 1) (pa_cons (pv 5) pa_nil)))))) (pss_one ps_never) pss_nil)
      (pss_cons (ps_if (pt_not (pt_val (pe_cl Ru hr (by decide) (by rfl) (pa_cons (pv 4) (pa_cons (pv 1) (pa_cons (pv 5) pa_nil)))))) (pss_one ps_never) pss_nil)
      (pss_cons (ps_fld (pv 0) (pv 1) rfl)
      (pss_cons (ps_fld (pv 0) (pe_callTy call_list_of (by rfl) B.list (by decide +kernel) (pa_cons (pv 2) pa_nil)) rfl)
      (pss_cons (ps_fld (pv 0) (pe_callTy call_list_of (by rfl) B.list (by decide +kernel) (pa_cons (pv 3) pa_nil)) rfl)
      (pss_one (ps_fld (pv 0) (pe_callTy call_list_of (by rfl) B.list (by decide +kernel) (pa_cons (pv 4) pa_nil)) rfl))))))))), ?_⟩
    refine ⟨_, rfl, _, _, _, rfl, _, rfl, ?_⟩
    rw [decide_eq_true ok.d]
    refine iteF ⟨_, rfl, lh, th, y.hs, rfl, r1, ok.h, fun H1 s1 => ⟨_, rfl, iteF ?_⟩⟩
    have r1' := r1.same s1
    refine ⟨_, rfl, lh, rfl, ⟨_, SqL.of r1'.1⟩, fun D2 hD2 => lc_it (walk_list (xs := th.map V.ref)) (fun i H' => H' = upd H1 D2 (.lst (((nms y.hs).take i).map V.str))) rfl (fun i H' _ e => by rw [e]; exact SqL.of (same_new hD2 _ _ r1'.1)) ?_ ?_⟩
    · rintro i v H2 H3 hi rfl ⟨rfl, hv⟩
      obtain ⟨t, r, rfl, hr1, ht, hti⟩ := row_get r1' hv
      refine ⟨rfl, yes (iteT ⟨_, rfl, t, _, 0, .str r.1, rfl, rfl, SqT.of (same_new hD2 _ _ ht), rfl, _, upd_same, ?_, ?_⟩)⟩
      · rw [List.length_map, List.length_take]
        rw [List.length_map, thl] at hi
        omega
      · rw [upd_upd, take_more (nms_get hr1), List.map_append]
        rfl
    · rintro H2 rfl
      have el : (nms y.hs).take (th.map V.ref).length = nms y.hs := List.take_of_length_le (by unfold nms; rw [List.length_map, List.length_map, thl]; exact Nat.le_refl _)
      rw [el]
      have s2 : Same H (upd H1 D2 (.lst ((nms y.hs).map V.str))) := s1.trans (same_new hD2)
      have hn2 : upd H1 D2 (.lst ((nms y.hs).map V.str)) D2 = some (.lst ((nms y.hs).map V.str)) := upd_same
      generalize upd H1 D2 (.lst ((nms y.hs).map V.str)) = H2 at s2 hn2
      refine ⟨_, rfl, _, rfl, _, rfl, ll, D2, tl, y.days, nms y.hs, y.ls, rfl, r2.same s2, hn2, ok.l, ok.l6, fun H3 s3 => ⟨_, rfl, iteF ?_⟩⟩
      have s3' := s2.trans s3
      refine ⟨_, rfl, _, rfl, _, rfl, lr, D2, tr, y.days, nms y.hs, y.rs, rfl, r3.same s3', s3 _ _ hn2, ok.r, ok.r4, (by unfold nms; rw [List.length_map]; exact h8), ok.one, fun H4 s4 => ⟨_, rfl, iteF ?_⟩⟩
      have s5 := s3'.trans s4
      have q1 := r1.same s5
      have q2 := r2.same s5
      have q3 := r3.same s5
      have hp4 := s5 _ _ hp
      have e12 : ("days" : Str) ≠ "heads" := by decide +kernel
      have e13 : ("days" : Str) ≠ "limits" := by decide +kernel
      have e14 : ("days" : Str) ≠ "rules" := by decide +kernel
      have e23 : ("heads" : Str) ≠ "limits" := by decide +kernel
      have e24 : ("heads" : Str) ≠ "rules" := by decide +kernel
      have e34 : ("limits" : Str) ≠ "rules" := by decide +kernel
      have np : ∀ {a : Addr} {o : HO} {H : Hp}, H a = some o → (∀ C dx fs, o ≠ .ins C dx fs) → ∀ {dx fs}, H p = some (.ins C dx fs) → a ≠ p := fun e n _ _ h z => by
        subst z
        rw [e] at h
        exact n _ _ _ (Option.some.inj h)
      refine ⟨_, rfl, _, rfl, p, C, dx, _, rfl, hp4, T.cl, T.nd, (by show 0 < 1000; decide), ?_⟩
      rw [put1]
      have keepP : ∀ {H' : Hp} {o : HO}, (∀ b u, H b = some u → b ≠ p → H' b = some u) → ∀ b u, H b = some u → b ≠ p → upd H' p o b = some u := fun kk b u e hb => by rw [upd_ne hb]; exact kk b u e hb
      have k5 : ∀ b u, H b = some u → b ≠ p → upd H4 p (.ins C dx [("days", .int y.days)]) b = some u := keepP fun b u e _ => s5 b u e
      have lhp : lh ≠ p := np q1.1 (fun _ _ _ z => nomatch z) hp4
      have llp : ll ≠ p := np q2.1 (fun _ _ _ z => nomatch z) hp4
      have lrp : lr ≠ p := np q3.1 (fun _ _ _ z => nomatch z) hp4
      have hp5 : upd H4 p (.ins C dx [("days", .int y.days)]) p = some (.ins C dx [("days", .int y.days)]) := upd_same
      generalize upd H4 p (.ins C dx [("days", .int y.days)]) = H5 at k5 hp5
      refine ⟨_, rfl, lh, _, rfl, .inl (SqL.of (k5 _ _ r1.1 lhp)), fun l1 hl1 => ?_⟩
      have p1 : p ≠ l1 := ne_of_none hp5 hl1
      refine ⟨_, rfl, p, C, dx, _, rfl, (by rw [upd_ne p1]; exact hp5), T.cl, T.nh, (by show 1 < 1000; decide), ?_⟩
      rw [put2 e12]
      have n1 : H l1 = none := by
        cases z : H l1 with
        | none => rfl
        | some o => have := k5 _ _ z p1.symm; rw [hl1] at this; cases this
      have k6 : ∀ b u, H b = some u → b ≠ p → upd (upd H5 l1 (.lst (th.map V.ref))) p (.ins C dx [("days", .int y.days), ("heads", .ref l1)]) b = some u := keepP fun b u e hb => by
        rw [upd_ne (ne_of_none e n1)]; exact k5 b u e hb
      have hp6 : upd (upd H5 l1 (.lst (th.map V.ref))) p (.ins C dx [("days", .int y.days), ("heads", .ref l1)]) p = some (.ins C dx [("days", .int y.days), ("heads", .ref l1)]) := upd_same
      have g1 : upd (upd H5 l1 (.lst (th.map V.ref))) p (.ins C dx [("days", .int y.days), ("heads", .ref l1)]) l1 = some (.lst (th.map V.ref)) := by rw [upd_ne p1.symm]; exact upd_same
      generalize upd (upd H5 l1 (.lst (th.map V.ref))) p (.ins C dx [("days", .int y.days), ("heads", .ref l1)]) = H6 at k6 hp6 g1
      refine ⟨_, rfl, ll, _, rfl, .inl (SqL.of (k6 _ _ r2.1 llp)), fun l2 hl2 => ?_⟩
      have p2 : p ≠ l2 := ne_of_none hp6 hl2
      have l12 : l1 ≠ l2 := ne_of_none g1 hl2
      refine ⟨_, rfl, p, C, dx, _, rfl, (by rw [upd_ne p2]; exact hp6), T.cl, T.nl, (by show 2 < 1000; decide), ?_⟩
      rw [put3 e13 e23]
      have n2 : H l2 = none := by
        cases z : H l2 with
        | none => rfl
        | some o => have := k6 _ _ z p2.symm; rw [hl2] at this; cases this
      have k7 : ∀ b u, H b = some u → b ≠ p → upd (upd H6 l2 (.lst (tl.map V.ref))) p (.ins C dx [("days", .int y.days), ("heads", .ref l1), ("limits", .ref l2)]) b = some u := keepP fun b u e hb => by
        rw [upd_ne (ne_of_none e n2)]; exact k6 b u e hb
      have hp7 : upd (upd H6 l2 (.lst (tl.map V.ref))) p (.ins C dx [("days", .int y.days), ("heads", .ref l1), ("limits", .ref l2)]) p = some (.ins C dx [("days", .int y.days), ("heads", .ref l1), ("limits", .ref l2)]) := upd_same
      have g2 : upd (upd H6 l2 (.lst (tl.map V.ref))) p (.ins C dx [("days", .int y.days), ("heads", .ref l1), ("limits", .ref l2)]) l2 = some (.lst (tl.map V.ref)) := by rw [upd_ne p2.symm]; exact upd_same
      have g1' : upd (upd H6 l2 (.lst (tl.map V.ref))) p (.ins C dx [("days", .int y.days), ("heads", .ref l1), ("limits", .ref l2)]) l1 = some (.lst (th.map V.ref)) := by rw [upd_ne p1.symm, upd_ne l12]; exact g1
      generalize upd (upd H6 l2 (.lst (tl.map V.ref))) p (.ins C dx [("days", .int y.days), ("heads", .ref l1), ("limits", .ref l2)]) = H7 at k7 hp7 g2 g1'
      refine ⟨_, rfl, lr, _, rfl, .inl (SqL.of (k7 _ _ r3.1 lrp)), fun l3 hl3 => ?_⟩
      have p3 : p ≠ l3 := ne_of_none hp7 hl3
      refine ⟨_, rfl, p, C, dx, _, rfl, (by rw [upd_ne p3]; exact hp7), T.cl, T.nr, (by show 3 < 1000; decide), ?_⟩
      rw [put4 e14 e24 e34]
      have n3 : H l3 = none := by
        cases z : H l3 with
        | none => rfl
        | some o => have := k7 _ _ z p3.symm; rw [hl3] at this; cases this
      have k8 : ∀ b u, H b = some u → b ≠ p → upd (upd H7 l3 (.lst (tr.map V.ref))) p (.ins C dx [("days", .int y.days), ("heads", .ref l1), ("limits", .ref l2), ("rules", .ref l3)]) b = some u := keepP fun b u e hb => by
        rw [upd_ne (ne_of_none e n3)]; exact k7 b u e hb
      have tk : ∀ b r, H b = some (.tup r) → upd (upd H7 l3 (.lst (tr.map V.ref))) p (.ins C dx [("days", .int y.days), ("heads", .ref l1), ("limits", .ref l2), ("rules", .ref l3)]) b = some (.tup r) := fun b r e => k8 b _ e (np e (fun _ _ _ z => nomatch z) hp)
      refine k _ l1 l2 l3 upd_same ⟨?_, paired_mono tk r1.2⟩ ⟨?_, paired_mono tk r2.2⟩ ⟨?_, paired_mono tk r3.2⟩ n1 n2 n3 k8
      · rw [upd_ne p1.symm, upd_ne (ne_of_none g1' hl3)]; exact g1'
      · rw [upd_ne p2.symm, upd_ne (ne_of_none g2 hl3)]; exact g2
      · rw [upd_ne p3.symm]; exact upd_same
end
end KP
namespace KP
open PySem L2
section
variable {P : Program} {w : World} {K : PySem.W.Frag} {mg : Str → Option Value} {base : Heap} {C : Addr}
theorem scYN : FnScope ["self", "row"] ["self"] (defScope sYN) := ⟨rfl, rfl, rfl, by decide +kernel, rfl, by decide +kernel, by decide +kernel⟩
theorem c_yn (T : YearF K mg C) (D : MethT K C "names" "Year.names" sYN ["self"]) : MetT P w K mg base 1 C "names" (spYN C) := by
  obtain ⟨f, fd, M, F, b⟩ := D.ex
  refine ⟨f, fd, _, T.cl, M, F.ok scYN (fun vs H Q E h => ?_) (fun cdv A outer s H vs Q E hr h => ?_), b⟩
  · obtain ⟨p, y, rfl, _⟩ := h
    rfl
  · obtain ⟨p, y, rfl, hy, h8, k⟩ := h
    obtain ⟨dx, l1, l2, l3, t1, t2, t3, hp, r1, r2, r3, _⟩ := hy.ex
    have hz : sizeLine = 16777216 := by decide
    have thl : t1.length = y.hs.length := by rw [r1.len, List.length_map]
    refine ⟨_, pss_one (ps_ret (pe_lc (own := [("row", 1)]) (g := gName 1) (tt := tYes) (te := tOp (rIxT K) (tVar 1) (tC (.int 0))) rfl scYN.nd (pi_list (pe_fld (pv 0) rfl)) (blkOk_by (N := ["self", "row"]) (sc := defScope sYN) (by decide +kernel))
        (fun _ _ _ _ _ => pg_name (i := 1) scYN.nd rfl (Or.inl rfl)) (fun _ _ _ _ _ => pts_nil) (fun _ _ _ _ _ => pe_ix ix_tup (pv 1) pe_int (fun _ _ => rfl)))), ?_⟩
    refine ⟨_, rfl, p, C, dx, _, _, rfl, hp, T.cl, T.nh, rfl, l1, rfl, ⟨_, SqL.of r1.1⟩, fun D2 hD2 => lc_it (walk_list (xs := t1.map V.ref)) (fun i H' => H' = upd H D2 (.lst (((nms y.hs).take i).map V.str))) rfl (fun i H' _ e => by rw [e]; exact SqL.of (same_new hD2 _ _ r1.1)) ?_ ?_⟩
    · rintro i v H2 H3 hi rfl ⟨rfl, hv⟩
      obtain ⟨t, r, rfl, hr1, ht, hti⟩ := row_get r1 hv
      refine ⟨rfl, yes (iteT ⟨_, rfl, t, _, 0, .str r.1, rfl, rfl, SqT.of (same_new hD2 _ _ ht), rfl, _, upd_same, ?_, ?_⟩)⟩
      · rw [List.length_map, List.length_take]
        rw [List.length_map, thl] at hi
        omega
      · rw [upd_upd, take_more (nms_get hr1), List.map_append]
        rfl
    · rintro H2 rfl
      have el : (nms y.hs).take (t1.map V.ref).length = nms y.hs := List.take_of_length_le (by unfold nms; rw [List.length_map, List.length_map, thl]; exact Nat.le_refl _)
      rw [el]
      exact k D2 hD2
theorem scYA : FnScope ["self", "name", "head", "upper"] ["self", "name"] (defScope sYA) := ⟨rfl, rfl, rfl, by decide +kernel, rfl, by decide +kernel, by decide +kernel⟩
theorem c_ya (T : YearF K mg C) (D : MethT K C "above" "Year.above" sYA ["self", "name"]) : MetT P w K mg base 1 C "above" (spYA C) := by
  obtain ⟨f, fd, M, F, b⟩ := D.ex
  refine ⟨f, fd, _, T.cl, M, F.ok scYA (fun vs H Q E h => ?_) (fun cdv A outer s H vs Q E hr h => ?_), b⟩
  · obtain ⟨p, y, x, rfl, _⟩ := h
    rfl
  · obtain ⟨p, y, x, rfl, hy, Vh, hx, k⟩ := h
    obtain ⟨dx, l1, l2, l3, t1, t2, t3, hp, r1, r2, r3, _⟩ := hy.ex
    have thl : t1.length = y.hs.length := by rw [r1.len, List.length_map]
    refine ⟨_, pss_cons (ps_for PassesOwn.never rfl (pi_list (pe_fld (pv 0) rfl)) (pg_tup rfl (pgs_cons (pg_name (i := 2) scYA.nd rfl (Or.inl rfl)) (pgs_cons (pg_name (i := 3) scYA.nd rfl (Or.inl rfl)) pgs_nil)))
        (pss_one (ps_if (pt_cmpR op_eq (pv 2) (pv 1) (nomark _)) (pss_one (ps_ret (pv 3))) pss_nil))) (pss_one ps_never), ?_⟩
    refine ⟨_, rfl, p, C, dx, _, _, rfl, hp, T.cl, T.nh, rfl, l1, rfl, ⟨_, SqL.of r1.1⟩, for_list (K := K) (a := l1) (xs := t1.map V.ref) (fun i σ H' => ∃ (v2 v3 : Option V), σ = [some (.ref p), some (.str x), v2, v3] ∧ H' = H ∧ ∀ j, j < i → (nms y.hs)[j]? ≠ some x)
      ⟨none, none, rfl, rfl, fun j hj => absurd hj (Nat.not_lt_zero _)⟩ (fun i σ H' _ ⟨_, _, _, e, _⟩ => by rw [e]; exact SqL.of r1.1) ?_ ?_⟩
    · rintro i v σ H1 hi ⟨v2, v3, rfl, rfl, hj⟩
      obtain ⟨t, r, rfl, hr1, ht, hti⟩ := row_get r1 hi
      refine ⟨t, _, rfl, SqT.of ht, rfl, _, _, rfl, _, _, rfl, rfl, ?_⟩
      refine ⟨_, rfl, _, rfl, rfl, _, rfl, ite2 (fun c => ?_) (fun c => ?_)⟩
      · have e : r.1 = x := by have := of_decide_eq_true c; injection this
        have e2 := up_at Vh.nd hr1
        rw [e] at e2
        rw [e2] at k
        exact ⟨_, rfl, k⟩
      · refine ⟨_, _, rfl, rfl, fun j hji => ?_⟩
        by_cases hje : j = i
        · subst hje
          rw [nms_get hr1]
          intro z
          exact c (decide_eq_true (by rw [Option.some.inj z]))
        · exact hj j (by omega)
    · rintro σ H1 ⟨v2, v3, rfl, rfl, hj⟩
      obtain ⟨i, hi⟩ := List.mem_iff_getElem?.mp hx
      have hlt := (List.getElem?_eq_some_iff.mp hi).1
      exact absurd hi (hj i (by unfold nms at hlt; rw [List.length_map] at hlt ⊢; omega))
theorem scYK : FnScope ["self", "name", "upper", "found"] ["self", "name"] (defScope sYK) := ⟨rfl, rfl, rfl, by decide +kernel, rfl, by decide +kernel, by decide +kernel⟩
theorem c_yk (T : YearF K mg C) (Ab : MetT P w K mg base 1 C "above" (spYA C)) (D : MethT K C "knots" "Year.knots" sYK ["self", "name"]) : MetT P w K mg base 2 C "knots" (spYK C) := by
  obtain ⟨f, fd, M, F, b⟩ := D.ex
  refine ⟨f, fd, _, T.cl, M, F.ok scYK (fun vs H Q E h => ?_) (fun cdv A outer s H vs Q E hr h => ?_), b⟩
  · obtain ⟨p, y, x, rfl, _⟩ := h
    rfl
  · obtain ⟨p, y, x, rfl, hy, Vh, hx, k⟩ := h
    obtain ⟨dx, l1, l2, l3, t1, t2, t3, hp, _⟩ := hy.ex
    have hz : sizeLine = 16777216 := by decide
    have nf : (yf y.days l1 l2 l3).lookup ("above" : Str) = none := yf_no (by decide +kernel) (by decide +kernel) (by decide +kernel) (by decide +kernel)
    refine ⟨_, pss_cons (ps_set (i := 2) scYK.nd rfl (Or.inl rfl) (pe_mtT Ab hr (by decide) (pv 0) (pa_cons (pv 1) pa_nil)))
      (pss_cons (ps_set (i := 3) scYK.nd rfl (Or.inl rfl) (pe_lst (pa_cons (pv 1) pa_nil)))
      (pss_cons (ps_while PassesOwn.never (pt_cmpR op_ne (pv 2) pe_str (nomark _))
        (pss_cons (ps_expr (pe_bm PySem.F.plainAttrs_list PySem.F.slot_list_append PySem.F.type_list_append mt_append (pv 3) (pa_cons (pv 2) pa_nil)))
        (pss_one (ps_set (i := 2) scYK.nd rfl (Or.inl rfl) (pe_mtT Ab hr (by decide) (pv 0) (pa_cons (pv 2) pa_nil))))))
      (pss_one (ps_ret (pv 3))))), ?_⟩
    refine ⟨_, rfl, p, dx, _, rfl, hp, nf, _, rfl, p, y, x, rfl, hy, Vh, hx, ?_⟩
    refine ⟨_, rfl, (by show 1 ≤ sizeLine; decide), fun G hG => ?_⟩
    have hy1 : ∀ xs : List V, YearAt C [] (upd H G (.lst xs)) p y := fun xs => hy.same (same_new hG)
    have hp1 : ∀ xs : List V, (upd H G (.lst xs)) p = some (.ins C dx (yf y.days l1 l2 l3)) := fun xs => same_new hG _ _ hp
    refine while_by (fun σ H' => ∃ (u : Str) (xs : List Str), σ = [some (.ref p), some (.str x), some (.str u), some (.ref G)] ∧ H' = upd H G (.lst (xs.map V.str)) ∧ xs ++ kn y.hs u = kn y.hs x ∧ (u = "" ∨ u ∈ nms y.hs))
      (fun σ _ => match σ with | [_, _, some (.str u), _] => rk y.hs u | _ => 0) ?_ ?_ ?_
    · refine ⟨up y.hs x, [x], rfl, rfl, ?_, (up_ok Vh hx).2⟩
      rw [kn_step Vh hx]; rfl
    · rintro σ H1 ⟨u, xs, rfl, rfl, he, hu⟩
      have hl : xs.length ≤ 8 := by
        have h1 := kn_len Vh x
        rw [← he, List.length_append] at h1
        omega
      refine ⟨_, rfl, rfl, _, rfl, ite2 (fun c => ?_) (fun c => ?_)⟩
      · have une : u ≠ "" := fun z => by rw [z] at c; exact absurd c (by decide +kernel)
        have hm : u ∈ nms y.hs := by
          rcases hu with z | z
          · exact absurd z une
          · exact z
        refine ⟨_, rfl, .inl ⟨rfl, _, SqL.of upd_same⟩, _, rfl, G, _, _, rfl, rfl, upd_same, (by rw [List.length_map]; omega), ?_⟩
        rw [upd_upd]
        refine ⟨_, rfl, p, dx, _, rfl, hp1 _, nf, _, rfl, p, y, u, rfl, hy1 _, Vh, hm, ?_⟩
        refine ⟨⟨up y.hs u, xs ++ [u], rfl, by rw [List.map_append]; rfl, ?_, (up_ok Vh hm).2⟩, (up_ok Vh hm).1⟩
        rw [← he, kn_step Vh hm, List.append_assoc]
        rfl
      · have ue : u = "" := by
          by_cases z : u = ""
          · exact z
          · exfalso
            apply c
            rw [decide_eq_false (fun q : V.str u = V.str "" => z (by injection q))]
            rfl
        subst ue
        rw [kn_nil, List.append_nil] at he
        rw [he]
        exact ⟨_, rfl, k G hG⟩
    · intro σ H1 Q1 Q2 hq h
      obtain ⟨v, e, h1, b, e2, h2⟩ := h
      exact ⟨v, e, h1, b, e2, hq _ _ h2⟩
theorem scYU : FnScope ["self", "name", "head"] ["self", "name"] (defScope sYU) := ⟨rfl, rfl, rfl, by decide +kernel, rfl, by decide +kernel, by decide +kernel⟩
theorem c_yu (T : YearF K mg C) (Ab : MetT P w K mg base 1 C "above" (spYA C)) (Nm : MetT P w K mg base 1 C "names" (spYN C)) (Kn : MetT P w K mg base 2 C "knots" (spYK C)) (D : MethT K C "under" "Year.under" sYU ["self", "name"]) : MetT P w K mg base 3 C "under" (spYU C) := by
  obtain ⟨f, fd, M, F, b⟩ := D.ex
  refine ⟨f, fd, _, T.cl, M, F.ok scYU (fun vs H Q E h => ?_) (fun cdv A outer s H vs Q E hr h => ?_), b⟩
  · obtain ⟨p, y, x, rfl, _⟩ := h
    rfl
  · obtain ⟨p, y, x, rfl, hy, Vh, hx, k⟩ := h
    obtain ⟨dx, l1, l2, l3, t1, t2, t3, hp, _⟩ := hy.ex
    have hz : sizeLine = 16777216 := by decide
    have nf1 : (yf y.days l1 l2 l3).lookup ("above" : Str) = none := yf_no (by decide +kernel) (by decide +kernel) (by decide +kernel) (by decide +kernel)
    have nf2 : (yf y.days l1 l2 l3).lookup ("names" : Str) = none := yf_no (by decide +kernel) (by decide +kernel) (by decide +kernel) (by decide +kernel)
    have nf3 : (yf y.days l1 l2 l3).lookup ("knots" : Str) = none := yf_no (by decide +kernel) (by decide +kernel) (by decide +kernel) (by decide +kernel)
    refine ⟨_, pss_cons (ps_expr (pe_mtT Ab hr (by decide) (pv 0) (pa_cons (pv 1) pa_nil)))
      (pss_one (ps_ret (pe_lc (own := [("head", 2)]) (g := gName 2) (tt := tTest (tOp (rIn K false) (tVar 1) (tMeth C "knots" (spYK C) [] E0 (tVar 0) (tCons (tVar 2) tNil)))) rfl scYU.nd (pi_list (pe_mtT0 Nm hr (by decide) (pv 0))) (blkOk_by (N := ["self", "name", "head"]) (sc := defScope sYU) (by decide +kernel))
        (fun _ _ _ _ _ => pg_name (i := 2) scYU.nd rfl (Or.inl rfl)) (fun _ _ _ _ _ => pts_one (pt_cmpR op_in_seq (pv 1) (pe_mtT Kn hr (by decide) (pv 0) (pa_cons (pv 2) pa_nil)) rfl)) (fun _ _ _ _ _ => pv 2)))), ?_⟩
    refine ⟨_, rfl, p, dx, _, rfl, hp, nf1, _, rfl, p, y, x, rfl, hy, Vh, hx, ?_⟩
    refine ⟨_, rfl, p, dx, _, rfl, hp, nf2, p, y, rfl, hy, Vh.l8, fun q hq => ?_⟩
    have sq : Same H (upd H q (.lst ((nms y.hs).map V.str))) := same_new hq
    have hq1 : upd H q (.lst ((nms y.hs).map V.str)) q = some (.lst ((nms y.hs).map V.str)) := upd_same
    generalize upd H q (.lst ((nms y.hs).map V.str)) = H1 at sq hq1
    refine ⟨q, rfl, ⟨_, SqL.of hq1⟩, fun D2 hD2 => lc_it (walk_list (xs := (nms y.hs).map V.str)) (fun i H' => Same H1 H' ∧ H' D2 = some (.lst ((((nms y.hs).take i).filter fun h => decide (x ∈ kn y.hs h)).map V.str))) ⟨same_new hD2, upd_same⟩ (fun i H' _ e => SqL.of (e.1 _ _ hq1)) ?_ ?_⟩
    · rintro i v H2 H3 hi ⟨s2, d2⟩ ⟨rfl, hv⟩
      obtain ⟨z, hz2, rfl⟩ : ∃ z, (nms y.hs)[i]? = some z ∧ v = V.str z := by
        rw [List.getElem?_map] at hv
        cases e : (nms y.hs)[i]? with
        | none => rw [e] at hv; cases hv
        | some z => rw [e] at hv; exact ⟨z, rfl, (Option.some.inj hv).symm⟩
      have hzm : z ∈ nms y.hs := List.mem_of_getElem? hz2
      have hi8 : i < 8 := by
        have h8 := Vh.l8
        rw [List.length_map] at hi
        unfold nms at hi
        rw [List.length_map] at hi
        omega
      have s3 := sq.trans s2
      refine ⟨rfl, _, rfl, _, rfl, p, dx, _, rfl, s3 _ _ hp, nf3, _, rfl, p, y, z, rfl, hy.same s3, Vh, hzm, fun u hu => ?_⟩
      have sm : Same H1 (upd H3 u (.lst ((kn y.hs z).map V.str))) := s2.trans (same_new hu)
      have d3 : upd H3 u (.lst ((kn y.hs z).map V.str)) D2 = some (.lst ((((nms y.hs).take i).filter fun h => decide (x ∈ kn y.hs h)).map V.str)) := same_new hu _ _ d2
      refine ⟨u, _, rfl, .inl (SqL.of upd_same), rfl, flat_strs, _, rfl, ?_⟩
      show if (inV (.str x) ((kn y.hs z).map V.str)) = true then _ else _
      rw [inV_str]
      have et := take_more hz2
      refine ite2 (fun c => ?_) (fun c => ?_)
      · refine ⟨_, rfl, _, d3, ?_, ?_, ?_⟩
        · have h1 : (((nms y.hs).take i).filter fun h => decide (x ∈ kn y.hs h)).length ≤ ((nms y.hs).take i).length := List.length_filter_le _ _
          rw [List.length_map]
          rw [List.length_take] at h1
          omega
        · intro b o e
          rw [upd_ne (ne_of_none e hD2)]
          exact sm _ _ e
        · rw [upd_same, et, List.filter_append, List.map_append, List.filter_cons, if_pos c]
          rfl
      · refine ⟨sm, ?_⟩
        rw [d3, et, List.filter_append, List.filter_cons, if_neg c]
        simp
    · rintro H2 ⟨s2, d2⟩
      rw [List.length_map, List.take_length] at d2
      exact k D2 H2 (sq.trans s2) (sq.free hD2) d2
end
end KP
namespace KP
open PySem L2
theorem cut_take {xs : List V} {k : Int} (h : 0 ≤ k) : cutV xs none (some k) = xs.take k.toNat := by
  obtain ⟨j, rfl⟩ : ∃ j : Nat, k = (j : Int) := ⟨k.toNat, by omega⟩
  unfold cutV
  rw [HT.sIx_none, HT.sIx_nat, List.drop_zero, Nat.sub_zero, Int.toNat_natCast]
  by_cases hj : j ≤ xs.length
  · rw [Nat.min_eq_left hj]
  · rw [Nat.min_eq_right (by omega), List.take_of_length_le (Nat.le_refl _), List.take_of_length_le (by omega)]
theorem free_ofB {a q : Addr} {H H1 : Hp} (w : WellAt H1 a) (s : SameB a H H1) (h : H1 q = none) : H q = none := by
  cases e : H q with
  | none => rfl
  | some o =>
    by_cases hq : q = a
    · subst hq
      obtain ⟨x, y, z, e1⟩ := w
      rw [h] at e1; cases e1
    · have := s q o e hq
      rw [h] at this; cases this
theorem paired_B {a : Addr} {H H' : Hp} {x y z : Int} (hw : H a = some (.lst [.int x, .int y, .int z])) (s : SameB a H H') {ts : List Addr} {rows : List (List V)} (p : Paired (fun t r => H t = some (.tup r)) ts rows) : Paired (fun t r => H' t = some (.tup r)) ts rows :=
  paired_mono (fun b r e => s b _ e (ne_of e hw (fun z => nomatch z))) p
theorem RowsAt.keepB {a : Addr} {H H' : Hp} {l : Addr} {ts : List Addr} {rows : List (List V)} (h : RowsAt H l ts rows) (wl : WellAt H a) (s : SameB a H H') (hl : l ≠ a) : RowsAt H' l ts rows := by
  obtain ⟨x, y, z, hw⟩ := wl
  exact ⟨s _ _ h.1 hl, paired_B hw s h.2⟩
abbrev sLHeads : Stmt := top 76
abbrev sLLimits : Stmt := top 77
abbrev sLRules : Stmt := top 78
abbrev sLParts : Stmt := top 79
def spLHeads : Sp := fun vs H Q _ => ∃ a : Addr, vs = [.ref a] ∧ WellAt H a ∧ ∀ (q : Addr) (ts : List Addr) (hs : List Hd) (H' : Hp), VH hs → RowsAt H' q ts (hs.map hv) → H q = none → WellAt H' a → SameB a H H' → Q (.ref q) H'
def spLLimits : Sp := fun vs H Q _ => ∃ (a lh : Addr) (th : List Addr) (hs : List Hd) (d : Int), vs = [.ref a, .ref lh, .int d] ∧ WellAt H a ∧ RowsAt H lh th (hs.map hv) ∧ lh ≠ a ∧ VH hs ∧ 1 ≤ d ∧ d ≤ 30 ∧
  ∀ (q : Addr) (ts : List Addr) (ls : List Rw4) (H' : Hp), (∀ r ∈ ls, LimOk d (nms hs) r) → ls.length ≤ 6 → RowsAt H' q ts (ls.map rv) → H q = none → WellAt H' a → SameB a H H' → Q (.ref q) H'
section
variable {P : Program} {w : World} {K : PySem.W.Frag} {mg : Str → Option Value} {base : Heap}
abbrev nLHeads : List Str := ["_law_well_here", "_law_names_here", "_law_found", "_law_k"]
theorem scLHeads : FnScope nLHeads ["_law_well_here"] (defScope sLHeads) := ⟨rfl, rfl, rfl, by decide +kernel, rfl, by decide +kernel, by decide +kernel⟩
theorem c_lheads (B : Base K mg) (Dr : Cal P w K mg base 1 "_law_draw" spDraw) (Ns : Cal P w K mg base 3 "_law_names" spNames) (D : DefT K mg "_law_heads" sLHeads ["_law_well_here"]) : Cal P w K mg base 4 "_law_heads" spLHeads := by
  refine cal D scLHeads (fun vs H Q E h => ?_) (fun f cdv A outer s H vs Q E hr h => ?_)
  · obtain ⟨a, rfl, _⟩ := h
    rfl
  · obtain ⟨a, rfl, ha, k⟩ := h
    have hz : sizeLine = 16777216 := by decide
    refine ⟨_, pss_cons (ps_set (i := 1) scLHeads.nd rfl (Or.inl rfl) (pe_cl Ns hr (by decide) (by rfl) (pa_cons (pv 0) (pa_cons (pe_ix ix_list (pe_lst (pa_cons (pe_op op_add pe_int (pe_cl Dr hr (by decide) (by rfl) (pa_cons (pv 0) (pa_cons pe_int pa_nil)))) (pa_cons pe_int pa_nil)))
        (pe_op op_fdiv (pe_cl Dr hr (by decide) (by rfl) (pa_cons (pv 0) (pa_cons pe_int pa_nil))) pe_int) (fun _ _ => rfl)) pa_nil))))
      (pss_cons (ps_set (i := 2) scLHeads.nd rfl (Or.inl rfl) (pe_lst pa_nil))
      (pss_cons (ps_for PassesOwn.never rfl (pi_range1 (by rfl) B.range (pa_cons (pe_callB call_len_seq (by rfl) B.len PySem.boot_len (pa_cons (pv 1) pa_nil)) pa_nil)) (pg_name (i := 3) scLHeads.nd rfl (Or.inl rfl))
        (pss_one (ps_expr (pe_bm PySem.F.plainAttrs_list PySem.F.slot_list_append PySem.F.type_list_append mt_append (pv 2) (pa_cons (pe_tup (pa_cons (pe_ix ix_list (pv 1) (pv 3) (fun _ _ => rfl))
          (pa_cons (pe_ix ix_list (pe_op op_cat (pe_lst (pa_cons pe_str pa_nil)) (pe_slice sl_list (pv 1) po_none (po_some (pv 3)))) (pe_cl Dr hr (by decide) (by rfl) (pa_cons (pv 0) (pa_cons (pe_op op_add (pv 3) pe_int) pa_nil))) (fun _ _ => rfl)) pa_nil))) pa_nil)))))
      (pss_one (ps_ret (pv 2))))), ?_⟩
    refine ⟨_, rfl, _, rfl, a, 8, rfl, ha, by decide, by decide, fun r1 H1 r10 r11 w1 s1 => ⟨_, _, rfl, rfl, (by show 2 ≤ sizeLine; decide), fun l hl => ?_⟩⟩
    refine ⟨_, rfl, a, 4, rfl, w1.new hl, by decide, by decide, fun r2 H2 r20 r21 w2 s2 => ⟨_, _, rfl, rfl, ⟨by decide, by decide⟩, ?_⟩⟩
    have hl2 := s2 l _ upd_same (w1.ne hl).symm
    have s2' : SameB a H H2 := (s1.trans (SameB.of (same_new hl))).trans s2
    obtain ⟨m, hm, hat⟩ : ∃ m : Nat, (1 ≤ m ∧ m ≤ 8) ∧ atI [V.int (1 + r1), V.int 8] (r2 / 3) = some (.int (m : Int)) := by
      rcases (by omega : r2 / 3 = 0 ∨ r2 / 3 = 1) with e | e
      · rw [e]; exact ⟨(1 + r1).toNat, by omega, by rw [show (((1 + r1).toNat : Nat) : Int) = 1 + r1 by omega]; rfl⟩
      · rw [e]; exact ⟨8, by omega, rfl⟩
    refine ⟨l, _, _, _, rfl, rfl, SqL.of hl2, hat, a, m, rfl, w2, hm.2, fun p xs H3 xl xw xn np hp w3 s3 => ?_⟩
    have s3' : SameB a H H3 := s2'.trans s3
    refine ⟨(by show 0 ≤ sizeLine; decide), fun G hG => ?_⟩
    have aG : a ≠ G := w3.ne hG
    have pa : p ≠ a := fun z => by subst z; obtain ⟨_, _, _, e⟩ := w2; rw [np] at e; cases e
    have pG : p ≠ G := ne_of_none hp hG
    refine ⟨_, rfl, p, _, rfl, .inl (SqL.of (same_new hG _ _ hp)), _, rfl, by omega, by rw [List.length_map]; omega, for_range (lo := 0) (n := (((xs.map V.str).length : Nat) : Int).toNat)
      (fun i σ H' => ∃ (v3 : Option V) (ts : List Addr) (hs : List Hd), σ = [some (.ref a), some (.ref p), some (.ref G), v3] ∧ hs.length = i ∧ nms hs = xs.take i ∧ (∀ (j : Nat) (r : Hd), hs[j]? = some r → r.2 = "" ∨ ∃ j', j' < j ∧ xs[j']? = some r.2) ∧ RowsAt H' G ts (hs.map hv) ∧ H' p = some (.lst (xs.map V.str)) ∧ WellAt H' a ∧ SameB a H H')
      ⟨none, [], [], rfl, rfl, rfl, (fun j r h => by simp at h), ⟨upd_same, .nil⟩, same_new hG _ _ hp, w3.new hG, s3'.trans (SameB.of (same_new hG))⟩ ?_ ?_⟩
    · rintro i σ H4 hi ⟨v3, ts, hs, rfl, hlen, hnm, hup, R, hp4, w4, s4⟩
      rw [List.length_map, Int.toNat_natCast] at hi
      have tl : ts.length = i := by rw [R.len, List.length_map, hlen]
      obtain ⟨x, hx⟩ : ∃ x, xs[i]? = some x := ⟨xs[i], List.getElem?_eq_getElem hi⟩
      have hat1 : atI (xs.map V.str) (0 + (i : Int)) = some (.str x) := at_of (j := i) (by omega) (by rw [List.getElem?_map, hx]; rfl)
      refine ⟨_, rfl, .inl ⟨rfl, _, SqL.of R.1⟩, _, rfl, _, rfl, p, _, _, _, rfl, rfl, SqL.of hp4, hat1, (by show 1 ≤ sizeLine; decide), fun l1 hl1 => ?_⟩
      refine ⟨_, rfl, _, rfl, _, rfl, p, _, rfl, SqL.of (same_new hl1 _ _ hp4), fun l2 hl2 => ?_⟩
      have ecut : cutV (xs.map V.str) none (some (0 + (i : Int))) = (xs.take i).map V.str := by
        rw [cut_take (by omega), List.map_take]
        congr 1
        omega
      rw [ecut]
      have l12 : l1 ≠ l2 := ne_of_none upd_same hl2
      refine ⟨l1, l2, _, _, rfl, rfl, (by rw [upd_ne l12]; exact upd_same), upd_same, (by rw [List.length_map, List.length_take]; show 1 + _ ≤ _; omega), fun l3 hl3 => ?_⟩
      have hp5 := same_new (o := .lst ([V.str ""] ++ (xs.take i).map V.str)) hl3 _ _ (same_new (o := .lst ((xs.take i).map V.str)) hl2 _ _ (same_new (o := .lst [V.str ""]) hl1 _ _ hp4))
      have w5 := ((w4.new (o := .lst [V.str ""]) hl1).new (o := .lst ((xs.take i).map V.str)) hl2).new (o := .lst ([V.str ""] ++ (xs.take i).map V.str)) hl3
      have sm5 : Same H4 _ := ((same_new (o := .lst [V.str ""]) hl1).trans (same_new (o := .lst ((xs.take i).map V.str)) hl2)).trans (same_new (o := .lst ([V.str ""] ++ (xs.take i).map V.str)) hl3)
      have hl5 : upd (upd (upd H4 l1 (.lst [V.str ""])) l2 (.lst ((xs.take i).map V.str))) l3 (.lst ([V.str ""] ++ (xs.take i).map V.str)) l3 = some (.lst ([V.str ""] ++ (xs.take i).map V.str)) := upd_same
      generalize upd (upd (upd H4 l1 (.lst [V.str ""])) l2 (.lst ((xs.take i).map V.str))) l3 (.lst ([V.str ""] ++ (xs.take i).map V.str)) = H5 at hp5 w5 sm5 hl5
      refine ⟨_, rfl, _, rfl, _, _, rfl, rfl, a, _, rfl, w5, (by omega), (by omega), fun r3 H6 r30 r31 w6 s6 => ?_⟩
      have l3a : l3 ≠ a := fun z => by subst z; obtain ⟨_, _, _, e⟩ := w5; rw [hl5] at e; injection e with e; injection e with e; simp at e
      have hl6 := s6 _ _ hl5 l3a
      obtain ⟨v, hvat, hvm⟩ : ∃ v, atI ([V.str ""] ++ (xs.take i).map V.str) r3 = some (.str v) ∧ (v = "" ∨ ∃ j', j' < i ∧ xs[j']? = some v) := by
        obtain ⟨j, rfl⟩ : ∃ j : Nat, r3 = (j : Int) := ⟨r3.toNat, by omega⟩
        cases j with
        | zero => exact ⟨"", atI_nat (j := 0) rfl, .inl rfl⟩
        | succ j =>
          have hj : j < i := by omega
          obtain ⟨v, hv⟩ : ∃ v, xs[j]? = some v := ⟨xs[j], List.getElem?_eq_getElem (by omega)⟩
          refine ⟨v, atI_nat (j := j + 1) ?_, .inr ⟨j, hj, hv⟩⟩
          show ((xs.take i).map V.str)[j]? = some (.str v)
          rw [List.getElem?_map, List.getElem?_take, if_pos hj, hv]
          rfl
      refine ⟨l3, _, r3, .str v, rfl, rfl, SqL.of hl6, hvat, (by show 2 ≤ sizeLine; decide), fun t ht => ?_⟩
      have R6 : RowsAt H6 G ts (hs.map hv) := (R.same sm5).keepB w5 s6 aG.symm
      refine ⟨G, _, _, rfl, rfl, same_new ht _ _ R6.1, (by rw [List.length_map]; omega), ?_⟩
      have s7 : SameB a H (upd H6 t (.tup [V.str x, V.str v])) := ((s4.trans (SameB.of sm5)).trans s6).trans (SameB.of (same_new ht))
      have R7 := R6.same (same_new (o := .tup [V.str x, V.str v]) ht)
      have t7 : upd H6 t (.tup [V.str x, V.str v]) t = some (.tup (hv (x, v))) := upd_same
      have w7 := w6.new (o := .tup [V.str x, V.str v]) ht
      have p7 := same_new (o := .tup [V.str x, V.str v]) ht _ _ (s6 _ _ hp5 pa)
      generalize upd H6 t (.tup [V.str x, V.str v]) = H7 at s7 R7 t7 w7 p7
      have tG : t ≠ G := ne_of t7 R7.1 (fun z => nomatch z)
      refine ⟨_, ts ++ [t], hs ++ [(x, v)], rfl, by rw [List.length_append, hlen]; rfl, ?_, ?_, ⟨by rw [upd_same, List.map_append]; rfl, ?_⟩, by rw [upd_ne pG]; exact p7, w7.up aG, ?_⟩
      · unfold nms at hnm ⊢
        rw [List.map_append, hnm, take_more hx]
        rfl
      · intro j r hjr
        by_cases hj : j < hs.length
        · rw [List.getElem?_append_left hj] at hjr
          exact hup j r hjr
        · rw [List.getElem?_append_right (by omega)] at hjr
          have hj0 : j - hs.length = 0 := by
            by_cases h0 : j - hs.length = 0
            · exact h0
            · rw [List.getElem?_eq_none (by simp; omega)] at hjr; cases hjr
          rw [hj0] at hjr
          have e := Option.some.inj hjr
          subst e
          have hji : j = i := by omega
          rcases hvm with e | ⟨j', h1, h2⟩
          · exact .inl e
          · exact .inr ⟨j', by omega, h2⟩
      · rw [List.map_append]
        refine paired_snoc (by rw [upd_ne tG]; exact t7) (paired_mono (fun b r e => ?_) R7.2)
        rw [upd_ne (ne_of e R7.1 (fun z => nomatch z))]
        exact e
      · intro b o e hb
        by_cases hbG : b = G
        · subst hbG
          have q1 := s3' b o e hb
          rw [hG] at q1; cases q1
        · rw [upd_ne hbG]; exact s7 b o e hb
    · rintro σ H4 ⟨v3, ts, hs, rfl, hlen, hnm, hup, R, hp4, w4, s4⟩
      rw [List.length_map, Int.toNat_natCast] at hlen hnm
      rw [List.take_length] at hnm
      refine ⟨_, rfl, k G ts hs H4 ⟨by rw [hnm]; exact xn, by rw [hnm]; exact xw, fun i r h => by rw [hnm]; exact hup i r h, by omega, by omega⟩ R ?_ w4 s4⟩
      exact free_ofB w3 s3' hG
end
end KP
namespace KP
open PySem L2
/-! ### entries as data -/
def okd (v : V) : Prop := (∃ x, v = .str x ∧ PyData.strOk x = true) ∨ ∃ i, v = .int i
def dat : V → PyData
  | .str x => .str x
  | .int i => .int i
  | _ => .none
theorem dp_flat {K : PySem.W.Frag} {H : Hp} : ∀ {vs : List V}, (∀ v ∈ vs, okd v) → DpAll K H vs (vs.map dat)
  | [], _ => .nil
  | v :: vs, h => by
    refine .cons ?_ (dp_flat fun u hu => h u (List.mem_cons_of_mem _ hu))
    rcases h v List.mem_cons_self with ⟨x, rfl, _⟩ | ⟨i, rfl⟩
    · exact .str x
    · exact .int i
theorem lay_flat : ∀ {vs : List V}, (∀ v ∈ vs, okd v) → PyData.canLayAll0 (vs.map dat) = true ∧ PyData.depthAll (vs.map dat) = 0
  | [], _ => ⟨rfl, rfl⟩
  | v :: vs, h => by
    obtain ⟨h1, h2⟩ := lay_flat (vs := vs) fun u hu => h u (List.mem_cons_of_mem _ hu)
    have hv : (dat v).canLay0 = true ∧ (dat v).depth = 0 := by
      rcases h v List.mem_cons_self with ⟨x, rfl, hx⟩ | ⟨i, rfl⟩
      · exact ⟨hx, rfl⟩
      · exact ⟨rfl, rfl⟩
    refine ⟨?_, ?_⟩
    · show ((dat v).canLay0 && PyData.canLayAll0 (vs.map dat)) = true
      rw [hv.1, h1]; rfl
    · show max (dat v).depth (PyData.depthAll (vs.map dat)) = 0
      rw [hv.2, h2]; rfl
theorem shaped_tup {vs : List V} (h : ∀ v ∈ vs, okd v) : SeqAt.shaped (.tuple (vs.map dat)) = true := by
  obtain ⟨h1, h2⟩ := lay_flat h
  have e1 : (PyData.tuple (vs.map dat)).canLay0 = true := h1
  have e2 : (PyData.tuple (vs.map dat)).depth ≤ 64 := by
    show PyData.depthAll (vs.map dat) + 1 ≤ 64
    rw [h2]; decide
  unfold SeqAt.shaped
  rw [e1, decide_eq_true e2]; rfl
theorem eqv_self {d : PyData} (h : SeqAt.shaped d = true) : PyData.eqv d d = true := SeqAt.eqv_refl d (SeqAt.canLay_of_shaped h)

theorem okd_W {x : Str} (h : IsW x) : okd (.str x) := .inl ⟨x, rfl, strOk_W h⟩
theorem okd_I {i : Int} : okd (.int i) := .inr ⟨i, rfl⟩
/-- a list of flat tuples, as data -/
def rowsD (rows : List (List V)) : PyData := .list (rows.map fun r => .tuple (r.map dat))
theorem dp_rowsAll {K : PySem.W.Frag} {H : Hp} : ∀ {ts : List Addr} {rows : List (List V)}, Paired (fun t r => H t = some (.tup r)) ts rows → (∀ r ∈ rows, ∀ v ∈ r, okd v) → DpAll K H (ts.map V.ref) (rows.map fun r => .tuple (r.map dat))
  | _, _, .nil, _ => .nil
  | _, _, .cons a p, h => .cons (.tup (SqT.of a) (dp_flat (h _ List.mem_cons_self))) (dp_rowsAll p fun r hr => h r (List.mem_cons_of_mem _ hr))
theorem lay_rows : ∀ {rows : List (List V)}, (∀ r ∈ rows, ∀ v ∈ r, okd v) → PyData.canLayAll0 (rows.map fun r => .tuple (r.map dat)) = true ∧ PyData.depthAll (rows.map fun r => .tuple (r.map dat)) ≤ 1
  | [], _ => ⟨rfl, Nat.zero_le _⟩
  | r :: rows, h => by
    obtain ⟨h1, h2⟩ := lay_rows (rows := rows) fun u hu => h u (List.mem_cons_of_mem _ hu)
    obtain ⟨g1, g2⟩ := lay_flat (h r List.mem_cons_self)
    refine ⟨?_, ?_⟩
    · show (PyData.canLayAll0 (r.map dat) && PyData.canLayAll0 (rows.map fun r => .tuple (r.map dat))) = true
      rw [g1, h1]; rfl
    · show max (PyData.depthAll (r.map dat) + 1) (PyData.depthAll (rows.map fun r => .tuple (r.map dat))) ≤ 1
      rw [g2]; omega
theorem shaped_rows {rows : List (List V)} (h : ∀ r ∈ rows, ∀ v ∈ r, okd v) : SeqAt.shaped (rowsD rows) = true := by
  obtain ⟨h1, h2⟩ := lay_rows h
  have e1 : (rowsD rows).canLay0 = true := h1
  have e2 : (rowsD rows).depth ≤ 64 := by
    show PyData.depthAll _ + 1 ≤ 64
    omega
  unfold SeqAt.shaped
  rw [e1, decide_eq_true e2]; rfl
theorem rows_ne {rows : List (List V)} (c : (!PyData.eqv (rowsD rows) (.list [])) = true) : 0 < rows.length := by
  cases rows with
  | nil => exact absurd c (by decide +kernel)
  | cons r rows => simp
theorem okd_rv {ns : List Str} {r : Rw4} (hw : ∀ x ∈ ns, IsW x) (h : r.1 ∈ ns) : ∀ v ∈ rv r, okd v := by
  intro v hv
  simp only [rv, List.mem_cons, List.not_mem_nil, or_false] at hv
  rcases hv with rfl | rfl | rfl | rfl
  · exact okd_W (hw _ h)
  · exact okd_I
  · exact okd_I
  · exact okd_I
theorem okd_rvs {ns : List Str} {rs : List Rw4} (hw : ∀ x ∈ ns, IsW x) (h : ∀ r ∈ rs, r.1 ∈ ns) : ∀ r ∈ rs.map rv, ∀ v ∈ r, okd v := by
  intro r hr
  obtain ⟨q, hq, rfl⟩ := List.mem_map.mp hr
  exact okd_rv hw (h q hq)
theorem pick2 {a b r : Int} (h0 : 0 ≤ r) (h1 : r < 4) : ∃ v, atI [V.int a, V.int b] (r / 3) = some (.int v) ∧ (v = a ∨ v = b) := by
  rcases (by omega : r / 3 = 0 ∨ r / 3 = 1) with e | e
  · rw [e]; exact ⟨a, rfl, .inl rfl⟩
  · rw [e]; exact ⟨b, rfl, .inr rfl⟩
section
variable {P : Program} {w : World} {K : PySem.W.Frag} {mg : Str → Option Value} {base : Heap}
abbrev nLLimits : List Str := ["_law_well_here", "_law_heads_here", "_law_days", "_law_found", "_law_k", "_law_first", "_law_last", "_law_most"]
theorem scLLimits : FnScope nLLimits ["_law_well_here", "_law_heads_here", "_law_days"] (defScope sLLimits) := ⟨rfl, rfl, rfl, by decide +kernel, rfl, by decide +kernel, by decide +kernel⟩
theorem c_llimits (B : Base K mg) (Dr : Cal P w K mg base 1 "_law_draw" spDraw) (D : DefT K mg "_law_limits" sLLimits ["_law_well_here", "_law_heads_here", "_law_days"]) : Cal P w K mg base 2 "_law_limits" spLLimits := by
  refine cal D scLLimits (fun vs H Q E h => ?_) (fun f cdv A outer s H vs Q E hr h => ?_)
  · obtain ⟨a, lh, th, hs, d, rfl, _⟩ := h
    rfl
  · obtain ⟨a, lh, th, hs, d, rfl, ha, Rh, lha, Vh, d1, d30, k⟩ := h
    have hz : sizeLine = 16777216 := by decide
    have thl : th.length = hs.length := by rw [Rh.len, List.length_map]
    have h1 := Vh.l1
    have h8 := Vh.l8
    refine ⟨_, pss_cons (ps_set (i := 3) scLLimits.nd rfl (Or.inl rfl) (pe_lst pa_nil))
      (pss_cons (ps_for PassesOwn.never rfl (pi_range1 (by rfl) B.range (pa_cons (pe_ix ix_list (pe_lst (pa_cons (pe_cl Dr hr (by decide) (by rfl) (pa_cons (pv 0) (pa_cons pe_int pa_nil))) (pa_cons pe_int pa_nil))) (pe_op op_fdiv (pe_cl Dr hr (by decide) (by rfl) (pa_cons (pv 0) (pa_cons pe_int pa_nil))) pe_int) (fun _ _ => rfl)) pa_nil)) (pg_name (i := 4) scLLimits.nd rfl (Or.inl rfl))
        (pss_cons (ps_set (i := 5) scLLimits.nd rfl (Or.inl rfl) (pe_op op_add pe_int (pe_cl Dr hr (by decide) (by rfl) (pa_cons (pv 0) (pa_cons (pv 2) pa_nil)))))
        (pss_cons (ps_set (i := 6) scLLimits.nd rfl (Or.inl rfl) (pe_op op_add (pv 5) (pe_cl Dr hr (by decide) (by rfl) (pa_cons (pv 0) (pa_cons (pe_op op_add (pe_op op_sub (pv 2) (pv 5)) pe_int) pa_nil)))))
        (pss_cons (ps_set (i := 7) scLLimits.nd rfl (Or.inl rfl) (pe_ix ix_list (pe_lst (pa_cons pe_int (pa_cons (pe_cl Dr hr (by decide) (by rfl) (pa_cons (pv 0) (pa_cons pe_int pa_nil))) (pa_cons (pe_cl Dr hr (by decide) (by rfl) (pa_cons (pv 0) (pa_cons (pe_op op_add (pe_op op_pow pe_int pe_int) pe_int) pa_nil))) (pa_cons (pe_op op_pow pe_int pe_int) pa_nil)))))
          (pe_cl Dr hr (by decide) (by rfl) (pa_cons (pv 0) (pa_cons pe_int pa_nil))) (fun _ _ => rfl)))
        (pss_one (ps_expr (pe_bm PySem.F.plainAttrs_list PySem.F.slot_list_append PySem.F.type_list_append mt_append (pv 3) (pa_cons (pe_tup (pa_cons (pe_ix ix_tup (pe_ix ix_list (pv 1) (pe_cl Dr hr (by decide) (by rfl) (pa_cons (pv 0) (pa_cons (pe_callB call_len_seq (by rfl) B.len PySem.boot_len (pa_cons (pv 1) pa_nil)) pa_nil))) (fun _ _ => rfl)) pe_int (fun _ _ => rfl))
          (pa_cons (pv 5) (pa_cons (pv 6) (pa_cons (pv 7) pa_nil))))) pa_nil))))))))
      (pss_cons (ps_if (PW.pt (pw_and (pt_cmpR (op_neD hr.units) (pv 3) (pe_lst pa_nil) (nomark _)) (pw_and (pt_cmpR op_lt (pe_callB call_len_seq (by rfl) B.len PySem.boot_len (pa_cons (pv 3) pa_nil)) pe_int (nomark _)) (pw_and1 (pt_cmpR op_eq (pe_cl Dr hr (by decide) (by rfl) (pa_cons (pv 0) (pa_cons pe_int pa_nil))) pe_int (nomark _))))))
        (pss_one (ps_expr (pe_bm PySem.F.plainAttrs_list PySem.F.slot_list_append PySem.F.type_list_append mt_append (pv 3) (pa_cons (pe_ix ix_list (pv 3) pe_int (fun _ _ => rfl)) pa_nil)))) pss_nil)
      (pss_one (ps_ret (pv 3))))), ?_⟩
    refine ⟨(by show 0 ≤ sizeLine; decide), fun G hG => ?_⟩
    have aG : a ≠ G := ha.ne hG
    have lhG : lh ≠ G := ne_of_none Rh.1 hG
    refine ⟨_, rfl, a, 7, rfl, ha.new hG, by decide, by decide, fun r1 H1 r10 r11 w1 s1 => ⟨(by show 2 ≤ sizeLine; decide), fun l hl => ?_⟩⟩
    refine ⟨_, rfl, a, 4, rfl, w1.new hl, by decide, by decide, fun r2 H2 r20 r21 w2 s2 => ⟨_, _, rfl, rfl, ⟨by decide, by decide⟩, ?_⟩⟩
    have hl2 := s2 l _ upd_same (w1.ne hl).symm
    have s2' : SameB a H H2 := (((SameB.of (same_new hG)).trans s1).trans (SameB.of (same_new hl))).trans s2
    have G2 : H2 G = some (.lst []) := s2 _ _ (same_new hl _ _ (s1 _ _ upd_same aG.symm)) aG.symm
    have Rh2 : RowsAt H2 lh th (hs.map hv) := Rh.keepB ha s2' lha
    obtain ⟨n, hn, hnv⟩ := pick2 (a := r1) (b := 6) r20 r21
    have hn6 : 0 ≤ n ∧ n ≤ 6 := by omega
    refine ⟨l, _, _, _, rfl, rfl, SqL.of hl2, hn, n, rfl, by omega, by omega, for_range (lo := 0) (n := n.toNat)
      (fun i σ H' => ∃ (v4 v5 v6 v7 : Option V) (ts : List Addr) (ls : List Rw4), σ = [some (.ref a), some (.ref lh), some (.int d), some (.ref G), v4, v5, v6, v7] ∧ ls.length = i ∧ (∀ r ∈ ls, LimOk d (nms hs) r) ∧ RowsAt H' G ts (ls.map rv) ∧ WellAt H' a ∧ SameB a H H')
      ⟨none, none, none, none, [], [], rfl, rfl, (fun _ z => nomatch z), ⟨G2, .nil⟩, w2, s2'⟩ ?_ ?_⟩
    · rintro i σ H3 hi ⟨v4, v5, v6, v7, ts, ls, rfl, hlen, hok, R, w3, s3⟩
      have tl : ts.length = i := by rw [R.len, List.length_map, hlen]
      refine ⟨_, rfl, _, rfl, a, d, rfl, w3, by omega, by omega, fun f1 H4 f10 f11 w4 s4 => ⟨_, _, rfl, rfl, ?_⟩⟩
      refine ⟨_, rfl, _, rfl, _, rfl, _, rfl, _, _, rfl, rfl, _, _, rfl, rfl, a, _, rfl, w4, by omega, by omega, fun f2 H5 f20 f21 w5 s5 => ⟨_, _, rfl, rfl, ?_⟩⟩
      refine ⟨_, rfl, a, 100, rfl, w5, by decide, by decide, fun m1 H6 m10 m11 w6 s6 => ?_⟩
      refine ⟨_, rfl, _, _, rfl, rfl, ⟨by decide, by decide, by decide⟩, _, _, rfl, rfl, a, _, rfl, w6, by decide, by decide, fun m2 H7 m20 m21 w7 s7 => ?_⟩
      have m21' : m2 < 1000000000000001 := m21
      refine ⟨_, _, rfl, rfl, ⟨by decide, by decide, by decide⟩, (by show 4 ≤ sizeLine; decide), fun lm hlm => ?_⟩
      refine ⟨_, rfl, a, 4, rfl, w7.new hlm, by decide, by decide, fun m3 H8 m30 m31 w8 s8 => ?_⟩
      have hlm8 := s8 _ _ upd_same (w7.ne hlm).symm
      obtain ⟨mo, hmo, hmb⟩ : ∃ mo : Int, atI [V.int 0, V.int m1, V.int m2, V.int 1000000000000000] m3 = some (.int mo) ∧ 0 ≤ mo ∧ mo ≤ 1000000000000000 := by
        rcases (by omega : m3 = 0 ∨ m3 = 1 ∨ m3 = 2 ∨ m3 = 3) with rfl | rfl | rfl | rfl
        · exact ⟨0, rfl, by omega, by omega⟩
        · exact ⟨m1, rfl, by omega, by omega⟩
        · exact ⟨m2, rfl, by omega, by omega⟩
        · exact ⟨1000000000000000, rfl, by omega, by omega⟩
      refine ⟨lm, _, _, _, rfl, rfl, SqL.of hlm8, hmo, ?_⟩
      have sB8 : SameB a H3 H8 := ((((s4.trans s5).trans s6).trans s7).trans (SameB.of (same_new hlm))).trans s8
      have R8 : RowsAt H8 G ts (ls.map rv) := R.keepB w3 sB8 aG.symm
      have Rh8 : RowsAt H8 lh th (hs.map hv) := Rh.keepB ha (s3.trans sB8) lha
      refine ⟨_, rfl, .inl ⟨rfl, _, SqL.of R8.1⟩, _, rfl, _, rfl, _, rfl, lh, _, rfl, .inl (SqL.of Rh8.1), a, _, rfl, w8, (by rw [List.length_map, thl]; omega), (by rw [List.length_map, thl]; omega), fun j H9 j0 j1 w9 s9 => ?_⟩
      obtain ⟨v, hv1, hv2⟩ := get_lt (l := th.map V.ref) j0 j1
      obtain ⟨jn, hjn⟩ := List.mem_iff_getElem?.mp hv2
      obtain ⟨tt, rr, rfl, hrr, htt, _⟩ := row_get Rh8 hjn
      have tta : tt ≠ a := by obtain ⟨_, _, _, e⟩ := w8; exact ne_of htt e (fun z => nomatch z)
      have Rh9 := Rh8.keepB w8 s9 lha
      refine ⟨lh, _, _, _, rfl, rfl, SqL.of Rh9.1, hv1, tt, _, 0, .str rr.1, rfl, rfl, SqT.of (s9 _ _ htt tta), rfl, _, rfl, _, rfl, _, rfl, (by show 4 ≤ sizeLine; decide), fun t ht => ?_⟩
      have R9 : RowsAt H9 G ts (ls.map rv) := R8.keepB w8 s9 aG.symm
      refine ⟨G, _, _, rfl, rfl, same_new ht _ _ R9.1, (by rw [List.length_map]; omega), ?_⟩
      have hnew : LimOk d (nms hs) (rr.1, 1 + f1, 1 + f1 + f2, mo) := ⟨List.mem_of_getElem? (nms_get hrr), ⟨(by show 1 ≤ 1 + f1; omega), (by show 1 + f1 ≤ d; omega)⟩, ⟨(by show 1 + f1 ≤ 1 + f1 + f2; omega), (by show 1 + f1 + f2 ≤ d; omega)⟩, hmb⟩
      have s10 : SameB a H (upd H9 t (.tup (rv (rr.1, 1 + f1, 1 + f1 + f2, mo)))) := ((s3.trans sB8).trans s9).trans (SameB.of (same_new ht))
      have R10 := R9.same (same_new (o := .tup (rv (rr.1, 1 + f1, 1 + f1 + f2, mo))) ht)
      have t10 : upd H9 t (.tup (rv (rr.1, 1 + f1, 1 + f1 + f2, mo))) t = some (.tup (rv (rr.1, 1 + f1, 1 + f1 + f2, mo))) := upd_same
      have w10 := w9.new (o := .tup (rv (rr.1, 1 + f1, 1 + f1 + f2, mo))) ht
      have eH : upd H9 t (.tup [V.str rr.1, V.int (1 + f1), V.int (1 + f1 + f2), V.int mo]) = upd H9 t (.tup (rv (rr.1, 1 + f1, 1 + f1 + f2, mo))) := rfl
      generalize hH10 : upd H9 t (.tup (rv (rr.1, 1 + f1, 1 + f1 + f2, mo))) = H10 at s10 R10 t10 w10
      have tG : t ≠ G := ne_of t10 R10.1 (fun z => nomatch z)
      show ∃ (v4 v5 v6 v7 : Option V) (ts : List Addr) (ls : List Rw4), _ = [some (.ref a), some (.ref lh), some (.int d), some (.ref G), v4, v5, v6, v7] ∧ ls.length = i + 1 ∧ (∀ r ∈ ls, LimOk d (nms hs) r) ∧ RowsAt (upd (upd H9 t (.tup (rv (rr.1, 1 + f1, 1 + f1 + f2, mo)))) G _) G ts (ls.map rv) ∧ WellAt (upd (upd H9 t (.tup (rv (rr.1, 1 + f1, 1 + f1 + f2, mo)))) G _) a ∧ SameB a H (upd (upd H9 t (.tup (rv (rr.1, 1 + f1, 1 + f1 + f2, mo)))) G _)
      rw [hH10]
      refine ⟨_, _, _, _, ts ++ [t], ls ++ [(rr.1, 1 + f1, 1 + f1 + f2, mo)], rfl, by rw [List.length_append, hlen]; rfl, ?_, ⟨by rw [upd_same, List.map_append]; rfl, ?_⟩, w10.up aG, ?_⟩
      · intro r hr
        rcases List.mem_append.mp hr with hr | hr
        · exact hok r hr
        · rw [List.mem_singleton.mp hr]; exact hnew
      · rw [List.map_append]
        refine paired_snoc (by rw [upd_ne tG]; exact t10) (paired_mono (fun b r e => ?_) R10.2)
        rw [upd_ne (ne_of e R10.1 (fun z => nomatch z))]
        exact e
      · intro b o e hb
        rw [upd_ne (ne_of_none e hG)]; exact s10 b o e hb
    · rintro σ H3 ⟨v4, v5, v6, v7, ts, ls, rfl, hlen, hok, R, w3, s3⟩
      have tl : ts.length = ls.length := by rw [R.len, List.length_map]
      have okr := okd_rvs (rs := ls) Vh.w (fun r hr => (hok r hr).1)
      refine ⟨_, rfl, (by show 0 ≤ sizeLine; decide), fun t ht => ?_⟩
      have R4 := R.same (same_new (o := .lst []) ht)
      have w4 := w3.new (o := .lst []) ht
      have s4 : SameB a H (upd H3 t (.lst [])) := s3.trans (SameB.of (same_new ht))
      have t4 : upd H3 t (.lst []) t = some (.lst []) := upd_same
      generalize upd H3 t (.lst []) = H4 at R4 w4 s4 t4
      refine ⟨rowsD (ls.map rv), .list [], .lst (SqL.of R4.1) (dp_rowsAll R4.2 okr), .lst (SqL.of t4) .nil, shaped_rows okr, by decide +kernel, _, rfl, ite2 (fun c => ?_) (fun _ => ?_)⟩
      · have hpos := rows_ne c
        rw [List.length_map] at hpos
        refine ⟨_, rfl, G, _, rfl, .inl (SqL.of R4.1), _, _, rfl, rfl, _, rfl, ite2 (fun c2 => ?_) (fun _ => ?_)⟩
        · have h6 : ls.length < 6 := by
            have := of_decide_eq_true c2
            rw [List.length_map, tl] at this
            omega
          refine ⟨_, rfl, a, 4, rfl, w4, by decide, by decide, fun r3 H5 r30 r31 w5 s5 => ⟨rfl, _, rfl, ite2 (fun _ => ?_) (fun _ => ?_)⟩⟩
          · have R5 := R4.keepB w4 s5 aG.symm
            obtain ⟨r0, hr0⟩ : ∃ r0, ls[0]? = some r0 := ⟨ls[0], List.getElem?_eq_getElem hpos⟩
            obtain ⟨t0, ht0⟩ : ∃ t0, ts[0]? = some t0 := ⟨ts[0], List.getElem?_eq_getElem (by omega)⟩
            obtain ⟨r', hr', ht0'⟩ := paired_get R5.2 ht0
            rw [List.getElem?_map, hr0] at hr'
            have er := Option.some.inj hr'
            subst er
            refine ⟨_, rfl, .inl ⟨rfl, _, SqL.of R5.1⟩, _, rfl, G, _, 0, .ref t0, rfl, rfl, SqL.of R5.1, at_of (j := 0) rfl (by rw [List.getElem?_map, ht0]; rfl), G, _, _, rfl, rfl, R5.1, (by rw [List.length_map]; omega), ?_⟩
            refine ⟨_, rfl, k G (ts ++ [t0]) (ls ++ [r0]) _ ?_ (by rw [List.length_append]; show _ + 1 ≤ 6; omega) ⟨by rw [upd_same, List.map_append]; rfl, ?_⟩ (free_ofB ha SameB.refl hG) (w5.up aG) ?_⟩
            · intro r hr
              rcases List.mem_append.mp hr with hr | hr
              · exact hok r hr
              · rw [List.mem_singleton.mp hr]; exact hok r0 (List.mem_of_getElem? hr0)
            · rw [List.map_append]
              have tG : t0 ≠ G := ne_of ht0' R5.1 (fun z => nomatch z)
              refine paired_snoc (by rw [upd_ne tG]; exact ht0') (paired_mono (fun b r e => ?_) R5.2)
              rw [upd_ne (ne_of e R5.1 (fun z => nomatch z))]
              exact e
            · intro b o e hb
              rw [upd_ne (ne_of_none e hG)]; exact (s4.trans s5) b o e hb
          · exact ⟨_, rfl, k G ts ls _ hok (by omega) (R4.keepB w4 s5 aG.symm) hG w5 (s4.trans s5)⟩
        · exact iteF ⟨_, rfl, k G ts ls _ hok (by omega) R4 hG w4 s4⟩
      · exact iteF ⟨_, rfl, k G ts ls _ hok (by omega) R4 hG w4 s4⟩
end
end KP
namespace KP
open PySem L2
/-- each head's fractions: from 0 to 1, the bottom bounded -/
def FB (rs : List Rw4) : Prop := ∀ x, 0 ≤ (fr rs x).1 ∧ (fr rs x).1 ≤ (fr rs x).2 ∧ 1 ≤ (fr rs x).2 ∧ (fr rs x).2 ≤ 1000 ^ rs.length
theorem FB.nil : FB [] := fun x => by
  show 0 ≤ (0 : Int) ∧ (0 : Int) ≤ 1 ∧ (1 : Int) ≤ 1 ∧ (1 : Int) ≤ 1000 ^ 0
  omega
theorem FB.snoc {rs : List Rw4} (h : FB rs) {r : Rw4} (hw : 1 ≤ r.2.2.1 ∧ r.2.2.1 ≤ 1000) (hp : 0 ≤ r.2.1) (hone : (fr rs r.1).1 * r.2.2.1 + r.2.1 * (fr rs r.1).2 ≤ (fr rs r.1).2 * r.2.2.1) : FB (rs ++ [r]) := fun x => by
  obtain ⟨h0, h1, h2, h3⟩ := h x
  have hpow : (1000 : Int) ^ (rs ++ [r]).length = 1000 ^ rs.length * 1000 := by rw [List.length_append]; exact Int.pow_succ ..
  have hp0 : (0 : Int) ≤ 1000 ^ rs.length := by omega
  rw [fr_snoc, hpow]
  unfold frS
  by_cases e : r.1 = x
  · rw [if_pos e]
    rw [e] at hone
    have a1 : 0 ≤ (fr rs x).1 * r.2.2.1 := Int.mul_nonneg h0 (by omega)
    have a2 : 0 ≤ r.2.1 * (fr rs x).2 := Int.mul_nonneg hp (by omega)
    have a3 : 1 * 1 ≤ (fr rs x).2 * r.2.2.1 := Int.mul_le_mul h2 hw.1 (by decide) (by omega)
    have a4 : (fr rs x).2 * r.2.2.1 ≤ 1000 ^ rs.length * 1000 := Int.mul_le_mul h3 hw.2 (by omega) hp0
    exact ⟨by show 0 ≤ (fr rs x).1 * r.2.2.1 + r.2.1 * (fr rs x).2; omega, hone, by show 1 ≤ (fr rs x).2 * r.2.2.1; omega, a4⟩
  · rw [if_neg e]
    exact ⟨h0, h1, h2, by omega⟩
theorem FB.small {rs : List Rw4} (h : FB rs) (hl : rs.length ≤ 4) (x : Str) : (fr rs x).2 ≤ 1000000000000 := by
  have h3 := (h x).2.2.2
  rcases (by omega : rs.length = 0 ∨ rs.length = 1 ∨ rs.length = 2 ∨ rs.length = 3 ∨ rs.length = 4) with e | e | e | e | e <;> rw [e] at h3 <;> omega
/-- part cut down to what is left -/
theorem cut_part {t b w : Int} (ht : 0 ≤ t) (htb : t ≤ b) (hb : 1 ≤ b) (hw : 1 ≤ w) : 0 ≤ (b - t) * w / b ∧ (b - t) * w / b ≤ w ∧ t * w + (b - t) * w / b * b ≤ b * w := by
  have h1 : 0 ≤ (b - t) * w := Int.mul_nonneg (by omega) (by omega)
  have h2 : (b - t) * w / b * b ≤ (b - t) * w := Int.ediv_mul_le _ (by omega)
  have h3 : (b - t) * w = b * w - t * w := Int.sub_mul _ _ _
  refine ⟨Int.ediv_nonneg h1 (by omega), Int.ediv_le_of_le_mul (by omega) ?_, by omega⟩
  rw [h3, Int.mul_comm w b]
  have : 0 ≤ t * w := Int.mul_nonneg ht (by omega)
  omega
def SumsAt (H : Hp) (S : Addr) (n : Nat) (rs : List Rw4) : Prop := ∃ kvs : List (Key × V), H S = some (.dK kvs) ∧ kvs.length ≤ n ∧ ∀ x : Str, (valV kvs (Sum.inr x) = none ∧ fr rs x = (0, 1)) ∨ ∃ t, valV kvs (Sum.inr x) = some (.ref t) ∧ H t = some (.tup [.int (fr rs x).1, .int (fr rs x).2])
theorem putK_len {kvs : List (Key × V)} {k : Key} {v : V} : (putK kvs k v).length ≤ kvs.length + 1 := by
  unfold putK
  split
  · rw [List.length_map]; omega
  · rw [List.length_append]; exact Nat.le_refl _
theorem SumsAt.keep {H H' : Hp} {S : Addr} {n : Nat} {rs : List Rw4} (h : SumsAt H S n rs) (h1 : ∀ kvs, H S = some (.dK kvs) → H' S = some (.dK kvs)) (h2 : ∀ b r, H b = some (.tup r) → H' b = some (.tup r)) : SumsAt H' S n rs := by
  obtain ⟨kvs, e, hl, hx⟩ := h
  refine ⟨kvs, h1 _ e, hl, fun x => ?_⟩
  rcases hx x with z | ⟨t, a, b⟩
  · exact .inl z
  · exact .inr ⟨t, a, h2 _ _ b⟩
theorem SumsAt.keepB {a : Addr} {H H' : Hp} {S : Addr} {n : Nat} {rs : List Rw4} (h : SumsAt H S n rs) (w : WellAt H a) (s : SameB a H H') : SumsAt H' S n rs := by
  obtain ⟨x, y, z, hw⟩ := w
  exact h.keep (fun kvs e => s _ _ e (ne_of e hw (fun z => nomatch z))) fun b r e => s _ _ e (ne_of e hw (fun z => nomatch z))
theorem SumsAt.same {H H' : Hp} {S : Addr} {n : Nat} {rs : List Rw4} (h : SumsAt H S n rs) (s : Same H H') : SumsAt H' S n rs := h.keep (fun _ e => s _ _ e) fun _ _ e => s _ _ e
theorem SumsAt.upl {H : Hp} {S G : Addr} {n : Nat} {rs : List Rw4} {xs ys : List V} (h : SumsAt H S n rs) (hG : H G = some (.lst xs)) : SumsAt (upd H G (.lst ys)) S n rs :=
  h.keep (fun kvs e => by rw [upd_ne (ne_of e hG (fun z => nomatch z))]; exact e) fun b r e => by rw [upd_ne (ne_of e hG (fun z => nomatch z))]; exact e
def spLRules : Sp := fun vs H Q _ => ∃ (a lh : Addr) (th : List Addr) (hs : List Hd) (d : Int), vs = [.ref a, .ref lh, .int d] ∧ WellAt H a ∧ RowsAt H lh th (hs.map hv) ∧ lh ≠ a ∧ VH hs ∧ 1 ≤ d ∧ d ≤ 30 ∧
  ∀ (q : Addr) (ts : List Addr) (rs : List Rw4) (H' : Hp), (∀ r ∈ rs, RulOk d (nms hs) r) → rs.length ≤ 4 → (∀ x, (fr rs x).1 ≤ (fr rs x).2) → RowsAt H' q ts (rs.map rv) → H q = none → WellAt H' a → SameB a H H' → Q (.ref q) H'
section
variable {P : Program} {w : World} {K : PySem.W.Frag} {mg : Str → Option Value} {base : Heap}
abbrev nLRules : List Str := ["_law_well_here", "_law_heads_here", "_law_days", "_law_found", "_law_sums", "_law_k", "_law_head", "_law_whole", "_law_part", "_law_top", "_law_bottom"]
theorem scLRules : FnScope nLRules ["_law_well_here", "_law_heads_here", "_law_days"] (defScope sLRules) := ⟨rfl, rfl, rfl, by decide +kernel, rfl, by decide +kernel, by decide +kernel⟩
theorem c_lrules (B : Base K mg) (Dr : Cal P w K mg base 1 "_law_draw" spDraw) (D : DefT K mg "_law_rules" sLRules ["_law_well_here", "_law_heads_here", "_law_days"]) : Cal P w K mg base 2 "_law_rules" spLRules := by
  refine cal D scLRules (fun vs H Q E h => ?_) (fun f cdv A outer s H vs Q E hr h => ?_)
  · obtain ⟨a, lh, th, hs, d, rfl, _⟩ := h
    rfl
  · obtain ⟨a, lh, th, hs, d, rfl, ha, Rh, lha, Vh, d1, d30, k⟩ := h
    have hz : sizeLine = 16777216 := by decide
    have thl : th.length = hs.length := by rw [Rh.len, List.length_map]
    have h1 := Vh.l1
    have h8 := Vh.l8
    refine ⟨_, pss_cons (ps_set (i := 3) scLRules.nd rfl (Or.inl rfl) (pe_lst pa_nil)) (pss_cons (ps_set (i := 4) scLRules.nd rfl (Or.inl rfl) pe_dnewK)
      (pss_cons (ps_for PassesOwn.never rfl (pi_range1 (by rfl) B.range (pa_cons (pe_ix ix_list (pe_lst (pa_cons (pe_cl Dr hr (by decide) (by rfl) (pa_cons (pv 0) (pa_cons pe_int pa_nil))) (pa_cons pe_int pa_nil))) (pe_op op_fdiv (pe_cl Dr hr (by decide) (by rfl) (pa_cons (pv 0) (pa_cons pe_int pa_nil))) pe_int) (fun _ _ => rfl)) pa_nil)) (pg_name (i := 5) scLRules.nd rfl (Or.inl rfl))
        (pss_cons (ps_set (i := 6) scLRules.nd rfl (Or.inl rfl) (pe_ix ix_tup (pe_ix ix_list (pv 1) (pe_cl Dr hr (by decide) (by rfl) (pa_cons (pv 0) (pa_cons (pe_callB call_len_seq (by rfl) B.len PySem.boot_len (pa_cons (pv 1) pa_nil)) pa_nil))) (fun _ _ => rfl)) pe_int (fun _ _ => rfl)))
        (pss_cons (ps_set (i := 7) scLRules.nd rfl (Or.inl rfl) (pe_op op_add pe_int (pe_cl Dr hr (by decide) (by rfl) (pa_cons (pv 0) (pa_cons (pe_ix ix_list (pe_lst (pa_cons pe_int (pa_cons pe_int pa_nil))) (pe_cl Dr hr (by decide) (by rfl) (pa_cons (pv 0) (pa_cons pe_int pa_nil))) (fun _ _ => rfl)) pa_nil)))))
        (pss_cons (ps_set (i := 8) scLRules.nd rfl (Or.inl rfl) (pe_ix ix_list (pe_lst (pa_cons (pe_cl Dr hr (by decide) (by rfl) (pa_cons (pv 0) (pa_cons (pe_op op_add (pv 7) pe_int) pa_nil))) (pa_cons (pv 7) pa_nil))) (pe_op op_fdiv (pe_cl Dr hr (by decide) (by rfl) (pa_cons (pv 0) (pa_cons pe_int pa_nil))) pe_int) (fun _ _ => rfl)))
        (pss_cons (ps_asg (pe_dget2 (hu_of hr) (pv 4) (pv 6) (pe_tup (pa_cons pe_int (pa_cons pe_int pa_nil))) ⟨rfl, rfl, rfl, rfl⟩) (pg_tup rfl (pgs_cons (pg_name (i := 9) scLRules.nd rfl (Or.inl rfl)) (pgs_cons (pg_name (i := 10) scLRules.nd rfl (Or.inl rfl)) pgs_nil))))
        (C8.pss_cut (ps_if (pt_cmpR op_gt (pe_op op_add (pe_op op_mul (pv 9) (pv 7)) (pe_op op_mul (pv 8) (pv 10))) (pe_op op_mul (pv 10) (pv 7)) (nomark _))
          (pss_one (ps_set (i := 8) scLRules.nd rfl (Or.inl rfl) (pe_op op_fdivW (pe_op op_mul (pe_op op_sub (pv 10) (pv 9)) (pv 7)) (pv 10)))) pss_nil)
        (pss_cons (ps_dput (hu_of hr) (pv 4) (pv 6) (pe_tup (pa_cons (pe_op op_add (pe_op op_mul (pv 9) (pv 7)) (pe_op op_mul (pv 8) (pv 10))) (pa_cons (pe_op op_mul (pv 10) (pv 7)) pa_nil))) rfl)
        (pss_one (ps_expr (pe_bm PySem.F.plainAttrs_list PySem.F.slot_list_append PySem.F.type_list_append mt_append (pv 3) (pa_cons (pe_tup (pa_cons (pv 6) (pa_cons (pv 8) (pa_cons (pv 7) (pa_cons (pe_op op_add pe_int (pe_cl Dr hr (by decide) (by rfl) (pa_cons (pv 0) (pa_cons (pv 2) pa_nil)))) pa_nil))))) pa_nil)))))))))))
      (pss_one (ps_ret (pv 3))))), ?_⟩
    refine ⟨(by show 0 ≤ sizeLine; decide), fun G hG S hS => ?_⟩
    have aG : a ≠ G := ha.ne hG
    have nS : H S = none := (same_new hG).free hS
    have GS : G ≠ S := ne_of_none upd_same hS
    have w0 := (ha.new (o := .lst []) hG).new (o := .dK []) hS
    refine ⟨_, rfl, a, 5, rfl, w0, by decide, by decide, fun r1 H1 r10 r11 w1 s1 => ⟨(by show 2 ≤ sizeLine; decide), fun l hl => ?_⟩⟩
    refine ⟨_, rfl, a, 4, rfl, w1.new hl, by decide, by decide, fun r2 H2 r20 r21 w2 s2 => ⟨_, _, rfl, rfl, ⟨by decide, by decide⟩, ?_⟩⟩
    have hl2 := s2 l _ upd_same (w1.ne hl).symm
    have sB : SameB a (upd (upd H G (.lst [])) S (.dK [])) H2 := (s1.trans (SameB.of (same_new hl))).trans s2
    have s2' : SameB a H H2 := ((SameB.of (same_new hG)).trans (SameB.of (same_new hS))).trans sB
    have G2 : H2 G = some (.lst []) := sB _ _ (same_new hS _ _ upd_same) aG.symm
    have S2 : SumsAt H2 S 0 [] := by
      have : SumsAt (upd (upd H G (.lst [])) S (.dK [])) S 0 [] := ⟨[], upd_same, Nat.le_refl _, fun x => .inl ⟨rfl, rfl⟩⟩
      exact this.keepB w0 sB
    obtain ⟨n, hn, hnv⟩ := pick2 (a := r1) (b := 4) r20 r21
    have hn4 : 0 ≤ n ∧ n ≤ 4 := by omega
    refine ⟨l, _, _, _, rfl, rfl, SqL.of hl2, hn, n, rfl, by omega, by omega, for_range (lo := 0) (n := n.toNat)
      (fun i σ H' => ∃ (v5 v6 v7 v8 v9 v10 : Option V) (ts : List Addr) (rs : List Rw4), σ = [some (.ref a), some (.ref lh), some (.int d), some (.ref G), some (.ref S), v5, v6, v7, v8, v9, v10] ∧ rs.length = i ∧ (∀ r ∈ rs, RulOk d (nms hs) r) ∧ FB rs ∧ RowsAt H' G ts (rs.map rv) ∧ SumsAt H' S i rs ∧ WellAt H' a ∧ SameB a H H')
      ⟨none, none, none, none, none, none, [], [], rfl, rfl, (fun _ z => nomatch z), FB.nil, ⟨G2, .nil⟩, S2, w2, s2'⟩ ?_ ?_⟩
    · rintro i σ H3 hi ⟨v5, v6, v7, v8, v9, v10, ts, rs, rfl, hlen, hok, fb, R, Sm, w3, s3⟩
      have tl : ts.length = i := by rw [R.len, List.length_map, hlen]
      have hi4 : i < 4 := by omega
      have Rh3 : RowsAt H3 lh th (hs.map hv) := Rh.keepB ha s3 lha
      refine ⟨_, rfl, _, rfl, _, rfl, lh, _, rfl, .inl (SqL.of Rh3.1), a, _, rfl, w3, (by rw [List.length_map, thl]; omega), (by rw [List.length_map, thl]; omega), fun j H4 j0 j1 w4 s4 => ?_⟩
      obtain ⟨v, hv1, hv2⟩ := get_lt (l := th.map V.ref) j0 j1
      obtain ⟨jn, hjn⟩ := List.mem_iff_getElem?.mp hv2
      obtain ⟨tt, rr, rfl, hrr, htt, _⟩ := row_get Rh3 hjn
      have tta : tt ≠ a := by obtain ⟨_, _, _, e⟩ := w3; exact ne_of htt e (fun z => nomatch z)
      have Rh4 := Rh3.keepB w3 s4 lha
      refine ⟨lh, _, _, _, rfl, rfl, SqL.of Rh4.1, hv1, tt, _, 0, .str rr.1, rfl, rfl, SqT.of (s4 _ _ htt tta), rfl, ?_⟩
      -- whole
      refine ⟨_, rfl, (by show 2 ≤ sizeLine; decide), fun l2 hl2 => ⟨_, rfl, a, 2, rfl, w4.new hl2, by decide, by decide, fun q1 H5 q10 q11 w5 s5 => ?_⟩⟩
      have hl5 := s5 l2 _ upd_same (w4.ne hl2).symm
      obtain ⟨mw, hmw, hmb⟩ : ∃ mw : Int, atI [V.int 10, V.int 1000] q1 = some (.int mw) ∧ (mw = 10 ∨ mw = 1000) := by
        rcases (by omega : q1 = 0 ∨ q1 = 1) with rfl | rfl
        · exact ⟨10, rfl, .inl rfl⟩
        · exact ⟨1000, rfl, .inr rfl⟩
      refine ⟨l2, _, _, _, rfl, rfl, SqL.of hl5, hmw, a, mw, rfl, w5, by omega, by omega, fun q2 H6 q20 q21 w6 s6 => ⟨_, _, rfl, rfl, ?_⟩⟩
      -- part
      refine ⟨_, rfl, _, rfl, _, _, rfl, rfl, a, _, rfl, w6, by omega, by omega, fun q3 H7 q30 q31 w7 s7 => ?_⟩
      refine ⟨_, rfl, (by show 2 ≤ sizeLine; decide), fun l3 hl3 => ⟨_, rfl, a, 5, rfl, w7.new hl3, by decide, by decide, fun q4 H8 q40 q41 w8 s8 => ⟨_, _, rfl, rfl, ⟨by decide, by decide⟩, ?_⟩⟩⟩
      have hl8 := s8 l3 _ upd_same (w7.ne hl3).symm
      obtain ⟨pt, hpt, hpb⟩ : ∃ pt : Int, atI [V.int q3, V.int (1 + q2)] (q4 / 4) = some (.int pt) ∧ 0 ≤ pt ∧ pt ≤ 1 + q2 := by
        rcases (by omega : q4 / 4 = 0 ∨ q4 / 4 = 1) with e | e
        · rw [e]; exact ⟨q3, rfl, by omega, by omega⟩
        · rw [e]; exact ⟨1 + q2, rfl, by omega, by omega⟩
      refine ⟨l3, _, _, _, rfl, rfl, SqL.of hl8, hpt, ?_⟩
      have s8' : SameB a H3 H8 := ((((s4.trans (SameB.of (same_new hl2))).trans s5).trans s6).trans s7).trans ((SameB.of (same_new hl3)).trans s8)
      have R8 : RowsAt H8 G ts (rs.map rv) := R.keepB w3 s8' aG.symm
      have Sm8 : SumsAt H8 S i rs := Sm.keepB w3 s8'
      -- top, bottom
      obtain ⟨kvs, hS8, kl, hval⟩ := id Sm8
      refine ⟨_, rfl, S, rfl, .inl ⟨kvs, .inl hS8⟩, _, rfl, (by show 2 ≤ sizeLine; decide), fun t0 ht0 => ?_⟩
      have sm9 : Same H8 (upd H8 t0 (.tup [V.int 0, V.int 1])) := same_new ht0
      have t09 : upd H8 t0 (.tup [V.int 0, V.int 1]) t0 = some (.tup [V.int 0, V.int 1]) := upd_same
      have w9 := w8.new (o := .tup [V.int 0, V.int 1]) ht0
      generalize upd H8 t0 (.tup [V.int 0, V.int 1]) = H9 at sm9 t09 w9
      have s9 : SameB a H H9 := (s3.trans s8').trans (SameB.of sm9)
      have R9 := R8.same sm9
      have Sm9 := Sm8.same sm9
      obtain ⟨t1, et1, ht1⟩ : ∃ t1, (valV kvs (Sum.inr rr.1)).getD (.ref t0) = .ref t1 ∧ H9 t1 = some (.tup [.int (fr rs rr.1).1, .int (fr rs rr.1).2]) := by
        rcases hval rr.1 with ⟨e1, e2⟩ | ⟨t, e1, e2⟩
        · exact ⟨t0, by rw [e1]; rfl, by rw [e2]; exact t09⟩
        · exact ⟨t, by rw [e1]; rfl, sm9 _ _ e2⟩
      refine ⟨_, DGet.k (k := Sum.inr rr.1) (sm9 _ _ hS8), ?_⟩
      rw [et1]
      obtain ⟨f0, f1, f2, _⟩ := fb rr.1
      have f3 := fb.small (by omega) rr.1
      generalize hT : (fr rs rr.1).1 = T at ht1 f0 f1
      generalize hBt : (fr rs rr.1).2 = Bt at ht1 f1 f2 f3
      have hwh : 1 ≤ 1 + q2 ∧ 1 + q2 ≤ 1000 := by omega
      refine ⟨t1, _, rfl, SqT.of ht1, rfl, _, _, rfl, _, _, rfl, rfl, ?_⟩
      refine ⟨fun σ' H' => ∃ (v5 : Option V) (pp : Int), σ' = [some (.ref a), some (.ref lh), some (.int d), some (.ref G), some (.ref S), v5, some (.str rr.1), some (.int (1 + q2)), some (.int pp), some (.int T), some (.int Bt)] ∧ 0 ≤ pp ∧ pp ≤ 1 + q2 ∧ T * (1 + q2) + pp * Bt ≤ Bt * (1 + q2) ∧ H9 = H', ?_, ?_⟩
      · refine ⟨_, rfl, _, rfl, _, _, rfl, rfl, Or.inr ⟨by omega, by omega⟩, _, rfl, _, rfl, _, _, rfl, rfl, Or.inl ⟨by omega, by omega⟩, _, _, rfl, rfl, _, rfl, _, rfl, _, _, rfl, rfl, Or.inr ⟨by omega, by omega⟩, _, _, rfl, rfl, _, rfl, ite2 (fun c => ?_) (fun c => ?_)⟩
        · obtain ⟨c0, c1, c2⟩ := cut_part f0 f1 f2 hwh.1
          refine ⟨_, rfl, _, rfl, _, _, rfl, rfl, _, rfl, _, _, rfl, rfl, Or.inr ⟨by omega, by omega⟩, _, rfl, _, _, rfl, rfl, wide_div (by omega) (b := 50) (by omega) (by decide) (by decide), ?_⟩
          exact ⟨_, _, rfl, c0, c1, c2, rfl⟩
        · have c' : ¬ Bt * (1 + q2) < T * (1 + q2) + pt * Bt := fun z => c (decide_eq_true z)
          exact ⟨_, _, rfl, hpb.1, hpb.2, by omega, rfl⟩
      · rintro σ' H9' ⟨v5', pp, rfl, pp0, ppW, hone, rfl⟩
        generalize hW : 1 + q2 = W at hwh ppW hone ⊢
        refine ⟨_, rfl, _, rfl, _, _, rfl, rfl, Or.inr ⟨by omega, by omega⟩, _, rfl, _, rfl, _, _, rfl, rfl, Or.inl ⟨by omega, by omega⟩, _, _, rfl, rfl, _, rfl, _, rfl, _, _, rfl, rfl, Or.inr ⟨by omega, by omega⟩, (by show 2 ≤ sizeLine; decide), fun t2 ht2 => ?_⟩
        have sm10 : Same H9 (upd H9 t2 (.tup [V.int (T * W + pp * Bt), V.int (Bt * W)])) := same_new ht2
        have t210 : upd H9 t2 (.tup [V.int (T * W + pp * Bt), V.int (Bt * W)]) t2 = some (.tup [V.int (T * W + pp * Bt), V.int (Bt * W)]) := upd_same
        have w10 := w9.new (o := .tup [V.int (T * W + pp * Bt), V.int (Bt * W)]) ht2
        refine ⟨_, rfl, _, rfl, S, _, rfl, DPut.k (k := Sum.inr rr.1) (sm10 _ _ (sm9 _ _ hS8)) (by omega), ?_⟩
        dsimp only
        have Sa : S ≠ a := by obtain ⟨_, _, _, e⟩ := w10; exact ne_of (sm10 _ _ (sm9 _ _ hS8)) e (fun z => nomatch z)
        have R10 := R9.same sm10
        have S10 := sm10 _ _ (sm9 _ _ hS8)
        have s10 : SameB a H _ := s9.trans (SameB.of sm10)
        generalize upd H9 t2 (.tup [V.int (T * W + pp * Bt), V.int (Bt * W)]) = H10 at sm10 t210 w10 R10 S10 s10
        have nSt : ∀ {b : Addr} {r : List V}, H10 b = some (.tup r) → b ≠ S := fun e => ne_of e S10 (fun z => nomatch z)
        have G11 : upd H10 S (.dK (putK kvs (Sum.inr rr.1) (.ref t2))) G = some (.lst (ts.map V.ref)) := by rw [upd_ne GS]; exact R10.1
        have R11 : RowsAt (upd H10 S (.dK (putK kvs (Sum.inr rr.1) (.ref t2)))) G ts (rs.map rv) := ⟨G11, paired_mono (fun b r e => by rw [upd_ne (nSt e)]; exact e) R10.2⟩
        have w11 : WellAt (upd H10 S (.dK (putK kvs (Sum.inr rr.1) (.ref t2)))) a := w10.up Sa.symm
        have s11 : SameB a H (upd H10 S (.dK (putK kvs (Sum.inr rr.1) (.ref t2)))) := fun b o e hb => by rw [upd_ne (ne_of_none e nS)]; exact s10 b o e hb
        have nr : RulOk d (nms hs) (rr.1, pp, W, 2) ∧ True := ⟨⟨List.mem_of_getElem? (nms_get hrr), hwh, ⟨pp0, ppW⟩, (by show 2 ≤ (2 : Int); decide), (by show 2 ≤ d + 1; omega)⟩, trivial⟩
        refine ⟨_, rfl, .inl ⟨rfl, _, SqL.of G11⟩, _, rfl, _, rfl, _, rfl, _, rfl, _, rfl, a, d, rfl, w11, by omega, by omega, fun u H12 u0 u1 w12 s12 => ⟨_, _, rfl, rfl, (by show 4 ≤ sizeLine; decide), fun t3 ht3 => ?_⟩⟩
        have frn : ∀ x, fr (rs ++ [(rr.1, pp, W, 2 + u)]) x = if rr.1 = x then (T * W + pp * Bt, Bt * W) else fr rs x := fun x => by
          rw [fr_snoc]
          unfold frS
          by_cases e : rr.1 = x
          · rw [if_pos e, if_pos e, ← e, hT, hBt]
          · rw [if_neg e, if_neg e]
        have Sm11 : SumsAt (upd H10 S (.dK (putK kvs (Sum.inr rr.1) (.ref t2)))) S (i + 1) (rs ++ [(rr.1, pp, W, 2 + u)]) := by
          refine ⟨_, upd_same, Nat.le_trans putK_len (by omega), fun x => ?_⟩
          rw [valV_put, frn]
          by_cases e : x = rr.1
          · rw [if_pos (by rw [e]), if_pos e.symm]
            exact .inr ⟨t2, rfl, by rw [upd_ne (nSt t210)]; exact t210⟩
          · rw [if_neg (fun z => e (by injection z)), if_neg (fun z => e z.symm)]
            rcases hval x with z | ⟨t, e1, e2⟩
            · exact .inl z
            · have e3 := sm10 _ _ (sm9 _ _ e2)
              exact .inr ⟨t, e1, by rw [upd_ne (nSt e3)]; exact e3⟩
        have R12 := R11.keepB w11 s12 aG.symm
        have Sm12 := Sm11.keepB w11 s12
        refine ⟨G, _, _, rfl, rfl, same_new ht3 _ _ R12.1, (by rw [List.length_map]; omega), ?_⟩
        have R13 := R12.same (same_new (o := .tup (rv (rr.1, pp, W, 2 + u))) ht3)
        have Sm13 := Sm12.same (same_new (o := .tup (rv (rr.1, pp, W, 2 + u))) ht3)
        have t13 : upd H12 t3 (.tup (rv (rr.1, pp, W, 2 + u))) t3 = some (.tup (rv (rr.1, pp, W, 2 + u))) := upd_same
        have w13 := w12.new (o := .tup (rv (rr.1, pp, W, 2 + u))) ht3
        have s13 : SameB a H (upd H12 t3 (.tup (rv (rr.1, pp, W, 2 + u)))) := (s11.trans s12).trans (SameB.of (same_new ht3))
        show ∃ (v5 v6 v7 v8 v9 v10 : Option V) (ts : List Addr) (rs : List Rw4), _ = [some (.ref a), some (.ref lh), some (.int d), some (.ref G), some (.ref S), v5, v6, v7, v8, v9, v10] ∧ rs.length = i + 1 ∧ (∀ r ∈ rs, RulOk d (nms hs) r) ∧ FB rs ∧ RowsAt (upd (upd H12 t3 (.tup (rv (rr.1, pp, W, 2 + u)))) G _) G ts (rs.map rv) ∧ SumsAt (upd (upd H12 t3 (.tup (rv (rr.1, pp, W, 2 + u)))) G _) S (i + 1) rs ∧ WellAt (upd (upd H12 t3 (.tup (rv (rr.1, pp, W, 2 + u)))) G _) a ∧ SameB a H (upd (upd H12 t3 (.tup (rv (rr.1, pp, W, 2 + u)))) G _)
        generalize upd H12 t3 (.tup (rv (rr.1, pp, W, 2 + u))) = H13 at R13 Sm13 t13 w13 s13
        have tG : t3 ≠ G := ne_of t13 R13.1 (fun z => nomatch z)
        refine ⟨_, _, _, _, _, _, ts ++ [t3], rs ++ [(rr.1, pp, W, 2 + u)], rfl, by rw [List.length_append, hlen]; rfl, ?_, ?_, ⟨by rw [upd_same, List.map_append]; rfl, ?_⟩, Sm13.upl R13.1, w13.up aG, ?_⟩
        · intro r hr
          rcases List.mem_append.mp hr with hr | hr
          · exact hok r hr
          · rw [List.mem_singleton.mp hr]
            exact ⟨nr.1.1, hwh, ⟨pp0, ppW⟩, (by show 2 ≤ 2 + u; omega), (by show 2 + u ≤ d + 1; omega)⟩
        · refine fb.snoc hwh pp0 ?_
          show (fr rs rr.1).1 * W + pp * (fr rs rr.1).2 ≤ (fr rs rr.1).2 * W
          rw [hT, hBt]; exact hone
        · rw [List.map_append]
          refine paired_snoc (by rw [upd_ne tG]; exact t13) (paired_mono (fun b r e => ?_) R13.2)
          rw [upd_ne (ne_of e R13.1 (fun z => nomatch z))]
          exact e
        · intro b o e hb
          rw [upd_ne (ne_of_none e hG)]; exact s13 b o e hb
    · rintro σ H3 ⟨v5, v6, v7, v8, v9, v10, ts, rs, rfl, hlen, hok, fb, R, Sm, w3, s3⟩
      exact ⟨_, rfl, k G ts rs H3 hok (by omega) (fun x => (fb x).2.1) R hG w3 s3⟩
end
end KP
namespace KP
open PySem L2
/-! ### data whose lists stand in S -/
mutual
inductive DM (S : Addr → Prop) (H : Hp) : V → PyData → Prop
  | int (i : Int) : DM S H (.int i) (.int i)
  | str (x : Str) : DM S H (.str x) (.str x)
  | lst {a : Addr} {xs : List V} {ds : List PyData} : S a → H a = some (.lst xs) → DMs S H xs ds → DM S H (.ref a) (.list ds)
  | tup {a : Addr} {xs : List V} {ds : List PyData} : H a = some (.tup xs) → DMs S H xs ds → DM S H (.ref a) (.tuple ds)
inductive DMs (S : Addr → Prop) (H : Hp) : List V → List PyData → Prop
  | nil : DMs S H [] []
  | cons {v : V} {vs : List V} {d : PyData} {ds : List PyData} : DM S H v d → DMs S H vs ds → DMs S H (v :: vs) (d :: ds)
end
def KeepS (S : Addr → Prop) (H H' : Hp) : Prop := ∀ b o, H b = some o → ((∃ xs, o = .lst xs) → S b) → H' b = some o
mutual
theorem DM.keep {S : Addr → Prop} {H H' : Hp} (k : KeepS S H H') : ∀ {v : V} {d : PyData}, DM S H v d → DM S H' v d
  | _, _, .int i => .int i
  | _, _, .str x => .str x
  | _, _, .lst s e t => .lst s (k _ _ e fun _ => s) (DMs.keep k t)
  | _, _, .tup e t => .tup (k _ _ e fun ⟨_, z⟩ => nomatch z) (DMs.keep k t)
theorem DMs.keep {S : Addr → Prop} {H H' : Hp} (k : KeepS S H H') : ∀ {v : List V} {d : List PyData}, DMs S H v d → DMs S H' v d
  | _, _, .nil => .nil
  | _, _, .cons a b => .cons (DM.keep k a) (DMs.keep k b)
end
mutual
theorem DM.mono {S S' : Addr → Prop} {H : Hp} (k : ∀ a o, H a = some o → S a → S' a) : ∀ {v : V} {d : PyData}, DM S H v d → DM S' H v d
  | _, _, .int i => .int i
  | _, _, .str x => .str x
  | _, _, .lst s e t => .lst (k _ _ e s) e (DMs.mono k t)
  | _, _, .tup e t => .tup e (DMs.mono k t)
theorem DMs.mono {S S' : Addr → Prop} {H : Hp} (k : ∀ a o, H a = some o → S a → S' a) : ∀ {v : List V} {d : List PyData}, DMs S H v d → DMs S' H v d
  | _, _, .nil => .nil
  | _, _, .cons a b => .cons (DM.mono k a) (DMs.mono k b)
end
mutual
theorem DM.dp {S : Addr → Prop} {K : PySem.W.Frag} {H : Hp} : ∀ {v : V} {d : PyData}, DM S H v d → Dp K H v d
  | _, _, .int i => .int i
  | _, _, .str x => .str x
  | _, _, .lst _ e t => .lst (SqL.of e) (DMs.dp t)
  | _, _, .tup e t => .tup (SqT.of e) (DMs.dp t)
theorem DMs.dp {S : Addr → Prop} {K : PySem.W.Frag} {H : Hp} : ∀ {v : List V} {d : List PyData}, DMs S H v d → DpAll K H v d
  | _, _, .nil => .nil
  | _, _, .cons a b => .cons (DM.dp a) (DMs.dp b)
end
theorem DM.ext {S : Addr → Prop} {H : Hp} {a : Addr} {v : V} {d : PyData} (h : DM S H v d) (ha : H a = none) : DM (fun b => S b ∧ b ≠ a) H v d := h.mono fun b o e s => ⟨s, ne_of_none e ha⟩
theorem DMs.ext {S : Addr → Prop} {H : Hp} {a : Addr} {v : List V} {d : List PyData} (h : DMs S H v d) (ha : H a = none) : DMs (fun b => S b ∧ b ≠ a) H v d := h.mono fun b o e s => ⟨s, ne_of_none e ha⟩
theorem DM.same {S : Addr → Prop} {H H' : Hp} {v : V} {d : PyData} (h : DM S H v d) (s : Same H H') : DM S H' v d := h.keep fun b o e _ => s b o e
theorem DMs.same {S : Addr → Prop} {H H' : Hp} {v : List V} {d : List PyData} (h : DMs S H v d) (s : Same H H') : DMs S H' v d := h.keep fun b o e _ => s b o e
theorem DMs.append {S : Addr → Prop} {H : Hp} : ∀ {v u : List V} {d e : List PyData}, DMs S H v d → DMs S H u e → DMs S H (v ++ u) (d ++ e)
  | _, _, _, _, .nil, q => q
  | _, _, _, _, .cons a b, q => .cons a (DMs.append b q)
theorem DMs.len {S : Addr → Prop} {H : Hp} : ∀ {v : List V} {d : List PyData}, DMs S H v d → v.length = d.length
  | _, _, .nil => rfl
  | _, _, .cons a b => congrArg (· + 1) (DMs.len b)
theorem DMs.strs {S : Addr → Prop} {H : Hp} : ∀ (xs : List Str), DMs S H (xs.map V.str) (xs.map PyData.str)
  | [] => .nil
  | x :: xs => .cons (.str x) (DMs.strs xs)
theorem DMs.flat {S : Addr → Prop} {H : Hp} : ∀ {vs : List V}, (∀ v ∈ vs, okd v) → DMs S H vs (vs.map dat)
  | [], _ => .nil
  | v :: vs, h => by
    refine .cons ?_ (DMs.flat fun u hu => h u (List.mem_cons_of_mem _ hu))
    rcases h v List.mem_cons_self with ⟨x, rfl, _⟩ | ⟨i, rfl⟩
    · exact .str x
    · exact .int i
theorem DMs.rows {S : Addr → Prop} {H : Hp} : ∀ {ts : List Addr} {rows : List (List V)}, Paired (fun t r => H t = some (.tup r)) ts rows → (∀ r ∈ rows, ∀ v ∈ r, okd v) → DMs S H (ts.map V.ref) (rows.map fun r => .tuple (r.map dat))
  | _, _, .nil, _ => .nil
  | _, _, .cons a p, h => .cons (.tup a (DMs.flat (h _ List.mem_cons_self))) (DMs.rows p fun r hr => h r (List.mem_cons_of_mem _ hr))
theorem DM.rows {S : Addr → Prop} {H : Hp} {l : Addr} {ts : List Addr} {rows : List (List V)} (h : RowsAt H l ts rows) (ok : ∀ r ∈ rows, ∀ v ∈ r, okd v) (s : S l) : DM S H (.ref l) (rowsD rows) := .lst s h.1 (DMs.rows h.2 ok)
/-! ### what a year tells, as data -/
def info (hs : List Hd) (x : Str) : PyData := .tuple [.str (up hs x), .list ((kn hs x).map PyData.str), .list ((und hs x).map PyData.str)]
def Yr.parts (y : Yr) : List PyData := [.int y.days, rowsD (y.hs.map hv), rowsD (y.ls.map rv), rowsD (y.rs.map rv)]
def Yr.due (y : Yr) : PyData := .list (y.parts ++ [.list ((nms y.hs).map PyData.str)] ++ (nms y.hs).map (info y.hs))
theorem okd_E : okd (.str "") := .inl ⟨"", rfl, by decide +kernel⟩
theorem okd_hv {hs : List Hd} (V : VH hs) : ∀ r ∈ hs.map hv, ∀ v ∈ r, okd v := by
  intro r hr
  obtain ⟨q, hq, rfl⟩ := List.mem_map.mp hr
  intro v hv
  obtain ⟨i, hi⟩ := List.mem_iff_getElem?.mp hq
  simp only [KP.hv, List.mem_cons, List.not_mem_nil, or_false] at hv
  rcases hv with rfl | rfl
  · exact okd_W (V.w _ (List.mem_of_getElem? (nms_get hi)))
  · rcases V.up i q hi with e | ⟨j, _, hj⟩
    · rw [e]; exact okd_E
    · exact okd_W (V.w _ (List.mem_of_getElem? hj))
theorem Yr.ok.hv {y : Yr} (h : y.ok) : ∀ r ∈ y.hs.map KP.hv, ∀ v ∈ r, okd v := okd_hv h.h
theorem Yr.ok.lv {y : Yr} (h : y.ok) : ∀ r ∈ y.ls.map rv, ∀ v ∈ r, okd v := okd_rvs h.h.w fun r hr => (h.l r hr).1
theorem Yr.ok.rv {y : Yr} (h : y.ok) : ∀ r ∈ y.rs.map KP.rv, ∀ v ∈ r, okd v := okd_rvs h.h.w fun r hr => (h.r r hr).1
/-- layable, and not too deep -/
def lay (n : Nat) (d : PyData) : Prop := d.canLay0 = true ∧ d.depth ≤ n
theorem lay_all {n : Nat} : ∀ {ds : List PyData}, (∀ d ∈ ds, lay n d) → PyData.canLayAll0 ds = true ∧ PyData.depthAll ds ≤ n
  | [], _ => ⟨rfl, Nat.zero_le _⟩
  | d :: ds, h => by
    obtain ⟨h1, h2⟩ := lay_all (ds := ds) fun u hu => h u (List.mem_cons_of_mem _ hu)
    obtain ⟨g1, g2⟩ := h d List.mem_cons_self
    refine ⟨?_, ?_⟩
    · show (d.canLay0 && PyData.canLayAll0 ds) = true
      rw [g1, h1]; rfl
    · show max d.depth (PyData.depthAll ds) ≤ n
      omega
theorem lay_list {n : Nat} {ds : List PyData} (h : ∀ d ∈ ds, lay n d) : lay (n + 1) (.list ds) := by
  obtain ⟨h1, h2⟩ := lay_all h
  exact ⟨h1, by show PyData.depthAll ds + 1 ≤ n + 1; omega⟩
theorem lay_tup {n : Nat} {ds : List PyData} (h : ∀ d ∈ ds, lay n d) : lay (n + 1) (.tuple ds) := by
  obtain ⟨h1, h2⟩ := lay_all h
  exact ⟨h1, by show PyData.depthAll ds + 1 ≤ n + 1; omega⟩
theorem lay_int {n : Nat} {i : Int} : lay n (.int i) := ⟨rfl, Nat.zero_le _⟩
theorem lay_str {n : Nat} {x : Str} (h : PyData.strOk x = true) : lay n (.str x) := ⟨h, Nat.zero_le _⟩
theorem lay.shaped {n : Nat} {d : PyData} (h : lay n d) (hn : n ≤ 64) : SeqAt.shaped d = true := by
  unfold SeqAt.shaped
  rw [h.1, decide_eq_true (Nat.le_trans h.2 hn)]; rfl
theorem lay.up {n m : Nat} {d : PyData} (h : lay n d) (hn : n ≤ m) : lay m d := ⟨h.1, Nat.le_trans h.2 hn⟩
theorem lay_strs {n : Nat} {xs : List Str} (h : ∀ x ∈ xs, PyData.strOk x = true) : lay (n + 1) (.list (xs.map PyData.str)) := lay_list fun d hd => by
  obtain ⟨x, hx, rfl⟩ := List.mem_map.mp hd
  exact lay_str (h x hx)
theorem lay_rowsD {rows : List (List V)} (h : ∀ r ∈ rows, ∀ v ∈ r, okd v) : lay 2 (rowsD rows) := by
  obtain ⟨h1, h2⟩ := lay_rows h
  exact ⟨h1, by show PyData.depthAll _ + 1 ≤ 2; omega⟩
theorem strOk_up {hs : List Hd} (V : VH hs) {x : Str} (h : x ∈ nms hs) : PyData.strOk (up hs x) = true := by
  rcases (up_ok V h).2 with e | e
  · rw [e]; decide +kernel
  · exact strOk_W (V.w _ e)
theorem lay_info {hs : List Hd} (V : VH hs) {x : Str} (h : x ∈ nms hs) : lay 2 (info hs x) := lay_tup fun d hd => by
  simp only [List.mem_cons, List.not_mem_nil, or_false] at hd
  rcases hd with rfl | rfl | rfl
  · exact lay_str (strOk_up V h)
  · exact lay_strs fun z hz => strOk_W (V.w _ (kn_mem V h hz))
  · exact lay_strs fun z hz => strOk_W (V.w _ (List.mem_filter.mp hz).1)
theorem lay_parts {y : Yr} (h : y.ok) : ∀ d ∈ y.parts, lay 2 d := by
  intro d hd
  simp only [Yr.parts, List.mem_cons, List.not_mem_nil, or_false] at hd
  rcases hd with rfl | rfl | rfl | rfl
  · exact lay_int
  · exact lay_rowsD h.hv
  · exact lay_rowsD h.lv
  · exact lay_rowsD h.rv
theorem lay_due {y : Yr} (h : y.ok) : lay 3 y.due := lay_list fun d hd => by
  rcases List.mem_append.mp hd with hd | hd
  · rcases List.mem_append.mp hd with hd | hd
    · exact lay_parts h d hd
    · rw [List.mem_singleton.mp hd]; exact lay_strs fun z hz => strOk_W (h.h.w _ hz)
  · obtain ⟨x, hx, rfl⟩ := List.mem_map.mp hd
    exact lay_info h.h hx
/-! ### dicts of texts -/
theorem merge_out {acc r : List (Key × V)} {k : Key} (h : ∀ kv ∈ r, kv.1 ≠ k) : valV (mergeK acc r) k = valV acc k := by
  unfold mergeK
  induction r generalizing acc with
  | nil => rfl
  | cons a r ih =>
    rw [List.foldl_cons, ih fun kv hk => h kv (List.mem_cons_of_mem _ hk), valV_put, if_neg fun e => h a List.mem_cons_self e.symm]
theorem merge_in {hs : List Hd} : ∀ {acc : List (Key × V)} {i : Nat} {r : Hd}, (nms hs).Nodup → hs[i]? = some r → valV (mergeK acc (hs.map fun r => ((Sum.inr r.1 : Key), V.str r.2))) (Sum.inr r.1) = some (.str r.2) := by
  induction hs with
  | nil => intro acc i r _ h; simp at h
  | cons a hs ih =>
    intro acc i r hn h
    have hn' := List.nodup_cons.mp (show (a.1 :: nms hs).Nodup from hn)
    show valV (mergeK (putK acc (Sum.inr a.1) (.str a.2)) (hs.map fun r => ((Sum.inr r.1 : Key), V.str r.2))) (Sum.inr r.1) = _
    cases i with
    | zero =>
      have e : a = r := Option.some.inj h
      subst e
      rw [merge_out, valV_put, if_pos rfl]
      intro kv hk
      obtain ⟨q, hq, rfl⟩ := List.mem_map.mp hk
      intro z
      have : q.1 = a.1 := by injection z
      exact hn'.1 (by rw [← this]; exact List.mem_map.mpr ⟨q, hq, rfl⟩)
    | succ i => exact ih hn'.2 h
theorem paired_map {α β γ δ : Type} {F : α → β → Prop} {G : α → γ → Prop} {f : δ → β} {g : δ → γ} (k : ∀ a d, F a (f d) → G a (g d)) : ∀ {ts : List α} {ds : List δ}, Paired F ts (ds.map f) → Paired G ts (ds.map g)
  | _, [], .nil => .nil
  | _, d :: ds, .cons a p => .cons (k _ _ a) (paired_map k p)
end KP
namespace KP
open PySem L2
abbrev sLaw : Stmt := top 84
def spLParts : Sp := fun vs H Q _ => ∃ a : Addr, vs = [.ref a] ∧ WellAt H a ∧ ∀ (q lh ll lr : Addr) (th tl tr : List Addr) (y : Yr) (H' : Hp), y.ok → H' q = some (.lst [.int y.days, .ref lh, .ref ll, .ref lr]) → RowsAt H' lh th (y.hs.map hv) → RowsAt H' ll tl (y.ls.map rv) → RowsAt H' lr tr (y.rs.map rv) →
  H q = none → H lh = none → H ll = none → H lr = none → WellAt H' a → SameB a H H' → Q (.ref q) H'
section
variable {P : Program} {w : World} {K : PySem.W.Frag} {mg : Str → Option Value} {base : Heap}
theorem scLParts : FnScope ["_law_well_here", "_law_days", "_law_heads_here"] ["_law_well_here"] (defScope sLParts) := ⟨rfl, rfl, rfl, by decide +kernel, rfl, by decide +kernel, by decide +kernel⟩
theorem c_lparts (Dr : Cal P w K mg base 1 "_law_draw" spDraw) (Hs : Cal P w K mg base 4 "_law_heads" spLHeads) (Li : Cal P w K mg base 2 "_law_limits" spLLimits) (Ru : Cal P w K mg base 2 "_law_rules" spLRules) (D : DefT K mg "_law_parts" sLParts ["_law_well_here"]) : Cal P w K mg base 5 "_law_parts" spLParts := by
  refine cal D scLParts (fun vs H Q E h => ?_) (fun f cdv A outer s H vs Q E hr h => ?_)
  · obtain ⟨a, rfl, _⟩ := h
    rfl
  · obtain ⟨a, rfl, ha, k⟩ := h
    refine ⟨_, pss_cons (ps_set (i := 1) scLParts.nd rfl (Or.inl rfl) (pe_ix ix_list (pe_lst (pa_cons (pe_op op_add pe_int (pe_cl Dr hr (by decide) (by rfl) (pa_cons (pv 0) (pa_cons pe_int pa_nil)))) (pa_cons pe_int (pa_cons pe_int pa_nil))))
        (pe_ix ix_list (pe_lst (pa_cons pe_int (pa_cons pe_int (pa_cons pe_int (pa_cons pe_int (pa_cons pe_int pa_nil)))))) (pe_cl Dr hr (by decide) (by rfl) (pa_cons (pv 0) (pa_cons pe_int pa_nil))) (fun _ _ => rfl)) (fun _ _ => rfl)))
      (pss_cons (ps_set (i := 2) scLParts.nd rfl (Or.inl rfl) (pe_cl Hs hr (by decide) (by rfl) (pa_cons (pv 0) pa_nil)))
      (pss_one (ps_ret (pe_lst (pa_cons (pv 1) (pa_cons (pv 2) (pa_cons (pe_cl Li hr (by decide) (by rfl) (pa_cons (pv 0) (pa_cons (pv 2) (pa_cons (pv 1) pa_nil)))) (pa_cons (pe_cl Ru hr (by decide) (by rfl) (pa_cons (pv 0) (pa_cons (pv 2) (pa_cons (pv 1) pa_nil)))) pa_nil)))))))), ?_⟩
    refine ⟨_, rfl, a, 30, rfl, ha, by decide, by decide, fun r1 H1 r10 r11 w1 s1 => ⟨_, _, rfl, rfl, (by show 3 ≤ sizeLine; decide), fun l hl => ⟨(by show 5 ≤ sizeLine; decide), fun l2 hl2 => ?_⟩⟩⟩
    refine ⟨_, rfl, a, 5, rfl, (w1.new hl).new hl2, by decide, by decide, fun r2 H2 r20 r21 w2 s2 => ?_⟩
    have hl22 := s2 l2 _ upd_same ((w1.new hl).ne hl2).symm
    have hll := s2 l _ (same_new hl2 _ _ upd_same) (w1.ne hl).symm
    have s2' : SameB a H H2 := ((s1.trans (SameB.of (same_new hl))).trans (SameB.of (same_new hl2))).trans s2
    obtain ⟨j, hj, hjb⟩ : ∃ j : Int, atI [V.int 0, V.int 0, V.int 0, V.int 1, V.int 2] r2 = some (.int j) ∧ (j = 0 ∨ j = 1 ∨ j = 2) := by
      rcases (by omega : r2 = 0 ∨ r2 = 1 ∨ r2 = 2 ∨ r2 = 3 ∨ r2 = 4) with rfl | rfl | rfl | rfl | rfl
      · exact ⟨0, rfl, .inl rfl⟩
      · exact ⟨0, rfl, .inl rfl⟩
      · exact ⟨0, rfl, .inl rfl⟩
      · exact ⟨1, rfl, .inr (.inl rfl)⟩
      · exact ⟨2, rfl, .inr (.inr rfl)⟩
    obtain ⟨d, hd, hdb⟩ : ∃ d : Int, atI [V.int (1 + r1), V.int 30, V.int 1] j = some (.int d) ∧ 1 ≤ d ∧ d ≤ 30 := by
      rcases hjb with rfl | rfl | rfl
      · exact ⟨1 + r1, rfl, by omega, by omega⟩
      · exact ⟨30, rfl, by omega, by omega⟩
      · exact ⟨1, rfl, by omega, by omega⟩
    refine ⟨l2, _, _, _, rfl, rfl, SqL.of hl22, hj, l, _, _, _, rfl, rfl, SqL.of hll, hd, ?_⟩
    refine ⟨_, rfl, a, rfl, w2, fun lh th hs H3 Vh R3 nlh w3 s3 => ?_⟩
    have lha : lh ≠ a := fun z => by subst z; obtain ⟨_, _, _, e⟩ := w2; rw [nlh] at e; cases e
    refine ⟨_, rfl, _, rfl, _, rfl, _, rfl, _, rfl, a, lh, th, hs, d, rfl, w3, R3, lha, Vh, hdb.1, hdb.2, fun ll tl ls H4 lok l6 R4 nll w4 s4 => ?_⟩
    have lla : ll ≠ a := fun z => by subst z; obtain ⟨_, _, _, e⟩ := w3; rw [nll] at e; cases e
    refine ⟨_, rfl, _, rfl, _, rfl, a, lh, th, hs, d, rfl, w4, R3.keepB w3 s4 lha, lha, Vh, hdb.1, hdb.2, fun lr tr rs H5 rok r4 one R5 nlr w5 s5 => ⟨(by show 4 ≤ sizeLine; decide), fun q hq => ?_⟩⟩
    have sq : Same H5 _ := same_new (o := .lst [V.int d, V.ref lh, V.ref ll, V.ref lr]) hq
    have s3' := s2'.trans s3
    have s4' := s3'.trans s4
    refine k q lh ll lr th tl tr ⟨d, hs, ls, rs⟩ _ ⟨hdb, Vh, lok, l6, rok, r4, one⟩ upd_same (((R3.keepB w3 s4 lha).keepB w4 s5 lha).same sq) ((R4.keepB w4 s5 lla).same sq) (R5.same sq) ?_ ?_ ?_ ?_ (w5.new hq) ((s4'.trans s5).trans (SameB.of sq))
    · exact free_ofB w5 (s4'.trans s5) hq
    · exact free_ofB w2 s2' nlh
    · exact free_ofB w3 s3' nll
    · exact free_ofB w4 s4' nlr
end
end KP
namespace KD
open PySem PySem.Spec PyProof.Rows L2 PySem.SeqAt
theorem str_eq_declines_dict (b : Str) (u : Tok) (l : Addr) (es : Array DictEntry) (n : Nat) (dd : Option Addr) (sl : Array (Option Value)) :
    Meets (Builtin.«str.__eq__» ⟨[.str b u, .ref l], []⟩) (fun _ R s => s.heap.get? l = some { cls := .type "dict", dict := dd, data := .dict es n, slots := sl } ∧ R (.ok (.ret .notImplemented)) s) :=
  .of_wp fun prog w A R s h => by obtain ⟨hp, g, d, tk, os⟩ := s; obtain ⟨hl, h⟩ := h; wp_walk using wpAny_loadPart' hl, wpAny_load hl; exact ⟨_, rfl, h⟩
theorem dict_eq_declines_str (l : Addr) (es : Array DictEntry) (n : Nat) (dd : Option Addr) (sl : Array (Option Value)) (b : Str) (u : Tok) :
    Meets (Builtin.«dict.__eq__» ⟨[.ref l, .str b u], []⟩) (fun _ R s => s.heap.get? l = some { cls := .type "dict", dict := dd, data := .dict es n, slots := sl } ∧ R (.ok (.ret .notImplemented)) s) :=
  .of_wp fun prog w A R s h => by obtain ⟨hp, g, d, tk, os⟩ := s; obtain ⟨hl, h⟩ := h; have f1 := F.sub_str_dict; wp_walk using wpAny_loadPart' hl, wpAny_load hl; exact ⟨_, rfl, h⟩
theorem rc_str_dict {A : Around} {s : Shared} {l : Addr} {es : Array DictEntry} {n : Nat} {dd : Option Addr} {sl : Array (Option Value)} (b : Str) (u : Tok) (ho : s.heap.get? l = some { cls := .type "dict", dict := dd, data := .dict es n, slots := sl }) (hu : A.units < cLine) : RcAt A s (.str b u) (.ref l) false := fun prog w E Q h =>
  rc_eq_decline_or (k := false) (typeIs_str s b u) ⟨_, ho, rfl⟩ (by decide) F.sub_dict_str F.slot_str_eq F.slot_dict_eq_refl
    (fun _ hq => call_meets F.slot_str_eq (typeIs_str s b u) F.entry_str_eq (F.args_str_eq_2 _ _) (str_eq_declines_dict b u l es n dd sl) ⟨ho, hq⟩)
    (fun _ hq => call_meets F.slot_dict_eq_refl ⟨_, ho, rfl⟩ F.entry_dict_eq (F.args_dict_eq_2 _ _) (dict_eq_declines_str l es n dd sl b u) ⟨ho, hq⟩)
    (fun _ hq => wpAny_of_eq (rfl : isSame (.str b u) (.ref l) = pure false) hq) (.inr hu) h
theorem rc_dict_str {A : Around} {s : Shared} {l : Addr} {es : Array DictEntry} {n : Nat} {dd : Option Addr} {sl : Array (Option Value)} (b : Str) (u : Tok) (ho : s.heap.get? l = some { cls := .type "dict", dict := dd, data := .dict es n, slots := sl }) (hu : A.units < cLine) : RcAt A s (.ref l) (.str b u) false := fun prog w E Q h =>
  rc_eq_decline_or (k := false) ⟨_, ho, rfl⟩ (typeIs_str s b u) (by decide) F.sub_str_dict F.slot_dict_eq F.slot_str_eq_refl
    (fun _ hq => call_meets F.slot_dict_eq ⟨_, ho, rfl⟩ F.entry_dict_eq (F.args_dict_eq_2 _ _) (dict_eq_declines_str l es n dd sl b u) ⟨ho, hq⟩)
    (fun _ hq => call_meets F.slot_str_eq_refl (typeIs_str s b u) F.entry_str_eq (F.args_str_eq_2 _ _) (str_eq_declines_dict b u l es n dd sl) ⟨ho, hq⟩)
    (fun _ hq => wpAny_of_eq (rfl : isSame (.ref l) (.str b u) = pure false) hq) (.inr hu) h
/-- what may be handed in -/
inductive Th (H : Hp) : V → Prop where
  | non : Th H .non
  | bl (b : Bool) : Th H (.bl b)
  | int (i : Int) : Th H (.int i)
  | str (x : Str) (h : x.length ≤ sizeLine) : Th H (.str x)
  | lst {a : Addr} {xs : List V} (h : H a = some (.lst xs)) : Th H (.ref a)
  | tup {a : Addr} {xs : List V} (h : H a = some (.tup xs)) : Th H (.ref a)
  | dct {a : Addr} {kvs : List (Key × V)} (h : H a = some (.dK kvs)) : Th H (.ref a)
theorem Th.same {H H' : Hp} {v : V} (t : Th H v) (s : Same H H') : Th H' v := by
  cases t with
  | non => exact .non
  | bl b => exact .bl b
  | int i => exact .int i
  | str x h => exact .str x h
  | lst h => exact .lst (s _ _ h)
  | tup h => exact .tup (s _ _ h)
  | dct h => exact .dct (s _ _ h)
/-- == of a text and anything -/
def rEqX : R2 := fun x y H Q => ((∃ b, y = .str b) ∧ Th H x ∨ (∃ b, x = .str b) ∧ Th H y) ∧ Q (.bl (decide (x = y))) H
theorem op_eqX {X : Cx} (hu0 : X.A.units + 64 < cLine) : OpR X (compareOp .Eq) rEqX := by
  have hu : X.A.units < cLine := by omega
  intro pins s σ H x y v u Q I rx ry h
  obtain ⟨h, q⟩ := h
  have rf : ∀ {a : Addr} {b : Str}, decide (V.ref a = V.str b) = false := fun {a b} => decide_eq_false (fun z => nomatch z)
  have fr : ∀ {a : Addr} {b : Str}, decide (V.str b = V.ref a) = false := fun {a b} => decide_eq_false (fun z => nomatch z)
  rcases h with ⟨⟨b, rfl⟩, t⟩ | ⟨⟨b, rfl⟩, t⟩
  · cases t with
    | non => exact op_eq pins s σ H _ _ v u Q I rx ry ⟨rfl, q⟩
    | bl b => exact op_eq pins s σ H _ _ v u Q I rx ry ⟨rfl, q⟩
    | int i => exact op_eq pins s σ H _ _ v u Q I rx ry ⟨rfl, q⟩
    | str z h => exact op_eq pins s σ H _ _ v u Q I rx ry ⟨rfl, q⟩
    | @lst a xs h =>
      obtain ⟨t, rfl⟩ := (show ∃ t, u = Value.str b t from ry)
      cases (show v = Value.ref a from rx)
      obtain ⟨_, _, n, _, h1⟩ := (show ObjOk X.prog X.w H s.heap a (.lst xs) from I.hok a _ h)
      rw [rf] at q
      exact RcAt.list_str (A := X.A) b t ⟨_, h1, rfl, n, rfl⟩ hu X.prog X.w _ _ ⟨.bl false, H, I, rfl, q⟩
    | @tup a xs h =>
      obtain ⟨t, rfl⟩ := (show ∃ t, u = Value.str b t from ry)
      cases (show v = Value.ref a from rx)
      obtain ⟨its, _, ht, _⟩ := I.tuple (SqT.of h)
      rw [rf] at q
      exact RcAt.tuple_str (A := X.A) b t ht hu X.prog X.w _ _ ⟨.bl false, H, I, rfl, q⟩
    | @dct a kvs h =>
      obtain ⟨t, rfl⟩ := (show ∃ t, u = Value.str b t from ry)
      cases (show v = Value.ref a from rx)
      obtain ⟨_, _, vs, _, ob, es, ep, h1, h2, h3, _⟩ := (show ObjOk X.prog X.w H s.heap a (.dK kvs) from I.hok a _ h)
      obtain ⟨cls, dd, data, sl⟩ := ob
      obtain ⟨c1, c2, c3⟩ := h2
      simp only at c1 h3
      subst c1 h3
      rw [rf] at q
      exact rc_dict_str (A := X.A) b t h1 hu X.prog X.w _ _ ⟨.bl false, H, I, rfl, q⟩
  · cases t with
    | non => exact op_eq pins s σ H _ _ v u Q I rx ry ⟨rfl, q⟩
    | bl b => exact op_eq pins s σ H _ _ v u Q I rx ry ⟨rfl, q⟩
    | int i => exact op_eq pins s σ H _ _ v u Q I rx ry ⟨rfl, q⟩
    | str z h => exact op_eq pins s σ H _ _ v u Q I rx ry ⟨rfl, q⟩
    | @lst a xs h =>
      obtain ⟨t, rfl⟩ := (show ∃ t, v = Value.str b t from rx)
      cases (show u = Value.ref a from ry)
      obtain ⟨_, _, n, _, h1⟩ := (show ObjOk X.prog X.w H s.heap a (.lst xs) from I.hok a _ h)
      rw [fr] at q
      exact RcAt.str_list (A := X.A) b t ⟨_, h1, rfl, n, rfl⟩ hu X.prog X.w _ _ ⟨.bl false, H, I, rfl, q⟩
    | @tup a xs h =>
      obtain ⟨t, rfl⟩ := (show ∃ t, v = Value.str b t from rx)
      cases (show u = Value.ref a from ry)
      obtain ⟨its, _, ht, _⟩ := I.tuple (SqT.of h)
      rw [fr] at q
      exact RcAt.str_tuple (A := X.A) b t ht hu X.prog X.w _ _ ⟨.bl false, H, I, rfl, q⟩
    | @dct a kvs h =>
      obtain ⟨t, rfl⟩ := (show ∃ t, v = Value.str b t from rx)
      cases (show u = Value.ref a from ry)
      obtain ⟨_, _, vs, _, ob, es, ep, h1, h2, h3, _⟩ := (show ObjOk X.prog X.w H s.heap a (.dK kvs) from I.hok a _ h)
      obtain ⟨cls, dd, data, sl⟩ := ob
      obtain ⟨c1, c2, c3⟩ := h2
      simp only at c1 h3
      subst c1 h3
      rw [fr] at q
      exact rc_str_dict (A := X.A) b t h1 hu X.prog X.w _ _ ⟨.bl false, H, I, rfl, q⟩
/-- its type -/
def tyV : V → HO → Value
  | .non, _ => .type "NoneType" | .bl _, _ => .type "bool" | .int _, _ => .type "int" | .str _, _ => .type "str"
  | .ref _, .lst _ => .type "list" | .ref _, .tup _ => .type "tuple" | _, _ => .type "dict"
theorem Th.ty {K : PySem.W.Frag} {H : Hp} {v : V} (t : Th H v) : ∃ n : String, TyX K H v (.type n) ∧ n ∈ ["NoneType", "bool", "int", "str", "list", "tuple", "dict"] ∧ (n = "bool" ↔ ∃ b, v = .bl b) ∧ (n = "int" ↔ ∃ i, v = .int i) ∧ (n = "str" ↔ ∃ x, v = .str x) ∧ (n = "tuple" ↔ ∃ a xs, v = .ref a ∧ H a = some (.tup xs)) := by
  cases t with
  | non => exact ⟨_, .base .non, by decide, ⟨fun z => absurd z (by decide), fun ⟨_, z⟩ => nomatch z⟩, ⟨fun z => absurd z (by decide), fun ⟨_, z⟩ => nomatch z⟩, ⟨fun z => absurd z (by decide), fun ⟨_, z⟩ => nomatch z⟩, ⟨fun z => absurd z (by decide), fun ⟨_, _, z, _⟩ => nomatch z⟩⟩
  | bl b => exact ⟨_, .base (.bl b), by decide, ⟨fun _ => ⟨b, rfl⟩, fun _ => rfl⟩, ⟨fun z => absurd z (by decide), fun ⟨_, z⟩ => nomatch z⟩, ⟨fun z => absurd z (by decide), fun ⟨_, z⟩ => nomatch z⟩, ⟨fun z => absurd z (by decide), fun ⟨_, _, z, _⟩ => nomatch z⟩⟩
  | int i => exact ⟨_, .base (.int i), by decide, ⟨fun z => absurd z (by decide), fun ⟨_, z⟩ => nomatch z⟩, ⟨fun _ => ⟨i, rfl⟩, fun _ => rfl⟩, ⟨fun z => absurd z (by decide), fun ⟨_, z⟩ => nomatch z⟩, ⟨fun z => absurd z (by decide), fun ⟨_, _, z, _⟩ => nomatch z⟩⟩
  | str x h => exact ⟨_, .base (.str x), by decide, ⟨fun z => absurd z (by decide), fun ⟨_, z⟩ => nomatch z⟩, ⟨fun z => absurd z (by decide), fun ⟨_, z⟩ => nomatch z⟩, ⟨fun _ => ⟨x, rfl⟩, fun _ => rfl⟩, ⟨fun z => absurd z (by decide), fun ⟨_, _, z, _⟩ => nomatch z⟩⟩
  | lst h => exact ⟨_, .base (.lst h), by decide, ⟨fun z => absurd z (by decide), fun ⟨_, z⟩ => nomatch z⟩, ⟨fun z => absurd z (by decide), fun ⟨_, z⟩ => nomatch z⟩, ⟨fun z => absurd z (by decide), fun ⟨_, z⟩ => nomatch z⟩, ⟨fun z => absurd z (by decide), fun ⟨_, _, z, e⟩ => by cases z; rw [h] at e; cases e⟩⟩
  | @tup a xs h => exact ⟨_, .base (.tup h), by decide, ⟨fun z => absurd z (by decide), fun ⟨_, z⟩ => nomatch z⟩, ⟨fun z => absurd z (by decide), fun ⟨_, z⟩ => nomatch z⟩, ⟨fun z => absurd z (by decide), fun ⟨_, z⟩ => nomatch z⟩, ⟨fun _ => ⟨a, xs, rfl, h⟩, fun _ => rfl⟩⟩
  | dct h => exact ⟨_, .base (.dK h), by decide, ⟨fun z => absurd z (by decide), fun ⟨_, z⟩ => nomatch z⟩, ⟨fun z => absurd z (by decide), fun ⟨_, z⟩ => nomatch z⟩, ⟨fun z => absurd z (by decide), fun ⟨_, z⟩ => nomatch z⟩, ⟨fun z => absurd z (by decide), fun ⟨_, _, z, e⟩ => by cases z; rw [h] at e; cases e⟩⟩
end KD
namespace KD
open PySem PySem.Spec PyProof.Rows L2
section
variable {X : Cx}
def tA (t : TA) : TA := fun σ H Q => ∃ Q' : List V → Hp → Prop, t σ H Q' ∧ ∀ vs H', Q' vs H' → Q vs H'
theorem pa_up {es : List Expr} {t : TA} (h : PA X es t) : PA X es (tA t) := ⟨fun pos pins s σ H Q I ⟨Q', h1, h2⟩ => thn (h.run pos pins s σ H Q' I h1) fun us s1 ⟨vs, H1, I1, r, q⟩ => ⟨vs, H1, I1, r, h2 _ _ q⟩⟩
theorem pe_le {e : Expr} {t u : TE} (h : PE X e t) (f : ∀ σ H Q, u σ H Q → t σ H Q) : PE X e u := ⟨fun pins s σ H Q I hu => h.run pins s σ H Q I (f σ H Q hu)⟩
def tLstW (t : TA) : TE := fun σ H Q => t σ H fun xs H1 => xs.length ≤ sizeLine ∧ ∀ p H', Same H1 H' → H1 p = none → H' p = some (.lst xs) → Q (.ref p) H'
def tTupW (t : TA) : TE := fun σ H Q => t σ H fun xs H1 => xs.length ≤ sizeLine ∧ ∀ p H', Same H1 H' → H1 p = none → H' p = some (.tup xs) → Q (.ref p) H'
theorem pe_lstW {es : List Expr} {t : TA} {pos : Pos} (ha : PA X es t) : PE X (.List es pos) (tLstW t) :=
  pe_le (pe_lst (pa_up ha)) fun σ H Q h => ⟨_, h, fun vs H1 ⟨a, b⟩ => ⟨a, fun p hp => b p _ (KP.same_new hp) hp upd_same⟩⟩
theorem pe_tupW {es : List Expr} {x1 : _} {t : TA} {pos : Pos} (ha : PA X es t) : PE X (.Tuple es x1 pos) (tTupW t) :=
  pe_le (pe_tup (pa_up ha)) fun σ H Q h => ⟨_, h, fun vs H1 ⟨a, b⟩ => ⟨a, fun p hp => b p _ (KP.same_new hp) hp upd_same⟩⟩
/-- t + u, t[lo:hi]: a tuple of these items, a new one or one that was there -/
def rCatW (K : PySem.W.Frag) : R2 := fun x y H Q => ∃ a b xs ys, x = .ref a ∧ y = .ref b ∧ H a = some (.tup xs) ∧ H b = some (.tup ys) ∧ xs.length + ys.length ≤ sizeLine ∧ ∀ p H', Same H H' → H' p = some (.tup (xs ++ ys)) → Q (.ref p) H'
theorem op_catW : OpR X (binaryOp .Add) (rCatW X.K) := by
  intro pins s σ H x y v u Q I rx ry h
  obtain ⟨a, b, xs, ys, rfl, rfl, ha, hb, hz, q⟩ := h
  refine op_catA pins s σ H _ _ v u Q I rx ry ⟨a, b, xs, ys, rfl, rfl, SqT.of ha, SqT.of hb, hz, fun e => ?_, fun _ e => ?_, fun _ _ p hp => ?_⟩
  · subst e
    exact q b H (Same.refl _) hb
  · subst e
    exact q a H (Same.refl _) (by rw [List.append_nil]; exact ha)
  · exact q p _ (KP.same_new hp) upd_same
def rSlW (K : PySem.W.Frag) : V → Option Int → Option Int → Hp → VK → Prop := fun x lo hi H Q => ∃ a xs, x = .ref a ∧ H a = some (.tup xs) ∧ ∀ p H', Same H H' → H' p = some (.tup (cutV xs lo hi)) → Q (.ref p) H'
theorem sl_tupW : SlR X (rSlW X.K) := by
  intro pins s σ H x v vl vu lo hi sl Q I rx hs pl pu h
  obtain ⟨a, xs, rfl, ha, q⟩ := h
  refine sl_tupA pins s σ H _ v vl vu lo hi sl Q I rx hs pl pu ⟨a, xs, rfl, SqT.of ha, fun e => ?_, fun _ p hp => q p _ (KP.same_new hp) upd_same⟩
  refine q a H (Same.refl _) ?_
  unfold cutV
  rw [e.1, e.2, List.drop_zero, Nat.sub_zero, List.take_length]
  exact ha
/-- l + m of lists -/
def rCatLW : R2 := fun x y H Q => ∃ a b xs ys, x = .ref a ∧ y = .ref b ∧ H a = some (.lst xs) ∧ H b = some (.lst ys) ∧ xs.length + ys.length ≤ sizeLine ∧ ∀ p H', Same H H' → H p = none → H' p = some (.lst (xs ++ ys)) → Q (.ref p) H'
theorem op_catLW : OpR X (binaryOp .Add) rCatLW := by
  intro pins s σ H x y v u Q I rx ry h
  obtain ⟨a, b, xs, ys, rfl, rfl, ha, hb, hz, q⟩ := h
  exact op_cat pins s σ H _ _ v u Q I rx ry ⟨a, b, xs, ys, rfl, rfl, ha, hb, hz, fun p hp => q p _ (KP.same_new hp) hp upd_same⟩
def rSlLW (K : PySem.W.Frag) : V → Option Int → Option Int → Hp → VK → Prop := fun x lo hi H Q => ∃ a xs, x = .ref a ∧ SqL K H a xs ∧ ∀ p H', Same H H' → H p = none → H' p = some (.lst (cutV xs lo hi)) → Q (.ref p) H'
theorem sl_listW : SlR X (rSlLW X.K) := by
  intro pins s σ H x v vl vu lo hi sl Q I rx hs pl pu h
  obtain ⟨a, xs, rfl, ha, q⟩ := h
  exact sl_list pins s σ H _ v vl vu lo hi sl Q I rx hs pl pu ⟨a, xs, rfl, ha, fun p hp => q p _ (KP.same_new hp) hp upd_same⟩
/-- list(x) -/
def rListW (K : PySem.W.Frag) : List V → Hp → VK → Prop := fun xs H Q => ∃ p ys, xs = [.ref p] ∧ (SqL K H p ys ∨ SqT K H p ys) ∧ ∀ l H', Same H H' → H l = none → H' l = some (.lst ys) → Q (.ref l) H'
theorem call_listW : CallR X (.type "list") (rListW X.K) := by
  intro pins s σ H xs us Q I r h
  obtain ⟨p, ys, rfl, hy, q⟩ := h
  exact call_list_of pins s σ H _ us Q I r ⟨p, ys, rfl, hy, fun l hl => q l _ (KP.same_new hl) hl upd_same⟩
/-- tuple(x) of a list -/
def rTupleW (K : PySem.W.Frag) : List V → Hp → VK → Prop := fun xs H Q => ∃ p ys, xs = [.ref p] ∧ SqL K H p ys ∧ ∀ l H', Same H H' → H l = none → H' l = some (.tup ys) → Q (.ref l) H'
theorem call_tupleW : CallR X (.type "tuple") (rTupleW X.K) := by
  intro pins s σ H xs us Q I r h
  obtain ⟨p, ys, rfl, hy, q⟩ := h
  exact call_tuple_of pins s σ H _ us Q I r ⟨p, ys, rfl, .inl ⟨hy, fun l hl => q l _ (KP.same_new hl) hl upd_same⟩⟩
/-- str(x) of an int or a truth: some text -/
def rStrX : List V → Hp → VK → Prop := fun xs H Q => ((∃ i, xs = [.int i] ∧ i.natAbs.log2 < 1920) ∨ ∃ b, xs = [.bl b]) ∧ ∀ z : Str, z.length ≤ sizeLine → Q (.str z) H
theorem call_strX : CallR X (.type "str") rStrX := by
  intro pins s σ H xs us Q I r h
  obtain ⟨⟨i, rfl, hz⟩ | ⟨b, rfl⟩, q⟩ := h
  · obtain ⟨u, rfl, t, rfl⟩ := vals1 r
    exact PySem.P.str_of_int hz ⟨.str _, H, I.tok _, ⟨_, rfl⟩, q _ (int_text_fits hz)⟩
  · obtain ⟨u, rfl, r1⟩ := vals1 r
    cases (show u = Value.bool b from r1)
    exact PySem.P.str_of_bool ⟨.str _, H, I.tok _, ⟨_, rfl⟩, q _ (by cases b <;> decide)⟩
end
end KD
namespace KD
open PySem PySem.Spec PyProof.Rows L2 PySem.SeqAt
/-- a thing that is no dict -/
inductive Ti (H : Hp) : V → Prop where
  | non : Ti H .non
  | bl (b : Bool) : Ti H (.bl b)
  | int (i : Int) : Ti H (.int i)
  | str (x : Str) (h : x.length ≤ sizeLine) : Ti H (.str x)
  | lst {a : Addr} {xs : List V} (h : H a = some (.lst xs)) : Ti H (.ref a)
  | tup {a : Addr} {xs : List V} (h : H a = some (.tup xs)) : Ti H (.ref a)
theorem Ti.th {H : Hp} {v : V} (t : Ti H v) : Th H v := by
  cases t with
  | non => exact .non
  | bl b => exact .bl b
  | int i => exact .int i
  | str x h => exact .str x h
  | lst h => exact .lst h
  | tup h => exact .tup h
theorem Ti.same {H H' : Hp} {v : V} (t : Ti H v) (s : Same H H') : Ti H' v := by
  cases t with
  | non => exact .non
  | bl b => exact .bl b
  | int i => exact .int i
  | str x h => exact .str x h
  | lst h => exact .lst (s _ _ h)
  | tup h => exact .tup (s _ _ h)
/-- x != a text -/
def rNeX : R2 := fun x y H Q => (∃ b, y = .str b) ∧ Ti H x ∧ Q (.bl (!decide (x = y))) H
theorem op_neX {X : Cx} (hu0 : X.A.units + 64 < cLine) : OpR X (compareOp .NotEq) rNeX := by
  have hu : X.A.units < cLine := by omega
  intro pins s σ H x y v u Q I rx ry h
  obtain ⟨⟨b, rfl⟩, t, q⟩ := h
  have rf : ∀ {a : Addr} {b : Str}, decide (V.ref a = V.str b) = false := fun {a b} => decide_eq_false (fun z => nomatch z)
  cases t with
  | non => exact op_ne pins s σ H _ _ v u Q I rx ry ⟨rfl, q⟩
  | bl b => exact op_ne pins s σ H _ _ v u Q I rx ry ⟨rfl, q⟩
  | int i => exact op_ne pins s σ H _ _ v u Q I rx ry ⟨rfl, q⟩
  | str z h => exact op_ne pins s σ H _ _ v u Q I rx ry ⟨rfl, q⟩
  | @lst a xs h =>
    obtain ⟨t, rfl⟩ := (show ∃ t, u = Value.str b t from ry)
    cases (show v = Value.ref a from rx)
    obtain ⟨_, _, n, _, h1⟩ := (show ObjOk X.prog X.w H s.heap a (.lst xs) from I.hok a _ h)
    rw [rf] at q
    exact RcNeAt.list_str (A := X.A) b t ⟨_, h1, rfl, n, rfl⟩ hu X.prog X.w _ _ ⟨.bl true, H, I, rfl, q⟩
  | @tup a xs h =>
    obtain ⟨t, rfl⟩ := (show ∃ t, u = Value.str b t from ry)
    cases (show v = Value.ref a from rx)
    obtain ⟨its, _, ht, _⟩ := I.tuple (SqT.of h)
    rw [rf] at q
    exact RcNeAt.tuple_str (A := X.A) b t ht hu X.prog X.w _ _ ⟨.bl true, H, I, rfl, q⟩
/-- x in, not in a list of texts -/
def rInX (K : PySem.W.Frag) (neg : Bool) : R2 := fun x y H Q => ∃ (p : Addr) (zs : List Str), y = .ref p ∧ H p = some (.lst (zs.map V.str)) ∧ Ti H x ∧ Q (.bl (if neg then !decide (x ∈ zs.map V.str) else decide (x ∈ zs.map V.str))) H
theorem inV_any {x : V} (f : flatV x = true) : ∀ {zs : List Str}, inV x (zs.map V.str) = decide (x ∈ zs.map V.str)
  | [] => rfl
  | z :: zs => by
    have ih := inV_any f (zs := zs)
    unfold inV at ih ⊢
    rw [List.map_cons, List.any_cons, ih]
    by_cases e : x = V.str z
    · subst e
      have : eqV (V.str z) (V.str z) = true := by simp [eqV]
      rw [this, Bool.true_or, decide_eq_true (by simp)]
    · have : eqV (V.str z) x = false := by
        cases x with
        | str y => simp [eqV]; exact fun q => e (by rw [q])
        | _ => rfl
      rw [this, Bool.false_or]
      by_cases m : x ∈ zs.map V.str
      · rw [decide_eq_true m, decide_eq_true (List.mem_cons_of_mem _ m)]
      · rw [decide_eq_false m, decide_eq_false (fun q => by rcases List.mem_cons.mp q with q | q; exact e q; exact m q)]
theorem ref_notin {a : Addr} {zs : List Str} : decide (V.ref a ∈ zs.map V.str) = false := decide_eq_false fun m => by
  obtain ⟨z, _, e⟩ := List.mem_map.mp m
  cases e
theorem in_no {X : Cx} {A : Around} (hu : A.units < cLine) {pins : List (Addr × Obj)} {s : Shared} {σ : L2.St} {H : Hp} {a : Addr} {zs : List Str} {its : List Value} (I : Inv X pins σ H s) (t : Ti H (.ref a)) (r : Vals (zs.map V.str) its) : ∀ w ∈ its.toArray, EqAt A s w (.ref a) false := by
  intro w hw
  have hw' : w ∈ its := by simpa using hw
  have key : ∀ {ys : List V} {us : List Value}, Vals ys us → (∀ y ∈ ys, ∃ z, y = V.str z) → ∀ w ∈ us, ∃ z tk, w = Value.str z tk := by
    intro ys us r
    induction r with
    | nil => intro _ w h; cases h
    | cons r1 rr ih =>
      intro hy w h
      rcases List.mem_cons.mp h with rfl | h
      · rename_i y0 ys0 us0
        obtain ⟨z, e0⟩ := hy y0 List.mem_cons_self
        subst e0
        obtain ⟨tk, e⟩ := r1
        exact ⟨z, tk, e⟩
      · exact ih (fun y h => hy y (List.mem_cons_of_mem _ h)) w h
  obtain ⟨z, tk, rfl⟩ := key r (fun y hy => by obtain ⟨z, _, rfl⟩ := List.mem_map.mp hy; exact ⟨z, rfl⟩) w hw'
  cases t with
  | @lst _ xs h =>
    obtain ⟨_, _, n, _, h1⟩ := (show ObjOk X.prog X.w H s.heap a (.lst xs) from I.hok a _ h)
    exact EqAt.str_list z tk ⟨_, h1, rfl, n, rfl⟩ hu
  | @tup _ xs h =>
    obtain ⟨its, _, ht, _⟩ := I.tuple (SqT.of h)
    exact EqAt.str_tuple z tk ht hu
theorem any_false {l : List Value} : l.toArray.any (fun _ => false) = false := by simp
theorem op_inX {X : Cx} (hu0 : X.A.units + 64 < cLine) : OpR X (compareOp .In) (rInX X.K false) := by
  intro pins s σ H x y v u Q I rx ry h
  obtain ⟨p, zs, rfl, hp, t, q⟩ := h
  have flat : flatV x = true → wpAny (model X.prog X.w) X.A (compareOp .In v u) (EP X pins σ Q) X.xe s := fun f => op_in_seq pins s σ H x (.ref p) v u Q I rx ry ⟨p, zs.map V.str, rfl, .inl (SqL.of hp), f, KP.flat_strs, by rw [inV_any f]; exact q⟩
  have ref : ∀ a, x = .ref a → wpAny (model X.prog X.w) X.A (compareOp .In v u) (EP X pins σ Q) X.xe s := fun a e => by
    subst e
    cases ry
    cases (show v = Value.ref a from rx)
    obtain ⟨its, r, pl, hz⟩ := I.list (SqL.of hp)
    rw [ref_notin] at q
    exact SeqAt.in_listAt (fun _ => false) pl.isList (in_no (show X.A.in1.units < cLine by have : X.A.in1.units ≤ X.A.units + 1 := Nat.le_refl _; omega) I t r) ⟨.bl _, H, I, rfl, by rw [any_false]; exact q⟩
  cases x with
  | ref a => exact ref a rfl
  | non => exact flat rfl
  | bl b => exact flat rfl
  | int i => exact flat rfl
  | str z => exact flat rfl
  | _ => cases t
theorem op_notInX {X : Cx} (hu0 : X.A.units + 64 < cLine) : OpR X (compareOp .NotIn) (rInX X.K true) := by
  intro pins s σ H x y v u Q I rx ry h
  obtain ⟨p, zs, rfl, hp, t, q⟩ := h
  have flat : flatV x = true → wpAny (model X.prog X.w) X.A (compareOp .NotIn v u) (EP X pins σ Q) X.xe s := fun f => op_notIn_seq pins s σ H x (.ref p) v u Q I rx ry ⟨p, zs.map V.str, rfl, .inl (SqL.of hp), f, KP.flat_strs, by rw [inV_any f]; exact q⟩
  have ref : ∀ a, x = .ref a → wpAny (model X.prog X.w) X.A (compareOp .NotIn v u) (EP X pins σ Q) X.xe s := fun a e => by
    subst e
    cases ry
    cases (show v = Value.ref a from rx)
    obtain ⟨its, r, pl, hz⟩ := I.list (SqL.of hp)
    rw [ref_notin] at q
    exact SeqAt.notIn_listAt (fun _ => false) pl.isList (in_no (show X.A.in1.units < cLine by have : X.A.in1.units ≤ X.A.units + 1 := Nat.le_refl _; omega) I t r) ⟨.bl _, H, I, rfl, by rw [any_false]; exact q⟩
  cases x with
  | ref a => exact ref a rfl
  | non => exact flat rfl
  | bl b => exact flat rfl
  | int i => exact flat rfl
  | str z => exact flat rfl
  | _ => cases t
end KD
namespace KP
open PySem L2 KD
def isBl : V → Bool
  | .bl _ => true | _ => false
def isIn : V → Bool
  | .int _ => true | _ => false
def isSt : V → Bool
  | .str _ => true | _ => false
def isTp (H : Hp) : V → Bool
  | .ref a => match H a with
    | some (.tup _) => true
    | _ => false
  | _ => false
section
variable {K : PySem.W.Frag} {H : Hp} {v : V}
theorem th_bool (t : Th H v) : ∃ u, TyX K H v u ∧ PySem.W.kitOne K u (.type "bool") = some (isBl v) := by
  cases t with
  | non => exact ⟨_, .base .non, by first | exact kit_ty (r := true) (by decide +kernel) | exact kit_ty (r := false) (by decide +kernel)⟩
  | bl b => exact ⟨_, .base (.bl b), by first | exact kit_ty (r := true) (by decide +kernel) | exact kit_ty (r := false) (by decide +kernel)⟩
  | int i => exact ⟨_, .base (.int i), by first | exact kit_ty (r := true) (by decide +kernel) | exact kit_ty (r := false) (by decide +kernel)⟩
  | str x h => exact ⟨_, .base (.str x), by first | exact kit_ty (r := true) (by decide +kernel) | exact kit_ty (r := false) (by decide +kernel)⟩
  | lst h => exact ⟨_, .base (.lst h), by first | exact kit_ty (r := true) (by decide +kernel) | exact kit_ty (r := false) (by decide +kernel)⟩
  | tup h => exact ⟨_, .base (.tup h), by first | exact kit_ty (r := true) (by decide +kernel) | exact kit_ty (r := false) (by decide +kernel)⟩
  | dct h => exact ⟨_, .base (.dK h), by first | exact kit_ty (r := true) (by decide +kernel) | exact kit_ty (r := false) (by decide +kernel)⟩
theorem th_int (t : Th H v) : ∃ u, TyX K H v u ∧ PySem.W.kitOne K u (.type "int") = some (isBl v || isIn v) := by
  cases t with
  | non => exact ⟨_, .base .non, by first | exact kit_ty (r := true) (by decide +kernel) | exact kit_ty (r := false) (by decide +kernel)⟩
  | bl b => exact ⟨_, .base (.bl b), by first | exact kit_ty (r := true) (by decide +kernel) | exact kit_ty (r := false) (by decide +kernel)⟩
  | int i => exact ⟨_, .base (.int i), by first | exact kit_ty (r := true) (by decide +kernel) | exact kit_ty (r := false) (by decide +kernel)⟩
  | str x h => exact ⟨_, .base (.str x), by first | exact kit_ty (r := true) (by decide +kernel) | exact kit_ty (r := false) (by decide +kernel)⟩
  | lst h => exact ⟨_, .base (.lst h), by first | exact kit_ty (r := true) (by decide +kernel) | exact kit_ty (r := false) (by decide +kernel)⟩
  | tup h => exact ⟨_, .base (.tup h), by first | exact kit_ty (r := true) (by decide +kernel) | exact kit_ty (r := false) (by decide +kernel)⟩
  | dct h => exact ⟨_, .base (.dK h), by first | exact kit_ty (r := true) (by decide +kernel) | exact kit_ty (r := false) (by decide +kernel)⟩
theorem th_str (t : Th H v) : ∃ u, TyX K H v u ∧ PySem.W.kitOne K u (.type "str") = some (isSt v) := by
  cases t with
  | non => exact ⟨_, .base .non, by first | exact kit_ty (r := true) (by decide +kernel) | exact kit_ty (r := false) (by decide +kernel)⟩
  | bl b => exact ⟨_, .base (.bl b), by first | exact kit_ty (r := true) (by decide +kernel) | exact kit_ty (r := false) (by decide +kernel)⟩
  | int i => exact ⟨_, .base (.int i), by first | exact kit_ty (r := true) (by decide +kernel) | exact kit_ty (r := false) (by decide +kernel)⟩
  | str x h => exact ⟨_, .base (.str x), by first | exact kit_ty (r := true) (by decide +kernel) | exact kit_ty (r := false) (by decide +kernel)⟩
  | lst h => exact ⟨_, .base (.lst h), by first | exact kit_ty (r := true) (by decide +kernel) | exact kit_ty (r := false) (by decide +kernel)⟩
  | tup h => exact ⟨_, .base (.tup h), by first | exact kit_ty (r := true) (by decide +kernel) | exact kit_ty (r := false) (by decide +kernel)⟩
  | dct h => exact ⟨_, .base (.dK h), by first | exact kit_ty (r := true) (by decide +kernel) | exact kit_ty (r := false) (by decide +kernel)⟩
theorem th_tup (t : Th H v) : ∃ u, TyX K H v u ∧ PySem.W.kitOne K u (.type "tuple") = some (isTp H v) := by
  cases t with
  | non => exact ⟨_, .base .non, by first | exact kit_ty (r := true) (by decide +kernel) | exact kit_ty (r := false) (by decide +kernel)⟩
  | bl b => exact ⟨_, .base (.bl b), by first | exact kit_ty (r := true) (by decide +kernel) | exact kit_ty (r := false) (by decide +kernel)⟩
  | int i => exact ⟨_, .base (.int i), by first | exact kit_ty (r := true) (by decide +kernel) | exact kit_ty (r := false) (by decide +kernel)⟩
  | str x h => exact ⟨_, .base (.str x), by first | exact kit_ty (r := true) (by decide +kernel) | exact kit_ty (r := false) (by decide +kernel)⟩
  | lst h => exact ⟨_, .base (.lst h), by simp only [isTp, h]; first | exact kit_ty (r := true) (by decide +kernel) | exact kit_ty (r := false) (by decide +kernel)⟩
  | tup h => exact ⟨_, .base (.tup h), by simp only [isTp, h]; first | exact kit_ty (r := true) (by decide +kernel) | exact kit_ty (r := false) (by decide +kernel)⟩
  | dct h => exact ⟨_, .base (.dK h), by simp only [isTp, h]; first | exact kit_ty (r := true) (by decide +kernel) | exact kit_ty (r := false) (by decide +kernel)⟩
end
def wholeV (lo hi : Int) : V → Bool
  | .int v => decide (lo ≤ v ∧ v ≤ hi) | _ => false
def wordV : V → Bool
  | .str x => wordB x | _ => false
def spWholeV : Sp := fun vs H Q _ => ∃ (v : V) (lo hi : Int), vs = [v, .int lo, .int hi] ∧ Th H v ∧ Q (.bl (wholeV lo hi v)) H
def spWordV : Sp := fun vs H Q _ => ∃ v : V, vs = [v] ∧ Th H v ∧ ∀ H', Same H H' → Q (.bl (wordV v)) H'
section
variable {P : Program} {w : World} {K : PySem.W.Frag} {mg : Str → Option Value} {base : Heap}
theorem c_wholeV (B : Base K mg) (D : DefT K mg "is_whole" sWhole ["value", "least", "most"]) : Cal P w K mg base 1 "is_whole" spWholeV := by
  refine cal D scWhole (fun vs H Q E h => ?_) (fun f cdv A outer s H vs Q E hr h => ?_)
  · obtain ⟨v, lo, hi, rfl, _⟩ := h
    rfl
  · obtain ⟨v, lo, hi, rfl, t, k⟩ := h
    refine ⟨_, pss_cons (ps_if (PW.pt (pw_or (pt_val (pe_callB call_isi (by rfl) B.isi (by decide +kernel) (pa_cons (pv 0) (pa_cons (pe_bltn (v := .ty "bool") (by rfl) B.bool (by decide +kernel) rfl) pa_nil))))
        (pw_or1 (pt_not (pt_val (pe_callB call_isi (by rfl) B.isi (by decide +kernel) (pa_cons (pv 0) (pa_cons (pe_bltn (v := .ty "int") (by rfl) B.int (by decide +kernel) rfl) pa_nil)))))))) (pss_one (ps_ret pe_bl)) pss_nil)
      (pss_one (ps_ret (pe_chain op_le op_le (pv 1) (pv 0) (pv 2)))), ?_⟩
    obtain ⟨u, tu, ku⟩ := th_bool (K := K) t
    obtain ⟨u2, tu2, ku2⟩ := th_int (K := K) t
    refine ⟨_, rfl, _, _, _, _, _, rfl, .ty _, tu, ku, _, rfl, ?_⟩
    cases hb : isBl v with
    | true =>
      refine iteT ?_
      have e : wholeV lo hi v = false := by cases v <;> first | rfl | exact absurd hb (by simp [isBl])
      rw [e] at k
      exact k
    | false =>
      refine iteF ⟨_, rfl, _, _, _, _, _, rfl, .ty _, tu2, ku2, _, rfl, ?_⟩
      rw [hb, Bool.false_or]
      cases hi2 : isIn v with
      | false =>
        refine iteT ?_
        have e : wholeV lo hi v = false := by cases v <;> first | rfl | exact absurd hi2 (by simp [isIn])
        rw [e] at k
        exact k
      | true =>
        obtain ⟨i, rfl⟩ : ∃ i, v = .int i := by cases v <;> first | exact ⟨_, rfl⟩ | exact absurd hi2 (by simp [isIn])
        refine iteF ⟨_, rfl, _, rfl, _, _, rfl, rfl, _, rfl, ?_⟩
        have k' : Q (.bl (decide (lo ≤ i ∧ i ≤ hi))) H := k
        by_cases h1 : lo ≤ i
        · rw [if_pos (decide_eq_true h1)]
          refine ⟨_, rfl, _, _, rfl, rfl, ?_⟩
          by_cases h2 : i ≤ hi
          · show Q (.bl (decide (i ≤ hi))) H
            rw [decide_eq_true h2]
            rw [decide_eq_true ⟨h1, h2⟩] at k'
            exact k'
          · show Q (.bl (decide (i ≤ hi))) H
            rw [decide_eq_false h2]
            rw [decide_eq_false fun z => h2 z.2] at k'
            exact k'
        · rw [if_neg (by rw [decide_eq_false h1]; exact Bool.false_ne_true)]
          rw [decide_eq_false fun z => h1 z.1] at k'
          exact k'
theorem all_map_id {bs : List Bool} : bs.all id = bs.all fun b => b := rfl
theorem c_wordV (B : Base K mg) (D : DefT K mg "is_word" sWord ["value"]) : Cal P w K mg base 1 "is_word" spWordV := by
  obtain ⟨tL, hL⟩ := B.letters
  obtain ⟨tM, hM⟩ := B.mostL
  refine cal D scWord (fun vs H Q E h => ?_) (fun f cdv A outer s H vs Q E hr h => ?_)
  · obtain ⟨x, rfl, _⟩ := h
    rfl
  · obtain ⟨v, rfl, t, k⟩ := h
    refine ⟨_, pss_cons (ps_if (PW.pt (pw_or (pt_not (pt_val (pe_callB call_isi (by rfl) B.isi (by decide +kernel) (pa_cons (pv 0) (pa_cons (pe_bltn (v := .ty "str") (by rfl) B.str (by decide +kernel) rfl) pa_nil)))))
        (pw_or1 (pt_not (pt_chain op_le op_le pe_int (pe_callB call_len_str (by rfl) B.len (by decide +kernel) (pa_cons (pv 0) pa_nil)) (pe_glob (v := .int 8) rfl hM ⟨_, rfl⟩)))))) (pss_one (ps_ret pe_bl)) pss_nil)
      (pss_one (ps_ret (pe_callB (cr_all rfl) (by rfl) B.all (by decide +kernel) (pa_cons (pe_lc (own := [("sign", 1)]) (g := gName 1) (tt := tYes) rfl scWord.nd (pi_str (pv 0)) (blkOk_by (N := ["value", "sign"]) (sc := defScope sWord) (by decide +kernel))
        (fun _ _ _ _ _ => pg_name (i := 1) scWord.nd rfl (Or.inl rfl)) (fun _ _ _ _ _ => pts_nil) (fun _ _ _ _ _ => pe_cmpR op_in_sign (pv 1) (pe_glob (v := .str letters) rfl hL ⟨_, rfl⟩) rfl)) pa_nil)))), ?_⟩
    obtain ⟨u, tu, ku⟩ := th_str (K := K) t
    refine ⟨_, rfl, _, _, _, _, _, rfl, .ty _, tu, ku, _, rfl, ?_⟩
    cases hb : isSt v with
    | false =>
      refine iteT ?_
      have e : wordV v = false := by cases v <;> first | rfl | exact absurd hb (by simp [isSt])
      have k' := k H (Same.refl _)
      rw [e] at k'
      exact k'
    | true =>
      obtain ⟨x, rfl⟩ : ∃ x, v = .str x := by cases v <;> first | exact ⟨_, rfl⟩ | exact absurd hb (by simp [isSt])
      have hs : x.length ≤ sizeLine := by cases t with | str _ h => exact h
      refine iteF ?_
      refine ⟨_, rfl, _, rfl, hs, _, _, rfl, rfl, _, rfl, ?_⟩
      have kF : wordB x = false → Q (.bl false) H := fun e => by
        have k' := k H (Same.refl _)
        rw [show wordV (.str x) = false from e] at k'
        exact k'
      by_cases h1 : 1 ≤ x.length
      · rw [if_pos (decide_eq_true (show (1 : Int) ≤ ((x.length : Nat) : Int) by omega))]
        refine ⟨_, _, rfl, rfl, _, rfl, ?_⟩
        by_cases h8 : x.length ≤ 8
        · have e8 : decide (((x.length : Nat) : Int) ≤ 8) = true := decide_eq_true (by omega)
          rw [e8]
          refine iteF ?_
          refine ⟨_, rfl, x, rfl, fun D hD => lc_it walk_str (fun i H' => H' = upd H D (.lst (((x.cps.toList.take i).map fun c => decide (c ∈ letters.cps.toList)).map V.bl))) rfl (fun _ _ _ _ => trivial) ?_ ?_⟩
          · rintro i v H1 H2 hi rfl ⟨rfl, c, hc, rfl⟩
            refine ⟨rfl, yes (iteT ⟨_, rfl, c, letters, rfl, rfl, _, upd_same, ?_, ?_⟩)⟩
            · have : x.cps.size ≤ 8 := h8
              have e : sizeLine = 16777216 := by decide
              have : ((x.cps.toList.take i).map fun c => decide (c ∈ letters.cps.toList)).length ≤ 8 := by
                rw [List.length_map, List.length_take, Array.length_toList]
                omega
              rw [List.length_map]
              omega
            · have hc' : x.cps.toList[i]? = some c := by simpa using hc
              rw [upd_upd, take_more hc', List.map_append, List.map_append]
              rfl
          · rintro H1 rfl
            refine ⟨D, (x.cps.toList.take x.cps.size).map fun c => decide (c ∈ letters.cps.toList), rfl, SqL.of upd_same, ?_⟩
            have k' := k _ (same_new (o := .lst (((x.cps.toList.take x.cps.size).map fun c => decide (c ∈ letters.cps.toList)).map V.bl)) hD)
            have e : wordV (.str x) = ((x.cps.toList.take x.cps.size).map fun c => decide (c ∈ letters.cps.toList)).all id := by
              show wordB x = _
              unfold wordB
              rw [decide_eq_true h1, decide_eq_true h8, Bool.and_true, Bool.and_true, List.take_of_length_le (by simp), List.all_map]
              rfl
            rw [e] at k'
            exact k'
        · have e8 : decide (((x.length : Nat) : Int) ≤ 8) = false := decide_eq_false (by omega)
          rw [e8]
          exact iteT (kF (by unfold wordB; rw [decide_eq_false h8, Bool.and_false]))
      · rw [if_neg (by rw [decide_eq_false (show ¬ (1 : Int) ≤ ((x.length : Nat) : Int) by omega)]; exact Bool.false_ne_true)]
        refine ⟨_, rfl, ?_⟩
        refine iteT ?_
        exact kF (by unfold wordB; rw [decide_eq_false h1, Bool.and_false, Bool.false_and])
end
/-! ### what is refused with NoYear -/
structure ErrF (K : PySem.W.Frag) (mg : Str → Option Value) (x : Str) (Cn : Addr) : Prop where
  g : mg x = some (.ref Cn)
  x : PySem.W.excIn K Cn [.type "ValueError", .type "Exception", .type "BaseException", .type "object"] "ValueError.__new__" = true
  k : PySem.W.keepIn K (.ref Cn) = true
  b : PySem.W.subIn K (.ref Cn) (.type "BaseException") = some true
  t : PySem.W.typeIn K (.ref Cn) = some (.type "type")
/-- a def that may raise -/
structure CalX (P : Program) (w : World) (K : PySem.W.Frag) (mg : Str → Option Value) (base : Heap) (k : Nat) (x : Str) (sp : Sp) : Prop where
  ex : ∃ f fd ps, FnOk P w K mg base (L2.CX P w) k f fd ps sp ∧ mg x = some (.ref f) ∧ PySem.W.keepIn K (.ref f) = true ∧ Binds K fd ps []
/-- a class whose making may raise -/
structure MakX (P : Program) (w : World) (K : PySem.W.Frag) (mg : Str → Option Value) (base : Heap) (k : Nat) (x : Str) (C : Addr) (sp : Sp) : Prop where
  ex : ∃ f fd ps, Mk K C f ∧ FnOk P w K mg base (L2.CX P w) k f fd ps sp ∧ mg x = some (.ref C) ∧ Binds K fd ps []
section
variable {X : Cx} {k j : Nat} {x : Str} {C : Addr} {sp : Sp} {p pos : Pos} {e : Expr} {es : List Expr} {t : TA} {E : L2.St → XK} {E1 : XK}
theorem pe_clX (c : CalX X.prog X.w X.K X.mg X.base k x sp) (hr : Room j X.A) (hk : k ≤ j) (hx : ∀ σ, PassesAt (L2.CX X.prog X.w) X σ (E σ)) (hg : Gl X x) (ha : PA X (e :: es) t)
    (hdb : (x == ("__debug__" : Str)) = false := by decide) (he : starEach (e :: es) X.env = (false, eval e X.env) :: starEach es X.env := by rfl) (hpl : (backTo pos (starEach es X.env)).any (·.1) = false := by rfl) :
    PE X (.Call (.Name x p) (e :: es) [] pos) (tCallS sp E t) := by
  obtain ⟨f, fd, ps, F, m, kp, b⟩ := c.ex
  exact pe_callS F (hr.mono hk) hg m kp b hx ha hdb he hpl
theorem pe_mkX (c : MakX X.prog X.w X.K X.mg X.base k x C sp) (hr : Room j X.A) (hk : k + 1 ≤ j) (hx : Passes (L2.CX X.prog X.w) X E1) (hg : Gl X x) (ha : PA X (e :: es) t)
    (hdb : (x == ("__debug__" : Str)) = false := by decide) (he : starEach (e :: es) X.env = (false, eval e X.env) :: starEach es X.env := by rfl) (hpl : (backTo pos (starEach es X.env)).any (·.1) = false := by rfl) :
    PE X (.Call (.Name x p) (e :: es) [] pos) (tMake C sp [] E1 t) := by
  obtain ⟨f, fd, ps, M, F, m, b⟩ := c.ex
  exact pe_make M F (hr.mono hk) hg m b .nil hx ha hdb he hpl
end
end KP
namespace KP
open PySem L2 KD
def lstOf (H : Hp) : V → Option (List V)
  | .ref a => match H a with
    | some (.lst xs) => some xs
    | _ => none
  | _ => none
def tupOf (H : Hp) : V → Option (List V)
  | .ref a => match H a with
    | some (.tup xs) => some xs
    | _ => none
  | _ => none
theorem lst_of {H : Hp} {a : Addr} {xs : List V} (h : H a = some (.lst xs)) : lstOf H (.ref a) = some xs := by simp only [lstOf, h]
theorem tup_of {H : Hp} {a : Addr} {xs : List V} (h : H a = some (.tup xs)) : tupOf H (.ref a) = some xs := by simp only [tupOf, h]
theorem of_lst {H : Hp} {v : V} {xs : List V} (h : lstOf H v = some xs) : ∃ a, v = .ref a ∧ H a = some (.lst xs) := by
  cases v with
  | ref a =>
    refine ⟨a, rfl, ?_⟩
    simp only [lstOf] at h
    split at h
    · rename_i ys e
      cases h
      exact e
    · cases h
  | _ => cases h
theorem of_tup {H : Hp} {v : V} {xs : List V} (h : tupOf H v = some xs) : ∃ a, v = .ref a ∧ H a = some (.tup xs) := by
  cases v with
  | ref a =>
    refine ⟨a, rfl, ?_⟩
    simp only [tupOf] at h
    split at h
    · rename_i ys e
      cases h
      exact e
    · cases h
  | _ => cases h
theorem Th_at {H : Hp} {a : Addr} (t : Th H (.ref a)) : ∃ o, H a = some o := by
  cases t with
  | lst h => exact ⟨_, h⟩
  | tup h => exact ⟨_, h⟩
  | dct h => exact ⟨_, h⟩
theorem lstOf_same {H H' : Hp} {v : V} (t : Th H v) (s : Same H H') : lstOf H' v = lstOf H v := by
  cases v with
  | ref a =>
    obtain ⟨o, ho⟩ := Th_at t
    simp only [lstOf, ho, s _ _ ho]
  | _ => rfl
theorem tupOf_same {H H' : Hp} {v : V} (t : Th H v) (s : Same H H') : tupOf H' v = tupOf H v := by
  cases v with
  | ref a =>
    obtain ⟨o, ho⟩ := Th_at t
    simp only [tupOf, ho, s _ _ ho]
  | _ => rfl
/-- a row, a list of rows: whatever they are -/
def RowV (H : Hp) (v : V) : Prop := Th H v ∧ ∀ xs, tupOf H v = some xs → ∀ x ∈ xs, Ti H x
def LstV (H : Hp) (v : V) : Prop := Th H v ∧ ∀ xs, lstOf H v = some xs → ∀ x ∈ xs, RowV H x
theorem RowV.same {H H' : Hp} {v : V} (h : RowV H v) (s : Same H H') : RowV H' v := ⟨h.1.same s, fun xs e x hx => (h.2 xs (by rw [← tupOf_same h.1 s]; exact e) x hx).same s⟩
theorem LstV.same {H H' : Hp} {v : V} (h : LstV H v) (s : Same H H') : LstV H' v := ⟨h.1.same s, fun xs e x hx => (h.2 xs (by rw [← lstOf_same h.1 s]; exact e) x hx).same s⟩
theorem th_list {K : PySem.W.Frag} {H : Hp} {v : V} (t : Th H v) : ∃ u, TyX K H v u ∧ PySem.W.kitOne K u (.type "list") = some (lstOf H v).isSome := by
  cases t with
  | non => exact ⟨_, .base .non, by first | exact kit_ty (r := true) (by decide +kernel) | exact kit_ty (r := false) (by decide +kernel)⟩
  | bl b => exact ⟨_, .base (.bl b), by first | exact kit_ty (r := true) (by decide +kernel) | exact kit_ty (r := false) (by decide +kernel)⟩
  | int i => exact ⟨_, .base (.int i), by first | exact kit_ty (r := true) (by decide +kernel) | exact kit_ty (r := false) (by decide +kernel)⟩
  | str x h => exact ⟨_, .base (.str x), by first | exact kit_ty (r := true) (by decide +kernel) | exact kit_ty (r := false) (by decide +kernel)⟩
  | lst h => exact ⟨_, .base (.lst h), by simp only [lstOf, h]; first | exact kit_ty (r := true) (by decide +kernel) | exact kit_ty (r := false) (by decide +kernel)⟩
  | tup h => exact ⟨_, .base (.tup h), by simp only [lstOf, h]; first | exact kit_ty (r := true) (by decide +kernel) | exact kit_ty (r := false) (by decide +kernel)⟩
  | dct h => exact ⟨_, .base (.dK h), by simp only [lstOf, h]; first | exact kit_ty (r := true) (by decide +kernel) | exact kit_ty (r := false) (by decide +kernel)⟩
theorem isTp_of {H : Hp} {v : V} (t : Th H v) : isTp H v = (tupOf H v).isSome := by
  cases t with
  | lst h => simp only [isTp, tupOf, h]; rfl
  | tup h => simp only [isTp, tupOf, h]; rfl
  | dct h => simp only [isTp, tupOf, h]; rfl
  | _ => rfl
def listB (H : Hp) (lo hi : Int) (v : V) : Bool := match lstOf H v with
  | some xs => decide (lo ≤ (xs.length : Int) ∧ (xs.length : Int) ≤ hi)
  | none => false
def rowB (H : Hp) (n : Nat) (v : V) : Bool := match tupOf H v with
  | some xs => decide (xs.length = n)
  | none => false
def spListV : Sp := fun vs H Q _ => ∃ (v : V) (lo hi : Int), vs = [v, .int lo, .int hi] ∧ Th H v ∧ Q (.bl (listB H lo hi v)) H
def spRowV : Sp := fun vs H Q _ => ∃ (v : V) (n : Nat), vs = [v, .int (n : Int)] ∧ Th H v ∧ Q (.bl (rowB H n v)) H
/-- a head's row behind the names ahead -/
def headB (H : Hp) (ahead : List Str) (x : V) : Bool := match tupOf H x with
  | some [nm, up] => wordV nm && !decide (nm ∈ ahead.map V.str) && (decide (up = .str "") || decide (up ∈ ahead.map V.str))
  | _ => false
def nmOf (H : Hp) (x : V) : Str := match tupOf H x with
  | some (.str nm :: _) => nm
  | _ => ""
def headsGo (H : Hp) : List Str → List V → Bool
  | _, [] => true
  | ahead, x :: r => headB H ahead x && headsGo H (ahead ++ [nmOf H x]) r
def headsB (H : Hp) (v : V) : Bool := match lstOf H v with
  | some xs => decide (1 ≤ (xs.length : Int) ∧ (xs.length : Int) ≤ 8) && headsGo H [] xs
  | none => false
def spHeadsV : Sp := fun vs H Q _ => ∃ v : V, vs = [v] ∧ LstV H v ∧ ∀ H', Same H H' → Q (.bl (headsB H v)) H'
def fromV (d : Int) (l : V) : V → Bool
  | .int i => wholeV i d l | _ => false
def toV (p : V) : V → Bool
  | .int i => wholeV 0 i p | _ => false
def limB (H : Hp) (d : Int) (ns : List Str) (x : V) : Bool := match tupOf H x with
  | some [hd, f, l, m] => decide (hd ∈ ns.map V.str) && wholeV 1 d f && fromV d l f && wholeV 0 1000000000000000 m
  | _ => false
def rulB (H : Hp) (d : Int) (ns : List Str) (x : V) : Bool := match tupOf H x with
  | some [hd, p, w, u] => decide (hd ∈ ns.map V.str) && wholeV 1 1000 w && toV p w && wholeV 2 (d + 1) u
  | _ => false
def spLimitV : Sp := fun vs H Q _ => ∃ (x : V) (n : Addr) (d : Int) (ns : List Str), vs = [x, .int d, .ref n] ∧ RowV H x ∧ H n = some (.lst (ns.map V.str)) ∧ Q (.bl (limB H d ns x)) H
def spRuleV : Sp := fun vs H Q _ => ∃ (x : V) (n : Addr) (d : Int) (ns : List Str), vs = [x, .int d, .ref n] ∧ RowV H x ∧ H n = some (.lst (ns.map V.str)) ∧ Q (.bl (rulB H d ns x)) H
section
variable {P : Program} {w : World} {K : PySem.W.Frag} {mg : Str → Option Value} {base : Heap}
theorem c_listV (B : Base K mg) (D : DefT K mg "is_list" sList ["value", "least", "most"]) : Cal P w K mg base 1 "is_list" spListV := by
  refine cal D scList (fun vs H Q E h => ?_) (fun f cdv A outer s H vs Q E hr h => ?_)
  · obtain ⟨v, lo, hi, rfl, _⟩ := h
    rfl
  · obtain ⟨v, lo, hi, rfl, t, k⟩ := h
    refine ⟨_, (pss_one (ps_ret (pe_and (pe_callB call_isi (by rfl) B.isi (by decide +kernel) (pa_cons (pv 0) (pa_cons (pe_bltn (v := .ty "list") (by rfl) B.list (by decide +kernel) rfl) pa_nil))) (pe_one (pe_chain op_le op_le (pv 1) (pe_callB call_len_seq (by rfl) B.len (by decide +kernel) (pa_cons (pv 0) pa_nil)) (pv 2)))))), ?_⟩
    obtain ⟨u, tu, ku⟩ := th_list (K := K) t
    refine ⟨_, rfl, _, _, _, _, _, rfl, .ty _, tu, ku, _, rfl, ?_⟩
    cases e : lstOf H v with
    | none =>
      have k' : Q (.bl (match lstOf H v with | some xs => decide (lo ≤ (xs.length : Int) ∧ (xs.length : Int) ≤ hi) | none => false)) H := k
      rw [e] at k'
      exact iteF k'
    | some xs =>
      obtain ⟨a, rfl, ha⟩ := of_lst e
      have k' : Q (.bl (match lstOf H (.ref a) with | some xs => decide (lo ≤ (xs.length : Int) ∧ (xs.length : Int) ≤ hi) | none => false)) H := k
      rw [e] at k'
      refine iteT ⟨_, rfl, _, rfl, a, _, rfl, .inl (SqL.of ha), _, _, rfl, rfl, _, rfl, ?_⟩
      by_cases h1 : lo ≤ (xs.length : Int)
      · rw [if_pos (decide_eq_true h1)]
        refine ⟨_, rfl, _, _, rfl, rfl, ?_⟩
        by_cases h2 : (xs.length : Int) ≤ hi
        · show Q (.bl (decide ((xs.length : Int) ≤ hi))) H
          rw [decide_eq_true h2]
          rw [show (match (some xs : Option (List V)) with | some xs => decide (lo ≤ (xs.length : Int) ∧ (xs.length : Int) ≤ hi) | none => false) = true from decide_eq_true ⟨h1, h2⟩] at k'
          exact k'
        · show Q (.bl (decide ((xs.length : Int) ≤ hi))) H
          rw [decide_eq_false h2]
          rw [show (match (some xs : Option (List V)) with | some xs => decide (lo ≤ (xs.length : Int) ∧ (xs.length : Int) ≤ hi) | none => false) = false from decide_eq_false fun z => h2 z.2] at k'
          exact k'
      · rw [if_neg (by rw [decide_eq_false h1]; exact Bool.false_ne_true)]
        rw [show (match (some xs : Option (List V)) with | some xs => decide (lo ≤ (xs.length : Int) ∧ (xs.length : Int) ≤ hi) | none => false) = false from decide_eq_false fun z => h1 z.1] at k'
        exact k'
theorem c_rowV (B : Base K mg) (D : DefT K mg "is_row" sRow ["value", "many"]) : Cal P w K mg base 1 "is_row" spRowV := by
  refine cal D scRow (fun vs H Q E h => ?_) (fun f cdv A outer s H vs Q E hr h => ?_)
  · obtain ⟨v, n, rfl, _⟩ := h
    rfl
  · obtain ⟨v, n, rfl, t, k⟩ := h
    refine ⟨_, (pss_one (ps_ret (pe_and (pe_callB call_isi (by rfl) B.isi (by decide +kernel) (pa_cons (pv 0) (pa_cons (pe_bltn (v := .ty "tuple") (by rfl) B.tuple (by decide +kernel) rfl) pa_nil))) (pe_one (pe_cmpR op_eq (pe_callB call_len_seq (by rfl) B.len (by decide +kernel) (pa_cons (pv 0) pa_nil)) (pv 1) (nomark _)))))), ?_⟩
    obtain ⟨u, tu, ku⟩ := th_tup (K := K) t
    rw [isTp_of t] at ku
    refine ⟨_, rfl, _, _, _, _, _, rfl, .ty _, tu, ku, _, rfl, ?_⟩
    have k' : Q (.bl (match tupOf H v with | some xs => decide (xs.length = n) | none => false)) H := k
    cases e : tupOf H v with
    | none =>
      rw [e] at k'
      exact iteF k'
    | some xs =>
      rw [e] at k'
      obtain ⟨a, rfl, ha⟩ := of_tup e
      refine iteT ⟨_, rfl, a, _, rfl, .inr (SqT.of ha), _, rfl, rfl, ?_⟩
      have eq : decide (V.int ((xs.length : Nat) : Int) = V.int (n : Int)) = decide (xs.length = n) := by
        by_cases q : xs.length = n
        · rw [decide_eq_true q, decide_eq_true (by rw [q])]
        · rw [decide_eq_false q, decide_eq_false (fun z => q (by injection z with z; omega))]
      rw [eq]
      exact k'
theorem c_headsV (B : Base K mg) (Ls : Cal P w K mg base 1 "is_list" spListV) (Ro : Cal P w K mg base 1 "is_row" spRowV) (Wo : Cal P w K mg base 1 "is_word" spWordV) (D : DefT K mg "are_heads" sHeadsP ["heads"]) : Cal P w K mg base 2 "are_heads" spHeadsV := by
  obtain ⟨tH, hH⟩ := B.mostH
  refine cal D scHeadsP (fun vs H Q E h => ?_) (fun f cdv A outer s H vs Q E hr h => ?_)
  · obtain ⟨v, rfl, _⟩ := h
    rfl
  · obtain ⟨v, rfl, lv, k⟩ := h
    have hz : sizeLine = 16777216 := by decide
    refine ⟨_, (pss_cons (ps_if (pt_not (pt_val (pe_cl Ls hr (by decide) (by rfl) (pa_cons (pv 0) (pa_cons pe_int (pa_cons (pe_glob (v := .int 8) rfl hH ⟨_, rfl⟩) pa_nil)))))) (pss_one (ps_ret pe_bl)) pss_nil)
        (pss_cons (ps_set (i := 1) scHeadsP.nd rfl (by first | exact Or.inl rfl | exact Or.inr rfl) (pe_lst pa_nil))
        (pss_cons (ps_for PassesOwn.never rfl (pi_list (pv 0)) (pg_name (i := 2) scHeadsP.nd rfl (by first | exact Or.inl rfl | exact Or.inr rfl)) (pss_cons (ps_if (pt_not (pt_val (pe_cl Ro hr (by decide) (by rfl) (pa_cons (pv 2) (pa_cons pe_int pa_nil))))) (pss_one (ps_ret pe_bl)) pss_nil)
        (pss_cons (ps_asg (pv 2) (pg_tup rfl (pgs_cons (pg_name (i := 3) scHeadsP.nd rfl (by first | exact Or.inl rfl | exact Or.inr rfl)) (pgs_cons (pg_name (i := 4) scHeadsP.nd rfl (by first | exact Or.inl rfl | exact Or.inr rfl)) pgs_nil))))
        (pss_cons (ps_if (PW.pt (pw_or (pt_not (pt_val (pe_cl Wo hr (by decide) (by rfl) (pa_cons (pv 3) pa_nil)))) (pw_or1 (pt_cmpR (op_inX hr.units) (pv 3) (pv 1) rfl)))) (pss_one (ps_ret pe_bl)) pss_nil)
        (pss_cons (ps_if (PW.pt (pw_and (pt_cmpR (op_neX hr.units) (pv 4) pe_str (nomark _)) (pw_and1 (pt_cmpR (op_notInX hr.units) (pv 4) (pv 1) rfl)))) (pss_one (ps_ret pe_bl)) pss_nil)
        (pss_one (ps_expr (pe_bm PySem.F.plainAttrs_list PySem.F.slot_list_append PySem.F.type_list_append mt_append (pv 1) (pa_cons (pv 3) pa_nil)))))))))
        (pss_one (ps_ret pe_bl))))), ?_⟩
    have no : headsB H v = false → ∀ H', Same H H' → Q (.bl false) H' := fun e H' s' => by
      have := k H' s'
      rw [e] at this
      exact this
    refine ⟨_, rfl, v, 1, 8, rfl, lv.1, _, rfl, ?_⟩
    cases e : lstOf H v with
    | none =>
      rw [show listB H 1 8 v = false by unfold listB; rw [e]]
      exact iteT (no (by unfold headsB; rw [e]) _ (Same.refl _))
    | some xs =>
      obtain ⟨l, rfl, hl⟩ := of_lst e
      have rows := lv.2 xs e
      have eb : listB H 1 8 (.ref l) = decide (1 ≤ (xs.length : Int) ∧ (xs.length : Int) ≤ 8) := by unfold listB; rw [e]
      have ehB : headsB H (.ref l) = (decide (1 ≤ (xs.length : Int) ∧ (xs.length : Int) ≤ 8) && headsGo H [] xs) := by unfold headsB; rw [e]
      rw [eb]
      by_cases hlen : 1 ≤ (xs.length : Int) ∧ (xs.length : Int) ≤ 8
      · rw [decide_eq_true hlen]
        rw [decide_eq_true hlen, Bool.true_and] at ehB
        refine iteF ⟨(by show 0 ≤ sizeLine; decide), fun A2 hA => ?_⟩
        refine ⟨_, rfl, l, rfl, ⟨_, SqL.of (same_new hA _ _ hl)⟩, for_list (K := K) (a := l) (xs := xs) (fun i σ H' => ∃ (ahead : List Str) (v2 v3 v4 : Option V), σ = [some (.ref l), some (.ref A2), v2, v3, v4] ∧ Same H H' ∧ H' A2 = some (.lst (ahead.map V.str)) ∧ ahead.length ≤ i ∧ headsGo H [] xs = headsGo H ahead (xs.drop i))
          ⟨[], none, none, none, rfl, same_new hA, upd_same, Nat.le_refl _, rfl⟩ (fun i σ H' _ ⟨_, _, _, _, _, s1, _⟩ => SqL.of (s1 _ _ hl)) ?_ ?_⟩
        · rintro i x σ H1 hi ⟨ahead, v2, v3, v4, rfl, s1, a1, al, eg⟩
          have hi8 : i < xs.length := (List.getElem?_eq_some_iff.mp hi).1
          have ed : xs.drop i = x :: xs.drop (i + 1) := by
            rw [List.drop_eq_getElem_cons hi8]
            congr 1
            exact (List.getElem?_eq_some_iff.mp hi).2
          rw [ed, headsGo] at eg
          have rx := rows x (List.mem_of_getElem? hi)
          have bad : headB H ahead x = false → ∀ H', Same H H' → Q (.bl false) H' := fun q => no (by rw [ehB, eg, q, Bool.false_and])
          refine ⟨_, rfl, x, 2, rfl, rx.1.same s1, _, rfl, ?_⟩
          have ew : rowB H1 2 x = rowB H 2 x := by unfold rowB; rw [tupOf_same rx.1 s1]
          rw [ew]
          cases et : tupOf H x with
          | none =>
            rw [show rowB H 2 x = false by unfold rowB; rw [et]]
            exact iteT (bad (by unfold headB; rw [et]) _ s1)
          | some ys =>
            have ew2 : rowB H 2 x = decide (ys.length = 2) := by unfold rowB; rw [et]
            rw [ew2]
            by_cases h2 : ys.length = 2
            · obtain ⟨nm, up, rfl⟩ : ∃ a b, ys = [a, b] := match ys, h2 with | [a, b], _ => ⟨a, b, rfl⟩
              rw [decide_eq_true h2]
              obtain ⟨t, rfl, ht⟩ := of_tup et
              have tn := rx.2 _ et nm (by simp)
              have tp := rx.2 _ et up (by simp)
              have eH : headB H ahead (.ref t) = (wordV nm && !decide (nm ∈ ahead.map V.str) && (decide (up = .str "") || decide (up ∈ ahead.map V.str))) := by unfold headB; rw [et]
              refine iteF ⟨_, rfl, t, _, rfl, SqT.of (s1 _ _ ht), rfl, _, _, rfl, _, _, rfl, rfl, ?_⟩
              refine ⟨_, rfl, nm, rfl, tn.th.same s1, fun H2 s2 => ⟨_, rfl, ?_⟩⟩
              have S2 := s1.trans s2
              cases hw : wordV nm with
              | false => exact iteT (bad (by rw [eH, hw, Bool.false_and, Bool.false_and]) _ S2)
              | true =>
                obtain ⟨z, rfl⟩ : ∃ z, nm = .str z := by
                  cases nm with
                  | str z => exact ⟨z, rfl⟩
                  | _ => cases hw
                refine iteF ⟨_, rfl, _, rfl, A2, ahead, rfl, s2 _ _ a1, tn.same S2, _, rfl, ?_⟩
                show if decide (V.str z ∈ ahead.map V.str) = true then _ else _
                by_cases hin : V.str z ∈ ahead.map V.str
                · rw [decide_eq_true hin]
                  exact iteT (bad (by rw [eH, hw, decide_eq_true hin]; rfl) _ S2)
                · rw [decide_eq_false hin]
                  have app : headB H ahead (.ref t) = true → ∃ l' xs' y', V.ref A2 = .ref l' ∧ [V.str z] = [y'] ∧ H2 l' = some (.lst xs') ∧ xs'.length < sizeLine ∧ ∃ (ahead' : List Str) (v2 v3 v4 : Option V), [some (V.ref l), some (V.ref A2), some (V.ref t), some (V.str z), some up] = [some (.ref l), some (.ref A2), v2, v3, v4] ∧ Same H (upd H2 l' (.lst (xs' ++ [y']))) ∧ (upd H2 l' (.lst (xs' ++ [y']))) A2 = some (.lst (ahead'.map V.str)) ∧ ahead'.length ≤ i + 1 ∧ headsGo H [] xs = headsGo H ahead' (xs.drop (i + 1)) := fun hh => by
                    refine ⟨A2, _, _, rfl, rfl, s2 _ _ a1, ?_, ahead ++ [z], _, _, _, rfl, fun b o e => ?_, ?_, ?_, ?_⟩
                    · rw [List.length_map]; omega
                    · rw [upd_ne (ne_of_none e hA)]
                      exact S2 _ _ e
                    · rw [upd_same, List.map_append]
                      rfl
                    · rw [List.length_append]
                      show _ + 1 ≤ _
                      omega
                    · rw [eg, hh, Bool.true_and]
                      congr 2
                      unfold nmOf
                      rw [et]
                  refine iteF ⟨_, rfl, ⟨_, rfl⟩, tp.same S2, _, rfl, ?_⟩
                  by_cases hue : up = .str ""
                  · rw [decide_eq_true hue]
                    refine iteF (iteF ?_)
                    exact ⟨_, rfl, .inl ⟨rfl, _, SqL.of (s2 _ _ a1)⟩, _, rfl, app (by rw [eH, hw, decide_eq_false hin, decide_eq_true hue]; rfl)⟩
                  · rw [decide_eq_false hue]
                    refine iteT ⟨_, rfl, _, rfl, A2, ahead, rfl, s2 _ _ a1, tp.same S2, _, rfl, ?_⟩
                    show if (!decide (up ∈ ahead.map V.str)) = true then _ else _
                    by_cases hui : up ∈ ahead.map V.str
                    · rw [decide_eq_true hui]
                      refine iteF ?_
                      exact ⟨_, rfl, .inl ⟨rfl, _, SqL.of (s2 _ _ a1)⟩, _, rfl, app (by rw [eH, hw, decide_eq_false hin, decide_eq_true hui]; simp)⟩
                    · rw [decide_eq_false hui]
                      exact iteT (bad (by rw [eH, decide_eq_false hue, decide_eq_false hui]; simp) _ S2)
            · rw [decide_eq_false h2]
              refine iteT (bad ?_ _ s1)
              unfold headB
              rw [et]
              match ys, h2 with
              | [], _ => rfl
              | [_], _ => rfl
              | [_, _], h => exact absurd rfl h
              | _ :: _ :: _ :: _, _ => rfl
        · rintro σ H1 ⟨ahead, v2, v3, v4, rfl, s1, a1, al, eg⟩
          rw [List.drop_length] at eg
          have := k H1 s1
          rw [ehB, eg] at this
          exact this
      · rw [decide_eq_false hlen]
        exact iteT (no (by rw [ehB, decide_eq_false hlen, Bool.false_and]) _ (Same.refl _))
end
end KP
namespace KP
open PySem L2 KD
theorem l4 {α : Type} {l : List α} (h : l.length = 4) : ∃ a b c d, l = [a, b, c, d] := match l, h with | [a, b, c, d], _ => ⟨a, b, c, d, rfl⟩
theorem not4 {α β : Type} {ys : List α} (h : ys.length ≠ 4) {f : α → α → α → α → β} {z : β} : (match ys with | [a, b, c, d] => f a b c d | _ => z) = z := by
  match ys, h with
  | [], _ => rfl
  | [_], _ => rfl
  | [_, _], _ => rfl
  | [_, _, _], _ => rfl
  | [_, _, _, _], h => exact absurd rfl h
  | _ :: _ :: _ :: _ :: _ :: _, _ => rfl
theorem limB_not {H : Hp} {d : Int} {ns : List Str} {x : V} {ys : List V} (e : tupOf H x = some ys) (h : ys.length ≠ 4) : limB H d ns x = false := by
  unfold limB
  rw [e]
  match ys, h with
  | [], _ => rfl
  | [_], _ => rfl
  | [_, _], _ => rfl
  | [_, _, _], _ => rfl
  | [_, _, _, _], h => exact absurd rfl h
  | _ :: _ :: _ :: _ :: _ :: _, _ => rfl
theorem rulB_not {H : Hp} {d : Int} {ns : List Str} {x : V} {ys : List V} (e : tupOf H x = some ys) (h : ys.length ≠ 4) : rulB H d ns x = false := by
  unfold rulB
  rw [e]
  match ys, h with
  | [], _ => rfl
  | [_], _ => rfl
  | [_, _], _ => rfl
  | [_, _, _], _ => rfl
  | [_, _, _, _], h => exact absurd rfl h
  | _ :: _ :: _ :: _ :: _ :: _, _ => rfl
theorem limB_is {H : Hp} {d : Int} {ns : List Str} {x hd f l m : V} (e : tupOf H x = some [hd, f, l, m]) : limB H d ns x = (decide (hd ∈ ns.map V.str) && wholeV 1 d f && fromV d l f && wholeV 0 1000000000000000 m) := by
  unfold limB
  rw [e]
theorem rulB_is {H : Hp} {d : Int} {ns : List Str} {x hd p w u : V} (e : tupOf H x = some [hd, p, w, u]) : rulB H d ns x = (decide (hd ∈ ns.map V.str) && wholeV 1 1000 w && toV p w && wholeV 2 (d + 1) u) := by
  unfold rulB
  rw [e]
def limsB (H : Hp) (d : Int) (ns : List Str) (v : V) : Bool := match lstOf H v with
  | some xs => decide (0 ≤ (xs.length : Int) ∧ (xs.length : Int) ≤ 6) && xs.all (limB H d ns)
  | none => false
def rwOf (H : Hp) (v : V) : Rw4 := match tupOf H v with
  | some [.str h, .int p, .int w, .int u] => (h, p, w, u)
  | _ => ("", 0, 0, 0)
def oneB (H : Hp) (xs : List V) (x : Str) : Bool := decide ((fr (xs.map (rwOf H)) x).1 ≤ (fr (xs.map (rwOf H)) x).2)
def rulesB (H : Hp) (d : Int) (ns : List Str) (v : V) : Bool := match lstOf H v with
  | some xs => decide (0 ≤ (xs.length : Int) ∧ (xs.length : Int) ≤ 4) && xs.all (rulB H d ns) && ns.all (oneB H xs)
  | none => false
def spOneV : Sp := fun vs H Q _ => ∃ (l : Addr) (ts : List Addr) (x : Str) (rs : List Rw4), vs = [.ref l, .str x] ∧ RowsAt H l ts (rs.map rv) ∧ (∀ r ∈ rs, (0 ≤ r.2.1 ∧ r.2.1 ≤ 1000) ∧ 1 ≤ r.2.2.1 ∧ r.2.2.1 ≤ 1000) ∧ Q (.bl (decide ((fr rs x).1 ≤ (fr rs x).2))) H
def spLimitsV : Sp := fun vs H Q _ => ∃ (v : V) (n : Addr) (d : Int) (ns : List Str), vs = [v, .int d, .ref n] ∧ LstV H v ∧ H n = some (.lst (ns.map V.str)) ∧ ∀ H', Same H H' → Q (.bl (limsB H d ns v)) H'
def spRulesV : Sp := fun vs H Q _ => ∃ (v : V) (n : Addr) (d : Int) (ns : List Str), vs = [v, .int d, .ref n] ∧ LstV H v ∧ H n = some (.lst (ns.map V.str)) ∧ ns.length ≤ 8 ∧ ∀ H', Same H H' → Q (.bl (rulesB H d ns v)) H'
theorem limB_same {H H' : Hp} {d : Int} {ns : List Str} {x : V} (t : Th H x) (s : Same H H') : limB H' d ns x = limB H d ns x := by unfold limB; rw [tupOf_same t s]
theorem rulB_same {H H' : Hp} {d : Int} {ns : List Str} {x : V} (t : Th H x) (s : Same H H') : rulB H' d ns x = rulB H d ns x := by unfold rulB; rw [tupOf_same t s]
theorem rul_row {H : Hp} {d : Int} {ns : List Str} {x : V} (h : rulB H d ns x = true) : ∃ (t : Addr) (r : Rw4), x = .ref t ∧ H t = some (.tup (rv r)) ∧ RulOk d ns r ∧ rwOf H x = r := by
  cases e : tupOf H x with
  | none => unfold rulB at h; rw [e] at h; cases h
  | some ys =>
    by_cases hl : ys.length = 4
    · obtain ⟨hd, p, w, u, rfl⟩ := l4 hl
      rw [rulB_is e] at h
      simp only [Bool.and_eq_true, decide_eq_true_eq] at h
      obtain ⟨⟨⟨h1, h2⟩, h3⟩, h4⟩ := h
      obtain ⟨z, hz, rfl⟩ := List.mem_map.mp h1
      cases w with
      | int wi =>
        cases p with
        | int pi =>
          cases u with
          | int ui =>
            obtain ⟨t, rfl, ht⟩ := of_tup e
            refine ⟨t, (z, pi, wi, ui), rfl, ht, ⟨hz, of_decide_eq_true h2, of_decide_eq_true h3, of_decide_eq_true h4⟩, ?_⟩
            unfold rwOf
            rw [e]
          | _ => cases h4
        | _ => cases h3
      | _ => cases h2
    · rw [rulB_not e hl] at h
      cases h
theorem rul_rows {H : Hp} {d : Int} {ns : List Str} : ∀ {xs : List V}, xs.all (rulB H d ns) = true → ∃ ts, xs = ts.map V.ref ∧ Paired (fun t r => H t = some (.tup r)) ts ((xs.map (rwOf H)).map rv) ∧ ∀ r ∈ xs.map (rwOf H), RulOk d ns r
  | [], _ => ⟨[], rfl, .nil, fun _ h => nomatch h⟩
  | x :: xs, h => by
    rw [List.all_cons, Bool.and_eq_true] at h
    obtain ⟨t, r, rfl, ht, ok, er⟩ := rul_row h.1
    obtain ⟨ts, e, p, oks⟩ := rul_rows h.2
    refine ⟨t :: ts, by rw [e]; rfl, .cons (by rw [er]; exact ht) p, fun r' hr' => ?_⟩
    rcases List.mem_cons.mp hr' with q | q
    · rw [q, er]; exact ok
    · exact oks r' q
section
variable {P : Program} {w : World} {K : PySem.W.Frag} {mg : Str → Option Value} {base : Heap}
theorem c_limitV (B : Base K mg) (Ro : Cal P w K mg base 1 "is_row" spRowV) (Wh : Cal P w K mg base 1 "is_whole" spWholeV) (D : DefT K mg "is_limit" sLimit ["row", "days", "names"]) : Cal P w K mg base 2 "is_limit" spLimitV := by
  obtain ⟨tM, hM⟩ := B.mostM
  refine cal D scLimit (fun vs H Q E h => ?_) (fun f cdv A outer s H vs Q E hr h => ?_)
  · obtain ⟨x, n, d, ns, rfl, _⟩ := h
    rfl
  · obtain ⟨x, n, d, ns, rfl, rx, hn, k⟩ := h
    refine ⟨_, (pss_cons (ps_if (pt_not (pt_val (pe_cl Ro hr (by decide) (by rfl) (pa_cons (pv 0) (pa_cons pe_int pa_nil))))) (pss_one (ps_ret pe_bl)) pss_nil)
        (pss_cons (ps_asg (pv 0) (pg_tup rfl (pgs_cons (pg_name (i := 3) scLimit.nd rfl (by first | exact Or.inl rfl | exact Or.inr rfl)) (pgs_cons (pg_name (i := 4) scLimit.nd rfl (by first | exact Or.inl rfl | exact Or.inr rfl)) (pgs_cons (pg_name (i := 5) scLimit.nd rfl (by first | exact Or.inl rfl | exact Or.inr rfl)) (pgs_cons (pg_name (i := 6) scLimit.nd rfl (by first | exact Or.inl rfl | exact Or.inr rfl)) pgs_nil))))))
        (pss_cons (ps_if (PW.pt (pw_or (pt_cmpR (op_notInX hr.units) (pv 3) (pv 2) rfl) (pw_or1 (pt_not (pt_val (pe_cl Wh hr (by decide) (by rfl) (pa_cons (pv 4) (pa_cons pe_int (pa_cons (pv 1) pa_nil))))))))) (pss_one (ps_ret pe_bl)) pss_nil)
        (pss_one (ps_ret (pe_and (pe_cl Wh hr (by decide) (by rfl) (pa_cons (pv 5) (pa_cons (pv 4) (pa_cons (pv 1) pa_nil)))) (pe_one (pe_cl Wh hr (by decide) (by rfl) (pa_cons (pv 6) (pa_cons pe_int (pa_cons (pe_glob (v := .int 1000000000000000) rfl hM ⟨_, rfl⟩) pa_nil))))))))))), ?_⟩
    have no : limB H d ns x = false → Q (.bl false) H := fun e => by rw [e] at k; exact k
    refine ⟨_, rfl, x, 4, rfl, rx.1, _, rfl, ?_⟩
    cases et : tupOf H x with
    | none =>
      rw [show rowB H 4 x = false by unfold rowB; rw [et]]
      exact iteT (no (by unfold limB; rw [et]))
    | some ys =>
      rw [show rowB H 4 x = decide (ys.length = 4) by unfold rowB; rw [et]]
      by_cases h4 : ys.length = 4
      · obtain ⟨hd, x1, x2, x3, rfl⟩ := l4 h4
        rw [decide_eq_true h4]
        obtain ⟨t, rfl, ht⟩ := of_tup et
        have t0 := rx.2 _ et hd (by simp)
        have t1 := (rx.2 _ et x1 (by simp)).th
        have t2 := (rx.2 _ et x2 (by simp)).th
        have t3 := (rx.2 _ et x3 (by simp)).th
        have eB := limB_is (d := d) (ns := ns) et
        refine iteF ⟨_, rfl, t, _, rfl, SqT.of ht, rfl, _, _, rfl, _, _, rfl, _, _, rfl, _, _, rfl, rfl, ?_⟩
        refine ⟨_, rfl, _, rfl, n, ns, rfl, hn, t0, _, rfl, ?_⟩
        show if (!decide (hd ∈ ns.map V.str)) = true then _ else _
        by_cases hin : hd ∈ ns.map V.str
        · rw [decide_eq_true hin]
          refine iteF ⟨_, rfl, _, rfl, x1, 1, d, rfl, t1, _, rfl, ?_⟩
          cases hf : wholeV 1 d x1 with
          | false => exact iteT (no (by rw [eB, hf]; simp))
          | true =>
            obtain ⟨fi, rfl⟩ : ∃ i, x1 = .int i := by
              cases x1 with
              | int i => exact ⟨i, rfl⟩
              | _ => cases hf
            refine iteF ⟨_, rfl, _, rfl, _, rfl, x2, fi, d, rfl, t2, _, rfl, ?_⟩
            cases hl : wholeV fi d x2 with
            | false => exact iteF (no (by rw [eB]; simp [fromV, toV, hl]))
            | true =>
              refine iteT ⟨_, rfl, x3, 0, 1000000000000000, rfl, t3, ?_⟩
              rw [eB] at k
              simp only [decide_eq_true hin, hf, fromV, toV, hl, Bool.true_and] at k
              exact k
        · rw [decide_eq_false hin]
          exact iteT (no (by rw [eB, decide_eq_false hin]; simp))
      · rw [decide_eq_false h4]
        exact iteT (no (limB_not et h4))
theorem c_ruleV (B : Base K mg) (Ro : Cal P w K mg base 1 "is_row" spRowV) (Wh : Cal P w K mg base 1 "is_whole" spWholeV) (D : DefT K mg "is_rule" sRule ["row", "days", "names"]) : Cal P w K mg base 2 "is_rule" spRuleV := by
  obtain ⟨tM, hW⟩ := B.mostW
  refine cal D scRule (fun vs H Q E h => ?_) (fun f cdv A outer s H vs Q E hr h => ?_)
  · obtain ⟨x, n, d, ns, rfl, _⟩ := h
    rfl
  · obtain ⟨x, n, d, ns, rfl, rx, hn, k⟩ := h
    refine ⟨_, (pss_cons (ps_if (pt_not (pt_val (pe_cl Ro hr (by decide) (by rfl) (pa_cons (pv 0) (pa_cons pe_int pa_nil))))) (pss_one (ps_ret pe_bl)) pss_nil)
        (pss_cons (ps_asg (pv 0) (pg_tup rfl (pgs_cons (pg_name (i := 3) scRule.nd rfl (by first | exact Or.inl rfl | exact Or.inr rfl)) (pgs_cons (pg_name (i := 4) scRule.nd rfl (by first | exact Or.inl rfl | exact Or.inr rfl)) (pgs_cons (pg_name (i := 5) scRule.nd rfl (by first | exact Or.inl rfl | exact Or.inr rfl)) (pgs_cons (pg_name (i := 6) scRule.nd rfl (by first | exact Or.inl rfl | exact Or.inr rfl)) pgs_nil))))))
        (pss_cons (ps_if (PW.pt (pw_or (pt_cmpR (op_notInX hr.units) (pv 3) (pv 2) rfl) (pw_or1 (pt_not (pt_val (pe_cl Wh hr (by decide) (by rfl) (pa_cons (pv 5) (pa_cons pe_int (pa_cons (pe_glob (v := .int 1000) rfl hW ⟨_, rfl⟩) pa_nil))))))))) (pss_one (ps_ret pe_bl)) pss_nil)
        (pss_one (ps_ret (pe_and (pe_cl Wh hr (by decide) (by rfl) (pa_cons (pv 4) (pa_cons pe_int (pa_cons (pv 5) pa_nil)))) (pe_one (pe_cl Wh hr (by decide) (by rfl) (pa_cons (pv 6) (pa_cons pe_int (pa_cons (pe_op op_add (pv 1) pe_int) pa_nil))))))))))), ?_⟩
    have no : rulB H d ns x = false → Q (.bl false) H := fun e => by rw [e] at k; exact k
    refine ⟨_, rfl, x, 4, rfl, rx.1, _, rfl, ?_⟩
    cases et : tupOf H x with
    | none =>
      rw [show rowB H 4 x = false by unfold rowB; rw [et]]
      exact iteT (no (by unfold rulB; rw [et]))
    | some ys =>
      rw [show rowB H 4 x = decide (ys.length = 4) by unfold rowB; rw [et]]
      by_cases h4 : ys.length = 4
      · obtain ⟨hd, x1, x2, x3, rfl⟩ := l4 h4
        rw [decide_eq_true h4]
        obtain ⟨t, rfl, ht⟩ := of_tup et
        have t0 := rx.2 _ et hd (by simp)
        have t1 := (rx.2 _ et x1 (by simp)).th
        have t2 := (rx.2 _ et x2 (by simp)).th
        have t3 := (rx.2 _ et x3 (by simp)).th
        have eB := rulB_is (d := d) (ns := ns) et
        refine iteF ⟨_, rfl, t, _, rfl, SqT.of ht, rfl, _, _, rfl, _, _, rfl, _, _, rfl, _, _, rfl, rfl, ?_⟩
        refine ⟨_, rfl, _, rfl, n, ns, rfl, hn, t0, _, rfl, ?_⟩
        show if (!decide (hd ∈ ns.map V.str)) = true then _ else _
        by_cases hin : hd ∈ ns.map V.str
        · rw [decide_eq_true hin]
          refine iteF ⟨_, rfl, x2, 1, 1000, rfl, t2, _, rfl, ?_⟩
          cases hf : wholeV 1 1000 x2 with
          | false => exact iteT (no (by rw [eB, hf]; simp))
          | true =>
            obtain ⟨fi, rfl⟩ : ∃ i, x2 = .int i := by
              cases x2 with
              | int i => exact ⟨i, rfl⟩
              | _ => cases hf
            refine iteF ⟨_, rfl, _, rfl, x1, 0, fi, rfl, t1, _, rfl, ?_⟩
            cases hl : wholeV 0 fi x1 with
            | false => exact iteF (no (by rw [eB]; simp [fromV, toV, hl]))
            | true =>
              refine iteT ⟨_, rfl, _, rfl, _, _, rfl, rfl, x3, 2, d + 1, rfl, t3, ?_⟩
              rw [eB] at k
              simp only [decide_eq_true hin, hf, fromV, toV, hl, Bool.true_and] at k
              exact k
        · rw [decide_eq_false hin]
          exact iteT (no (by rw [eB, decide_eq_false hin]; simp))
      · rw [decide_eq_false h4]
        exact iteT (no (rulB_not et h4))
theorem c_oneV (D : DefT K mg "is_at_most_one" sOne ["rules", "name"]) : Cal P w K mg base 1 "is_at_most_one" spOneV := by
  refine cal D scOne (fun vs H Q E h => ?_) (fun f cdv A outer s H vs Q E hr h => ?_)
  · obtain ⟨l, ts, x, rs, rfl, _⟩ := h
    rfl
  · obtain ⟨l, ts, x, rs, rfl, R, hb, k⟩ := h
    refine ⟨_, pss_cons (ps_set (i := 2) scOne.nd rfl (Or.inl rfl) pe_int) (pss_cons (ps_set (i := 3) scOne.nd rfl (Or.inl rfl) pe_int)
      (pss_cons (ps_for PassesOwn.never rfl (pi_list (pv 0)) (pg_tup rfl (pgs_cons (pg_name (i := 4) scOne.nd rfl (Or.inl rfl)) (pgs_cons (pg_name (i := 5) scOne.nd rfl (Or.inl rfl)) (pgs_cons (pg_name (i := 6) scOne.nd rfl (Or.inl rfl)) (pgs_cons (pg_name (i := 7) scOne.nd rfl (Or.inl rfl)) pgs_nil)))))
        (pss_one (ps_if (pt_cmpR op_eq (pv 4) (pv 1) (nomark _))
          (pss_cons (ps_set (i := 2) scOne.nd rfl (Or.inl rfl) (pe_op op_add (pe_op op_mul (pv 2) (pv 6)) (pe_op op_mul (pv 5) (pv 3)))) (pss_one (ps_set (i := 3) scOne.nd rfl (Or.inl rfl) (pe_op op_mul (pv 3) (pv 6))))) pss_nil)))
      (pss_one (ps_ret (pe_cmpR op_le (pv 2) (pv 3) (nomark _)))))), ?_⟩
    refine ⟨_, rfl, l, rfl, ⟨_, SqL.of R.1⟩, for_list (K := K) (a := l) (xs := ts.map V.ref) (fun i σ H' => ∃ (v4 v5 v6 v7 : Option V), σ = [some (.ref l), some (.str x), some (.int (fr (rs.take i) x).1), some (.int (fr (rs.take i) x).2), v4, v5, v6, v7] ∧ H' = H)
      ⟨none, none, none, none, rfl, rfl⟩ (fun i σ H' _ ⟨_, _, _, _, _, e⟩ => by rw [e]; exact SqL.of R.1) ?_ ?_⟩
    · rintro i y σ H1 hi ⟨v4, v5, v6, v7, rfl, rfl⟩
      obtain ⟨t, r, rfl, hr1, ht, hti⟩ := row_get R hi
      have bb := hb r (List.mem_of_getElem? hr1)
      have step := fr_snoc (rs.take i) x r
      rw [← take_more hr1] at step
      refine ⟨t, _, rfl, SqT.of ht, rfl, _, _, rfl, _, _, rfl, _, _, rfl, _, _, rfl, rfl, ?_⟩
      refine ⟨_, rfl, _, rfl, rfl, _, rfl, ite2 (fun c => ?_) (fun c => ?_)⟩
      · have e : r.1 = x := by have := of_decide_eq_true c; injection this
        have e2 : frS x (fr (rs.take i) x) r = ((fr (rs.take i) x).1 * r.2.2.1 + r.2.1 * (fr (rs.take i) x).2, (fr (rs.take i) x).2 * r.2.2.1) := by unfold frS; rw [if_pos e]
        rw [e2] at step
        refine ⟨_, rfl, _, rfl, _, _, rfl, rfl, Or.inr ⟨by omega, by omega⟩, _, rfl, _, rfl, _, _, rfl, rfl, Or.inl ⟨by omega, by omega⟩, _, _, rfl, rfl, ?_⟩
        refine ⟨_, rfl, _, rfl, _, _, rfl, rfl, Or.inr ⟨by omega, by omega⟩, ?_⟩
        refine ⟨some (.str r.1), some (.int r.2.1), some (.int r.2.2.1), some (.int r.2.2.2), ?_, rfl⟩
        rw [step]
        rfl
      · have e : ¬ r.1 = x := fun z => c (decide_eq_true (by rw [z]))
        have e2 : frS x (fr (rs.take i) x) r = fr (rs.take i) x := by unfold frS; rw [if_neg e]
        rw [e2] at step
        refine ⟨some (.str r.1), some (.int r.2.1), some (.int r.2.2.1), some (.int r.2.2.2), ?_, rfl⟩
        rw [step]
        rfl
    · rintro σ H1 ⟨v4, v5, v6, v7, rfl, rfl⟩
      have el : rs.take (ts.map V.ref).length = rs := by rw [List.length_map, R.len, List.length_map]; exact List.take_length
      rw [el]
      refine ⟨_, rfl, _, rfl, _, _, rfl, rfl, ?_⟩
      show Q (.bl (decide ((fr rs x).1 ≤ (fr rs x).2))) H1
      exact k
theorem c_limitsV (B : Base K mg) (Ls : Cal P w K mg base 1 "is_list" spListV) (Li : Cal P w K mg base 2 "is_limit" spLimitV) (D : DefT K mg "are_limits" sLimitsP ["limits", "days", "names"]) : Cal P w K mg base 3 "are_limits" spLimitsV := by
  obtain ⟨tL, hL⟩ := B.mostLi
  refine cal D scLimitsP (fun vs H Q E h => ?_) (fun f cdv A outer s H vs Q E hr h => ?_)
  · obtain ⟨v, n, d, ns, rfl, _⟩ := h
    rfl
  · obtain ⟨v, n, d, ns, rfl, lv, hn, k⟩ := h
    have hz : sizeLine = 16777216 := by decide
    refine ⟨_, (pss_one (ps_ret (pe_and (pe_cl Ls hr (by decide) (by rfl) (pa_cons (pv 0) (pa_cons pe_int (pa_cons (pe_glob (v := .int 6) rfl hL ⟨_, rfl⟩) pa_nil)))) (pe_one (pe_callB (cr_all rfl) (by rfl) B.all (by decide +kernel) (pa_cons (pe_lc (own := [("row", 3)]) (g := (gName 3)) (tt := tYes) rfl scLimitsP.nd (pi_list (pv 0)) (blkOk_by (N := nLimitsP) (sc := defScope sLimitsP) (by decide +kernel)) (fun _ _ _ _ _ => (pg_name (i := 3) scLimitsP.nd rfl (by first | exact Or.inl rfl | exact Or.inr rfl))) (fun _ _ _ _ _ => pts_nil) (fun _ _ _ _ _ => (pe_cl Li hr (by decide) (by rfl) (pa_cons (pv 3) (pa_cons (pv 1) (pa_cons (pv 2) pa_nil)))))) pa_nil)))))), ?_⟩
    have no : limsB H d ns v = false → Q (.bl false) H := fun e => by
      have := k H (Same.refl _)
      rw [e] at this
      exact this
    refine ⟨_, rfl, v, 0, 6, rfl, lv.1, _, rfl, ?_⟩
    cases e : lstOf H v with
    | none =>
      rw [show listB H 0 6 v = false by unfold listB; rw [e]]
      exact iteF (no (by unfold limsB; rw [e]))
    | some xs =>
      obtain ⟨l, rfl, hl⟩ := of_lst e
      have rows := lv.2 xs e
      have eB : limsB H d ns (.ref l) = (decide (0 ≤ (xs.length : Int) ∧ (xs.length : Int) ≤ 6) && xs.all (limB H d ns)) := by unfold limsB; rw [e]
      rw [show listB H 0 6 (.ref l) = decide (0 ≤ (xs.length : Int) ∧ (xs.length : Int) ≤ 6) by unfold listB; rw [e]]
      by_cases hlen : 0 ≤ (xs.length : Int) ∧ (xs.length : Int) ≤ 6
      · rw [decide_eq_true hlen]
        rw [decide_eq_true hlen, Bool.true_and] at eB
        refine iteT ⟨_, rfl, l, rfl, ⟨_, SqL.of hl⟩, fun D hD => lc_it (walk_list (xs := xs)) (fun i H' => Same H H' ∧ H' D = some (.lst (((xs.take i).map (limB H d ns)).map V.bl))) ⟨same_new hD, upd_same⟩ (fun i H' _ p => SqL.of (p.1 _ _ hl)) ?_ ?_⟩
        · rintro i x H1 H2 hi ⟨s1, d1⟩ ⟨rfl, hx⟩
          have rx := rows x (List.mem_of_getElem? hx)
          refine ⟨rfl, yes (iteT ⟨_, rfl, _, rfl, _, rfl, x, n, d, ns, rfl, rx.same s1, s1 _ _ hn, _, d1, ?_, ?_, ?_⟩)⟩
          · rw [List.length_map, List.length_map, List.length_take]
            omega
          · intro b o e'
            rw [upd_ne (ne_of_none e' hD)]
            exact s1 _ _ e'
          · rw [upd_same, take_more hx, List.map_append, List.map_append, limB_same rx.1 s1]
            rfl
        · rintro H1 ⟨s1, d1⟩
          refine ⟨D, (xs.take xs.length).map (limB H d ns), rfl, SqL.of d1, ?_⟩
          have ea : ((xs.take xs.length).map (limB H d ns)).all id = xs.all (limB H d ns) := by rw [List.take_length, List.all_map]; rfl
          rw [ea]
          have := k H1 s1
          rw [eB] at this
          exact this
      · rw [decide_eq_false hlen]
        exact iteF (no (by rw [eB, decide_eq_false hlen, Bool.false_and]))
theorem c_rulesV (B : Base K mg) (Ls : Cal P w K mg base 1 "is_list" spListV) (Ru : Cal P w K mg base 2 "is_rule" spRuleV) (On : Cal P w K mg base 1 "is_at_most_one" spOneV) (D : DefT K mg "are_rules" sRulesP ["rules", "days", "names"]) : Cal P w K mg base 3 "are_rules" spRulesV := by
  obtain ⟨tR, hR⟩ := B.mostR
  refine cal D scRulesP (fun vs H Q E h => ?_) (fun f cdv A outer s H vs Q E hr h => ?_)
  · obtain ⟨v, n, d, ns, rfl, _⟩ := h
    rfl
  · obtain ⟨v, n, d, ns, rfl, lv, hn, hn8, k⟩ := h
    have hz : sizeLine = 16777216 := by decide
    refine ⟨_, (pss_cons (ps_if (PW.pt (pw_or (pt_not (pt_val (pe_cl Ls hr (by decide) (by rfl) (pa_cons (pv 0) (pa_cons pe_int (pa_cons (pe_glob (v := .int 4) rfl hR ⟨_, rfl⟩) pa_nil)))))) (pw_or1 (pt_not (pt_val (pe_callB (cr_all rfl) (by rfl) B.all (by decide +kernel) (pa_cons (pe_lc (own := [("row", 3)]) (g := (gName 3)) (tt := tYes) rfl scRulesP.nd (pi_list (pv 0)) (blkOk_by (N := nRulesP) (sc := defScope sRulesP) (by decide +kernel)) (fun _ _ _ _ _ => (pg_name (i := 3) scRulesP.nd rfl (by first | exact Or.inl rfl | exact Or.inr rfl))) (fun _ _ _ _ _ => pts_nil) (fun _ _ _ _ _ => (pe_cl Ru hr (by decide) (by rfl) (pa_cons (pv 3) (pa_cons (pv 1) (pa_cons (pv 2) pa_nil)))))) pa_nil))))))) (pss_one (ps_ret pe_bl)) pss_nil)
        (pss_one (ps_ret (pe_callB (cr_all rfl) (by rfl) B.all (by decide +kernel) (pa_cons (pe_lc (own := [("name", 4)]) (g := (gName 4)) (tt := tYes) rfl scRulesP.nd (pi_list (pv 2)) (blkOk_by (N := nRulesP) (sc := defScope sRulesP) (by decide +kernel)) (fun _ _ _ _ _ => (pg_name (i := 4) scRulesP.nd rfl (by first | exact Or.inl rfl | exact Or.inr rfl))) (fun _ _ _ _ _ => pts_nil) (fun _ _ _ _ _ => (pe_cl On hr (by decide) (by rfl) (pa_cons (pv 0) (pa_cons (pv 4) pa_nil))))) pa_nil))))), ?_⟩
    have no : rulesB H d ns v = false → ∀ H', Same H H' → Q (.bl false) H' := fun e H' s' => by
      have := k H' s'
      rw [e] at this
      exact this
    refine ⟨_, rfl, v, 0, 4, rfl, lv.1, _, rfl, ?_⟩
    cases e : lstOf H v with
    | none =>
      rw [show listB H 0 4 v = false by unfold listB; rw [e]]
      exact iteT (no (by unfold rulesB; rw [e]) _ (Same.refl _))
    | some xs =>
      obtain ⟨l, rfl, hl⟩ := of_lst e
      have rows := lv.2 xs e
      have eB : rulesB H d ns (.ref l) = (decide (0 ≤ (xs.length : Int) ∧ (xs.length : Int) ≤ 4) && xs.all (rulB H d ns) && ns.all (oneB H xs)) := by unfold rulesB; rw [e]
      rw [show listB H 0 4 (.ref l) = decide (0 ≤ (xs.length : Int) ∧ (xs.length : Int) ≤ 4) by unfold listB; rw [e]]
      by_cases hlen : 0 ≤ (xs.length : Int) ∧ (xs.length : Int) ≤ 4
      · rw [decide_eq_true hlen]
        rw [decide_eq_true hlen, Bool.true_and] at eB
        refine iteF ⟨_, rfl, l, rfl, ⟨_, SqL.of hl⟩, fun D hD => lc_it (walk_list (xs := xs)) (fun i H' => Same H H' ∧ H' D = some (.lst (((xs.take i).map (rulB H d ns)).map V.bl))) ⟨same_new hD, upd_same⟩ (fun i H' _ p => SqL.of (p.1 _ _ hl)) ?_ ?_⟩
        · rintro i x H1 H2 hi ⟨s1, d1⟩ ⟨rfl, hx⟩
          have rx := rows x (List.mem_of_getElem? hx)
          refine ⟨rfl, yes (iteT ⟨_, rfl, _, rfl, _, rfl, x, n, d, ns, rfl, rx.same s1, s1 _ _ hn, _, d1, ?_, ?_, ?_⟩)⟩
          · rw [List.length_map, List.length_map, List.length_take]
            omega
          · intro b o e'
            rw [upd_ne (ne_of_none e' hD)]
            exact s1 _ _ e'
          · rw [upd_same, take_more hx, List.map_append, List.map_append, rulB_same rx.1 s1]
            rfl
        · rintro H1 ⟨s1, d1⟩
          refine ⟨D, (xs.take xs.length).map (rulB H d ns), rfl, SqL.of d1, _, rfl, ?_⟩
          have ea : ((xs.take xs.length).map (rulB H d ns)).all id = xs.all (rulB H d ns) := by rw [List.take_length, List.all_map]; rfl
          rw [ea]
          cases hr4 : xs.all (rulB H d ns) with
          | false => exact iteT (no (by rw [eB, hr4, Bool.false_and]) _ s1)
          | true =>
            rw [hr4, Bool.true_and] at eB
            obtain ⟨ts, ets, ps, oks⟩ := rul_rows hr4
            have R1 : RowsAt H l ts ((xs.map (rwOf H)).map rv) := ⟨by rw [hl, ets], ps⟩
            have hb : ∀ r ∈ xs.map (rwOf H), (0 ≤ r.2.1 ∧ r.2.1 ≤ 1000) ∧ 1 ≤ r.2.2.1 ∧ r.2.2.1 ≤ 1000 := fun r hr' => by
              obtain ⟨_, a1, a2, _⟩ := oks r hr'
              omega
            refine iteF ⟨_, rfl, n, rfl, ⟨_, SqL.of (s1 _ _ hn)⟩, fun D2 hD2 => lc_it (walk_list (xs := ns.map V.str)) (fun i H' => Same H1 H' ∧ H' D2 = some (.lst (((ns.take i).map (oneB H xs)).map V.bl))) ⟨same_new hD2, upd_same⟩ (fun i H' _ p => SqL.of (p.1 _ _ (s1 _ _ hn))) ?_ ?_⟩
            · rintro i x H2 H3 hi ⟨s2, d2⟩ ⟨rfl, hx⟩
              obtain ⟨z, hzz, rfl⟩ : ∃ z, ns[i]? = some z ∧ x = V.str z := by
                rw [List.getElem?_map] at hx
                cases q : ns[i]? with
                | none => rw [q] at hx; cases hx
                | some z => rw [q] at hx; exact ⟨z, rfl, (Option.some.inj hx).symm⟩
              refine ⟨rfl, yes (iteT ⟨_, rfl, _, rfl, l, ts, z, _, rfl, R1.same (s1.trans s2), hb, _, d2, ?_, ?_, ?_⟩)⟩
              · rw [List.length_map, List.length_map, List.length_take]
                omega
              · intro b o e'
                rw [upd_ne (ne_of_none e' hD2)]
                exact s2 _ _ e'
              · rw [upd_same, take_more hzz, List.map_append, List.map_append]
                rfl
            · rintro H2 ⟨s2, d2⟩
              refine ⟨D2, (ns.take (ns.map V.str).length).map (oneB H xs), rfl, SqL.of d2, ?_⟩
              have eo : ((ns.take (ns.map V.str).length).map (oneB H xs)).all id = ns.all (oneB H xs) := by rw [List.length_map, List.take_length, List.all_map]; rfl
              rw [eo]
              have := k H2 (s1.trans s2)
              rw [eB] at this
              exact this
      · rw [decide_eq_false hlen]
        exact iteT (no (by rw [eB, decide_eq_false hlen, Bool.false_and, Bool.false_and]) _ (Same.refl _))
end
end KP
namespace KP
open PySem L2 KD
/-! ### isinstance of the error that a suite holds -/
def rIsX (K : PySem.W.Frag) (cls : Value) (d : Option Addr) (a : Addr) : List V → Hp → VK → Prop := fun xs H Q => ∃ (D : Addr) (c : V) (u : Value) (b : Bool), cls = .ref D ∧ d = none ∧ ExcC K D ∧ xs = [.ref a, c] ∧ ClsV c u ∧ PySem.W.kitOne K (.ref D) u = some b ∧ Q (.bl b) H
def rIsXT (K : PySem.W.Frag) (cls : Value) (d : Option Addr) (a : Addr) : List V → Hp → VK → Prop := fun xs H Q => ∃ (D tp : Addr) (cs : List V) (ws : List Value) (b : Bool), cls = .ref D ∧ d = none ∧ ExcC K D ∧ xs = [.ref a, .ref tp] ∧ H tp = some (.tup cs) ∧ Paired ClsV cs ws ∧ PySem.W.kitAny K (.ref D) ws = some b ∧ Q (.bl b) H
section
variable {X : Cx} {a : Addr} {oe : Obj} {pn : List (Addr × Obj)} {cls : Value} {d : Option Addr}
theorem inst_of {D : Addr} {pins : List (Addr × Obj)} {σ : L2.St} {H : Hp} {s : Shared} (hz : Zc (.ref D) none oe) (hf : ∃ vs, oe.data = .fields vs) (I : Inv (X.suite a ((a, oe) :: pn)) pins σ H s) : PySem.W.InstAt s.heap a oe D none := by
  obtain ⟨hget, _⟩ := I.pin (a, oe) (List.mem_append.mpr (.inl List.mem_cons_self))
  obtain ⟨vs, hv⟩ := hf
  obtain ⟨oc, od, oda, osl⟩ := oe
  obtain ⟨h1, h2⟩ := hz
  dsimp only at h1 h2 hv
  subst h1 h2 hv
  exact ⟨hget, rfl, rfl, trivial⟩
theorem call_isX (hz : Zc cls d oe) (hf : ∃ vs, oe.data = .fields vs) : CallR (X.suite a ((a, oe) :: pn)) (.builtin "isinstance") (rIsX X.K cls d a) := by
  intro pins s σ H xs us Q I r h
  obtain ⟨D, c, u, b, rfl, rfl, C, rfl, k, e, q⟩ := h
  obtain ⟨u1, u2, rfl, r1, r2⟩ := vals2 r
  have e2 := k.eq r2
  subst e2
  cases (show u1 = Value.ref a from r1)
  exact PySem.W.kia_one (PySem.W.handS_kitx_exc C.hg C.hk C.hs C.hd C.ha C.hn C.ht C.hm) I.kIn (inst_of hz hf I) e (fun z => nomatch z) fun tk => ⟨.bl b, H, I.tok tk, rfl, q⟩
theorem call_isXT (hz : Zc cls d oe) (hf : ∃ vs, oe.data = .fields vs) : CallR (X.suite a ((a, oe) :: pn)) (.builtin "isinstance") (rIsXT X.K cls d a) := by
  intro pins s σ H xs us Q I r h
  obtain ⟨D, tp, cs, ws, b, rfl, rfl, C, rfl, hT, k, e, q⟩ := h
  obtain ⟨u1, u2, rfl, r1, r2⟩ := vals2 r
  cases (show u2 = Value.ref tp from r2)
  cases (show u1 = Value.ref a from r1)
  obtain ⟨_, its, rv, o, h1, h2, n, h3⟩ := (show ObjOk X.prog X.w H s.heap tp (.tup cs) from I.hok tp _ hT)
  have e3 := ClsV.all k rv
  subst e3
  obtain ⟨oc, od, dt, sl⟩ := o
  simp only at h2 h3
  subst h2 h3
  exact PySem.W.kia_tup (PySem.W.handS_kitx_exc C.hg C.hk C.hs C.hd C.ha C.hn C.ht C.hm) I.kIn (inst_of hz hf I) h1 e (fun z => nomatch z) fun tk => ⟨.bl b, H, I.tok tk, rfl, q⟩
end
structure ErrAll (K : PySem.W.Frag) (mg : Str → Option Value) (Cn Cp : Addr) (cs : Nat → Addr) : Prop where
  m0 : mg "Full" = some (.ref (cs 0))
  m1 : mg "Leaned" = some (.ref (cs 1))
  m2 : mg "NoDay" = some (.ref (cs 2))
  m3 : mg "NoEntry" = some (.ref (cs 3))
  m4 : mg "NoHead" = some (.ref (cs 4))
  m5 : mg "NoNumber" = some (.ref (cs 5))
  m6 : mg "NoPromise" = some (.ref (cs 6))
  m7 : mg "NoRow" = some (.ref (cs 7))
  m8 : mg "NoText" = some (.ref (cs 8))
  m9 : mg "Passed" = some (.ref (cs 9))
  m10 : mg "Taken" = some (.ref (cs 10))
  kit : ∀ i < 11, PySem.W.kitOne K (.ref Cn) (.ref (cs i)) = some false
  kitN : PySem.W.kitOne K (.ref Cn) (.ref Cn) = some true
  kitV : PySem.W.kitOne K (.ref Cn) (.type "ValueError") = some true
  exc : ExcC K Cn
  mP : mg "PurseError" = some (.ref Cp)
  exm : PySem.W.exmOne K (.ref Cn) (.ref Cp) = some true
  ve : mg "ValueError" = none
theorem kitAny_no {K : PySem.W.Frag} {t : Value} : ∀ {ws : List Value}, (∀ u ∈ ws, PySem.W.kitOne K t u = some false) → PySem.W.kitAny K t ws = some false
  | [], _ => rfl
  | u :: ws, h => by
    unfold PySem.W.kitAny
    rw [h u (by simp)]
    exact kitAny_no fun u' hu => h u' (by simp [hu])
def nsOf (H : Hp) (h : V) : List Str := match lstOf H h with
  | some xs => xs.map (nmOf H)
  | none => []
def yearB (H : Hp) (d h l r : V) : Bool := match d with
  | .int dd => decide (1 ≤ dd ∧ dd ≤ 30) && headsB H h && limsB H dd (nsOf H h) l && rulesB H dd (nsOf H h) r
  | _ => false
def spYearB (C Cn : Addr) : Sp := fun vs H _ E => ∃ (p dx : Addr) (d h l r : V), vs = [.ref p, d, h, l, r] ∧ H p = some (.ins C dx []) ∧ Th H d ∧ LstV H h ∧ LstV H l ∧ LstV H r ∧ yearB H d h l r = false ∧ ∀ H', Same H H' → E (.ref Cn) none H'
theorem heads_rows {H : Hp} : ∀ {xs : List V} {ahead : List Str}, headsGo H ahead xs = true → ∀ x ∈ xs, ∃ z up, tupOf H x = some [.str z, up] ∧ nmOf H x = z
  | [], _, _, _, h => nomatch h
  | x :: xs, ahead, hg, y, hy => by
    rw [headsGo, Bool.and_eq_true] at hg
    rcases List.mem_cons.mp hy with rfl | hy
    · have h1 := hg.1
      unfold headB at h1
      split at h1
      · rename_i nm up e
        simp only [Bool.and_eq_true] at h1
        cases nm with
        | str z => exact ⟨z, up, e, by unfold nmOf; rw [e]⟩
        | _ => cases h1.1.1
      · cases h1
    · exact heads_rows hg.2 y hy
theorem headsB_same {H H' : Hp} {v : V} (lv : LstV H v) (s : Same H H') : headsB H' v = headsB H v := by
  unfold headsB
  rw [lstOf_same lv.1 s]
  cases e : lstOf H v with
  | none => rfl
  | some xs =>
    have go : ∀ (ys : List V) (ahead : List Str), (∀ y ∈ ys, RowV H y) → headsGo H' ahead ys = headsGo H ahead ys := by
      intro ys
      induction ys with
      | nil => intro _ _; rfl
      | cons y ys ih =>
        intro ahead hr
        have ry := (hr y (by simp)).1
        have e1 : headB H' ahead y = headB H ahead y := by unfold headB; rw [tupOf_same ry s]
        have e2 : nmOf H' y = nmOf H y := by unfold nmOf; rw [tupOf_same ry s]
        rw [headsGo, headsGo, e1, e2, ih _ (fun z hz => hr z (by simp [hz]))]
    show (_ && headsGo H' [] xs) = (_ && headsGo H [] xs)
    rw [go xs [] (lv.2 xs e)]
theorem nsOf_same {H H' : Hp} {v : V} (lv : LstV H v) (s : Same H H') : nsOf H' v = nsOf H v := by
  unfold nsOf
  rw [lstOf_same lv.1 s]
  cases e : lstOf H v with
  | none => rfl
  | some xs => exact List.map_congr_left fun y hy => by unfold nmOf; rw [tupOf_same (lv.2 xs e y hy).1 s]
theorem limsB_same {H H' : Hp} {d : Int} {ns : List Str} {v : V} (lv : LstV H v) (s : Same H H') : limsB H' d ns v = limsB H d ns v := by
  unfold limsB
  rw [lstOf_same lv.1 s]
  cases e : lstOf H v with
  | none => rfl
  | some xs =>
    have : xs.all (limB H' d ns) = xs.all (limB H d ns) := by
      have key : ∀ ys : List V, (∀ y ∈ ys, RowV H y) → ys.all (limB H' d ns) = ys.all (limB H d ns) := by
        intro ys
        induction ys with
        | nil => intro _; rfl
        | cons y ys ih => intro hr; rw [List.all_cons, List.all_cons, limB_same (hr y (by simp)).1 s, ih (fun z hz => hr z (by simp [hz]))]
      exact key xs (lv.2 xs e)
    show (_ && xs.all (limB H' d ns)) = (_ && xs.all (limB H d ns))
    rw [this]
theorem rulesB_same {H H' : Hp} {d : Int} {ns : List Str} {v : V} (lv : LstV H v) (s : Same H H') : rulesB H' d ns v = rulesB H d ns v := by
  unfold rulesB
  rw [lstOf_same lv.1 s]
  cases e : lstOf H v with
  | none => rfl
  | some xs =>
    have rows := lv.2 xs e
    have k1 : ∀ ys : List V, (∀ y ∈ ys, RowV H y) → ys.all (rulB H' d ns) = ys.all (rulB H d ns) := by
      intro ys
      induction ys with
      | nil => intro _; rfl
      | cons y ys ih => intro hr; rw [List.all_cons, List.all_cons, rulB_same (hr y (by simp)).1 s, ih (fun z hz => hr z (by simp [hz]))]
    have k2 : xs.map (rwOf H') = xs.map (rwOf H) := List.map_congr_left fun y hy => by unfold rwOf; rw [tupOf_same (rows y hy).1 s]
    have k3 : oneB H' xs = oneB H xs := by funext x; unfold oneB; rw [k2]
    show (_ && xs.all (rulB H' d ns) && ns.all (oneB H' xs)) = (_ && xs.all (rulB H d ns) && ns.all (oneB H xs))
    rw [k1 xs rows, k3]
section
open PySem.Spec PyProof.Rows
variable {X : Cx} {k j : Nat} {x : Str} {C : Addr} {sp : Sp} {p pos : Pos} {e : Expr} {es : List Expr} {t : TA} {E : L2.St → XK}
/-- a class made where errors are awaited by slots -/
def tMakS (C : Addr) (sp : Sp) (E : L2.St → XK) (t : TA) : TE := fun σ H Q => t σ H fun vs H1 => ∀ x dx, H1 x = none → H1 dx = none → dx ≠ x → sp (.ref x :: vs) (upd (upd H1 dx (.own x)) x (.ins C dx [])) (fun v H2 => v = .non ∧ Q (.ref x) H2) (E σ)
theorem pe_mkXS (c : MakX X.prog X.w X.K X.mg X.base k x C sp) (hr : Room j X.A) (hk : k + 1 ≤ j) (hx : ∀ σ, PassesAt (L2.CX X.prog X.w) X σ (E σ)) (hg : Gl X x) (ha : PA X (e :: es) t)
    (hdb : (x == ("__debug__" : Str)) = false := by decide) (he : starEach (e :: es) X.env = (false, eval e X.env) :: starEach es X.env := by rfl) (hpl : (backTo pos (starEach es X.env)).any (·.1) = false := by rfl) :
    PE X (.Call (.Name x p) (e :: es) [] pos) (tMakS C sp E t) := by
  obtain ⟨f, fd, ps, M, F, m, b⟩ := c.ex
  have hr1 := hr.mono hk
  refine ⟨fun pins s σ H Q I h => wpAny_Call_Name_kw (ld_glob I hg m ?_ hdb)⟩
  refine PySem.W.callWith_K (h₀ := X.base) I.ok.mod.kin M.kp (thn (ha.run pos pins s σ H _ I h) fun us s1 ⟨vs, H1, I1, r, q⟩ => ⟨I1.kIn, ?_⟩) he hpl
  have nA : H1 s1.heap.objs.size = none := I1.hok.fresh (Nat.le_refl _)
  have nB : H1 (s1.heap.objs.size + 1) = none := I1.hok.fresh (Nat.le_succ _)
  have q0 := q _ _ nB nA (Nat.ne_of_lt (Nat.lt_succ_self _))
  have J := Inv.made (C := C) I1
  have rv : Vals (V.ref (s1.heap.objs.size + 1) :: vs) (Value.ref (s1.heap.objs.size + 1) :: us) := .cons rfl r
  have hl : (Value.ref (s1.heap.objs.size + 1) :: us).length = ps.length := by rw [← rv.length]; exact F.len _ _ _ _ q0
  have bb := b _ (Value.ref (s1.heap.objs.size + 1) :: us) J.kIn (by rw [List.append_nil]; exact hl)
  rw [List.append_nil] at bb
  refine wpAny_call (make_map (f := f) I1.kIn M.makes M.init (beq_iff_eq.mp M.fn) (codeAny_mono (F.run _ X.stack _ _ ⟨Value.ref (s1.heap.objs.size + 1) :: us, []⟩ _ _ _ (E σ) (hr1.make C us []) (J.env0.make C us []) bb rv q0) fun z s' hz => ?_))
  cases z with
  | error e => exact hx σ pins _ _ e s' J hz
  | ok fl =>
    cases fl with
    | ret u =>
      obtain ⟨v, H', J', rr, ev, q3⟩ := J.after hz
      subst ev
      exact ⟨rr, ⟨V.ref (s1.heap.objs.size + 1), H', J', rfl, q3⟩⟩
    | next => exact hz.elim
    | brk => exact hz.elim
    | cont => exact hz.elim
end
section
variable {P : Program} {w : World} {K : PySem.W.Frag} {mg : Str → Option Value} {base : Heap} {C Cn Cp : Addr} {cs : Nat → Addr}
theorem c_yearB (B : Base K mg) (T : YearF K mg C) (N : ErrF K mg "NoYear" Cn) (Wh : Cal P w K mg base 1 "is_whole" spWholeV) (Hs : Cal P w K mg base 2 "are_heads" spHeadsV) (Lm : Cal P w K mg base 3 "are_limits" spLimitsV) (Rl : Cal P w K mg base 3 "are_rules" spRulesV)
    (D : InitT K C "Year.__init__" sYI ["self", "days", "heads", "limits", "rules"]) : MakX P w K mg base 4 "Year" C (spYearB C Cn) := by
  obtain ⟨tD, hD⟩ := B.mostD
  obtain ⟨f, fd, M, F, b⟩ := D.ex
  refine ⟨f, fd, _, M, F.okX scYI (fun vs H Q E h => ?_) (fun cdv A outer s H vs Q E hr h => ?_), T.mgC, b⟩
  · obtain ⟨p, dx, d, h, l, r, rfl, _⟩ := h
    rfl
  · obtain ⟨p, dx, d, h, l, r, rfl, hp, td, lh, ll, lr, hB, k⟩ := h
    have hz : sizeLine = 16777216 := by decide
    refine ⟨_, (pss_cons (ps_if (pt_not (pt_val (pe_cl Wh hr (by decide) (by rfl) (pa_cons (pv 1) (pa_cons pe_int (pa_cons (pe_glob (v := .int 30) rfl hD ⟨_, rfl⟩) pa_nil)))))) (pss_one (ps_raise rfl (takes_of rfl rfl rfl rfl) (pmk_own PySem.F.excBase_ValueError N.x N.g N.k (raises_own N.b N.t) rfl))) pss_nil)
        (pss_cons (ps_if (pt_not (pt_val (pe_cl Hs hr (by decide) (by rfl) (pa_cons (pv 2) pa_nil)))) (pss_one (ps_raise rfl (takes_of rfl rfl rfl rfl) (pmk_own PySem.F.excBase_ValueError N.x N.g N.k (raises_own N.b N.t) rfl))) pss_nil)
        (pss_cons (ps_setLc (i := 5) (own := [("row", 6)]) (g := (gName 6)) (tt := tYes) (te := tOp (rIxT K) (tVar 6) (tC (.int 0))) rfl scYI.nd rfl (by first | rfl | decide +kernel) (sw_true rfl (by first | rfl | decide +kernel) rfl (by decide +kernel)) (pi_list (pv 2)) (blkOk_by (N := nYI) (sc := defScope sYI) (by decide +kernel)) (fun _ _ _ _ _ => (pg_name (i := 6) scYI.nd rfl (by first | exact Or.inl rfl | exact Or.inr rfl))) (fun _ _ _ _ _ => pts_nil) (fun _ _ _ _ _ => (pe_ix ix_tup (pv 6) pe_int (fun _ _ => rfl))))
        (pss_cons (ps_if (pt_not (pt_val (pe_cl Lm hr (by decide) (by rfl) (pa_cons (pv 3) (pa_cons (pv 1) (pa_cons (pv 5) pa_nil)))))) (pss_one (ps_raise rfl (takes_of rfl rfl rfl rfl) (pmk_own PySem.F.excBase_ValueError N.x N.g N.k (raises_own N.b N.t) rfl))) pss_nil)
        (pss_cons (ps_if (pt_not (pt_val (pe_cl Rl hr (by decide) (by rfl) (pa_cons (pv 4) (pa_cons (pv 1) (pa_cons (pv 5) pa_nil)))))) (pss_one (ps_raise rfl (takes_of rfl rfl rfl rfl) (pmk_own PySem.F.excBase_ValueError N.x N.g N.k (raises_own N.b N.t) rfl))) pss_nil)
        (pss_cons ps_never
        (pss_cons ps_never
        (pss_cons ps_never
        (pss_one ps_never))))))))), ?_⟩
    refine ⟨_, rfl, d, 1, 30, rfl, td, _, rfl, ?_⟩
    cases hd : wholeV 1 30 d with
    | false => exact iteT (k _ (Same.refl _))
    | true =>
      obtain ⟨dd, rfl⟩ : ∃ i, d = .int i := by
        cases d with
        | int i => exact ⟨i, rfl⟩
        | _ => cases hd
      have eB : yearB H (.int dd) h l r = (headsB H h && limsB H dd (nsOf H h) l && rulesB H dd (nsOf H h) r) := by
        show (decide (1 ≤ dd ∧ dd ≤ 30) && headsB H h && limsB H dd (nsOf H h) l && rulesB H dd (nsOf H h) r) = _
        rw [show decide (1 ≤ dd ∧ dd ≤ 30) = true from hd, Bool.true_and]
      rw [eB] at hB
      refine iteF ⟨_, rfl, h, rfl, lh, fun H1 s1 => ⟨_, rfl, ?_⟩⟩
      cases hh : headsB H h with
      | false => exact iteT (k _ s1)
      | true =>
        rw [hh, Bool.true_and] at hB
        refine iteF ?_
        unfold headsB at hh
        cases e : lstOf H h with
        | none => rw [e] at hh; cases hh
        | some xs =>
          rw [e] at hh
          have hh2 := (Bool.and_eq_true _ _).mp hh
          have h8 := of_decide_eq_true hh2.1
          obtain ⟨a, rfl, ha⟩ := of_lst e
          have rows := heads_rows hh2.2
          have en : nsOf H (.ref a) = xs.map (nmOf H) := by unfold nsOf; rw [e]
          rw [en] at hB
          refine ⟨_, rfl, a, rfl, ⟨_, SqL.of (s1 _ _ ha)⟩, fun D2 hD2 => lc_it (walk_list (xs := xs)) (fun i H' => H' = upd H1 D2 (.lst (((xs.map (nmOf H)).take i).map V.str))) rfl (fun i H' _ e => by rw [e]; exact SqL.of (same_new hD2 _ _ (s1 _ _ ha))) ?_ ?_⟩
          · rintro i v H2 H3 hi rfl ⟨rfl, hv⟩
            obtain ⟨z, up, et, enm⟩ := rows v (List.mem_of_getElem? hv)
            obtain ⟨t, rfl, ht⟩ := of_tup et
            refine ⟨rfl, yes (iteT ⟨_, rfl, t, _, 0, .str z, rfl, rfl, SqT.of (same_new hD2 _ _ (s1 _ _ ht)), rfl, _, upd_same, ?_, ?_⟩)⟩
            · rw [List.length_map, List.length_take, List.length_map]
              omega
            · have hg : (xs.map (nmOf H))[i]? = some z := by rw [List.getElem?_map, hv]; show some (nmOf H (.ref t)) = _; rw [enm]
              rw [upd_upd, take_more hg, List.map_append]
              rfl
          · rintro H2 rfl
            have el : (xs.map (nmOf H)).take xs.length = xs.map (nmOf H) := List.take_of_length_le (by rw [List.length_map]; exact Nat.le_refl _)
            rw [el]
            have s2 : Same H (upd H1 D2 (.lst ((xs.map (nmOf H)).map V.str))) := s1.trans (same_new hD2)
            have hn2 : upd H1 D2 (.lst ((xs.map (nmOf H)).map V.str)) D2 = some (.lst ((xs.map (nmOf H)).map V.str)) := upd_same
            generalize upd H1 D2 (.lst ((xs.map (nmOf H)).map V.str)) = H2 at s2 hn2
            have nl8 : (xs.map (nmOf H)).length ≤ 8 := by rw [List.length_map]; omega
            generalize xs.map (nmOf H) = ns at hB hn2 nl8
            refine ⟨_, rfl, _, rfl, _, rfl, l, D2, dd, ns, rfl, ll.same s2, hn2, fun H3 s3 => ⟨_, rfl, ?_⟩⟩
            rw [limsB_same ll s2]
            have s3' := s2.trans s3
            cases hL : limsB H dd ns l with
            | false => exact iteT (k _ s3')
            | true =>
              rw [hL, Bool.true_and] at hB
              refine iteF ⟨_, rfl, _, rfl, _, rfl, r, D2, dd, ns, rfl, lr.same s3', s3 _ _ hn2, ?_, fun H4 s4 => ⟨_, rfl, ?_⟩⟩
              · exact nl8
              · rw [rulesB_same lr s3', hB]
                exact iteT (k _ (s3'.trans s4))
end
end KP
/-! the statement match over a tuple: cases whose first part is a written text and whose other parts are names -/
namespace KM
open PySem PySem.Spec PyProof.Rows L2
/-- the patterns ps, each a bare name of ns in turn -/
structure Caps (env : Env) (ps : List Pattern) (ns : List Str) : Prop where
  run : ∀ {M : Model} {A : Around} {E : Value → Shared → Prop} (us : List Value) (s : Shared) (Q : Option (List (Str × Value)) → Shared → Prop), us.length = ns.length → Q (some (ns.zip us)) s → wpAny M A (matchEach ps env us) Q E s
theorem caps_nil {env : Env} : Caps env [] [] := ⟨fun us s Q hl h => by
  cases us with
  | nil => exact wpAny_matchEach_nil h
  | cons u r => exact absurd hl (by simp)⟩
theorem caps_cons {env : Env} {n : Str} {pos : Pos} {ps : List Pattern} {ns : List Str} (c : Caps env ps ns) : Caps env (.MatchAs none (some n) pos :: ps) (n :: ns) := ⟨fun us s Q hl h => by
  cases us with
  | nil => exact absurd hl (by simp)
  | cons u r =>
    refine wpAny_matchEach_cons (wpAny_matchPattern_Capture ?_)
    refine c.run r s _ (by simpa using hl) ?_
    exact h⟩
/-- the slots js take the values vs in turn -/
def setAll : L2.St → List Nat → List V → L2.St
  | σ, j :: js, v :: vs => setAll (σ.set j (some v)) js vs
  | σ, _, _ => σ
structure Stor (X : Cx) (ns : List Str) (js : List Nat) : Prop where
  run : ∀ {M : Model} {A : Around} {E : Value → Shared → Prop} (pins : List (Addr × Obj)) (s : Shared) (σ : L2.St) (H : Hp) (vs : List V) (us : List Value) (Q : Unit → Shared → Prop), Inv X pins σ H s → Vals vs us → us.length = ns.length →
    (∀ s', Inv X pins (setAll σ js vs) H s' → Q () s') → wpAny M A (assignInOrder ((ns.zip us).map fun (n, _) => bindName X.env n) ((ns.zip us).map (·.2))) Q E s
theorem stores_nil {X : Cx} : Stor X [] [] := ⟨fun pins s σ H vs us Q I r hl h => by
  cases r with
  | nil => exact wpAny_assignInOrder_none (h s I)
  | cons r t => exact absurd hl (by simp)⟩
theorem stores_cons {X : Cx} {i : Nat} {x : Str} {ns : List Str} {js : List Nat} (hN : X.N.Nodup) (c : Stor X ns js) (hi : X.N[i]? = some x) (hx : Loc X.env.scope x)
    (hf : X.fn x = true ∨ X.env.scope.names.lookup x = some .local := by first | exact .inl rfl | exact .inr rfl | assumption) : Stor X (x :: ns) (i :: js) := ⟨fun pins s σ H vs us Q I r hl h => by
  cases r with
  | nil => exact absurd hl (by simp)
  | cons r t =>
    refine wpAny_assignInOrder_more (wpAny_bindName (store_ok I hN hi hx r (fun s' I' => ?_) hf))
    exact c.run pins s' _ H _ _ Q I' t (by simpa using hl) h⟩
/-- the cases, of a subject's value -/
structure PM (X : Cx) (cs : List MatchCase) (t : V → TS) : Prop where
  run : ∀ (first : Bool) (pins : List (Addr × Obj)) (s : Shared) (σ : L2.St) (H : Hp) (D : Ends) (v : V) (u : Value), Inv X pins σ H s → RelV v u → t v D σ H → wpAny (model X.prog X.w) X.A (matchCases cs X.env u first) (SP X pins D) X.xe s
def mNil : V → TS := fun _ D σ H => D.nx σ H
theorem pm_nil {X : Cx} : PM X [] mNil := ⟨fun _ _ s σ H _ _ _ I _ h => wpAny_matchCases_nil ⟨σ, H, I, h⟩⟩
/-- case ("k", a, b, ..): n names, r the rule of == -/
def mCase (K : PySem.W.Frag) (r : R2) (k : Str) (n : Nat) (js : List Nat) (tb : TS) (rest : V → TS) : V → TS := fun v D σ H => ∃ a xs, v = .ref a ∧ SqT K H a xs ∧
  ((xs.length ≠ n + 1 ∧ rest v D σ H) ∨ (xs.length = n + 1 ∧ ∃ y ys, xs = y :: ys ∧ r y (.str k) H fun z H1 => ∃ b, z = .bl b ∧ if b = true then tb D (setAll σ js ys) H1 else rest v D σ H1))
theorem pm_case {X : Cx} {r : R2} {k : Str} {j : Nat} {p1 p2 p3 : Pos} {ps : List Pattern} {ns : List Str} {js : List Nat} {n : Nat} {body : List Stmt} {cs : List MatchCase} {tb : TS} {rest : V → TS}
    (hc : X.calm = true) (ho : OpR X (compareOp .Eq) r) (hp : Caps X.env ps ns) (hs : Stor X ns js) (hb : PSs X body tb) (hr : PM X cs rest) (hn : ns.length = n := by rfl) (hpn : ps.length = n := by rfl)
    (hstar : (Pattern.MatchValue (.Constant (.str k) j p1) p2 :: ps).findIdx? (·.isStar) = none := by rfl)
    (hwild : ((Pattern.MatchValue (.Constant (.str k) j p1) p2 :: ps).all fun p => p.isWildcard || (p.isStar && p.names.isEmpty)) = false := by rfl) :
    PM X (⟨.MatchSequence (.MatchValue (.Constant (.str k) j p1) p2 :: ps) p3, none, body⟩ :: cs) (mCase X.K r k n js tb rest) := by
  refine ⟨fun first pins s σ H D v u I rv h => ?_⟩
  obtain ⟨a, xs, rfl, hq, h⟩ := h
  cases rv
  obtain ⟨its, rx, ht, hz⟩ := I.tuple hq
  have hsz : its.toArray.size = xs.length := by simp [rx.length]
  have hfit : ((its.toArray.size : Nat) : Int) < 2 ^ 63 := by
    have : xs.length ≤ sizeLine := hz
    have e : sizeLine = 16777216 := by decide
    omega
  refine wpAny_matchCases_cons ?_
  rcases h with ⟨hne, h⟩ | ⟨hlen, y, ys, rfl, h⟩
  · refine matchSeq_tuple_miss ht hfit (by rw [hsz, List.length_cons, hpn]; exact hne) ?_ hstar hwild
    exact hr.run false pins _ σ H D (.ref a) (.ref a) (I.tok _) rfl h
  · refine matchSeq_tuple_hit ht hfit (by rw [hsz, hlen]; show n + 1 = ps.length + 1; rw [hpn]) ?_ hstar hwild
    have I1 : Inv X pins σ H { s with toks := s.toks + 1 + 1 } := I.tok _
    have hl2 : (Pattern.MatchValue (.Constant (.str k) j p1) p2 :: ps).length = its.toArray.size := by rw [hsz, hlen]; show ps.length + 1 = n + 1; rw [hpn]
    rw [hl2]
    refine unpackItems_tuple (I.ok.hd hc) (show IsTup ({ s with toks := s.toks + 1 + 1 } : Shared).heap a its.toArray from ht) fun h' hx' => ?_
    have I2 := I1.kept (h' := h') (t' := s.toks + 1 + 1) fun b o e => hx' b o (Nat.ne_of_lt (Heap.lt_size e)) e
    cases rx with
    | @cons _ u0 _ us r0 rr =>
    show wpAny _ _ (matchEach _ _ (u0 :: us)) _ _ _
    refine wpAny_matchEach_cons (wpAny_matchPattern_Value (Calls.Constant_str ?_))
    have I3 := I2.tok (s.toks + 1 + 1 + 1)
    refine thn (ho pins _ σ H y (.str k) u0 _ _ I3 r0 ⟨_, rfl⟩ h) fun c s3 ⟨z, H1, I4, rz, q⟩ => ?_
    obtain ⟨b, rfl, q⟩ := q
    cases rz
    refine wpAny_truthy_bool ?_
    cases b with
    | false =>
      rw [if_neg Bool.false_ne_true]
      exact hr.run false pins _ σ H1 D (.ref a) (.ref a) I4 rfl q
    | true =>
      rw [if_pos rfl]
      have hul : us.length = ns.length := by
        have h1 := rr.length
        have h2 : ys.length = n := by simpa using hlen
        omega
      refine hp.run us _ _ hul ?_
      refine hs.run pins _ σ H1 ys us _ I4 rr hul fun s5 I5 => ?_
      exact hb.run pins s5 _ H1 D I5 q
def tMatch (te : TE) (t : V → TS) : TS := fun D σ H => te σ H fun v H1 => t v D σ H1
theorem ps_match {X : Cx} {e : Expr} {cs : List MatchCase} {pos : Pos} {te : TE} {t : V → TS} (he : PE X e te) (hm : PM X cs t) : PS X (.Match e cs pos) (tMatch te t) := by
  refine ⟨fun pins s σ H D I h => ?_⟩
  refine wpAny_Match (thn (he.run pins s σ H _ I h) fun v s1 ⟨x, H1, I1, r1, q1⟩ => ?_)
  exact hm.run true pins s1 σ H1 D x v I1 r1 q1
end KM
/-! unpacking with a star; match over a list -/
namespace KT
open PySem PySem.Spec PyProof.Rows L2 KM
section
variable {X : Cx} {pins : List (Addr × Obj)} {σ : L2.St} {H : Hp} {s : Shared}
theorem vals_take : ∀ {xs : List V} {us : List Value} (n : Nat), Vals xs us → Vals (xs.take n) (us.take n)
  | _, _, 0, _ => .nil
  | _, _, n + 1, .nil => .nil
  | _, _, n + 1, .cons a r => .cons a (vals_take n r)
theorem vals_drop : ∀ {xs : List V} {us : List Value} (n : Nat), Vals xs us → Vals (xs.drop n) (us.drop n)
  | _, _, 0, r => r
  | _, _, n + 1, .nil => .nil
  | _, _, n + 1, .cons a r => vals_drop n r
theorem vals_app : ∀ {xs ys : List V} {us ws : List Value}, Vals xs us → Vals ys ws → Vals (xs ++ ys) (us ++ ws)
  | _, _, _, _, .nil, r => r
  | _, _, _, _, .cons a q, r => .cons a (vals_app q r)
/-- a list taken apart around a star -/
theorem unpackStar {a : Addr} {xs : List V} {n i : Nat} {R : List Value → Shared → Prop} (hc : X.calm = true) (I : Inv X pins σ H s) (hq : SqL X.K H a xs) (hi : i < n) (hn : n ≤ xs.length + 1)
    (h : ∀ D us s', H D = none → Inv X pins σ (upd H D (.lst ((xs.drop i).take (xs.length + 1 - n)))) s' → Vals (xs.take i ++ [.ref D] ++ (xs.drop i).drop (xs.length + 1 - n)) us → R us s') :
    wpAny (model X.prog X.w) X.A (unpackItems (.ref a) n (some i)) R X.xe s := by
  obtain ⟨its, rv, pl, hz⟩ := I.list hq
  have hl : s.heap.IsList a its.toArray := by
    obtain ⟨o, m, e, c, d, q⟩ := pl
    exact ⟨o, e, c, m, q⟩
  have hlen : xs.length = its.length := rv.length
  have hh := I.ok.hd hc
  have hsz : its.toArray.size = its.length := by simp
  have hlt : a ≠ s.heap.objs.size := by obtain ⟨o, ho, _⟩ := hl; exact Nat.ne_of_lt (Heap.lt_size ho)
  unfold unpackItems
  refine wpAny_bind ?_
  unfold notIterableAtAll
  refine wpAny_bind (wpAny_specialOf hl.typeIs slot_list_iter.lookup ?_)
  refine wpAny_pure ?_
  simp only [Bool.false_eq_true, if_false]
  refine wpAny_bind (wpAny_holding (wpAny_pyIter_list hl ?_))
  refine wpAny_bind (wpAny_holding (PySem.W.kun_draw hlt i 0 _ _ ⟨_, Heap.get?_push_size _ rfl, rfl, rfl⟩ (hl.push _) (by omega) fun h₁ hit₁ hs₁ => ?_))
  have hl₁ : h₁.IsList a its.toArray := (hl.push _).extBut hs₁.extBut hlt
  rw [Nat.zero_add] at hit₁
  have hit₁' := hit₁
  obtain ⟨oi, hoi, _⟩ := hit₁'
  have hl₁' := hl₁
  obtain ⟨ol, hol, _⟩ := hl₁'
  rw [List.drop_zero]
  have hfl : (its.take i).length = i := by rw [List.length_take]; omega
  show wpAny _ _ (if (its.take i).length < i then _ else _) _ _ _
  rw [if_neg (by rw [hfl]; omega)]
  refine wpAny_bind (wpAny_holding (PySem.W.kun_collect (s := { s with heap := h₁ }) (T := "list_iterator") (.inr (.inr (.inl rfl))) (Walks.list (A := X.A.in1) hh s.heap.objs.size a hlt its.toArray) (fun j u st => st.1.typeIs) (k := i) (by omega) ⟨hit₁, hl₁⟩ (Heap.lt_size hoi) (Heap.lt_size hol) (fun h₂ tk hk => ?_) (by omega)))
  have hrl : (its.drop i).length = its.length - i := List.length_drop ..
  have hmid : (its.drop i).length - (n - 1 - i) = its.length + 1 - n := by rw [hrl]; omega
  show wpAny _ _ (if (its.drop i).length < n - 1 - i then _ else _) _ _ _
  rw [if_neg (by rw [hrl]; omega)]
  show wpAny _ _ (newList ((its.drop i).take ((its.drop i).length - (n - 1 - i))) >>= fun d => pure (its.take i ++ [d] ++ (its.drop i).drop ((its.drop i).length - (n - 1 - i)))) _ _ _
  rw [hmid]
  have he : ∀ b o, s.heap.get? b = some o → h₂.get? b = some o := fun b o e => hk b o (Nat.ne_of_lt (Heap.lt_size e)) (hs₁.extBut b o (Nat.ne_of_lt (Heap.lt_size e)) (Heap.get?_push_of_some _ e))
  have I2 : Inv X pins σ H { s with heap := h₂, toks := tk } := I.kept he
  have hf : H h₂.objs.size = none := I2.hok.fresh (Nat.le_refl _)
  have hlm : ((its.drop i).take (its.length + 1 - n)).length ≤ sizeLine := by
    rw [List.length_take, hrl]
    omega
  refine wpAny_bind (wpAny_newList (s := { s with heap := h₂, toks := tk }) (wpAny_pure ?_) hlm)
  refine h h₂.objs.size _ _ hf (I2.laid (t' := tk) (fun b u e => Heap.get?_push_of_some _ e) (Nat.le_refl _) ?_) ?_
  · refine ⟨?_, _, 0, ?_, Heap.get?_push_size _ rfl⟩
    · rw [List.length_take, List.length_drop]
      omega
    · rw [hlen]
      exact vals_take _ (vals_drop _ rv)
  · rw [hlen]
    exact vals_app (vals_app (vals_take _ rv) (.cons rfl .nil)) (vals_drop _ (vals_drop _ rv))
end
section
variable {X : Cx} {pos : Pos}
/-- (.., *a, ..) = a list: n targets, the star's at i -/
def gStar (K : PySem.W.Frag) (n i : Nat) (t : TGs) : TG := fun v σ H Q => ∃ a xs, v = .ref a ∧ SqL K H a xs ∧ n ≤ xs.length + 1 ∧ ∀ D, H D = none → t (xs.take i ++ [.ref D] ++ (xs.drop i).drop (xs.length + 1 - n)) σ (upd H D (.lst ((xs.drop i).take (xs.length + 1 - n)))) Q
theorem pg_star {es : List Expr} {k : Nat} {t : TGs} {n i : Nat} (hc : X.calm = true) (h : PGs X es t)
    (hn : (assignEach es X.env).length = n := by rfl) (hst : (assignEach es X.env).findIdx? (·.1) = some i := by rfl) (hi : i < n := by decide) : PG X (.Tuple es k pos) (gStar X.K n i t) := by
  refine ⟨fun pins s σ H v u Q I r hw => ?_⟩
  obtain ⟨a, xs, e1, hq, hl, hw⟩ := hw
  subst e1
  cases r
  rw [PyProof.Rows.assign_Tuple]
  refine wpAny_bind (wpAny_standAt ?_)
  unfold unpack
  rw [hn, hst]
  refine wpAny_bind (wpAny_holding (unpackStar hc I hq hi hl fun D us s' hD I' r' => ?_))
  exact h.run pins _ σ _ _ _ Q I' r' (hw D hD)
/-- a starred target among others -/
theorem pgs_star {e : Expr} {p : Pos} {es : List Expr} {t : TG} {u : TGs} (h1 : PG X e t) (h2 : PGs X es u) : PGs X (.Starred e p :: es) (gCons t u) := by
  refine ⟨fun pins s σ H vs us Q I r h => ?_⟩
  obtain ⟨v, vr, e1, h⟩ := h
  subst e1
  cases r with
  | cons r rr =>
    show wpAny _ _ (assignInOrder (assign e X.env :: (assignEach es X.env).map (·.2)) _) _ _ _
    refine assignInOrder_cons (thn (h1.run pins s σ H _ _ _ I r h) fun _ s1 ⟨σ1, H1, I1, q1⟩ => ?_)
    exact h2.run pins s1 σ1 H1 _ _ Q I1 rr q1
end
/-! ### match over a list of texts -/
/-- the patterns ps over as many values: whether they hit, what the names ns get -/
structure PEach (X : Cx) (ps : List Pattern) (ns : List Str) (ok : List V → Prop) (hit : List V → Bool) (get : List V → List V) : Prop where
  len : ∀ vs, vs.length = ps.length → (get vs).length = ns.length
  run : ∀ (pins : List (Addr × Obj)) (s : Shared) (σ : L2.St) (H : Hp) (vs : List V) (us : List Value) (R : Option (List (Str × Value)) → Shared → Prop), Inv X pins σ H s → Vals vs us → vs.length = ps.length → ok vs →
    (hit vs = true → ∀ s' ws, Inv X pins σ H s' → Vals (get vs) ws → R (some (ns.zip ws)) s') → (hit vs = false → ∀ s', Inv X pins σ H s' → R none s') → wpAny (model X.prog X.w) X.A (matchEach ps X.env us) R X.xe s
section
variable {X : Cx}
theorem each_nil : PEach X [] [] (fun _ => True) (fun _ => true) (fun _ => []) := ⟨fun _ _ => rfl, fun pins s σ H vs us R I r hl _ h1 _ => by
  cases r with
  | nil => exact wpAny_matchEach_nil (h1 rfl s [] I .nil)
  | cons a q => exact absurd hl (by simp)⟩
def okLit (ok : List V → Prop) : List V → Prop
  | v :: vs => (∃ x, v = .str x) ∧ ok vs
  | [] => True
def hitLit (k : Str) (hit : List V → Bool) : List V → Bool
  | v :: vs => decide (v = .str k) && hit vs
  | [] => true
def tlF (g : List V → List V) : List V → List V
  | _ :: vs => g vs
  | [] => []
def hitCap (hit : List V → Bool) : List V → Bool
  | _ :: vs => hit vs
  | [] => true
def okCap (ok : List V → Prop) : List V → Prop
  | _ :: vs => ok vs
  | [] => True
def getCap (g : List V → List V) : List V → List V
  | v :: vs => v :: g vs
  | [] => []
theorem each_lit {k : Str} {j : Nat} {p1 p2 : Pos} {ps : List Pattern} {ns : List Str} {ok : List V → Prop} {hit : List V → Bool} {get : List V → List V} (c : PEach X ps ns ok hit get) :
    PEach X (.MatchValue (.Constant (.str k) j p1) p2 :: ps) ns (okLit ok) (hitLit k hit) (tlF get) := ⟨fun vs hl => by
  cases vs with
  | nil => exact absurd hl (by simp)
  | cons v vs => exact c.len vs (by simpa using hl), fun pins s σ H vs us R I r hl ho h1 h0 => by
  cases r with
  | nil => exact absurd hl (by simp)
  | @cons v u vs us rv rr =>
    obtain ⟨⟨x, rfl⟩, ho⟩ := ho
    refine wpAny_matchEach_cons (wpAny_matchPattern_Value (Calls.Constant_str ?_))
    refine thn (op_eq pins _ σ H (.str x) (.str k) u _ (fun z H1 => z = .bl (decide (V.str x = V.str k)) ∧ H1 = H) (I.tok _) rv ⟨_, rfl⟩ ⟨rfl, rfl, rfl⟩) fun c' s3 ⟨z, H1, I4, rz, e1, e2⟩ => ?_
    subst e1 e2
    cases rz
    refine wpAny_truthy_bool ?_
    by_cases e : V.str x = V.str k
    · rw [decide_eq_true e, if_pos rfl]
      have eh : hitLit k hit (.str x :: vs) = hit vs := by show (decide (V.str x = V.str k) && hit vs) = _; rw [decide_eq_true e, Bool.true_and]
      rw [eh] at h1 h0
      refine c.run pins s3 σ H1 vs us _ I4 rr (by simpa using hl) ho (fun hh s' ws I' r' => ?_) (fun hh s' I' => ?_)
      · exact h1 hh s' ws I' r'
      · exact h0 hh s' I'
    · rw [decide_eq_false e, if_neg Bool.false_ne_true]
      exact h0 (by show (decide (V.str x = V.str k) && hit vs) = false; rw [decide_eq_false e, Bool.false_and]) s3 I4⟩
theorem each_cap {n : Str} {p : Pos} {ps : List Pattern} {ns : List Str} {ok : List V → Prop} {hit : List V → Bool} {get : List V → List V} (c : PEach X ps ns ok hit get) :
    PEach X (.MatchAs none (some n) p :: ps) (n :: ns) (okCap ok) (hitCap hit) (getCap get) := ⟨fun vs hl => by
  cases vs with
  | nil => exact absurd hl (by simp)
  | cons v vs => exact congrArg (· + 1) (c.len vs (by simpa using hl)), fun pins s σ H vs us R I r hl ho h1 h0 => by
  cases r with
  | nil => exact absurd hl (by simp)
  | @cons v u vs us rv rr =>
    refine wpAny_matchEach_cons (wpAny_matchPattern_Capture ?_)
    refine c.run pins s σ H vs us _ I rr (by simpa using hl) ho (fun hh s' ws I' r' => ?_) (fun hh s' I' => ?_)
    · exact h1 hh s' (u :: ws) I' (.cons rv r')
    · exact h0 hh s' I'⟩
theorem each_any {p : Pos} {ps : List Pattern} {ns : List Str} {ok : List V → Prop} {hit : List V → Bool} {get : List V → List V} (c : PEach X ps ns ok hit get) :
    PEach X (.MatchAs none none p :: ps) ns (okCap ok) (hitCap hit) (tlF get) := ⟨fun vs hl => by
  cases vs with
  | nil => exact absurd hl (by simp)
  | cons v vs => exact c.len vs (by simpa using hl), fun pins s σ H vs us R I r hl ho h1 h0 => by
  cases r with
  | nil => exact absurd hl (by simp)
  | @cons v u vs us rv rr =>
    refine wpAny_matchEach_cons (wpAny_matchPattern_Capture ?_)
    refine c.run pins s σ H vs us _ I rr (by simpa using hl) ho (fun hh s' ws I' r' => ?_) (fun hh s' I' => ?_)
    · exact h1 hh s' ws I' r'
    · exact h0 hh s' I'⟩
theorem each_star {n : Str} {p : Pos} {ps : List Pattern} {ns : List Str} {ok : List V → Prop} {hit : List V → Bool} {get : List V → List V} (c : PEach X ps ns ok hit get) :
    PEach X (.MatchStar (some n) p :: ps) (n :: ns) (okCap ok) (hitCap hit) (getCap get) := ⟨fun vs hl => by
  cases vs with
  | nil => exact absurd hl (by simp)
  | cons v vs => exact congrArg (· + 1) (c.len vs (by simpa using hl)), fun pins s σ H vs us R I r hl ho h1 h0 => by
  cases r with
  | nil => exact absurd hl (by simp)
  | @cons v u vs us rv rr =>
    show wpAny _ _ (do
      match ← holding [u] (matchEach ps X.env us) with
      | none => pure none
      | some bs => pure (some (((some n).map (·, u)).toList ++ bs))) _ _ _
    refine wpAny_bind (wpAny_holding ?_)
    refine c.run pins s σ H vs us _ I rr (by simpa using hl) ho (fun hh s' ws I' r' => ?_) (fun hh s' I' => ?_)
    · exact wpAny_pure (h1 hh s' (u :: ws) I' (.cons rv r'))
    · exact wpAny_pure (h0 hh s' I')⟩
/-- case [..] without a star -/
def mSeq (K : PySem.W.Frag) (n : Nat) (ok : List V → Prop) (hit : List V → Bool) (get : List V → List V) (js : List Nat) (tb : TS) (rest : V → TS) : V → TS := fun v D σ H => ∃ a xs, v = .ref a ∧ SqL K H a xs ∧
  ((xs.length ≠ n ∧ rest v D σ H) ∨ (xs.length = n ∧ ok xs ∧ ((hit xs = true ∧ tb D (setAll σ js (get xs)) H) ∨ (hit xs = false ∧ rest v D σ H))))
theorem pm_seq {p3 : Pos} {ps : List Pattern} {ns : List Str} {js : List Nat} {n : Nat} {body : List Stmt} {cs : List MatchCase} {tb : TS} {rest : V → TS} {ok : List V → Prop} {hit : List V → Bool} {get : List V → List V}
    (hc : X.calm = true) (c : PEach X ps ns ok hit get) (hs : Stor X ns js) (hb : PSs X body tb) (hr : PM X cs rest) (hpn : ps.length = n := by rfl)
    (hstar : ps.findIdx? (·.isStar) = none := by rfl) (hwild : (ps.all fun p => p.isWildcard || (p.isStar && p.names.isEmpty)) = false := by rfl) :
    PM X (⟨.MatchSequence ps p3, none, body⟩ :: cs) (mSeq X.K n ok hit get js tb rest) := by
  refine ⟨fun first pins s σ H D v u I rv h => ?_⟩
  obtain ⟨a, xs, rfl, hq, h⟩ := h
  cases rv
  obtain ⟨its, rx, pl, hz⟩ := I.list hq
  have hl : s.heap.IsList a its.toArray := by
    obtain ⟨o, m, e, c, d, q⟩ := pl
    exact ⟨o, e, c, m, q⟩
  have hsz : its.toArray.size = xs.length := by simp [rx.length]
  have hfit : ((its.toArray.size : Nat) : Int) < 2 ^ 63 := by
    have e : sizeLine = 16777216 := by decide
    omega
  refine wpAny_matchCases_cons ?_
  rcases h with ⟨hne, h⟩ | ⟨hlen, hok, h⟩
  · refine matchSeq_list_miss hl hfit (by rw [hsz, hpn]; exact hne) ?_ hstar hwild
    exact hr.run false pins _ σ H D (.ref a) (.ref a) (I.tok _) rfl h
  · refine matchSeq_list_hit hl hfit (by rw [hsz, hlen, hpn]) ?_ hstar hwild
    have I1 : Inv X pins σ H { s with toks := s.toks + 1 + 1 } := I.tok _
    have hl2 : ps.length = its.toArray.size := by rw [hsz, hlen, hpn]
    rw [hl2]
    refine PySem.W.kun_itemsOf (I.ok.hd hc) (show ({ s with toks := s.toks + 1 + 1 } : Shared).heap.IsList a its.toArray from hl) fun h' hx' => ?_
    have I2 := I1.kept (h' := h') (t' := s.toks + 1 + 1) fun b o e => hx' b o (Nat.ne_of_lt (Heap.lt_size e)) e
    refine c.run pins _ σ H xs _ _ I2 (by simpa using rx) (by rw [hlen, hpn]) hok (fun hh s' ws I' r' => ?_) (fun hh s' I' => ?_)
    · rcases h with ⟨_, h⟩ | ⟨h0, _⟩
      · refine hs.run pins s' σ H (get xs) ws _ I' r' ?_ fun s5 I5 => ?_
        · have := r'.length
          rw [c.len xs (by rw [hlen, hpn])] at this
          exact this.symm
        · exact hb.run pins s5 _ H D I5 h
      · rw [hh] at h0
        cases h0
    · rcases h with ⟨h1, _⟩ | ⟨_, h⟩
      · rw [hh] at h1
        cases h1
      · exact hr.run false pins _ σ H D (.ref a) (.ref a) I' rfl h
/-- case [.., *a, ..], the star at i -/
def mStar (K : PySem.W.Frag) (n i : Nat) (ok : List V → Prop) (hit : List V → Bool) (get : List V → List V) (js : List Nat) (tb : TS) (rest : V → TS) : V → TS := fun v D σ H => ∃ a xs, v = .ref a ∧ SqL K H a xs ∧
  ((xs.length + 1 < n ∧ rest v D σ H) ∨ (n ≤ xs.length + 1 ∧ ∀ L, H L = none → ∀ ys, ys = xs.take i ++ [.ref L] ++ (xs.drop i).drop (xs.length + 1 - n) → ok ys ∧
    ((hit ys = true ∧ tb D (setAll σ js (get ys)) (upd H L (.lst ((xs.drop i).take (xs.length + 1 - n))))) ∨ (hit ys = false ∧ rest v D σ (upd H L (.lst ((xs.drop i).take (xs.length + 1 - n))))))))
theorem pm_star {p3 : Pos} {ps : List Pattern} {ns : List Str} {js : List Nat} {n i : Nat} {body : List Stmt} {cs : List MatchCase} {tb : TS} {rest : V → TS} {ok : List V → Prop} {hit : List V → Bool} {get : List V → List V}
    (hc : X.calm = true) (c : PEach X ps ns ok hit get) (hs : Stor X ns js) (hb : PSs X body tb) (hr : PM X cs rest) (hpn : ps.length = n := by rfl)
    (hstar : ps.findIdx? (·.isStar) = some i := by rfl) (hwild : (ps.all fun p => p.isWildcard || (p.isStar && p.names.isEmpty)) = false := by rfl) (hnm : ((ps[i]?.elim [] (·.names)).isEmpty) = false := by rfl) (h2 : 1 < n := by decide) (hin : i < n := by decide) :
    PM X (⟨.MatchSequence ps p3, none, body⟩ :: cs) (mStar X.K n i ok hit get js tb rest) := by
  refine ⟨fun first pins s σ H D v u I rv h => ?_⟩
  obtain ⟨a, xs, rfl, hq, h⟩ := h
  cases rv
  obtain ⟨its, rx, pl, hz⟩ := I.list hq
  have hl : s.heap.IsList a its.toArray := by
    obtain ⟨o, m, e, c, d, q⟩ := pl
    exact ⟨o, e, c, m, q⟩
  have hsz : its.toArray.size = xs.length := by simp [rx.length]
  have hfit : ((its.toArray.size : Nat) : Int) < 2 ^ 63 := by
    have e : sizeLine = 16777216 := by decide
    omega
  refine wpAny_matchCases_cons ?_
  rw [arm_matchPattern_MatchSequence]
  refine wpAny_bind (wpAny_standAt ?_)
  refine wpAny_bind (wpAny_collectionFlag hl.typeIs flag_seq_list ?_)
  simp only [hstar, hwild, hpn, hnm, Bool.not_true, Bool.false_eq_true, if_false, if_true, gt_iff_lt, h2]
  refine wpAny_bind (pyLen_list hl hfit ?_)
  have I1 : Inv X pins σ H { s with toks := s.toks + 1 + 1 } := I.tok _
  rcases h with ⟨hlt, h⟩ | ⟨hge, h⟩
  · rw [if_pos (show ((its.toArray.size : Nat) : Int) < (n : Int) - 1 by rw [hsz]; omega)]
    refine wpAny_pure ?_
    exact hr.run false pins _ σ H D (.ref a) (.ref a) I1 rfl h
  · rw [if_neg (show ¬ ((its.toArray.size : Nat) : Int) < (n : Int) - 1 by rw [hsz]; omega)]
    refine wpAny_bind (unpackStar hc I1 hq hin hge fun L us s' hL I' r' => ?_)
    obtain ⟨hok, h⟩ := h L hL _ rfl
    have ln : (xs.take i ++ [V.ref L] ++ (xs.drop i).drop (xs.length + 1 - n)).length = ps.length := by
      rw [List.length_append, List.length_append, List.length_take, List.length_drop, List.length_drop, List.length_singleton, hpn]
      omega
    refine c.run pins _ σ _ _ _ _ I' r' ln hok (fun hh s' ws I' r' => ?_) (fun hh s' I' => ?_)
    · rcases h with ⟨_, h⟩ | ⟨h0, _⟩
      · refine hs.run pins s' σ _ _ ws _ I' r' ?_ fun s5 I5 => ?_
        · have := r'.length
          rw [c.len _ ln] at this
          exact this.symm
        · exact hb.run pins s5 _ _ D I5 h
      · rw [hh] at h0
        cases h0
    · rcases h with ⟨h1, _⟩ | ⟨_, h⟩
      · rw [hh] at h1
        cases h1
      · exact hr.run false pins _ σ _ D (.ref a) (.ref a) I' rfl h
/-- case _ -/
theorem pm_wild {p : Pos} {body : List Stmt} {cs : List MatchCase} {tb : TS} (hb : PSs X body tb) : PM X (⟨.MatchAs none none p, none, body⟩ :: cs) (fun _ => tb) := by
  refine ⟨fun first pins s σ H D v u I rv h => ?_⟩
  refine wpAny_matchCases_cons (wpAny_matchPattern_Capture ?_)
  refine wpAny_assignInOrder_none ?_
  exact hb.run pins s σ H D I h
end
/-- f'..' -/
def tFs (ts : List TE) : TE := fun σ H Q => tJs ts Str.empty σ H fun out H1 => Q (.str out) H1
theorem pe_fs {X : Cx} {v1 v2 : Expr} {rest : List Expr} {ts : List TE} {pos : Pos} (h : PJ X (v1 :: v2 :: rest) ts) : PE X (.JoinedStr (v1 :: v2 :: rest) pos) (tFs ts) := pe_joined h
/-- a comprehension within another one that takes nothing from outside -/
theorem blkOk_in {N : List Str} {sc scope : Scope} {own : List (Str × Nat)} (h : blkC N { kind := .function, names := [], isGenerator := false, isCoroutine := false } scope own = true) : BlkOk N sc scope own := by
  obtain ⟨h1, h2, h3, h4, h5⟩ := blkOk_by h
  refine ⟨h1, h2, h3, fun y hy e => ?_, h5⟩
  rcases h4 y hy e with z | z <;> cases z
end KT
namespace KP
open PySem L2 KD KM KT
abbrev sNum : Stmt := top 55
abbrev nNum : List Str := ["word", "sign"]
theorem scNum : FnScope nNum ["word"] (defScope sNum) := ⟨rfl, rfl, rfl, by decide +kernel, rfl, by decide +kernel, by decide +kernel⟩
abbrev sRf : Stmt := top 56
abbrev nRf : List Str := ["word"]
theorem scRf : FnScope nRf ["word"] (defScope sRf) := ⟨rfl, rfl, rfl, by decide +kernel, rfl, by decide +kernel, by decide +kernel⟩
abbrev sRfs : Stmt := top 57
abbrev nRfs : List Str := ["words", "word"]
theorem scRfs : FnScope nRfs ["words"] (defScope sRfs) := ⟨rfl, rfl, rfl, by decide +kernel, rfl, by decide +kernel, by decide +kernel⟩

/-! ### numbers as texts -/
def figs : Str := "0123456789"
def isNumB (x : Str) : Bool := decide (1 ≤ x.length) && decide (x.length ≤ 16) && x.cps.toList.all (fun c => decide (c ∈ figs.cps.toList)) && (decide (x = "0") || !decide ((⟨#[x.cps.getD 0 0]⟩ : Str) = "0"))
def valN (x : Str) : Int := ((NumText.digitsVal x.cps.toList : Nat) : Int)
def fieldT (x : Str) : V := if isNumB x = true then .int (valN x) else .str x
structure TextB (K : PySem.W.Frag) (mg : Str → Option Value) : Prop where
  figs : ∃ t, mg "FIGURES" = some (.str figs t)
  mostF : ∃ t, mg "MOST_FIGURES" = some (.int 16 t)
def spNum : Sp := fun vs H Q _ => ∃ x : Str, vs = [.str x] ∧ x.length ≤ sizeLine ∧ ∀ H', Same H H' → Q (.bl (isNumB x)) H'
def spRf : Sp := fun vs H Q _ => ∃ x : Str, vs = [.str x] ∧ x.length ≤ sizeLine ∧ ∀ H', Same H H' → Q (fieldT x) H'
def spRfs : Sp := fun vs H Q _ => ∃ (l : Addr) (ws : List Str), vs = [.ref l] ∧ H l = some (.lst (ws.map V.str)) ∧ (∀ x ∈ ws, x.length ≤ sizeLine) ∧ ws.length < sizeLine ∧ ∀ p H', Same H H' → H p = none → H' p = some (.tup (ws.map fieldT)) → Q (.ref p) H'
theorem figs_digit {c : Nat} (h : c ∈ figs.cps.toList) : 48 ≤ c ∧ c ≤ 57 := by
  have e : figs.cps.toList = [48, 49, 50, 51, 52, 53, 54, 55, 56, 57] := by decide +kernel
  rw [e] at h
  simp at h
  omega
theorem same_none {H H' : Hp} {a : Addr} (s : Same H H') (h : H' a = none) : H a = none := by
  cases e : H a with
  | none => rfl
  | some o => rw [s _ _ e] at h; cases h
section
variable {P : Program} {w : World} {K : PySem.W.Frag} {mg : Str → Option Value} {base : Heap}
theorem c_num (B : Base K mg) (TB : TextB K mg) (D : DefT K mg "is_number" sNum ["word"]) : Cal P w K mg base 1 "is_number" spNum := by
  obtain ⟨tF, hF⟩ := TB.figs
  obtain ⟨tM, hM⟩ := TB.mostF
  refine cal D scNum (fun vs H Q E h => ?_) (fun f cdv A outer s H vs Q E hr h => ?_)
  · obtain ⟨x, rfl, _⟩ := h
    rfl
  · obtain ⟨x, rfl, hs, k⟩ := h
    refine ⟨_, (pss_cons (ps_if (PW.pt (pw_or (pt_not (pt_chain op_le op_le pe_int (pe_callB call_len_str (by rfl) B.len (by decide +kernel) (pa_cons (pv 0) pa_nil)) (pe_glob (v := .int 16) rfl hM ⟨_, rfl⟩))) (pw_or1 (pt_not (pt_val (pe_callB (cr_all rfl) (by rfl) B.all (by decide +kernel) (pa_cons (pe_lc (own := [("sign", 1)]) (g := (gName 1)) (tt := tYes) rfl scNum.nd (pi_str (pv 0)) (blkOk_by (N := nNum) (sc := defScope sNum) (by decide +kernel)) (fun _ _ _ _ _ => (pg_name (i := 1) scNum.nd rfl (by first | exact Or.inl rfl | exact Or.inr rfl))) (fun _ _ _ _ _ => pts_nil) (fun _ _ _ _ _ => (pe_cmpR op_in_sign (pv 1) (pe_glob (v := .str figs) rfl hF ⟨_, rfl⟩) rfl))) pa_nil))))))) (pss_one (ps_ret pe_bl)) pss_nil)
        (pss_one (ps_ret (pe_or (pe_cmpR op_eq (pv 0) pe_str (nomark _)) (pe_one (pe_cmpR op_ne (pe_item_str (pv 0) pe_int (fun _ _ => rfl)) pe_str (nomark _))))))), ?_⟩
    have kF : isNumB x = false → ∀ H', Same H H' → Q (.bl false) H' := fun e H' s' => by rw [← e]; exact k H' s'
    refine ⟨_, rfl, _, rfl, hs, _, _, rfl, rfl, _, rfl, ?_⟩
    by_cases h1 : 1 ≤ x.length
    · rw [if_pos (decide_eq_true (show (1 : Int) ≤ ((x.length : Nat) : Int) by omega))]
      refine ⟨_, _, rfl, rfl, _, rfl, ?_⟩
      by_cases h8 : x.length ≤ 16
      · have e8 : decide (((x.length : Nat) : Int) ≤ 16) = true := decide_eq_true (by omega)
        rw [e8]
        refine iteF ?_
        refine ⟨_, rfl, x, rfl, fun D hD => lc_it walk_str (fun i H' => H' = upd H D (.lst (((x.cps.toList.take i).map fun c => decide (c ∈ figs.cps.toList)).map V.bl))) rfl (fun _ _ _ _ => trivial) ?_ ?_⟩
        · rintro i v H1 H2 hi rfl ⟨rfl, c, hc, rfl⟩
          refine ⟨rfl, yes (iteT ⟨_, rfl, c, figs, rfl, rfl, _, upd_same, ?_, ?_⟩)⟩
          · have : x.cps.size ≤ 16 := h8
            have e : sizeLine = 16777216 := by decide
            have : ((x.cps.toList.take i).map fun c => decide (c ∈ figs.cps.toList)).length ≤ 16 := by
              rw [List.length_map, List.length_take, Array.length_toList]
              omega
            rw [List.length_map]
            omega
          · have hc' : x.cps.toList[i]? = some c := by simpa using hc
            rw [upd_upd, take_more hc', List.map_append, List.map_append]
            rfl
        · rintro H1 rfl
          have sD := same_new (o := .lst (((x.cps.toList.take x.cps.size).map fun c => decide (c ∈ figs.cps.toList)).map V.bl)) hD
          refine ⟨D, (x.cps.toList.take x.cps.size).map fun c => decide (c ∈ figs.cps.toList), rfl, SqL.of upd_same, _, rfl, ?_⟩
          have e : ((x.cps.toList.take x.cps.size).map fun c => decide (c ∈ figs.cps.toList)).all id = x.cps.toList.all (fun c => decide (c ∈ figs.cps.toList)) := by
            rw [List.take_of_length_le (by simp), List.all_map]
            rfl
          rw [e]
          cases ha : x.cps.toList.all (fun c => decide (c ∈ figs.cps.toList)) with
          | false => exact iteT (kF (by unfold isNumB; rw [ha, Bool.and_false, Bool.false_and]) _ sD)
          | true =>
            refine iteF ⟨_, rfl, rfl, _, rfl, ?_⟩
            have eN : isNumB x = (decide (x = "0") || !decide ((⟨#[x.cps.getD 0 0]⟩ : Str) = "0")) := by
              unfold isNumB
              rw [ha, decide_eq_true h1, decide_eq_true h8]
              rfl
            have k' := k _ sD
            rw [eN] at k'
            have ev : decide (V.str x = V.str "0") = decide (x = "0") := by simp
            rw [ev]
            by_cases e0 : x = "0"
            · rw [decide_eq_true e0] at k' ⊢
              exact iteT k'
            · rw [decide_eq_false e0] at k' ⊢
              have hx0 : (0 : Nat) < x.cps.size := h1
              have eg : x.cps.getD 0 0 = x.cps[0] := by simp [Array.getD, hx0]
              refine iteF ⟨_, rfl, x, 0, x.cps[0], rfl, rfl, by decide, by decide, (by omega), (by rw [show (0 : Int).toNat = 0 from rfl, Array.getElem?_eq_getElem hx0]), rfl, ?_⟩
              rw [eg] at k'
              simpa using k'
      · have e8 : decide (((x.length : Nat) : Int) ≤ 16) = false := decide_eq_false (by omega)
        rw [e8]
        exact iteT (kF (by unfold isNumB; rw [decide_eq_false h8, Bool.and_false, Bool.false_and, Bool.false_and]) _ (Same.refl _))
    · rw [if_neg (by rw [decide_eq_false (show ¬ (1 : Int) ≤ ((x.length : Nat) : Int) by omega)]; exact Bool.false_ne_true)]
      refine ⟨_, rfl, ?_⟩
      refine iteT ?_
      exact kF (by unfold isNumB; rw [decide_eq_false h1, Bool.false_and, Bool.false_and, Bool.false_and]) _ (Same.refl _)
theorem num_reads {x : Str} (h : isNumB x = true) : PySem.intText? x = some (valN x) ∧ x.length ≤ 640 := by
  unfold isNumB at h
  simp only [Bool.and_eq_true, decide_eq_true_eq] at h
  obtain ⟨⟨⟨h1, h2⟩, h3⟩, _⟩ := h
  refine ⟨intText_digits (fun c hc => ?_) (fun e => ?_) (by omega), by omega⟩
  · have := List.all_eq_true.mp h3 c hc
    exact figs_digit (of_decide_eq_true this)
  · have : x.length = x.cps.toList.length := by simp [Str.length]
    rw [e] at this
    simp at this
    omega
theorem c_rf (B : Base K mg) (Nu : Cal P w K mg base 1 "is_number" spNum) (D : DefT K mg "read_field" sRf ["word"]) : Cal P w K mg base 2 "read_field" spRf := by
  refine cal D scRf (fun vs H Q E h => ?_) (fun f cdv A outer s H vs Q E hr h => ?_)
  · obtain ⟨x, rfl, _⟩ := h
    rfl
  · obtain ⟨x, rfl, hs, k⟩ := h
    refine ⟨_, (pss_one (ps_ret (pe_ifExp (pt_val (pe_cl Nu hr (by decide) (by rfl) (pa_cons (pv 0) pa_nil))) (pe_callTy call_int_str (by rfl) B.int (by decide +kernel) (pa_cons (pv 0) pa_nil)) (pv 0)))), ?_⟩
    refine ⟨_, rfl, x, rfl, hs, fun H1 s1 => ⟨_, rfl, ?_⟩⟩
    have k1 := k H1 s1
    unfold fieldT at k1
    cases hn : isNumB x with
    | true =>
      rw [hn, if_pos rfl] at k1
      exact iteT ⟨_, rfl, x, _, rfl, (num_reads hn).1, (num_reads hn).2, k1⟩
    | false =>
      rw [hn, if_neg Bool.false_ne_true] at k1
      exact iteF ⟨_, rfl, k1⟩
theorem c_rfs (B : Base K mg) (Rf : Cal P w K mg base 2 "read_field" spRf) (D : DefT K mg "read_fields" sRfs ["words"]) : Cal P w K mg base 3 "read_fields" spRfs := by
  refine cal D scRfs (fun vs H Q E h => ?_) (fun f cdv A outer s H vs Q E hr h => ?_)
  · obtain ⟨l, ws, rfl, _⟩ := h
    rfl
  · obtain ⟨l, ws, rfl, hl, hw, hlen, k⟩ := h
    refine ⟨_, (pss_one (ps_ret (pe_callTy call_tupleW (by rfl) B.tuple (by decide +kernel) (pa_cons (pe_lc (own := [("word", 1)]) (g := (gName 1)) (tt := tYes) rfl scRfs.nd (pi_list (pv 0)) (blkOk_by (N := nRfs) (sc := defScope sRfs) (by decide +kernel)) (fun _ _ _ _ _ => (pg_name (i := 1) scRfs.nd rfl (by first | exact Or.inl rfl | exact Or.inr rfl))) (fun _ _ _ _ _ => pts_nil) (fun _ _ _ _ _ => (pe_cl Rf hr (by decide) (by rfl) (pa_cons (pv 1) pa_nil)))) pa_nil)))), ?_⟩
    refine ⟨_, rfl, l, rfl, ⟨_, SqL.of hl⟩, fun D hD => lc_it (walk_list (xs := ws.map V.str)) (fun i H' => Same H H' ∧ H' D = some (.lst ((ws.take i).map fieldT))) ⟨same_new hD, upd_same⟩ (fun i H' _ p => SqL.of (p.1 _ _ hl)) ?_ ?_⟩
    · rintro i v H1 H2 hi ⟨s1, d1⟩ ⟨rfl, hv⟩
      obtain ⟨x, hx, rfl⟩ : ∃ x, ws[i]? = some x ∧ v = V.str x := by
        rw [List.getElem?_map] at hv
        cases e : ws[i]? with
        | none => rw [e] at hv; cases hv
        | some z => rw [e] at hv; exact ⟨z, rfl, (Option.some.inj hv).symm⟩
      refine ⟨rfl, yes (iteT ⟨_, rfl, x, rfl, hw x (List.mem_of_getElem? hx), fun H3 s3 => ⟨_, s3 _ _ d1, ?_, ?_, ?_⟩⟩)⟩
      · rw [List.length_map, List.length_take]
        omega
      · intro b o e
        rw [upd_ne (ne_of_none e hD)]
        exact s3 _ _ (s1 _ _ e)
      · rw [upd_same, take_more hx, List.map_append]
        rfl
    · rintro H1 ⟨s1, d1⟩
      rw [List.length_map, List.take_length] at d1
      exact ⟨D, _, rfl, SqL.of d1, fun p H2 s2 np hp => k p H2 (s1.trans s2) (same_none s1 np) hp⟩
end
end KP
/-! texts: the mathematics -/
namespace KP
open PySem L2 KD TL
theorem str_assoc (a b c : Str) : a ++ b ++ c = a ++ (b ++ c) := ext_tl (by rw [tl_append, tl_append, tl_append, tl_append, List.append_assoc])
theorem empty_app (a : Str) : Str.empty ++ a = a := ext_tl (by rw [tl_append]; rfl)
def nt (i : Int) : Str := Str.ofString (toString i)
theorem tl_nt {i : Int} (h : 0 ≤ i) : tl (nt i) = numL i.toNat := by
  have e : i = ((i.toNat : Nat) : Int) := by omega
  unfold nt
  rw [e]
  exact tl_num i.toNat
theorem nt_free {i : Int} (h : 0 ≤ i) {s : Nat} (hs : s < 48 ∨ 57 < s) : s ∉ tl (nt i) := by
  rw [tl_nt h]
  exact numL_free hs
theorem nt_len {i : Int} (h0 : 0 ≤ i) (h1 : i ≤ 9999999999999999) : (nt i).length ≤ 16 := by
  rw [len_tl, tl_nt h0]
  exact numL_len (by decide) (by have e : (10 : Nat) ^ 16 = 10000000000000000 := by decide
                                 rw [e]; omega)
theorem num_head : ∀ (k n : Nat), n ≤ k → 1 ≤ n → ∃ c r, numL n = c :: r ∧ c ≠ 48
  | 0, n, h, h1 => by omega
  | k + 1, n, h, h1 => by
    by_cases h10 : n < 10
    · rw [numL_lt h10]
      exact ⟨48 + n, [], rfl, by omega⟩
    · obtain ⟨c, r, e, hc⟩ := num_head k (n / 10) (by omega) (by omega)
      rw [numL_step (by omega), e]
      exact ⟨c, r ++ [48 + n % 10], rfl, hc⟩
theorem str0 : tl ("0" : Str) = [48] := by decide +kernel
theorem nt_num {i : Int} (h0 : 0 ≤ i) (h1 : i ≤ 9999999999999999) : isNumB (nt i) = true ∧ valN (nt i) = i := by
  have et := tl_nt h0
  have ec : (nt i).cps.toList = numL i.toNat := et
  refine ⟨?_, ?_⟩
  · unfold isNumB
    have l1 : 1 ≤ (nt i).length := by
      rw [len_tl, et]
      exact List.length_pos_iff.mpr (numL_ne _)
    have a : (nt i).cps.toList.all (fun c => decide (c ∈ figs.cps.toList)) = true := by
      rw [List.all_eq_true]
      intro c hc
      rw [ec] at hc
      have hd := numL_digits i.toNat c hc
      have e : figs.cps.toList = [48, 49, 50, 51, 52, 53, 54, 55, 56, 57] := by decide +kernel
      rw [decide_eq_true_eq, e]
      have : 48 ≤ c ∧ c ≤ 57 := hd
      simp
      omega
    rw [decide_eq_true l1, decide_eq_true (nt_len h0 h1), a]
    show (decide (nt i = "0") || !decide ((⟨#[(nt i).cps.getD 0 0]⟩ : Str) = "0")) = true
    by_cases hz : i = 0
    · have e : nt i = "0" := ext_tl (by rw [et, hz, str0]; decide +kernel)
      rw [decide_eq_true e]
      rfl
    · obtain ⟨c, r, e, hc⟩ := num_head i.toNat i.toNat (Nat.le_refl _) (by omega)
      have eg : (nt i).cps.getD 0 0 = c := by
        have h : (nt i).cps[0]? = some c := by
          rw [← Array.getElem?_toList, ec, e]
          rfl
        rw [Array.getD_eq_getD_getElem?, h]
        rfl
      have nz : ¬ (⟨#[(nt i).cps.getD 0 0]⟩ : Str) = "0" := fun z => by
        have := congrArg tl z
        rw [str0, eg] at this
        exact hc (List.cons.inj this).1
      rw [decide_eq_false nz, Bool.not_false, Bool.or_true]
  · unfold valN
    rw [ec, numL_val]
    omega
theorem w_free {x : Str} (h : IsW x) {s : Nat} (hs : s < 97) : s ∉ tl x := fun hm => by
  have := h.1 s hm
  unfold Ltr at this
  have e : letters.cps.toList = [97, 98, 99, 100, 101, 102, 103, 104, 105, 106, 107, 108, 109, 110, 111, 112, 113, 114, 115, 116, 117, 118, 119, 120, 121, 122] := by decide +kernel
  rw [e] at this
  simp at this
  omega
theorem w_not_num {x : Str} (h : IsW x) : isNumB x = false := by
  unfold isNumB
  have a : x.cps.toList.all (fun c => decide (c ∈ figs.cps.toList)) = false := by
    rw [List.all_eq_false]
    have h1 := h.2.1
    have hl : x.length = x.cps.toList.length := by simp [Str.length]
    obtain ⟨c, hc⟩ := List.exists_mem_of_length_pos (l := x.cps.toList) (by omega)
    refine ⟨c, hc, fun z => ?_⟩
    have := figs_digit (of_decide_eq_true z)
    exact w_free h (s := c) (by omega) hc
  rw [a, Bool.and_false, Bool.false_and]
theorem field_w {x : Str} (h : IsW x) : fieldT x = .str x := by unfold fieldT; rw [w_not_num h]; rfl
theorem field_n {i : Int} (h0 : 0 ≤ i) (h1 : i ≤ 9999999999999999) : fieldT (nt i) = .int i := by unfold fieldT; rw [(nt_num h0 h1).1, (nt_num h0 h1).2]; rfl
/-! rows -/
def sp1 : Str := " "
def nl1 : Str := "\n"
theorem tl_sp : tl sp1 = [32] := by decide +kernel
theorem tl_nl : tl nl1 = [10] := by decide +kernel
def em : Str := ""
theorem tl_em : tl em = [] := by decide +kernel
def rowT (ws : List Str) : Str := Str.join sp1 ws
def lnT (x : Str) : Str := x ++ nl1
def linesT (rs : List Str) : Str := Str.join em (rs.map lnT)
theorem joinL_free {s : Nat} {S : List Nat} (hS : s ∉ S) : ∀ {ps : List (List Nat)}, (∀ p ∈ ps, s ∉ p) → s ∉ joinL S ps
  | [], _ => by simp [joinL]
  | [p], h => h p (by simp)
  | p :: q :: r, h => by
    show s ∉ p ++ (S ++ joinL S (q :: r))
    simp only [List.mem_append, not_or]
    exact ⟨h p (by simp), hS, joinL_free hS fun z hz => h z (by simp [hz])⟩
theorem lines_tl : ∀ rs : List Str, joinL [] ((rs.map lnT).map tl) = joinL [10] ((rs ++ [em]).map tl)
  | [] => by show ([] : List Nat) = tl em; rw [tl_em]
  | [r] => by
    show tl (lnT r) = tl r ++ ([10] ++ tl em)
    unfold lnT
    rw [tl_append, tl_nl, tl_em]
    rfl
  | r :: q :: t => by
    show tl (lnT r) ++ ([] ++ joinL [] (((q :: t).map lnT).map tl)) = tl r ++ ([10] ++ joinL [10] (((q :: t) ++ [em]).map tl))
    rw [lines_tl (q :: t)]
    unfold lnT
    rw [tl_append, tl_nl, List.nil_append, List.append_assoc]
theorem lines_join (rs : List Str) : linesT rs = Str.join nl1 (rs ++ [em]) := ext_tl (by
  unfold linesT
  rw [tl_join, tl_join, tl_nl, tl_em, lines_tl])
theorem lines_split {rs : List Str} (h : ∀ r ∈ rs, 10 ∉ tl r) : Txt.split (linesT rs) nl1 = rs ++ [em] := by
  rw [lines_join, ← join_eq]
  refine split_join tl_nl (by decide +kernel) (by simp) fun p hp => ?_
  rcases List.mem_append.mp hp with hp | hp
  · exact h p hp
  · rw [List.mem_singleton.mp hp, tl_em]
    simp
theorem row_split {ws : List Str} (hne : ws ≠ []) (h : ∀ w ∈ ws, 32 ∉ tl w) : Txt.split (rowT ws) sp1 = ws := by
  unfold rowT
  rw [← join_eq]
  exact split_join tl_sp (by decide +kernel) hne h
theorem row_free {ws : List Str} (h : ∀ w ∈ ws, 10 ∉ tl w) : 10 ∉ tl (rowT ws) := by
  unfold rowT
  rw [tl_join, tl_sp]
  refine joinL_free (by decide) fun p hp => ?_
  obtain ⟨w, hw, rfl⟩ := List.mem_map.mp hp
  exact h w hw
theorem join_le {y : Str} {n : Nat} : ∀ {ps : List Str}, (∀ p ∈ ps, p.length ≤ n) → (Str.join y ps).length ≤ ps.length * (n + y.length)
  | [], _ => by show Str.length Str.empty ≤ _; rw [show Str.length Str.empty = 0 from rfl]; omega
  | [p], h => by
    show p.length ≤ 1 * (n + y.length)
    have := h p (by simp)
    omega
  | p :: q :: r, h => by
    have hp := h p (by simp)
    have ih := join_le (y := y) (n := n) (ps := q :: r) fun z hz => h z (by simp [hz])
    have e : (Str.join y (p :: q :: r)).length = p.length + y.length + (Str.join y (q :: r)).length := by
      show (p ++ y ++ Str.join y (q :: r)).length = _
      rw [len_tl, tl_append, tl_append, List.length_append, List.length_append, ← len_tl, ← len_tl, ← len_tl]
    rw [e, List.length_cons, Nat.succ_mul]
    omega
theorem sum_le {n : Nat} : ∀ {ps : List Str}, (∀ p ∈ ps, p.length ≤ n) → (ps.map (·.length)).sum ≤ ps.length * n
  | [], _ => by simp
  | p :: r, h => by
    have hp := h p (by simp)
    have ih := sum_le (n := n) (ps := r) fun z hz => h z (by simp [hz])
    rw [List.map_cons, List.sum_cons, List.length_cons, Nat.succ_mul]
    omega
def headW (h : Hd) : List Str := if h.2 = "" then ["head", h.1] else ["head", h.1, "in", h.2]
def limW (r : Rw4) : List Str := ["limit", r.1, nt r.2.1, nt r.2.2.1, nt r.2.2.2]
def rulW (r : Rw4) : List Str := ["rule", r.1, nt r.2.1, nt r.2.2.1, nt r.2.2.2]
def yearW (d : Int) : List Str := ["year", nt d]
def rowsW (y : Yr) : List (List Str) := yearW y.days :: (y.hs.map headW ++ y.ls.map limW ++ y.rs.map rulW)
def ytext (y : Yr) : Str := linesT ((rowsW y).map rowT)
/-- a word of a text -/
def Wd (x : Str) : Prop := x.length ≤ 16 ∧ 32 ∉ tl x ∧ 10 ∉ tl x
theorem wd_w {x : Str} (h : IsW x) : Wd x := ⟨Nat.le_trans h.2.2 (by decide), w_free h (by decide), w_free h (by decide)⟩
theorem wd_n {i : Int} (h0 : 0 ≤ i) (h1 : i ≤ 9999999999999999) : Wd (nt i) := ⟨nt_len h0 h1, nt_free h0 (by decide), nt_free h0 (by decide)⟩
theorem wd_lit : ∀ x ∈ (["head", "in", "limit", "rule", "year"] : List Str), Wd x := by unfold Wd; decide +kernel
def Rw (ws : List Str) : Prop := ws ≠ [] ∧ ws.length ≤ 8 ∧ ∀ w ∈ ws, Wd w
theorem rw_head {hs : List Hd} (V : VH hs) {h : Hd} (hm : h ∈ hs) : Rw (headW h) := by
  obtain ⟨i, hi⟩ := List.getElem?_of_mem hm
  have w1 : Wd h.1 := wd_w (V.w _ (List.mem_of_getElem? (nms_get hi)))
  unfold headW
  by_cases e : h.2 = ""
  · rw [if_pos e]
    refine ⟨by simp, by simp, fun w hw => ?_⟩
    simp only [List.mem_cons, List.not_mem_nil, or_false] at hw
    rcases hw with rfl | rfl
    · exact wd_lit _ (by simp)
    · exact w1
  · rw [if_neg e]
    have w2 : Wd h.2 := by
      rcases V.up i h hi with q | ⟨j, _, q⟩
      · exact absurd q e
      · exact wd_w (V.w _ (List.mem_of_getElem? q))
    refine ⟨by simp, by simp, fun w hw => ?_⟩
    simp only [List.mem_cons, List.not_mem_nil, or_false] at hw
    rcases hw with rfl | rfl | rfl | rfl
    · exact wd_lit _ (by simp)
    · exact w1
    · exact wd_lit _ (by simp)
    · exact w2
theorem rw_lim {y : Yr} (ok : y.ok) {r : Rw4} (hm : r ∈ y.ls) : Rw (limW r) := by
  have h := ok.l r hm
  have d := ok.d
  refine ⟨by simp [limW], by simp [limW], fun w hw => ?_⟩
  simp only [limW, List.mem_cons, List.not_mem_nil, or_false] at hw
  unfold LimOk at h
  rcases hw with rfl | rfl | rfl | rfl | rfl
  · exact wd_lit _ (by simp)
  · exact wd_w (ok.h.w _ h.1)
  · exact wd_n (by omega) (by omega)
  · exact wd_n (by omega) (by omega)
  · exact wd_n (by omega) (by omega)
theorem rw_rul {y : Yr} (ok : y.ok) {r : Rw4} (hm : r ∈ y.rs) : Rw (rulW r) := by
  have h := ok.r r hm
  have d := ok.d
  refine ⟨by simp [rulW], by simp [rulW], fun w hw => ?_⟩
  simp only [rulW, List.mem_cons, List.not_mem_nil, or_false] at hw
  unfold RulOk at h
  rcases hw with rfl | rfl | rfl | rfl | rfl
  · exact wd_lit _ (by simp)
  · exact wd_w (ok.h.w _ h.1)
  · exact wd_n (by omega) (by omega)
  · exact wd_n (by omega) (by omega)
  · exact wd_n (by omega) (by omega)
theorem rw_year {d : Int} (h0 : 1 ≤ d) (h1 : d ≤ 30) : Rw (yearW d) := by
  refine ⟨by simp [yearW], by simp [yearW], fun w hw => ?_⟩
  simp only [yearW, List.mem_cons, List.not_mem_nil, or_false] at hw
  rcases hw with rfl | rfl
  · exact wd_lit _ (by simp)
  · exact wd_n (by omega) (by omega)
theorem rw_all {y : Yr} (ok : y.ok) : ∀ ws ∈ rowsW y, Rw ws := by
  intro ws hw
  unfold rowsW at hw
  rcases List.mem_cons.mp hw with rfl | hw
  · exact rw_year ok.d.1 ok.d.2
  · rcases List.mem_append.mp hw with hw | hw
    · rcases List.mem_append.mp hw with hw | hw
      · obtain ⟨h, hm, rfl⟩ := List.mem_map.mp hw
        exact rw_head ok.h hm
      · obtain ⟨h, hm, rfl⟩ := List.mem_map.mp hw
        exact rw_lim ok hm
    · obtain ⟨h, hm, rfl⟩ := List.mem_map.mp hw
      exact rw_rul ok hm
theorem rowT_le {ws : List Str} (h : Rw ws) : (rowT ws).length ≤ 136 := by
  have := join_le (y := sp1) (n := 16) (ps := ws) fun p hp => (h.2.2 p hp).1
  have e : sp1.length = 1 := by decide +kernel
  rw [e] at this
  unfold rowT
  have h8 := h.2.1
  have : ws.length * (16 + 1) ≤ 8 * 17 := Nat.mul_le_mul_right _ h8
  omega
theorem rowsW_len {y : Yr} (ok : y.ok) : (rowsW y).length ≤ 19 := by
  unfold rowsW
  rw [List.length_cons, List.length_append, List.length_append, List.length_map, List.length_map, List.length_map]
  have := ok.h.l8
  have := ok.l6
  have := ok.r4
  omega
theorem lnT_len (x : Str) : (lnT x).length = x.length + 1 := by
  unfold lnT
  rw [len_tl, tl_append, tl_nl, List.length_append, ← len_tl]
  rfl
theorem linesT_le {rs : List Str} {n : Nat} (h : ∀ r ∈ rs, r.length ≤ n) : (linesT rs).length ≤ rs.length * (n + 1) := by
  have := join_le (y := em) (n := n + 1) (ps := rs.map lnT) fun p hp => by
    obtain ⟨r, hr, rfl⟩ := List.mem_map.mp hp
    rw [lnT_len]
    have := h r hr
    omega
  rw [List.length_map] at this
  have e : em.length = 0 := by decide +kernel
  rw [e] at this
  exact this
end KP
namespace KP
open PySem L2 KD KM KT TL
abbrev sTx : Stmt := top 59
abbrev nTx : List Str := ["rows", "row"]
theorem scTx : FnScope nTx ["rows"] (defScope sTx) := ⟨rfl, rfl, rfl, by decide +kernel, rfl, by decide +kernel, by decide +kernel⟩
abbrev sHr : Stmt := top 60
abbrev nHr : List Str := ["name", "upper"]
theorem scHr : FnScope nHr ["name", "upper"] (defScope sHr) := ⟨rfl, rfl, rfl, by decide +kernel, rfl, by decide +kernel, by decide +kernel⟩
abbrev sRo2 : Stmt := top 58
abbrev nRo2 : List Str := ["text", "rows", "last"]
theorem scRo2 : FnScope nRo2 ["text"] (defScope sRo2) := ⟨rfl, rfl, rfl, by decide +kernel, rfl, by decide +kernel, by decide +kernel⟩
abbrev sYt : Stmt := top 61
abbrev nYt : List Str := ["year", "rows", "name", "upper", "head", "first", "last", "most", "part", "whole", "until"]
theorem scYt : FnScope nYt ["year"] (defScope sYt) := ⟨rfl, rfl, rfl, by decide +kernel, rfl, by decide +kernel, by decide +kernel⟩

/-- what isinstance asks of the class Year -/
structure YearI (K : PySem.W.Frag) (C : Addr) : Prop where
  ha : PySem.W.findIn K (.ref C) "__class__" = some (some (.builtin "object.__class__"))
  hn : PySem.W.specialIn K (.builtin "object.__class__") "__get__" = some (some (.builtin "getset_descriptor.__get__"))
  htk : PySem.W.takesIn K (.builtin "object.__class__") = some true
  hm : PySem.W.mroIn K C (.type "object") = some true
theorem kit_self {K : PySem.W.Frag} {C : Addr} : PySem.W.kitOne K (.ref C) (.ref C) = some true := by
  unfold PySem.W.kitOne
  rw [if_pos (by simp)]
theorem ty_year {K : PySem.W.Frag} {mg : Str → Option Value} {C : Addr} (T : YearF K mg C) (I : YearI K C) {M : List Addr} {H : Hp} {p : Addr} {y : Yr} (h : YearAt C M H p y) : TyX K H (.ref p) (.ref C) := by
  obtain ⟨dx, l1, l2, l3, t1, t2, t3, hp, _⟩ := h.ex
  exact .base (.ins hp T.cl I.ha I.hn I.htk I.hm)
def spTx : Sp := fun vs H Q _ => ∃ (l : Addr) (rs : List Str), vs = [.ref l] ∧ H l = some (.lst (rs.map V.str)) ∧ (∀ r ∈ rs, r.length ≤ 1000) ∧ rs.length ≤ 1000 ∧ ∀ H', Same H H' → Q (.str (linesT rs)) H'
def spHr : Sp := fun vs H Q _ => ∃ h : Hd, vs = [.str h.1, .str h.2] ∧ h.1.length ≤ 1000 ∧ h.2.length ≤ 1000 ∧ Q (.str (rowT (headW h))) H
def spRo2 : Sp := fun vs H Q _ => ∃ rs : List Str, vs = [.str (linesT rs)] ∧ (∀ r ∈ rs, 10 ∉ tl r) ∧ (linesT rs).length + 2 ≤ sizeLine ∧ ∀ p H', Same H H' → H p = none → H' p = some (.lst (rs.map V.str)) → Q (.ref p) H'
def spYt (C : Addr) : Sp := fun vs H Q _ => ∃ (p : Addr) (y : Yr), vs = [.ref p] ∧ YearAt C [] H p y ∧ y.ok ∧ ∀ H', Same H H' → Q (.str (ytext y)) H'
theorem app_len (a b : Str) : (a ++ b).length = a.length + b.length := by
  rw [len_tl, tl_append, List.length_append, ← len_tl, ← len_tl]
theorem em_len : Str.empty.length = 0 := rfl
theorem lit_row (a b : Str) (h : tl a = tl b ++ [32]) (c : Str) : a ++ c = b ++ sp1 ++ c := ext_tl (by rw [tl_append, tl_append, tl_append, h, tl_sp])
theorem fs_head {n : Str} : Str.empty ++ "head " ++ n = rowT ["head", n] := by
  rw [empty_app]
  exact lit_row _ _ (by decide +kernel) _
theorem fs_head2 {n u : Str} : Str.empty ++ "head " ++ n ++ " in " ++ u = rowT ["head", n, "in", u] := by
  rw [empty_app]
  refine ext_tl ?_
  show _ = tl ("head" ++ sp1 ++ (n ++ sp1 ++ ("in" ++ sp1 ++ u)))
  simp only [tl_append, tl_sp]
  rw [show tl ("head " : Str) = tl "head" ++ [32] by decide +kernel, show tl (" in " : Str) = [32] ++ tl "in" ++ [32] by decide +kernel]
  simp only [List.append_assoc]
theorem fs_year {d : Int} : Str.empty ++ "year " ++ nt d = rowT (yearW d) := by
  rw [empty_app]
  exact lit_row _ _ (by decide +kernel) _
theorem fs_five {k k2 a b c d : Str} (h : tl k = tl k2 ++ [32]) : Str.empty ++ k ++ a ++ " " ++ b ++ " " ++ c ++ " " ++ d = rowT [k2, a, b, c, d] := by
  rw [empty_app]
  refine ext_tl ?_
  show _ = tl (k2 ++ sp1 ++ (a ++ sp1 ++ (b ++ sp1 ++ (c ++ sp1 ++ d))))
  simp only [tl_append, tl_sp, h]
  rw [show tl (" " : Str) = [32] by decide +kernel]
  simp only [List.append_assoc]
theorem log_le {i : Int} (h0 : 0 ≤ i) (h1 : i ≤ 9999999999999999) : i.natAbs.log2 < 1920 := by
  have h : i.natAbs < 2 ^ 1920 := Nat.lt_of_le_of_lt (show i.natAbs ≤ 9999999999999999 by omega) (by decide)
  by_cases hz : i.natAbs = 0
  · rw [hz]
    decide
  · exact (Nat.log2_lt hz).mpr h
theorem fs5 {k k2 : Str} {i1 i2 i3 i4 : Nat} {σ : L2.St} {H : Hp} {Q : VK} {a : Str} {b c d : Int} (hk : tl k = tl k2 ++ [32]) (kl : k.length ≤ 6) (h1 : σ[i1]? = some (some (.str a))) (h2 : σ[i2]? = some (some (.int b))) (h3 : σ[i3]? = some (some (.int c))) (h4 : σ[i4]? = some (some (.int d)))
    (al : a.length ≤ 8) (b0 : 0 ≤ b) (b1 : b ≤ 9999999999999999) (c0 : 0 ≤ c) (c1 : c ≤ 9999999999999999) (d0 : 0 ≤ d) (d1 : d ≤ 9999999999999999) (q : Q (.str (rowT [k2, a, nt b, nt c, nt d])) H) :
    KT.tFs [tC (.str k), tFmt (tVar i1), tC (.str " "), tFmt (tVar i2), tC (.str " "), tFmt (tVar i3), tC (.str " "), tFmt (tVar i4)] σ H Q := by
  have hz : sizeLine = 16777216 := by decide
  have n0 : (" " : Str).length = 1 := by decide +kernel
  have b2 : (toString b : Str).length ≤ 16 := nt_len b0 b1
  have b3 : (toString c : Str).length ≤ 16 := nt_len c0 c1
  have b4 : (toString d : Str).length ≤ 16 := nt_len d0 d1
  have e : rowT [k2, a, nt b, nt c, nt d] = Str.empty ++ k ++ a ++ " " ++ toString b ++ " " ++ toString c ++ " " ++ toString d := (fs_five hk).symm
  rw [e] at q
  exact ⟨_, rfl, (by simp only [app_len, em_len]; omega), _, h1, .inl ⟨a, rfl, (by omega), _, rfl, (by simp only [app_len, em_len]; omega), _, rfl, (by simp only [app_len, em_len]; omega), _, h2, .inr ⟨b, rfl, log_le b0 b1, _, rfl, (by simp only [app_len, em_len]; omega), _, rfl, (by simp only [app_len, em_len]; omega), _, h3, .inr ⟨c, rfl, log_le c0 c1, _, rfl, (by simp only [app_len, em_len]; omega), _, rfl, (by simp only [app_len, em_len]; omega), _, h4, .inr ⟨d, rfl, log_le d0 d1, _, rfl, (by simp only [app_len, em_len]; omega), q⟩⟩⟩⟩⟩
section
variable {P : Program} {w : World} {K : PySem.W.Frag} {mg : Str → Option Value} {base : Heap} {C : Addr}
theorem c_tx (B : Base K mg) (D : DefT K mg "text_of" sTx ["rows"]) : Cal P w K mg base 1 "text_of" spTx := by
  refine cal D scTx (fun vs H Q E h => ?_) (fun f cdv A outer s H vs Q E hr h => ?_)
  · obtain ⟨l, rs, rfl, _⟩ := h
    rfl
  · obtain ⟨l, rs, rfl, hl, hw, hn, k⟩ := h
    have hz : sizeLine = 16777216 := by decide
    refine ⟨_, (pss_one (ps_ret (pe_join pe_str (pe_lc (own := [("row", 1)]) (g := (gName 1)) (tt := tYes) (te := (KT.tFs [tFmt (tVar 1), tC (.str "\n")])) rfl scTx.nd (pi_list (pv 0)) (blkOk_by (N := nTx) (sc := defScope sTx) (by decide +kernel)) (fun _ _ _ _ _ => (pg_name (i := 1) scTx.nd rfl (by first | exact Or.inl rfl | exact Or.inr rfl))) (fun _ _ _ _ _ => pts_nil) (fun _ _ _ _ _ => (KT.pe_fs (.cons (pe_fmt (pv 1)) (.cons pe_str .nil)))))))), ?_⟩
    refine ⟨⟨_, rfl⟩, _, rfl, l, rfl, ⟨_, SqL.of hl⟩, fun D hD => lc_it (walk_list (xs := rs.map V.str)) (fun i H' => H' = upd H D (.lst (((rs.take i).map lnT).map V.str))) rfl (fun i H' _ e => by rw [e]; exact SqL.of (same_new hD _ _ hl)) ?_ ?_⟩
    · rintro i v H1 H2 hi rfl ⟨rfl, hv⟩
      obtain ⟨r, hr2, rfl⟩ : ∃ r, rs[i]? = some r ∧ v = V.str r := by
        rw [List.getElem?_map] at hv
        cases e : rs[i]? with
        | none => rw [e] at hv; cases hv
        | some z => rw [e] at hv; exact ⟨z, rfl, (Option.some.inj hv).symm⟩
      have hrl := hw r (List.mem_of_getElem? hr2)
      have n1 : ("\n" : Str).length = 1 := by decide +kernel
      refine ⟨rfl, yes (iteT ⟨_, rfl, .inl ⟨r, rfl, (by omega), r, rfl, (by rw [app_len, em_len]; omega), _, rfl, (by rw [app_len, app_len, em_len]; omega), _, upd_same, ?_, ?_⟩⟩)⟩
      · rw [List.length_map, List.length_map, List.length_take]
        omega
      · rw [upd_upd, take_more hr2, List.map_append, List.map_append, empty_app]
        rfl
    · rintro H1 rfl
      rw [List.length_map, List.take_length]
      refine ⟨_, D, rs.map lnT, rfl, rfl, .inl (SqL.of upd_same), ?_, ?_⟩
      · have := sum_le (n := 1001) (ps := rs.map lnT) fun p hp => by
          obtain ⟨r, hr, rfl⟩ := List.mem_map.mp hp
          rw [lnT_len]
          have := hw r hr
          omega
        have e : ("" : Str).length = 0 := by decide +kernel
        rw [e, Nat.mul_zero]
        rw [List.length_map] at this
        have : rs.length * 1001 ≤ 1000 * 1001 := Nat.mul_le_mul_right _ hn
        omega
      · rw [join_eq]
        exact k _ (same_new hD)
theorem c_hr (D : DefT K mg "head_row" sHr ["name", "upper"]) : Cal P w K mg base 1 "head_row" spHr := by
  refine cal D scHr (fun vs H Q E h => ?_) (fun f cdv A outer s H vs Q E hr h => ?_)
  · obtain ⟨h, rfl, _⟩ := h
    rfl
  · obtain ⟨h, rfl, l1, l2, k⟩ := h
    have hz : sizeLine = 16777216 := by decide
    have n1 : ("head " : Str).length = 5 := by decide +kernel
    have n2 : (" in " : Str).length = 4 := by decide +kernel
    refine ⟨_, (pss_one (ps_ret (pe_ifExp (pt_cmpR op_eq (pv 1) pe_str (nomark _)) (KT.pe_fs (.cons pe_str (.cons (pe_fmt (pv 0)) .nil))) (KT.pe_fs (.cons pe_str (.cons (pe_fmt (pv 0)) (.cons pe_str (.cons (pe_fmt (pv 1)) .nil)))))))), ?_⟩
    refine ⟨_, rfl, rfl, _, rfl, ite2 (fun c => ?_) (fun c => ?_)⟩
    · have e : h.2 = "" := by simpa using c
      unfold headW at k
      rw [if_pos e, ← fs_head] at k
      exact ⟨_, rfl, (by rw [app_len, em_len]; omega), _, rfl, .inl ⟨h.1, rfl, (by omega), _, rfl, (by rw [app_len, app_len, em_len]; omega), k⟩⟩
    · have e : h.2 ≠ "" := by simpa using c
      unfold headW at k
      rw [if_neg e, ← fs_head2] at k
      exact ⟨_, rfl, (by rw [app_len, em_len]; omega), _, rfl, .inl ⟨h.1, rfl, (by omega), _, rfl, (by rw [app_len, app_len, em_len]; omega), _, rfl, (by rw [app_len, app_len, app_len, em_len]; omega), _, rfl, .inl ⟨h.2, rfl, (by omega), _, rfl, (by rw [app_len, app_len, app_len, app_len, em_len]; omega), k⟩⟩⟩
theorem c_ro2 (B : Base K mg) (D : DefT K mg "rows_of" sRo2 ["text"]) : Cal P w K mg base 1 "rows_of" spRo2 := by
  refine cal D scRo2 (fun vs H Q E h => ?_) (fun f cdv A outer s H vs Q E hr h => ?_)
  · obtain ⟨rs, rfl, _⟩ := h
    rfl
  · obtain ⟨rs, rfl, hf, hl, k⟩ := h
    refine ⟨_, (pss_cons (ps_if (pt_not (pt_val (pe_callB call_isi (by rfl) B.isi (by decide +kernel) (pa_cons (pv 0) (pa_cons (pe_bltn (v := .ty "str") (by rfl) B.str (by decide +kernel) rfl) pa_nil))))) (pss_one ps_never) pss_nil)
        (pss_cons (ps_asg (pe_split (pv 0) pe_str) (KT.pg_star (n := 2) (i := 0) rfl (KT.pgs_star (pg_name (i := 1) scRo2.nd rfl (by first | exact Or.inl rfl | exact Or.inr rfl)) (pgs_cons (pg_name (i := 2) scRo2.nd rfl (by first | exact Or.inl rfl | exact Or.inr rfl)) pgs_nil))))
        (pss_cons (ps_if (pt_cmpR op_ne (pv 2) pe_str (nomark _)) (pss_one ps_never) pss_nil)
        (pss_one (ps_ret (pv 1)))))), ?_⟩
    refine ⟨_, rfl, _, _, _, _, true, rfl, .ty _, .base (.str _), kit_ty (by decide +kernel), _, rfl, iteF ?_⟩
    have es : Txt.split (linesT rs) "\n" = rs ++ [em] := lines_split hf
    refine ⟨_, rfl, ⟨_, rfl⟩, _, _, rfl, rfl, (by decide +kernel), hl, fun p hp => ?_⟩
    rw [es]
    have el : ((rs ++ [em]).map V.str).length + 1 - 2 = rs.length := by simp
    have e1 : (((rs ++ [em]).map V.str).drop 0).take (((rs ++ [em]).map V.str).length + 1 - 2) = rs.map V.str := by
      rw [el, List.drop_zero, List.map_append, List.take_append_of_le_length (by simp), List.take_of_length_le (by simp)]
    have e2 : (((rs ++ [em]).map V.str).drop 0).drop (((rs ++ [em]).map V.str).length + 1 - 2) = [V.str em] := by
      rw [el, List.drop_zero, List.map_append, List.drop_append_of_le_length (by simp), List.drop_of_length_le (by simp)]
      rfl
    refine ⟨p, _, rfl, SqL.of upd_same, (by simp), fun D2 hD2 => ?_⟩
    rw [e1, e2]
    refine ⟨_, _, rfl, _, _, rfl, rfl, _, rfl, rfl, _, rfl, iteF ?_⟩
    refine ⟨_, rfl, k D2 _ ((same_new hp).trans (same_new hD2)) (same_none (same_new hp) hD2) upd_same⟩
set_option maxHeartbeats 4000000 in
theorem c_yt (B : Base K mg) (T : YearF K mg C) (I : YearI K C) (Tx : Cal P w K mg base 1 "text_of" spTx) (Hr : Cal P w K mg base 1 "head_row" spHr) (D : DefT K mg "year_text" sYt ["year"]) : Cal P w K mg base 2 "year_text" (spYt C) := by
  refine cal D scYt (fun vs H Q E h => ?_) (fun f cdv A outer s H vs Q E hr h => ?_)
  · obtain ⟨p, y, rfl, _⟩ := h
    rfl
  · obtain ⟨p, y, rfl, hy, ok, k⟩ := h
    obtain ⟨dx, l1, l2, l3, t1, t2, t3, hp, r1, r2, r3, _⟩ := hy.ex
    have hz : sizeLine = 16777216 := by decide
    have d := ok.d
    have thl : t1.length = y.hs.length := by rw [r1.len, List.length_map]
    have tll : t2.length = y.ls.length := by rw [r2.len, List.length_map]
    have trl : t3.length = y.rs.length := by rw [r3.len, List.length_map]
    have h8 := ok.h.l8
    have h6 := ok.l6
    have h4 := ok.r4
    refine ⟨_, (pss_cons (ps_if (pt_not (pt_val (pe_callB call_isi (by rfl) B.isi (by decide +kernel) (pa_cons (pv 0) (pa_cons (pe_glob (v := .ref C) rfl T.mgC rfl) pa_nil))))) (pss_one ps_never) pss_nil)
        (pss_cons (ps_set (i := 1) scYt.nd rfl (by first | exact Or.inl rfl | exact Or.inr rfl) (pe_lstW (pa_cons (KT.pe_fs (.cons pe_str (.cons (pe_fmt (pe_fld (pv 0) rfl)) .nil))) pa_nil)))
        (C8.pss_cut (ps_aug (i := 1) scYt.nd rfl (by first | exact Or.inl rfl | exact Or.inr rfl) (pe_lc (own := [("name", 2), ("upper", 3)]) (g := (gTup K 2 (gCons (gName 2) (gCons (gName 3) gNil)))) (tt := tYes) rfl scYt.nd (pi_list (pe_fld (pv 0) rfl)) (blkOk_by (N := nYt) (sc := defScope sYt) (by decide +kernel)) (fun _ _ _ _ _ => (pg_tup rfl (pgs_cons (pg_name (i := 2) scYt.nd rfl (by first | exact Or.inl rfl | exact Or.inr rfl)) (pgs_cons (pg_name (i := 3) scYt.nd rfl (by first | exact Or.inl rfl | exact Or.inr rfl)) pgs_nil)))) (fun _ _ _ _ _ => pts_nil) (fun _ _ _ _ _ => (pe_cl Hr hr (by decide) (by rfl) (pa_cons (pv 2) (pa_cons (pv 3) pa_nil))))) iop_ext)
        (C8.pss_cut (ps_aug (i := 1) scYt.nd rfl (by first | exact Or.inl rfl | exact Or.inr rfl) (pe_lc (own := [("head", 4), ("first", 5), ("last", 6), ("most", 7)]) (g := (gTup K 4 (gCons (gName 4) (gCons (gName 5) (gCons (gName 6) (gCons (gName 7) gNil)))))) (tt := tYes) (te := (KT.tFs [tC (.str "limit "), tFmt (tVar 4), tC (.str " "), tFmt (tVar 5), tC (.str " "), tFmt (tVar 6), tC (.str " "), tFmt (tVar 7)])) rfl scYt.nd (pi_list (pe_fld (pv 0) rfl)) (blkOk_by (N := nYt) (sc := defScope sYt) (by decide +kernel)) (fun _ _ _ _ _ => (pg_tup rfl (pgs_cons (pg_name (i := 4) scYt.nd rfl (by first | exact Or.inl rfl | exact Or.inr rfl)) (pgs_cons (pg_name (i := 5) scYt.nd rfl (by first | exact Or.inl rfl | exact Or.inr rfl)) (pgs_cons (pg_name (i := 6) scYt.nd rfl (by first | exact Or.inl rfl | exact Or.inr rfl)) (pgs_cons (pg_name (i := 7) scYt.nd rfl (by first | exact Or.inl rfl | exact Or.inr rfl)) pgs_nil)))))) (fun _ _ _ _ _ => pts_nil) (fun _ _ _ _ _ => (KT.pe_fs (.cons pe_str (.cons (pe_fmt (pv 4)) (.cons pe_str (.cons (pe_fmt (pv 5)) (.cons pe_str (.cons (pe_fmt (pv 6)) (.cons pe_str (.cons (pe_fmt (pv 7)) .nil))))))))))) iop_ext)
        (C8.pss_cut (ps_aug (i := 1) scYt.nd rfl (by first | exact Or.inl rfl | exact Or.inr rfl) (pe_lc (own := [("head", 4), ("part", 8), ("whole", 9), ("until", 10)]) (g := (gTup K 4 (gCons (gName 4) (gCons (gName 8) (gCons (gName 9) (gCons (gName 10) gNil)))))) (tt := tYes) (te := (KT.tFs [tC (.str "rule "), tFmt (tVar 4), tC (.str " "), tFmt (tVar 8), tC (.str " "), tFmt (tVar 9), tC (.str " "), tFmt (tVar 10)])) rfl scYt.nd (pi_list (pe_fld (pv 0) rfl)) (blkOk_by (N := nYt) (sc := defScope sYt) (by decide +kernel)) (fun _ _ _ _ _ => (pg_tup rfl (pgs_cons (pg_name (i := 4) scYt.nd rfl (by first | exact Or.inl rfl | exact Or.inr rfl)) (pgs_cons (pg_name (i := 8) scYt.nd rfl (by first | exact Or.inl rfl | exact Or.inr rfl)) (pgs_cons (pg_name (i := 9) scYt.nd rfl (by first | exact Or.inl rfl | exact Or.inr rfl)) (pgs_cons (pg_name (i := 10) scYt.nd rfl (by first | exact Or.inl rfl | exact Or.inr rfl)) pgs_nil)))))) (fun _ _ _ _ _ => pts_nil) (fun _ _ _ _ _ => (KT.pe_fs (.cons pe_str (.cons (pe_fmt (pv 4)) (.cons pe_str (.cons (pe_fmt (pv 8)) (.cons pe_str (.cons (pe_fmt (pv 9)) (.cons pe_str (.cons (pe_fmt (pv 10)) .nil))))))))))) iop_ext)
        (pss_one (ps_ret (pe_cl Tx hr (by decide) (by rfl) (pa_cons (pv 1) pa_nil))))))))), ?_⟩
    refine ⟨_, rfl, _, _, _, _, true, rfl, .own _, ty_year T I hy, kit_self, _, rfl, iteF ?_⟩
    have n1 : ("year " : Str).length = 5 := by decide +kernel
    have n5 : ("limit " : Str).length = 6 := by decide +kernel
    have n6 : ("rule " : Str).length = 5 := by decide +kernel
    have n0 : (" " : Str).length = 1 := by decide +kernel
    have ld : (toString y.days : Str).length ≤ 16 := nt_len (i := y.days) (by omega) (by omega)
    refine ⟨_, rfl, (by rw [app_len, em_len]; omega), _, rfl, p, C, dx, _, _, rfl, hp, T.cl, T.nd, rfl, .inr ⟨y.days, rfl, log_le (by omega) (by omega), _, rfl, (by rw [app_len, app_len, em_len]; omega), (by show 1 ≤ sizeLine; omega), fun R H1 s1 nR hR' => ?_⟩⟩
    have hR : H1 R = some (.lst (([rowT (yearW y.days)]).map V.str)) := by
      rw [hR', ← fs_year]
      rfl
    -- the heads
    have nbR : ∀ {b : Addr} {o : HO}, H b = some o → b ≠ R := fun e => ne_of_none e nR
    refine ⟨fun σ' H3 => σ' = [some (.ref p), some (.ref R), none, none, none, none, none, none, none, none, none] ∧ H3 R = some (.lst (([rowT (yearW y.days)] ++ y.hs.map fun h => rowT (headW h)).map V.str)) ∧ Same H H3, ?_, ?_⟩
    · refine ⟨_, rfl, _, rfl, p, C, dx, _, _, rfl, s1 _ _ hp, T.cl, T.nh, rfl, l1, rfl, ⟨_, SqL.of (s1 _ _ r1.1)⟩, fun D1 hD1 => lc_it (walk_list (xs := t1.map V.ref)) (fun i H' => H' = upd H1 D1 (.lst (((y.hs.take i).map fun h => rowT (headW h)).map V.str))) rfl (fun i H' _ e => by rw [e]; exact SqL.of (same_new hD1 _ _ (s1 _ _ r1.1))) ?_ ?_⟩
      · rintro i v H2 H3 hi rfl ⟨rfl, hv⟩
        obtain ⟨t, r, rfl, hr1, ht, hti⟩ := row_get r1 hv
        have rr := rw_head ok.h (List.mem_of_getElem? hr1)
        have hm := nms_get hr1
        have w1 := ok.h.w _ (List.mem_of_getElem? hm)
        have w2 : r.2.length ≤ 1000 := by
          rcases ok.h.up i r hr1 with e | ⟨j, _, e⟩
          · rw [e]
            exact Nat.le_trans (show em.length ≤ 0 by decide +kernel) (by omega)
          · exact Nat.le_trans (ok.h.w _ (List.mem_of_getElem? e)).2.2 (by decide)
        refine ⟨t, _, rfl, SqT.of (same_new hD1 _ _ (s1 _ _ ht)), rfl, _, _, rfl, _, _, rfl, rfl, rfl, yes (iteT ⟨_, rfl, _, rfl, r, rfl, Nat.le_trans w1.2.2 (by decide), w2, _, upd_same, ?_, ?_⟩)⟩
        · rw [List.length_map, List.length_map, List.length_take]
          omega
        · rw [upd_upd, take_more hr1, List.map_append, List.map_append]
          rfl
      rintro H2 rfl
      have eH : (y.hs.take (t1.map V.ref).length) = y.hs := List.take_of_length_le (by rw [List.length_map, thl]; exact Nat.le_refl _)
      rw [eH]
      have RD1 : R ≠ D1 := ne_of_none hR hD1
      have s2 := same_new (o := .lst ((y.hs.map fun h => rowT (headW h)).map V.str)) hD1
      refine ⟨R, D1, _, _, rfl, rfl, s2 _ _ hR, upd_same, (by rw [List.length_map, List.length_map, List.length_map]; show 1 + _ ≤ _; omega), ?_⟩
      rw [← List.map_append]
      exact ⟨rfl, upd_same, fun b o e => by
        rw [upd_ne (nbR e)]
        exact s2 _ _ (s1 _ _ e)⟩
    rintro σ H3 ⟨rfl, R3, s3⟩
    -- the limits
    refine ⟨fun σ' H5 => σ' = [some (.ref p), some (.ref R), none, none, none, none, none, none, none, none, none] ∧ H5 R = some (.lst (([rowT (yearW y.days)] ++ (y.hs.map fun h => rowT (headW h)) ++ y.ls.map fun h => rowT (limW h)).map V.str)) ∧ Same H H5, ?_, ?_⟩
    · refine ⟨_, rfl, _, rfl, p, C, dx, _, _, rfl, s3 _ _ hp, T.cl, T.nl, rfl, l2, rfl, ⟨_, SqL.of (s3 _ _ r2.1)⟩, fun D2 hD2 => lc_it (walk_list (xs := t2.map V.ref)) (fun i H' => H' = upd H3 D2 (.lst (((y.ls.take i).map fun h => rowT (limW h)).map V.str))) rfl (fun i H' _ e => by rw [e]; exact SqL.of (same_new hD2 _ _ (s3 _ _ r2.1))) ?_ ?_⟩
      · rintro i v H4 H5 hi rfl ⟨rfl, hv⟩
        obtain ⟨t, r, rfl, hr1, ht, hti⟩ := row_get r2 hv
        obtain ⟨m1, m2, m3, m4⟩ := ok.l r (List.mem_of_getElem? hr1)
        have w1 := (ok.h.w _ m1).2.2
        refine ⟨t, _, rfl, SqT.of (same_new hD2 _ _ (s3 _ _ ht)), rfl, _, _, rfl, _, _, rfl, _, _, rfl, _, _, rfl, rfl, rfl, yes (iteT (fs5 (k2 := "limit") (by decide +kernel) (by decide +kernel) rfl rfl rfl rfl w1 (by omega) (by omega) (by omega) (by omega) (by omega) (by omega) ⟨_, upd_same, ?_, ?_⟩))⟩
        · rw [List.length_map, List.length_map, List.length_take]
          omega
        · rw [upd_upd, take_more hr1, List.map_append, List.map_append]
          rfl
      rintro H4 rfl
      have eL : (y.ls.take (t2.map V.ref).length) = y.ls := List.take_of_length_le (by rw [List.length_map, tll]; exact Nat.le_refl _)
      rw [eL]
      have s4 := same_new (o := .lst ((y.ls.map fun h => rowT (limW h)).map V.str)) hD2
      refine ⟨R, D2, _, _, rfl, rfl, s4 _ _ R3, upd_same, (by simp only [List.length_map, List.length_append, List.length_singleton]; omega), ?_⟩
      rw [← List.map_append]
      exact ⟨rfl, upd_same, fun b o e => by
        rw [upd_ne (nbR e)]
        exact s4 _ _ (s3 _ _ e)⟩
    rintro σ H5 ⟨rfl, R5, s5⟩
    -- the rules
    refine ⟨fun σ' H7 => σ' = [some (.ref p), some (.ref R), none, none, none, none, none, none, none, none, none] ∧ H7 R = some (.lst (((rowsW y).map rowT).map V.str)) ∧ Same H H7, ?_, ?_⟩
    · refine ⟨_, rfl, _, rfl, p, C, dx, _, _, rfl, s5 _ _ hp, T.cl, T.nr, rfl, l3, rfl, ⟨_, SqL.of (s5 _ _ r3.1)⟩, fun D3 hD3 => lc_it (walk_list (xs := t3.map V.ref)) (fun i H' => H' = upd H5 D3 (.lst (((y.rs.take i).map fun h => rowT (rulW h)).map V.str))) rfl (fun i H' _ e => by rw [e]; exact SqL.of (same_new hD3 _ _ (s5 _ _ r3.1))) ?_ ?_⟩
      · rintro i v H6 H7 hi rfl ⟨rfl, hv⟩
        obtain ⟨t, r, rfl, hr1, ht, hti⟩ := row_get r3 hv
        obtain ⟨m1, m2, m3, m4⟩ := ok.r r (List.mem_of_getElem? hr1)
        have w1 := (ok.h.w _ m1).2.2
        refine ⟨t, _, rfl, SqT.of (same_new hD3 _ _ (s5 _ _ ht)), rfl, _, _, rfl, _, _, rfl, _, _, rfl, _, _, rfl, rfl, rfl, yes (iteT (fs5 (k2 := "rule") (by decide +kernel) (by decide +kernel) rfl rfl rfl rfl w1 (by omega) (by omega) (by omega) (by omega) (by omega) (by omega) ⟨_, upd_same, ?_, ?_⟩))⟩
        · rw [List.length_map, List.length_map, List.length_take]
          omega
        · rw [upd_upd, take_more hr1, List.map_append, List.map_append]
          rfl
      rintro H6 rfl
      have eR : (y.rs.take (t3.map V.ref).length) = y.rs := List.take_of_length_le (by rw [List.length_map, trl]; exact Nat.le_refl _)
      rw [eR]
      have s6 := same_new (o := .lst ((y.rs.map fun h => rowT (rulW h)).map V.str)) hD3
      refine ⟨R, D3, _, _, rfl, rfl, s6 _ _ R5, upd_same, (by simp only [List.length_map, List.length_append, List.length_singleton]; omega), ?_⟩
      rw [← List.map_append]
      have er : [rowT (yearW y.days)] ++ (y.hs.map fun h => rowT (headW h)) ++ (y.ls.map fun h => rowT (limW h)) ++ (y.rs.map fun h => rowT (rulW h)) = (rowsW y).map rowT := by
        unfold rowsW
        simp only [List.map_cons, List.map_append, List.map_map, List.singleton_append, List.cons_append]
        rfl
      rw [er]
      exact ⟨rfl, upd_same, fun b o e => by
        rw [upd_ne (nbR e)]
        exact s6 _ _ (s5 _ _ e)⟩
    rintro σ H7 ⟨rfl, R7, s7⟩
    refine ⟨_, rfl, R, _, rfl, R7, fun r hr => ?_, ?_, fun H8 s8 => k H8 (s7.trans s8)⟩
    · obtain ⟨ws, hw, rfl⟩ := List.mem_map.mp hr
      exact Nat.le_trans (rowT_le (rw_all ok ws hw)) (by decide)
    · rw [List.length_map]
      exact Nat.le_trans (rowsW_len ok) (by decide)
end
end KP
namespace KP
open PySem L2 KD KM KT TL
abbrev sYo : Stmt := top 62
abbrev nYo : List Str := ["rows", "days", "heads", "limits", "rules", "row", "words", "many", "name", "upper", "fields"]
theorem scYo : FnScope nYo ["rows"] (defScope sYo) := ⟨rfl, rfl, rfl, by decide +kernel, rfl, by decide +kernel, by decide +kernel⟩
abbrev sRy : Stmt := top 63
abbrev nRy : List Str := ["text", "year"]
theorem scRy : FnScope nRy ["text"] (defScope sRy) := ⟨rfl, rfl, rfl, by decide +kernel, rfl, by decide +kernel, by decide +kernel⟩

inductive RK where
  | yr (d : Int)
  | hd (h : Hd)
  | lm (r : Rw4)
  | rl (r : Rw4)
def RK.ws : RK → List Str
  | .yr d => yearW d
  | .hd h => headW h
  | .lm r => limW r
  | .rl r => rulW r
def RK.h : RK → Option Hd
  | .hd h => some h
  | _ => none
def RK.l : RK → Option Rw4
  | .lm h => some h
  | _ => none
def RK.r : RK → Option Rw4
  | .rl h => some h
  | _ => none
def rks (y : Yr) : List RK := .yr y.days :: (y.hs.map RK.hd ++ y.ls.map RK.lm ++ y.rs.map RK.rl)
theorem rks_ws (y : Yr) : (rks y).map RK.ws = rowsW y := by
  unfold rks rowsW
  simp only [List.map_cons, List.map_append, List.map_map]
  rfl
theorem fm_some {α β : Type} {f : α → β} {g : β → Option α} (h : ∀ a, g (f a) = some a) : ∀ l : List α, (l.map f).filterMap g = l
  | [] => rfl
  | a :: l => by rw [List.map_cons, List.filterMap_cons_some (h a), fm_some h l]
theorem fm_none {α β γ : Type} {f : α → β} {g : β → Option γ} (h : ∀ a, g (f a) = none) : ∀ l : List α, (l.map f).filterMap g = []
  | [] => rfl
  | a :: l => by rw [List.map_cons, List.filterMap_cons_none (h a), fm_none h l]
theorem rks_h (y : Yr) : (rks y).filterMap RK.h = y.hs := by
  unfold rks
  rw [List.filterMap_cons_none rfl, List.filterMap_append, List.filterMap_append, fm_some (f := RK.hd) (g := RK.h) (fun _ => rfl), fm_none (fun _ => rfl), fm_none (fun _ => rfl), List.append_nil, List.append_nil]
theorem rks_l (y : Yr) : (rks y).filterMap RK.l = y.ls := by
  unfold rks
  rw [List.filterMap_cons_none rfl, List.filterMap_append, List.filterMap_append, fm_none (fun _ => rfl), fm_some (f := RK.lm) (g := RK.l) (fun _ => rfl), fm_none (fun _ => rfl), List.append_nil, List.nil_append]
theorem rks_r (y : Yr) : (rks y).filterMap RK.r = y.rs := by
  unfold rks
  rw [List.filterMap_cons_none rfl, List.filterMap_append, List.filterMap_append, fm_none (fun _ => rfl), fm_none (fun _ => rfl), fm_some (f := RK.rl) (g := RK.r) (fun _ => rfl), List.nil_append, List.nil_append]
theorem rks_mem {y : Yr} {k : RK} (h : k ∈ rks y) : k = .yr y.days ∨ (∃ r ∈ y.hs, k = .hd r) ∨ (∃ r ∈ y.ls, k = .lm r) ∨ (∃ r ∈ y.rs, k = .rl r) := by
  unfold rks at h
  rcases List.mem_cons.mp h with h | h
  · exact .inl h
  · rcases List.mem_append.mp h with h | h
    · rcases List.mem_append.mp h with h | h
      · obtain ⟨r, hr, rfl⟩ := List.mem_map.mp h
        exact .inr (.inl ⟨r, hr, rfl⟩)
      · obtain ⟨r, hr, rfl⟩ := List.mem_map.mp h
        exact .inr (.inr (.inl ⟨r, hr, rfl⟩))
    · obtain ⟨r, hr, rfl⟩ := List.mem_map.mp h
      exact .inr (.inr (.inr ⟨r, hr, rfl⟩))
def spYo (C : Addr) : Sp := fun vs H Q _ => ∃ (l : Addr) (y : Yr), vs = [.ref l] ∧ H l = some (.lst (((rowsW y).map rowT).map V.str)) ∧ y.ok ∧
  ∀ (p : Addr) (H' : Hp), Same H H' → (∀ M : List Addr, (∀ a ∈ M, H a ≠ none) → YearAt C M H' p y) → Q (.ref p) H'
def spRy (C : Addr) : Sp := fun vs H Q _ => ∃ y : Yr, vs = [.str (ytext y)] ∧ y.ok ∧
  ∀ (p : Addr) (H' : Hp), Same H H' → (∀ M : List Addr, (∀ a ∈ M, H a ≠ none) → YearAt C M H' p y) → Q (.ref p) H'
/-- rows pushed -/
theorem rows_push {H : Hp} {l T : Addr} {ts : List Addr} {rows : List (List V)} {r : List V} (h : RowsAt H l ts rows) (hT : H T = some (.tup r)) : RowsAt (upd H l (.lst (ts.map V.ref ++ [V.ref T]))) l (ts ++ [T]) (rows ++ [r]) := by
  have ne : ∀ (b : Addr) (r : List V), H b = some (.tup r) → upd H l (.lst (ts.map V.ref ++ [V.ref T])) b = some (.tup r) := fun b r e => by
    rw [upd_ne (fun z => by rw [z, h.1] at e; cases e)]
    exact e
  refine ⟨by rw [upd_same, List.map_append]; rfl, ?_⟩
  exact paired_snoc (ne _ _ hT) (paired_mono ne h.2)
theorem rows_keep {H : Hp} {l m : Addr} {ts : List Addr} {rows : List (List V)} {xs ys : List V} (h : RowsAt H l ts rows) (hm : H m = some (.lst xs)) (n : l ≠ m) : RowsAt (upd H m (.lst ys)) l ts rows := by
  refine ⟨by rw [upd_ne n]; exact h.1, paired_mono (fun b r e => ?_) h.2⟩
  rw [upd_ne (fun z => by rw [z, hm] at e; cases e)]
  exact e
theorem hit_no {k z : Str} {f : List V → Bool} {vs : List V} (h : z ≠ k) : hitLit k f (.str z :: vs) = false := by
  show (decide (V.str z = V.str k) && f vs) = false
  rw [decide_eq_false (fun e => h (by injection e)), Bool.false_and]
theorem hit_yes {k : Str} {f : List V → Bool} {vs : List V} : hitLit k f (.str k :: vs) = f vs := by
  show (decide (V.str k = V.str k) && f vs) = f vs
  rw [decide_eq_true rfl, Bool.true_and]
section
variable {P : Program} {w : World} {K : PySem.W.Frag} {mg : Str → Option Value} {base : Heap} {C : Addr}
set_option maxHeartbeats 4000000 in
theorem c_yo (B : Base K mg) (Rf : Cal P w K mg base 2 "read_field" spRf) (Rfs : Cal P w K mg base 3 "read_fields" spRfs) (Yc : MakT P w K mg base 4 "Year" C (spYear C)) (D : DefT K mg "year_of" sYo ["rows"]) : Cal P w K mg base 6 "year_of" (spYo C) := by
  refine cal D scYo (fun vs H Q E h => ?_) (fun f cdv A outer s H vs Q E hr h => ?_)
  · obtain ⟨l, y, rfl, _⟩ := h
    rfl
  · obtain ⟨l, y, rfl, hl, ok, k⟩ := h
    have hz : sizeLine = 16777216 := by decide
    have d := ok.d
    have h8 := ok.h.l8
    have h6 := ok.l6
    have h4 := ok.r4
    refine ⟨_, (pss_cons (ps_set (i := 1) scYo.nd rfl (by first | exact Or.inl rfl | exact Or.inr rfl) pe_non)
        (pss_cons (ps_set (i := 2) scYo.nd rfl (by first | exact Or.inl rfl | exact Or.inr rfl) (pe_lstW pa_nil))
        (pss_cons (ps_set (i := 3) scYo.nd rfl (by first | exact Or.inl rfl | exact Or.inr rfl) (pe_lstW pa_nil))
        (pss_cons (ps_set (i := 4) scYo.nd rfl (by first | exact Or.inl rfl | exact Or.inr rfl) (pe_lstW pa_nil))
        (pss_cons (ps_for PassesOwn.never rfl (pi_list (pv 0)) (pg_name (i := 5) scYo.nd rfl (by first | exact Or.inl rfl | exact Or.inr rfl)) (pss_cons (ps_set (i := 6) scYo.nd rfl (by first | exact Or.inl rfl | exact Or.inr rfl) (pe_split (pv 5) pe_str))
        (pss_one (KM.ps_match (pv 6)
          (KT.pm_seq (n := 2) rfl (KT.each_lit (KT.each_cap KT.each_nil)) (KM.stores_cons (i := 7) scYo.nd KM.stores_nil rfl (by first | exact Or.inl rfl | exact Or.inr rfl)) (pss_one (ps_set (i := 1) scYo.nd rfl (by first | exact Or.inl rfl | exact Or.inr rfl) (pe_cl Rf hr (by decide) (by rfl) (pa_cons (pv 7) pa_nil))))
          (KT.pm_seq (n := 2) rfl (KT.each_lit (KT.each_cap KT.each_nil)) (KM.stores_cons (i := 8) scYo.nd KM.stores_nil rfl (by first | exact Or.inl rfl | exact Or.inr rfl)) (pss_one (ps_expr (pe_bm PySem.F.plainAttrs_list PySem.F.slot_list_append PySem.F.type_list_append mt_append (pv 2) (pa_cons (pe_tupW (pa_cons (pv 8) (pa_cons pe_str pa_nil))) pa_nil))))
          (KT.pm_seq (n := 4) rfl (KT.each_lit (KT.each_cap (KT.each_lit (KT.each_cap KT.each_nil)))) (KM.stores_cons (i := 8) scYo.nd (KM.stores_cons (i := 9) scYo.nd KM.stores_nil rfl (by first | exact Or.inl rfl | exact Or.inr rfl)) rfl (by first | exact Or.inl rfl | exact Or.inr rfl)) (pss_one (ps_expr (pe_bm PySem.F.plainAttrs_list PySem.F.slot_list_append PySem.F.type_list_append mt_append (pv 2) (pa_cons (pe_tupW (pa_cons (pv 8) (pa_cons (pv 9) pa_nil))) pa_nil))))
          (KT.pm_star (n := 2) (i := 1) rfl (KT.each_lit (KT.each_star KT.each_nil)) (KM.stores_cons (i := 10) scYo.nd KM.stores_nil rfl (by first | exact Or.inl rfl | exact Or.inr rfl)) (pss_one (ps_expr (pe_bm PySem.F.plainAttrs_list PySem.F.slot_list_append PySem.F.type_list_append mt_append (pv 3) (pa_cons (pe_cl Rfs hr (by decide) (by rfl) (pa_cons (pv 10) pa_nil)) pa_nil))))
          (KT.pm_star (n := 2) (i := 1) rfl (KT.each_lit (KT.each_star KT.each_nil)) (KM.stores_cons (i := 10) scYo.nd KM.stores_nil rfl (by first | exact Or.inl rfl | exact Or.inr rfl)) (pss_one (ps_expr (pe_bm PySem.F.plainAttrs_list PySem.F.slot_list_append PySem.F.type_list_append mt_append (pv 4) (pa_cons (pe_cl Rfs hr (by decide) (by rfl) (pa_cons (pv 10) pa_nil)) pa_nil))))
          (KT.pm_wild (pss_one ps_never)))))))))))
        (pss_one (ps_ret (pe_mkT Yc hr (by decide) (by rfl) (pa_cons (pv 1) (pa_cons (pv 2) (pa_cons (pv 3) (pa_cons (pv 4) pa_nil)))))))))))), ?_⟩
    refine ⟨(by show 0 ≤ sizeLine; omega), fun Lh H1 s1 nLh hLh => ⟨(by show 0 ≤ sizeLine; omega), fun Ll H2 s2 nLl hLl => ⟨(by show 0 ≤ sizeLine; omega), fun Lr H3 s3 nLr hLr => ?_⟩⟩⟩
    have hl3 := s3 _ _ (s2 _ _ (s1 _ _ hl))
    have n12 : Lh ≠ Ll := ne_of_none hLh nLl
    have n13 : Lh ≠ Lr := ne_of_none (s2 _ _ hLh) nLr
    have n23 : Ll ≠ Lr := ne_of_none hLl nLr
    have nll : H Ll = none := same_none s1 nLl
    have nlr : H Lr = none := same_none (s1.trans s2) nLr
    have hlen : (((rowsW y).map rowT).map V.str).length = (rks y).length := by rw [List.length_map, List.length_map, ← rks_ws, List.length_map]
    refine ⟨_, rfl, l, rfl, ⟨_, SqL.of hl3⟩, for_list (K := K) (a := l) (xs := ((rowsW y).map rowT).map V.str) (fun i σ H' => ∃ (v1 : V) (v5 v6 v7 v8 v9 v10 : Option V) (th tl tr : List Addr), σ = [some (.ref l), some v1, some (.ref Lh), some (.ref Ll), some (.ref Lr), v5, v6, v7, v8, v9, v10] ∧ (i ≠ 0 → v1 = .int y.days) ∧ Same H H' ∧
        RowsAt H' Lh th ((((rks y).take i).filterMap RK.h).map hv) ∧ RowsAt H' Ll tl ((((rks y).take i).filterMap RK.l).map rv) ∧ RowsAt H' Lr tr ((((rks y).take i).filterMap RK.r).map rv))
      ⟨.non, none, none, none, none, none, none, [], [], [], rfl, (fun z => absurd rfl z), (s1.trans s2).trans s3, ⟨s3 _ _ (s2 _ _ hLh), .nil⟩, ⟨s3 _ _ hLl, .nil⟩, ⟨hLr, .nil⟩⟩ (fun i σ H' _ ⟨_, _, _, _, _, _, _, _, _, _, _, _, z, _⟩ => SqL.of (z _ _ hl)) ?_ ?_⟩
    · rintro i v σ H4 hi ⟨v1, v5, v6, v7, v8, v9, v10, th, tl', tr, rfl, hv1, s4, r1, r2, r3⟩
      obtain ⟨k1, hk1, rfl⟩ : ∃ k1, (rks y)[i]? = some k1 ∧ v = V.str (rowT k1.ws) := by
        rw [← rks_ws, List.getElem?_map, List.getElem?_map, List.getElem?_map] at hi
        cases e : (rks y)[i]? with
        | none => rw [e] at hi; cases hi
        | some k1 => rw [e] at hi; exact ⟨k1, rfl, (Option.some.inj hi).symm⟩
      have km := List.mem_of_getElem? hk1
      have kw : Rw k1.ws := rw_all ok _ (by rw [← rks_ws]; exact List.mem_map_of_mem km)
      have klen := rowT_le kw
      have es : Txt.split (rowT k1.ws) " " = k1.ws := row_split kw.1 fun w hw => (kw.2.2 w hw).2.1
      have l1 := r1.len
      have l2 := r2.len
      have l3 := r3.len
      rw [List.length_map] at l1 l2 l3
      have c1 : (((rks y).take i).filterMap RK.h).length ≤ (rks y).length := Nat.le_trans (List.length_filterMap_le _ _) (by rw [List.length_take]; omega)
      have c2 : (((rks y).take i).filterMap RK.l).length ≤ (rks y).length := Nat.le_trans (List.length_filterMap_le _ _) (by rw [List.length_take]; omega)
      have c3 : (((rks y).take i).filterMap RK.r).length ≤ (rks y).length := Nat.le_trans (List.length_filterMap_le _ _) (by rw [List.length_take]; omega)
      have c0 : (rks y).length ≤ 19 := by
        have := rowsW_len ok
        rw [← rks_ws, List.length_map] at this
        exact this
      have fh := take_more hk1
      refine ⟨_, rfl, ⟨_, rfl⟩, _, _, rfl, rfl, (by decide +kernel), (by omega), fun W hW => ?_⟩
      rw [es]
      have sW : Same H4 (upd H4 W (.lst (k1.ws.map V.str))) := same_new hW
      have hWW : upd H4 W (.lst (k1.ws.map V.str)) W = some (.lst (k1.ws.map V.str)) := upd_same
      generalize upd H4 W (.lst (k1.ws.map V.str)) = H5 at sW hWW
      have S5 := s4.trans sW
      have R1 := r1.same sW
      have R2 := r2.same sW
      have R3 := r3.same sW
      have nbH : ∀ {b : Addr} {o : HO}, H b = some o → b ≠ Lh ∧ b ≠ Ll ∧ b ≠ Lr := fun e => ⟨ne_of_none e nLh, ne_of_none e nll, ne_of_none e nlr⟩
      refine ⟨_, rfl, ?_⟩
      rcases rks_mem km with rfl | ⟨r, hr2, rfl⟩ | ⟨r, hr2, rfl⟩ | ⟨r, hr2, rfl⟩
      · refine ⟨W, [.str "year", .str (nt y.days)], rfl, SqL.of hWW, .inr ⟨rfl, ⟨⟨_, rfl⟩, trivial⟩, .inl ⟨hit_yes, ?_⟩⟩⟩
        refine ⟨_, rfl, nt y.days, rfl, (by have := nt_len (i := y.days) (by omega) (by omega); omega), fun H6 s6 => ?_⟩
        rw [field_n (by omega) (by omega)]
        refine ⟨_, _, _, _, _, _, _, th, tl', tr, rfl, (fun _ => rfl), S5.trans s6, ?_, ?_, ?_⟩
        · rw [fh, List.filterMap_append, List.filterMap_cons_none rfl, List.filterMap_nil, List.append_nil]
          exact R1.same s6
        · rw [fh, List.filterMap_append, List.filterMap_cons_none rfl, List.filterMap_nil, List.append_nil]
          exact R2.same s6
        · rw [fh, List.filterMap_append, List.filterMap_cons_none rfl, List.filterMap_nil, List.append_nil]
          exact R3.same s6
      · by_cases e0 : r.2 = ""
        · have ew : (RK.hd r).ws = (["head", r.1] : List Str) := by show headW r = _; unfold headW; rw [if_pos e0]
          rw [ew] at hWW
          refine ⟨W, [.str "head", .str r.1], rfl, SqL.of hWW, .inr ⟨rfl, ⟨⟨_, rfl⟩, trivial⟩, .inr ⟨hit_no (by decide +kernel), ?_⟩⟩⟩
          refine ⟨W, [.str "head", .str r.1], rfl, SqL.of hWW, .inr ⟨rfl, ⟨⟨_, rfl⟩, trivial⟩, .inl ⟨hit_yes, ?_⟩⟩⟩
          refine ⟨_, rfl, .inl ⟨rfl, _, SqL.of R1.1⟩, _, rfl, (by show 2 ≤ sizeLine; omega), fun T H6 s6 nT hT => ?_⟩
          have hT' : H6 T = some (.tup (hv r)) := by rw [hT]; unfold hv; rw [e0]
          have R1' := R1.same s6
          have R2' := R2.same s6
          have R3' := R3.same s6
          refine ⟨Lh, _, _, rfl, rfl, R1'.1, (by rw [List.length_map]; omega), ?_⟩
          refine ⟨_, _, _, _, _, _, _, th ++ [T], tl', tr, rfl, ?_, ?_, ?_, ?_, ?_⟩
          · exact fun _ => hv1 (fun z => by rw [z] at hk1; cases hk1)
          · exact fun b o e => by rw [upd_ne (nbH e).1]; exact s6 _ _ (S5 _ _ e)
          · rw [fh, List.filterMap_append, List.filterMap_cons_some (f := RK.h) (b := r) rfl, List.map_append]
            exact rows_push R1' hT'
          · rw [fh, List.filterMap_append, List.filterMap_cons_none rfl, List.filterMap_nil, List.append_nil]
            exact rows_keep R2' R1'.1 n12.symm
          · rw [fh, List.filterMap_append, List.filterMap_cons_none rfl, List.filterMap_nil, List.append_nil]
            exact rows_keep R3' R1'.1 n13.symm
        · have ew : (RK.hd r).ws = (["head", r.1, "in", r.2] : List Str) := by show headW r = _; unfold headW; rw [if_neg e0]
          rw [ew] at hWW
          refine ⟨W, [.str "head", .str r.1, .str "in", .str r.2], rfl, SqL.of hWW, .inl ⟨(by simp), ?_⟩⟩
          refine ⟨W, [.str "head", .str r.1, .str "in", .str r.2], rfl, SqL.of hWW, .inl ⟨(by simp), ?_⟩⟩
          refine ⟨W, [.str "head", .str r.1, .str "in", .str r.2], rfl, SqL.of hWW, .inr ⟨rfl, ⟨⟨_, rfl⟩, ⟨_, rfl⟩, trivial⟩, .inl ⟨?_, ?_⟩⟩⟩
          · rw [hit_yes]
            exact (hit_yes (k := "in") (f := hitCap fun x => true) (vs := [.str r.2]))
          refine ⟨_, rfl, .inl ⟨rfl, _, SqL.of R1.1⟩, _, rfl, _, rfl, (by show 2 ≤ sizeLine; omega), fun T H6 s6 nT hT => ?_⟩
          have hT' : H6 T = some (.tup (hv r)) := hT
          have R1' := R1.same s6
          have R2' := R2.same s6
          have R3' := R3.same s6
          refine ⟨Lh, _, _, rfl, rfl, R1'.1, (by rw [List.length_map]; omega), ?_⟩
          refine ⟨_, _, _, _, _, _, _, th ++ [T], tl', tr, rfl, ?_, ?_, ?_, ?_, ?_⟩
          · exact fun _ => hv1 (fun z => by rw [z] at hk1; cases hk1)
          · exact fun b o e => by rw [upd_ne (nbH e).1]; exact s6 _ _ (S5 _ _ e)
          · rw [fh, List.filterMap_append, List.filterMap_cons_some (f := RK.h) (b := r) rfl, List.map_append]
            exact rows_push R1' hT'
          · rw [fh, List.filterMap_append, List.filterMap_cons_none rfl, List.filterMap_nil, List.append_nil]
            exact rows_keep R2' R1'.1 n12.symm
          · rw [fh, List.filterMap_append, List.filterMap_cons_none rfl, List.filterMap_nil, List.append_nil]
            exact rows_keep R3' R1'.1 n13.symm
      · obtain ⟨m1, m2, m3, m4⟩ := ok.l r hr2
        have w1 := ok.h.w _ m1
        have ef : [r.1, nt r.2.1, nt r.2.2.1, nt r.2.2.2].map fieldT = rv r := by
          show [fieldT r.1, fieldT (nt r.2.1), fieldT (nt r.2.2.1), fieldT (nt r.2.2.2)] = rv r
          rw [field_w w1, field_n (by omega) (by omega), field_n (by omega) (by omega), field_n (by omega) (by omega)]
          rfl
        have lw : ∀ x ∈ [r.1, nt r.2.1, nt r.2.2.1, nt r.2.2.2], x.length ≤ sizeLine := fun x hx => by
          have := (kw.2.2 x (by show x ∈ ("limit" : Str) :: [r.1, nt r.2.1, nt r.2.2.1, nt r.2.2.2]; exact List.mem_cons_of_mem _ hx)).1
          omega
        refine ⟨W, [.str "limit", .str r.1, .str (nt r.2.1), .str (nt r.2.2.1), .str (nt r.2.2.2)], rfl, SqL.of hWW, .inl ⟨(by simp), ?_⟩⟩
        refine ⟨W, [.str "limit", .str r.1, .str (nt r.2.1), .str (nt r.2.2.1), .str (nt r.2.2.2)], rfl, SqL.of hWW, .inl ⟨(by simp), ?_⟩⟩
        refine ⟨W, [.str "limit", .str r.1, .str (nt r.2.1), .str (nt r.2.2.1), .str (nt r.2.2.2)], rfl, SqL.of hWW, .inl ⟨(by simp), ?_⟩⟩
        refine ⟨W, [.str "limit", .str r.1, .str (nt r.2.1), .str (nt r.2.2.1), .str (nt r.2.2.2)], rfl, SqL.of (hWW), .inr ⟨(by simp), fun F1 hF1 ys ey => ?_⟩⟩
        have ey : ys = [.str "limit", .ref F1] := ey
        subst ey
        have sF : Same H5 (upd H5 F1 (.lst [.str r.1, .str (nt r.2.1), .str (nt r.2.2.1), .str (nt r.2.2.2)])) := same_new hF1
        have hFF : upd H5 F1 (.lst [.str r.1, .str (nt r.2.1), .str (nt r.2.2.1), .str (nt r.2.2.2)]) F1 = some (.lst ([r.1, nt r.2.1, nt r.2.2.1, nt r.2.2.2].map V.str)) := upd_same
        refine ⟨⟨⟨_, rfl⟩, trivial⟩, .inl ⟨hit_yes, ?_⟩⟩
        refine ⟨_, rfl, .inl ⟨rfl, _, SqL.of (sF _ _ R2.1)⟩, _, rfl, F1, _, rfl, hFF, lw, (by show 4 < sizeLine; omega), fun T H6 s6 nT hT => ?_⟩
        rw [ef] at hT
        have S6 : Same H5 H6 := sF.trans s6
        have R1' := R1.same S6
        have R2' := R2.same S6
        have R3' := R3.same S6
        refine ⟨Ll, _, _, rfl, rfl, R2'.1, (by rw [List.length_map]; omega), ?_⟩
        refine ⟨_, _, _, _, _, _, _, th, tl' ++ [T], tr, rfl, ?_, ?_, ?_, ?_, ?_⟩
        · exact fun _ => hv1 (fun z => by rw [z] at hk1; cases hk1)
        · exact fun b o e => by rw [upd_ne (nbH e).2.1]; exact S6 _ _ (S5 _ _ e)
        · rw [fh, List.filterMap_append, List.filterMap_cons_none rfl, List.filterMap_nil, List.append_nil]
          exact rows_keep R1' R2'.1 n12
        · rw [fh, List.filterMap_append, List.filterMap_cons_some (f := RK.l) (b := r) rfl, List.map_append]
          exact rows_push R2' hT
        · rw [fh, List.filterMap_append, List.filterMap_cons_none rfl, List.filterMap_nil, List.append_nil]
          exact rows_keep R3' R2'.1 n23.symm
      · obtain ⟨m1, m2, m3, m4⟩ := ok.r r hr2
        have w1 := ok.h.w _ m1
        have ef : [r.1, nt r.2.1, nt r.2.2.1, nt r.2.2.2].map fieldT = rv r := by
          show [fieldT r.1, fieldT (nt r.2.1), fieldT (nt r.2.2.1), fieldT (nt r.2.2.2)] = rv r
          rw [field_w w1, field_n (by omega) (by omega), field_n (by omega) (by omega), field_n (by omega) (by omega)]
          rfl
        have lw : ∀ x ∈ [r.1, nt r.2.1, nt r.2.2.1, nt r.2.2.2], x.length ≤ sizeLine := fun x hx => by
          have := (kw.2.2 x (by show x ∈ ("rule" : Str) :: [r.1, nt r.2.1, nt r.2.2.1, nt r.2.2.2]; exact List.mem_cons_of_mem _ hx)).1
          omega
        refine ⟨W, [.str "rule", .str r.1, .str (nt r.2.1), .str (nt r.2.2.1), .str (nt r.2.2.2)], rfl, SqL.of hWW, .inl ⟨(by simp), ?_⟩⟩
        refine ⟨W, [.str "rule", .str r.1, .str (nt r.2.1), .str (nt r.2.2.1), .str (nt r.2.2.2)], rfl, SqL.of hWW, .inl ⟨(by simp), ?_⟩⟩
        refine ⟨W, [.str "rule", .str r.1, .str (nt r.2.1), .str (nt r.2.2.1), .str (nt r.2.2.2)], rfl, SqL.of hWW, .inl ⟨(by simp), ?_⟩⟩
        refine ⟨W, [.str "rule", .str r.1, .str (nt r.2.1), .str (nt r.2.2.1), .str (nt r.2.2.2)], rfl, SqL.of (hWW), .inr ⟨(by simp), fun F0 hF0 ys ey => ?_⟩⟩
        have ey : ys = [.str "rule", .ref F0] := ey
        subst ey
        refine ⟨⟨⟨_, rfl⟩, trivial⟩, .inr ⟨hit_no (by decide +kernel), ?_⟩⟩
        have sF0 : Same H5 (upd H5 F0 (.lst [.str r.1, .str (nt r.2.1), .str (nt r.2.2.1), .str (nt r.2.2.2)])) := same_new hF0
        refine ⟨W, [.str "rule", .str r.1, .str (nt r.2.1), .str (nt r.2.2.1), .str (nt r.2.2.2)], rfl, SqL.of (sF0 _ _ hWW), .inr ⟨(by simp), fun F1 hF1 ys ey => ?_⟩⟩
        have ey : ys = [.str "rule", .ref F1] := ey
        subst ey
        have sF : Same H5 (upd (upd H5 F0 (.lst [.str r.1, .str (nt r.2.1), .str (nt r.2.2.1), .str (nt r.2.2.2)])) F1 (.lst [.str r.1, .str (nt r.2.1), .str (nt r.2.2.1), .str (nt r.2.2.2)])) := sF0.trans (same_new hF1)
        have hFF : upd (upd H5 F0 (.lst [.str r.1, .str (nt r.2.1), .str (nt r.2.2.1), .str (nt r.2.2.2)])) F1 (.lst [.str r.1, .str (nt r.2.1), .str (nt r.2.2.1), .str (nt r.2.2.2)]) F1 = some (.lst ([r.1, nt r.2.1, nt r.2.2.1, nt r.2.2.2].map V.str)) := upd_same
        refine ⟨⟨⟨_, rfl⟩, trivial⟩, .inl ⟨hit_yes, ?_⟩⟩
        refine ⟨_, rfl, .inl ⟨rfl, _, SqL.of (sF _ _ R3.1)⟩, _, rfl, F1, _, rfl, hFF, lw, (by show 4 < sizeLine; omega), fun T H6 s6 nT hT => ?_⟩
        rw [ef] at hT
        have S6 : Same H5 H6 := sF.trans s6
        have R1' := R1.same S6
        have R2' := R2.same S6
        have R3' := R3.same S6
        refine ⟨Lr, _, _, rfl, rfl, R3'.1, (by rw [List.length_map]; omega), ?_⟩
        refine ⟨_, _, _, _, _, _, _, th, tl', tr ++ [T], rfl, ?_, ?_, ?_, ?_, ?_⟩
        · exact fun _ => hv1 (fun z => by rw [z] at hk1; cases hk1)
        · exact fun b o e => by rw [upd_ne (nbH e).2.2]; exact S6 _ _ (S5 _ _ e)
        · rw [fh, List.filterMap_append, List.filterMap_cons_none rfl, List.filterMap_nil, List.append_nil]
          exact rows_keep R1' R3'.1 n13
        · rw [fh, List.filterMap_append, List.filterMap_cons_none rfl, List.filterMap_nil, List.append_nil]
          exact rows_keep R2' R3'.1 n23
        · rw [fh, List.filterMap_append, List.filterMap_cons_some (f := RK.r) (b := r) rfl, List.map_append]
          exact rows_push R3' hT
    · rintro σ H4 ⟨v1, v5, v6, v7, v8, v9, v10, th, tl', tr, rfl, hv1, s4, r1, r2, r3⟩
      rw [hlen, List.take_length] at r1 r2 r3
      rw [rks_h] at r1
      rw [rks_l] at r2
      rw [rks_r] at r3
      have v1e := hv1 (by rw [hlen]; exact fun z => by have : (rks y).length = 0 := z; unfold rks at this; simp at this)
      subst v1e
      refine ⟨_, rfl, _, rfl, _, rfl, _, rfl, fun x dx nx ndx nex => ?_⟩
      have sm : Same H4 (upd (upd H4 dx (.own x)) x (.ins C dx [])) := fun b' o e => by
        rw [upd_ne (ne_of_none e nx), upd_ne (ne_of_none e ndx)]
        exact e
      refine ⟨x, dx, Lh, Ll, Lr, th, tl', tr, y, rfl, upd_same, r1.same sm, r2.same sm, r3.same sm, ok, fun H8 m1 m2 m3 hx8 R1 R2 R3 nl1 nl2 nl3 k8 => ⟨rfl, ?_⟩⟩
      have s8 : Same H4 H8 := Same.made nx ndx k8
      have fr : ∀ {a : Addr}, (upd (upd H4 dx (.own x)) x (.ins C dx [])) a = none → H a = none := fun e => same_none (s4.trans sm) e
      refine k x H8 (s4.trans s8) fun M hM => ⟨dx, m1, m2, m3, th, tl', tr, hx8, R1, R2, R3, (fun z => hM _ z (fr nl1)), (fun z => hM _ z (fr nl2)), (fun z => hM _ z (fr nl3))⟩
theorem c_ry (Yo : Cal P w K mg base 6 "year_of" (spYo C)) (Ro : Cal P w K mg base 1 "rows_of" spRo2) (Yt : Cal P w K mg base 2 "year_text" (spYt C)) (D : DefT K mg "read_year" sRy ["text"]) : Cal P w K mg base 7 "read_year" (spRy C) := by
  refine cal D scRy (fun vs H Q E h => ?_) (fun f cdv A outer s H vs Q E hr h => ?_)
  · obtain ⟨y, rfl, _⟩ := h
    rfl
  · obtain ⟨y, rfl, ok, k⟩ := h
    have hz : sizeLine = 16777216 := by decide
    refine ⟨_, (pss_cons (ps_try_thru0 (pss_one (ps_set (i := 1) scRy.nd rfl (by first | exact Or.inl rfl | exact Or.inr rfl) (pe_cl Yo hr (by decide) (by rfl) (pa_cons (pe_cl Ro hr (by decide) (by rfl) (pa_cons (pv 0) pa_nil)) pa_nil)))))
        (pss_cons (ps_if (pt_cmpR op_ne (pe_cl Yt hr (by decide) (by rfl) (pa_cons (pv 1) pa_nil)) (pv 0) (nomark _)) (pss_one ps_never) pss_nil)
        (pss_one (ps_ret (pv 1))))), ?_⟩
    have tb : (ytext y).length + 2 ≤ sizeLine := by
      have := linesT_le (rs := (rowsW y).map rowT) (n := 136) fun r hr => by
        obtain ⟨ws, hw, rfl⟩ := List.mem_map.mp hr
        exact rowT_le (rw_all ok ws hw)
      rw [List.length_map] at this
      have h19 := rowsW_len ok
      have : (rowsW y).length * 137 ≤ 19 * 137 := Nat.mul_le_mul_right _ h19
      unfold ytext
      omega
    refine ⟨_, rfl, (rowsW y).map rowT, rfl, (fun r hr => ?_), tb, fun p H1 s1 np hp => ?_⟩
    · obtain ⟨ws, hw, rfl⟩ := List.mem_map.mp hr
      exact row_free fun w h => ((rw_all ok ws hw).2.2 w h).2.2
    refine ⟨p, y, rfl, hp, ok, fun x H2 s2 hy => ?_⟩
    have hy0 : YearAt C [] H2 x y := hy [] (fun a z => nomatch z)
    refine ⟨_, rfl, x, y, rfl, hy0, ok, fun H3 s3 => ⟨_, rfl, rfl, _, rfl, ?_⟩⟩
    show if (!decide (V.str (ytext y) = V.str (ytext y))) = true then _ else _
    rw [decide_eq_true rfl]
    refine iteF ⟨_, rfl, k x H3 ((s1.trans s2).trans s3) fun M hM => (hy M fun a ha z => ?_).same s3⟩
    exact hM a ha (same_none s1 z)
end
end KP
/-! ### defs that raise where nothing is handled -/
namespace KP
open PySem L2 KD KM KT TL
abbrev sRo3 : Stmt := top 58
abbrev nRo3 : List Str := ["text", "rows", "last"]
theorem scRo3 : FnScope nRo3 ["text"] (defScope sRo3) := ⟨rfl, rfl, rfl, by decide +kernel, rfl, by decide +kernel, by decide +kernel⟩
abbrev sYo3 : Stmt := top 62
abbrev nYo3 : List Str := ["rows", "days", "heads", "limits", "rules", "row", "words", "many", "name", "upper", "fields"]
theorem scYo3 : FnScope nYo3 ["rows"] (defScope sYo3) := ⟨rfl, rfl, rfl, by decide +kernel, rfl, by decide +kernel, by decide +kernel⟩

theorem Fun.okN {P : Program} {w : World} {K : PySem.W.Frag} {mg : Str → Option Value} {base : Heap} {x qual : Str} {st : Stmt} {f : Addr} {fd : FuncData} {N ps : List Str} {k : Nat} {sp : Sp} (F : Fun K x qual st f fd) (S : FnScope N ps (defScope st)) (len : ∀ vs H Q E, sp vs H Q E → vs.length = ps.length)
    (hbody : ∀ (cdv : Value) (A : Around) (outer : List Env) (s : Shared) (H : Hp) (vs : List V) (Q : VK) (E : XK), Room k (A.deeper (PyProof.Rows.envOfC qual (defScope st) s.heap.objs.size f cdv)) → sp vs H Q E →
      ∃ t, PSs (cxOf (L2N.CX P w) P w K mg base N qual (defScope st) f cdv A outer s H E) (defBody st) t ∧ t { nx := fun _ H' => Q .non H', rt := Q } (start N vs) H) : FnOk P w K mg base (L2N.CX P w) (k + 1) f fd ps sp := by
  obtain ⟨oc, od, kV, doc, pm, an, cdv, ct, osl, rfl, lk, hcd⟩ := F.ex
  exact fn_of lk hcd S len fun A outer s H vs Q E hr hsp => hbody cdv A outer s H vs Q E hr hsp
structure CalN (P : Program) (w : World) (K : PySem.W.Frag) (mg : Str → Option Value) (base : Heap) (k : Nat) (x : Str) (sp : Sp) : Prop where
  ex : ∃ f fd ps, FnOk P w K mg base (L2N.CX P w) k f fd ps sp ∧ mg x = some (.ref f) ∧ PySem.W.keepIn K (.ref f) = true ∧ Binds K fd ps []
structure MakN (P : Program) (w : World) (K : PySem.W.Frag) (mg : Str → Option Value) (base : Heap) (k : Nat) (x : Str) (C : Addr) (sp : Sp) : Prop where
  ex : ∃ f fd ps, Mk K C f ∧ FnOk P w K mg base (L2N.CX P w) k f fd ps sp ∧ mg x = some (.ref C) ∧ Binds K fd ps []
theorem calN {P : Program} {w : World} {K : PySem.W.Frag} {mg : Str → Option Value} {base : Heap} {x : Str} {st : Stmt} {N ps : List Str} {k : Nat} {sp : Sp} (D : DefT K mg x st ps) (S : FnScope N ps (defScope st)) (len : ∀ vs H Q E, sp vs H Q E → vs.length = ps.length)
    (hbody : ∀ (f : Addr) (cdv : Value) (A : Around) (outer : List Env) (s : Shared) (H : Hp) (vs : List V) (Q : VK) (E : XK), Room k (A.deeper (PyProof.Rows.envOfC x (defScope st) s.heap.objs.size f cdv)) → sp vs H Q E →
      ∃ t, PSs (cxOf (L2N.CX P w) P w K mg base N x (defScope st) f cdv A outer s H E) (defBody st) t ∧ t { nx := fun _ H' => Q .non H', rt := Q } (start N vs) H) : CalN P w K mg base (k + 1) x sp := by
  obtain ⟨f, fd, F, b, m⟩ := D.ex
  exact ⟨f, fd, ps, Fun.okN F S len (hbody f), m, F.kp, b⟩
section
variable {X : Cx} {k k1 k2 j : Nat} {x : Str} {C : Addr} {sp sp1 sp2 : Sp} {p pos : Pos} {e : Expr} {es : List Expr} {t : TA} {E : L2.St → XK} {E1 : XK}
theorem pe_clN (c : CalN X.prog X.w X.K X.mg X.base k x sp) (hr : Room j X.A) (hk : k ≤ j) (hx : ∀ σ, PassesAt (L2N.CX X.prog X.w) X σ (E σ)) (hg : Gl X x) (ha : PA X (e :: es) t)
    (hdb : (x == ("__debug__" : Str)) = false := by decide) (he : starEach (e :: es) X.env = (false, eval e X.env) :: starEach es X.env := by rfl) (hpl : (backTo pos (starEach es X.env)).any (·.1) = false := by rfl) :
    PE X (.Call (.Name x p) (e :: es) [] pos) (tCallS sp E t) := by
  obtain ⟨f, fd, ps, F, m, kp, b⟩ := c.ex
  exact pe_callS F (hr.mono hk) hg m kp b hx ha hdb he hpl
def spOr (a b : Sp) : Sp := fun vs H Q E => a vs H Q E ∨ b vs H Q E
/-- a class made, well or not -/
theorem pe_mkG (c1 : MakT X.prog X.w X.K X.mg X.base k x C sp1) (c2 : MakN X.prog X.w X.K X.mg X.base k x C sp2) (hr : Room j X.A) (hk : k + 1 ≤ j) (hx : ∀ σ, PassesAt (L2N.CX X.prog X.w) X σ (E σ)) (hg : Gl X x) (ha : PA X (e :: es) t)
    (hdb : (x == ("__debug__" : Str)) = false := by decide) (he : starEach (e :: es) X.env = (false, eval e X.env) :: starEach es X.env := by rfl) (hpl : (backTo pos (starEach es X.env)).any (·.1) = false := by rfl) :
    PE X (.Call (.Name x p) (e :: es) [] pos) (tMakS C (spOr sp1 sp2) E t) := by
  obtain ⟨f1, fd1, ps1, M1, F1, m1, b1⟩ := c1.ex
  obtain ⟨f2, fd2, ps2, M2, F2, m2, b2⟩ := c2.ex
  have hr1 := hr.mono hk
  refine ⟨fun pins s σ H Q I h => wpAny_Call_Name_kw (ld_glob I hg m1 ?_ hdb)⟩
  refine PySem.W.callWith_K (h₀ := X.base) I.ok.mod.kin M1.kp (thn (ha.run pos pins s σ H _ I h) fun us s1 ⟨vs, H1, I1, r, q⟩ => ⟨I1.kIn, ?_⟩) he hpl
  have nA : H1 s1.heap.objs.size = none := I1.hok.fresh (Nat.le_refl _)
  have nB : H1 (s1.heap.objs.size + 1) = none := I1.hok.fresh (Nat.le_succ _)
  have q0 := q _ _ nB nA (Nat.ne_of_lt (Nat.lt_succ_self _))
  have J := Inv.made (C := C) I1
  have rv : Vals (V.ref (s1.heap.objs.size + 1) :: vs) (Value.ref (s1.heap.objs.size + 1) :: us) := .cons rfl r
  rcases q0 with q0 | q0
  · have hl : (Value.ref (s1.heap.objs.size + 1) :: us).length = ps1.length := by rw [← rv.length]; exact F1.len _ _ _ _ q0
    have bb := b1 _ (Value.ref (s1.heap.objs.size + 1) :: us) J.kIn (by rw [List.append_nil]; exact hl)
    rw [List.append_nil] at bb
    refine wpAny_call (make_map (f := f1) I1.kIn M1.makes M1.init (beq_iff_eq.mp M1.fn) (codeAny_mono (F1.run _ X.stack _ _ ⟨Value.ref (s1.heap.objs.size + 1) :: us, []⟩ _ _ _ (E σ) (hr1.make C us []) (J.env0.make C us []) bb rv q0) fun z s' hz => ?_))
    cases z with
    | error e => exact False.elim hz
    | ok fl =>
      cases fl with
      | ret u =>
        obtain ⟨v, H', J', rr, ev, q3⟩ := J.after hz
        subst ev
        exact ⟨rr, ⟨V.ref (s1.heap.objs.size + 1), H', J', rfl, q3⟩⟩
      | next => exact hz.elim
      | brk => exact hz.elim
      | cont => exact hz.elim
  · have hl : (Value.ref (s1.heap.objs.size + 1) :: us).length = ps2.length := by rw [← rv.length]; exact F2.len _ _ _ _ q0
    have bb := b2 _ (Value.ref (s1.heap.objs.size + 1) :: us) J.kIn (by rw [List.append_nil]; exact hl)
    rw [List.append_nil] at bb
    refine wpAny_call (make_map (f := f2) I1.kIn M2.makes M2.init (beq_iff_eq.mp M2.fn) (codeAny_mono (F2.run _ X.stack _ _ ⟨Value.ref (s1.heap.objs.size + 1) :: us, []⟩ _ _ _ (E σ) (hr1.make C us []) (J.env0.make C us []) bb rv q0) fun z s' hz => ?_))
    cases z with
    | error e => exact hx σ pins _ _ e s' J hz
    | ok fl =>
      cases fl with
      | ret u =>
        obtain ⟨v, H', J', rr, ev, q3⟩ := J.after hz
        subst ev
        exact ⟨rr, ⟨V.ref (s1.heap.objs.size + 1), H', J', rfl, q3⟩⟩
      | next => exact hz.elim
      | brk => exact hz.elim
      | cont => exact hz.elim
end
theorem fr_no {z : Str} : ∀ {L : List Rw4} {p : Int × Int}, (∀ r ∈ L, r.1 ≠ z) → L.foldl (frS z) p = p
  | [], _, _ => rfl
  | r :: L, p, h => by
    rw [List.foldl_cons, show frS z p r = p by unfold frS; rw [if_neg (h r (by simp))]]
    exact fr_no fun r' hr' => h r' (by simp [hr'])
theorem word_en {v : V} (h : wordV v = true) : ∃ x, v = .str x ∧ IsW x := by
  cases v with
  | str x => exact ⟨x, rfl, isW_of h⟩
  | _ => cases h
theorem heads_of {H : Hp} : ∀ {xs : List V} {ahead : List Str}, headsGo H ahead xs = true → ∃ (ts : List Addr) (hs : List Hd), xs = ts.map V.ref ∧ Paired (fun t r => H t = some (.tup r)) ts (hs.map hv) ∧ xs.map (nmOf H) = nms hs ∧ (∀ x ∈ nms hs, IsW x ∧ x ∉ ahead) ∧ (nms hs).Nodup ∧
    ∀ (i : Nat) (r : Hd), hs[i]? = some r → r.2 = "" ∨ r.2 ∈ ahead ∨ ∃ j, j < i ∧ (nms hs)[j]? = some r.2
  | [], _, _ => ⟨[], [], rfl, .nil, rfl, (fun _ h => nomatch h), List.nodup_nil, fun i r h => by simp at h⟩
  | x :: xs, ahead, hg => by
    rw [headsGo, Bool.and_eq_true] at hg
    obtain ⟨h1, h2⟩ := hg
    unfold headB at h1
    split at h1
    · rename_i nm up e
      simp only [Bool.and_eq_true, Bool.or_eq_true, decide_eq_true_eq, Bool.not_eq_true', decide_eq_false_iff_not] at h1
      obtain ⟨⟨a1, a2⟩, a3⟩ := h1
      obtain ⟨z, rfl, wz⟩ := word_en a1
      have zn : z ∉ ahead := fun q => a2 (List.mem_map.mpr ⟨z, q, rfl⟩)
      obtain ⟨u, rfl, hu⟩ : ∃ u : Str, up = .str u ∧ (u = "" ∨ u ∈ ahead) := by
        rcases a3 with a3 | a3
        · exact ⟨"", a3, .inl rfl⟩
        · obtain ⟨u, hu, rfl⟩ := List.mem_map.mp a3
          exact ⟨u, rfl, .inr hu⟩
      obtain ⟨t, rfl, ht⟩ := of_tup e
      have en : nmOf H (.ref t) = z := by unfold nmOf; rw [e]
      rw [en] at h2
      obtain ⟨ts, hs, e1, p, e2, w, nd, ups⟩ := heads_of h2
      refine ⟨t :: ts, (z, u) :: hs, by rw [e1]; rfl, .cons ht p, ?_, ?_, ?_, ?_⟩
      · rw [List.map_cons, en, e2]
        rfl
      · intro y hy
        rcases List.mem_cons.mp (show y ∈ z :: nms hs from hy) with rfl | hy
        · exact ⟨wz, zn⟩
        · exact ⟨(w y hy).1, fun q => (w y hy).2 (by simp [q])⟩
      · exact List.nodup_cons.mpr ⟨fun q => (w z q).2 (by simp), nd⟩
      · intro i r hi
        cases i with
        | zero =>
          have e := Option.some.inj hi
          subst e
          rcases hu with hu | hu
          · exact .inl hu
          · exact .inr (.inl hu)
        | succ i =>
          rcases ups i r hi with q | q | ⟨j, hj, q⟩
          · exact .inl q
          · rcases List.mem_append.mp q with q | q
            · exact .inr (.inl q)
            · rw [List.mem_singleton] at q
              exact .inr (.inr ⟨0, by omega, by rw [q]; rfl⟩)
          · exact .inr (.inr ⟨j + 1, by omega, q⟩)
    · cases h1
theorem lim_row {H : Hp} {d : Int} {ns : List Str} {x : V} (h : limB H d ns x = true) : ∃ (t : Addr) (r : Rw4), x = .ref t ∧ H t = some (.tup (rv r)) ∧ LimOk d ns r := by
  cases e : tupOf H x with
  | none => unfold limB at h; rw [e] at h; cases h
  | some ys =>
    by_cases hl : ys.length = 4
    · obtain ⟨hd, p, w, u, rfl⟩ := l4 hl
      rw [limB_is e] at h
      simp only [Bool.and_eq_true, decide_eq_true_eq] at h
      obtain ⟨⟨⟨h1, h2⟩, h3⟩, h4⟩ := h
      obtain ⟨z, hz, rfl⟩ := List.mem_map.mp h1
      cases p with
      | int pi =>
        cases w with
        | int wi =>
          cases u with
          | int ui =>
            obtain ⟨t, rfl, ht⟩ := of_tup e
            exact ⟨t, (z, pi, wi, ui), rfl, ht, hz, of_decide_eq_true h2, of_decide_eq_true h3, of_decide_eq_true h4⟩
          | _ => cases h4
        | _ => cases h3
      | _ => cases h2
    · rw [limB_not e hl] at h
      cases h
theorem lim_rows {H : Hp} {d : Int} {ns : List Str} : ∀ {xs : List V}, xs.all (limB H d ns) = true → ∃ (ts : List Addr) (ls : List Rw4), xs = ts.map V.ref ∧ Paired (fun t r => H t = some (.tup r)) ts (ls.map rv) ∧ (∀ r ∈ ls, LimOk d ns r) ∧ ls.length = xs.length
  | [], _ => ⟨[], [], rfl, .nil, (fun _ h => nomatch h), rfl⟩
  | x :: xs, h => by
    rw [List.all_cons, Bool.and_eq_true] at h
    obtain ⟨t, r, rfl, ht, ok⟩ := lim_row h.1
    obtain ⟨ts, ls, e, p, oks, el⟩ := lim_rows h.2
    refine ⟨t :: ts, r :: ls, by rw [e]; rfl, .cons ht p, fun r' hr' => ?_, by rw [List.length_cons, List.length_cons, el]⟩
    rcases List.mem_cons.mp hr' with q | q
    · rw [q]; exact ok
    · exact oks r' q
theorem yr_of {H : Hp} {d : V} {lh ll lr : Addr} (h : yearB H d (.ref lh) (.ref ll) (.ref lr) = true) : ∃ (y : Yr) (th tl tr : List Addr), d = .int y.days ∧ y.ok ∧ RowsAt H lh th (y.hs.map hv) ∧ RowsAt H ll tl (y.ls.map rv) ∧ RowsAt H lr tr (y.rs.map rv) := by
  unfold yearB at h
  cases d with
  | int dd =>
    simp only [Bool.and_eq_true] at h
    obtain ⟨⟨⟨a1, a2⟩, a3⟩, a4⟩ := h
    have a1 := of_decide_eq_true a1
    unfold headsB at a2
    cases eh : lstOf H (.ref lh) with
    | none => rw [eh] at a2; cases a2
    | some xs =>
      rw [eh] at a2
      simp only [Bool.and_eq_true, decide_eq_true_eq] at a2
      obtain ⟨ts, hs, e1, p1, e2, w, nd, ups⟩ := heads_of a2.2
      have en : nsOf H (.ref lh) = nms hs := by unfold nsOf; rw [eh]; exact e2
      rw [en] at a3 a4
      obtain ⟨a, ea, ha⟩ := of_lst eh
      cases ea
      have hl : hs.length = xs.length := by
        have := p1.length
        rw [List.length_map] at this
        rw [e1, List.length_map, this]
      unfold limsB at a3
      cases el : lstOf H (.ref ll) with
      | none => rw [el] at a3; cases a3
      | some ys =>
        rw [el] at a3
        simp only [Bool.and_eq_true, decide_eq_true_eq] at a3
        obtain ⟨tl, ls, e3, p3, oks, el3⟩ := lim_rows a3.2
        obtain ⟨b, eb, hb⟩ := of_lst el
        cases eb
        unfold rulesB at a4
        cases er : lstOf H (.ref lr) with
        | none => rw [er] at a4; cases a4
        | some zs =>
          rw [er] at a4
          simp only [Bool.and_eq_true, decide_eq_true_eq] at a4
          obtain ⟨⟨b1, b2⟩, b3⟩ := a4
          obtain ⟨tr, e5, p5, oks5⟩ := rul_rows b2
          obtain ⟨c, ec, hc⟩ := of_lst er
          cases ec
          refine ⟨⟨dd, hs, ls, zs.map (rwOf H)⟩, ts, tl, tr, rfl, ⟨a1, ⟨nd, fun x hx => (w x hx).1, fun i r hi => ?_, by show 1 ≤ hs.length; omega, by show hs.length ≤ 8; omega⟩, oks, by show ls.length ≤ 6; omega, oks5, by show (zs.map (rwOf H)).length ≤ 4; rw [List.length_map]; omega, fun x => ?_⟩, ⟨by rw [ha, e1], p1⟩, ⟨by rw [hb, e3], p3⟩, ⟨by rw [hc, ← e5], p5⟩⟩
          · rcases ups i r hi with q | q | q
            · exact .inl q
            · cases q
            · exact .inr q
          · by_cases hx : x ∈ nms hs
            · exact of_decide_eq_true (List.all_eq_true.mp b3 x hx)
            · have e : fr (zs.map (rwOf H)) x = (0, 1) := fr_no fun r hr q => hx (q ▸ (oks5 r hr).1)
              rw [show (Yr.mk dd hs ls (zs.map (rwOf H))).rs = zs.map (rwOf H) from rfl, e]
              decide
  | _ => cases h

section
variable {P : Program} {w : World} {K : PySem.W.Frag} {mg : Str → Option Value} {base : Heap} {C Cn : Addr}
theorem c_yearN (B : Base K mg) (T : YearF K mg C) (N : ErrF K mg "NoYear" Cn) (Wh : Cal P w K mg base 1 "is_whole" spWholeV) (Hs : Cal P w K mg base 2 "are_heads" spHeadsV) (Lm : Cal P w K mg base 3 "are_limits" spLimitsV) (Rl : Cal P w K mg base 3 "are_rules" spRulesV)
    (D : InitT K C "Year.__init__" sYI ["self", "days", "heads", "limits", "rules"]) : MakN P w K mg base 4 "Year" C (spYearB C Cn) := by
  obtain ⟨tD, hD⟩ := B.mostD
  obtain ⟨f, fd, M, F, b⟩ := D.ex
  refine ⟨f, fd, _, M, Fun.okN F scYI (fun vs H Q E h => ?_) (fun cdv A outer s H vs Q E hr h => ?_), T.mgC, b⟩
  · obtain ⟨p, dx, d, h, l, r, rfl, _⟩ := h
    rfl
  · obtain ⟨p, dx, d, h, l, r, rfl, hp, td, lh, ll, lr, hB, k⟩ := h
    have hz : sizeLine = 16777216 := by decide
    refine ⟨_, (pss_cons (ps_if (pt_not (pt_val (pe_cl Wh hr (by decide) (by rfl) (pa_cons (pv 1) (pa_cons pe_int (pa_cons (pe_glob (v := .int 30) rfl hD ⟨_, rfl⟩) pa_nil)))))) (pss_one (L2N.ps_raise rfl (L2N.takes_of rfl rfl rfl rfl) (L2N.pmk_own PySem.F.excBase_ValueError N.x N.g N.k (raises_own N.b N.t) rfl))) pss_nil)
        (pss_cons (ps_if (pt_not (pt_val (pe_cl Hs hr (by decide) (by rfl) (pa_cons (pv 2) pa_nil)))) (pss_one (L2N.ps_raise rfl (L2N.takes_of rfl rfl rfl rfl) (L2N.pmk_own PySem.F.excBase_ValueError N.x N.g N.k (raises_own N.b N.t) rfl))) pss_nil)
        (pss_cons (ps_setLc (i := 5) (own := [("row", 6)]) (g := (gName 6)) (tt := tYes) (te := tOp (rIxT K) (tVar 6) (tC (.int 0))) rfl scYI.nd rfl (by first | rfl | decide +kernel) (sw_true rfl (by first | rfl | decide +kernel) rfl (by decide +kernel)) (pi_list (pv 2)) (blkOk_by (N := nYI) (sc := defScope sYI) (by decide +kernel)) (fun _ _ _ _ _ => (pg_name (i := 6) scYI.nd rfl (by first | exact Or.inl rfl | exact Or.inr rfl))) (fun _ _ _ _ _ => pts_nil) (fun _ _ _ _ _ => (pe_ix ix_tup (pv 6) pe_int (fun _ _ => rfl))))
        (pss_cons (ps_if (pt_not (pt_val (pe_cl Lm hr (by decide) (by rfl) (pa_cons (pv 3) (pa_cons (pv 1) (pa_cons (pv 5) pa_nil)))))) (pss_one (L2N.ps_raise rfl (L2N.takes_of rfl rfl rfl rfl) (L2N.pmk_own PySem.F.excBase_ValueError N.x N.g N.k (raises_own N.b N.t) rfl))) pss_nil)
        (pss_cons (ps_if (pt_not (pt_val (pe_cl Rl hr (by decide) (by rfl) (pa_cons (pv 4) (pa_cons (pv 1) (pa_cons (pv 5) pa_nil)))))) (pss_one (L2N.ps_raise rfl (L2N.takes_of rfl rfl rfl rfl) (L2N.pmk_own PySem.F.excBase_ValueError N.x N.g N.k (raises_own N.b N.t) rfl))) pss_nil)
        (pss_cons ps_never
        (pss_cons ps_never
        (pss_cons ps_never
        (pss_one ps_never))))))))), ?_⟩
    refine ⟨_, rfl, d, 1, 30, rfl, td, _, rfl, ?_⟩
    cases hd : wholeV 1 30 d with
    | false => exact iteT (k _ (Same.refl _))
    | true =>
      obtain ⟨dd, rfl⟩ : ∃ i, d = .int i := by
        cases d with
        | int i => exact ⟨i, rfl⟩
        | _ => cases hd
      have eB : yearB H (.int dd) h l r = (headsB H h && limsB H dd (nsOf H h) l && rulesB H dd (nsOf H h) r) := by
        show (decide (1 ≤ dd ∧ dd ≤ 30) && headsB H h && limsB H dd (nsOf H h) l && rulesB H dd (nsOf H h) r) = _
        rw [show decide (1 ≤ dd ∧ dd ≤ 30) = true from hd, Bool.true_and]
      rw [eB] at hB
      refine iteF ⟨_, rfl, h, rfl, lh, fun H1 s1 => ⟨_, rfl, ?_⟩⟩
      cases hh : headsB H h with
      | false => exact iteT (k _ s1)
      | true =>
        rw [hh, Bool.true_and] at hB
        refine iteF ?_
        unfold headsB at hh
        cases e : lstOf H h with
        | none => rw [e] at hh; cases hh
        | some xs =>
          rw [e] at hh
          have hh2 := (Bool.and_eq_true _ _).mp hh
          have h8 := of_decide_eq_true hh2.1
          obtain ⟨a, rfl, ha⟩ := of_lst e
          have rows := heads_rows hh2.2
          have en : nsOf H (.ref a) = xs.map (nmOf H) := by unfold nsOf; rw [e]
          rw [en] at hB
          refine ⟨_, rfl, a, rfl, ⟨_, SqL.of (s1 _ _ ha)⟩, fun D2 hD2 => lc_it (walk_list (xs := xs)) (fun i H' => H' = upd H1 D2 (.lst (((xs.map (nmOf H)).take i).map V.str))) rfl (fun i H' _ e => by rw [e]; exact SqL.of (same_new hD2 _ _ (s1 _ _ ha))) ?_ ?_⟩
          · rintro i v H2 H3 hi rfl ⟨rfl, hv⟩
            obtain ⟨z, up, et, enm⟩ := rows v (List.mem_of_getElem? hv)
            obtain ⟨t, rfl, ht⟩ := of_tup et
            refine ⟨rfl, yes (iteT ⟨_, rfl, t, _, 0, .str z, rfl, rfl, SqT.of (same_new hD2 _ _ (s1 _ _ ht)), rfl, _, upd_same, ?_, ?_⟩)⟩
            · rw [List.length_map, List.length_take, List.length_map]
              omega
            · have hg : (xs.map (nmOf H))[i]? = some z := by rw [List.getElem?_map, hv]; show some (nmOf H (.ref t)) = _; rw [enm]
              rw [upd_upd, take_more hg, List.map_append]
              rfl
          · rintro H2 rfl
            have el : (xs.map (nmOf H)).take xs.length = xs.map (nmOf H) := List.take_of_length_le (by rw [List.length_map]; exact Nat.le_refl _)
            rw [el]
            have s2 : Same H (upd H1 D2 (.lst ((xs.map (nmOf H)).map V.str))) := s1.trans (same_new hD2)
            have hn2 : upd H1 D2 (.lst ((xs.map (nmOf H)).map V.str)) D2 = some (.lst ((xs.map (nmOf H)).map V.str)) := upd_same
            generalize upd H1 D2 (.lst ((xs.map (nmOf H)).map V.str)) = H2 at s2 hn2
            have nl8 : (xs.map (nmOf H)).length ≤ 8 := by rw [List.length_map]; omega
            generalize xs.map (nmOf H) = ns at hB hn2 nl8
            refine ⟨_, rfl, _, rfl, _, rfl, l, D2, dd, ns, rfl, ll.same s2, hn2, fun H3 s3 => ⟨_, rfl, ?_⟩⟩
            rw [limsB_same ll s2]
            have s3' := s2.trans s3
            cases hL : limsB H dd ns l with
            | false => exact iteT (k _ s3')
            | true =>
              rw [hL, Bool.true_and] at hB
              refine iteF ⟨_, rfl, _, rfl, _, rfl, r, D2, dd, ns, rfl, lr.same s3', s3 _ _ hn2, ?_, fun H4 s4 => ⟨_, rfl, ?_⟩⟩
              · exact nl8
              · rw [rulesB_same lr s3', hB]
                exact iteT (k _ (s3'.trans s4))
end
end KP
namespace KP
open PySem L2 KD KM KT TL
/-! ### a text's parts are no longer than it -/
theorem spl_bound (S : List Nat) : ∀ (l : List Nat) (k : Nat) (acc : List Nat), (∀ p ∈ spl S k acc l, p.length ≤ acc.length + l.length) ∧ (spl S k acc l).length ≤ l.length + 1 ∧ spl S k acc l ≠ []
  | [], k, acc => by
    rw [spl_nil]
    exact ⟨fun p hp => by rw [List.mem_singleton.mp hp]; exact Nat.le_add_right _ _, by simp, by simp⟩
  | c :: r, k + 1, acc => by
    have ih := spl_bound S r k acc
    refine ⟨fun p hp => ?_, ?_, ih.2.2⟩
    · have := ih.1 p hp
      rw [List.length_cons]
      omega
    · have := ih.2.1
      rw [List.length_cons]
      exact Nat.le_trans this (by omega)
  | c :: r, 0, acc => by
    cases h : pre S (c :: r) with
    | true =>
      rw [spl_hit h]
      have ih := spl_bound S r (S.length - 1) []
      refine ⟨fun p hp => ?_, ?_, by simp⟩
      · rcases List.mem_cons.mp hp with rfl | hp
        · exact Nat.le_add_right _ _
        · have := ih.1 p hp
          rw [List.length_cons]
          rw [List.length_nil] at this
          omega
      · have := ih.2.1
        rw [List.length_cons, List.length_cons]
        omega
    | false =>
      rw [spl_miss h]
      have ih := spl_bound S r 0 (acc ++ [c])
      refine ⟨fun p hp => ?_, ?_, ih.2.2⟩
      · have := ih.1 p hp
        rw [List.length_append, List.length_singleton] at this
        rw [List.length_cons]
        omega
      · have := ih.2.1
        rw [List.length_cons]
        omega
theorem split_bound {x y : Str} (hy : tl y ≠ []) (hk : y.cps.all (· < 256) = true) : (∀ p ∈ Txt.split x y, p.length ≤ x.length) ∧ (Txt.split x y).length ≤ x.length + 1 ∧ Txt.split x y ≠ [] := by
  have e := split_spl x y hy (kind_ok hk)
  have b := spl_bound (tl y) (tl x) 0 []
  rw [← e] at b
  refine ⟨fun p hp => ?_, ?_, fun z => b.2.2 (by rw [z]; rfl)⟩
  · have := b.1 (tl p) (List.mem_map_of_mem hp)
    rw [len_tl, len_tl]
    simpa using this
  · have := b.2.1
    rw [List.length_map] at this
    rw [len_tl]
    exact this
def spRo3 (Ct : Addr) : Sp := fun vs H Q E => ∃ v : V, vs = [v] ∧ Th H v ∧ (∀ x, v = .str x → x.length ≤ 100000) ∧
  (∀ (x : Str) (p : Addr) (H' : Hp) (rs : List Str), v = .str x → Same H H' → H p = none → H' p = some (.lst (rs.map V.str)) → (∀ r ∈ rs, r.length ≤ 100000) → rs.length ≤ 100001 → Q (.ref p) H') ∧ (∀ H', Same H H' → E (.ref Ct) none H')
def spYo3 (C Ct Cn : Addr) : Sp := fun vs H Q E => ∃ (l : Addr) (rs : List Str), vs = [.ref l] ∧ H l = some (.lst (rs.map V.str)) ∧ (∀ r ∈ rs, r.length ≤ 100000) ∧ rs.length ≤ 100001 ∧
  (∀ (p : Addr) (H' : Hp) (y : Yr), y.ok → Same H H' → (∀ M : List Addr, (∀ a ∈ M, H a ≠ none) → YearAt C M H' p y) → Q (.ref p) H') ∧ (∀ H', Same H H' → E (.ref Ct) none H') ∧ (∀ H', Same H H' → E (.ref Cn) none H')
/-! ### rows of anything that a text tells -/
def Fld (v : V) : Prop := (∃ i, v = .int i) ∨ ∃ x : Str, v = .str x ∧ x.length ≤ sizeLine
theorem Fld.ti {H : Hp} {v : V} (h : Fld v) : Ti H v := by
  rcases h with ⟨i, rfl⟩ | ⟨x, rfl, h⟩
  · exact .int i
  · exact .str x h
theorem fld_field {x : Str} (h : x.length ≤ sizeLine) : Fld (fieldT x) := by
  unfold fieldT
  split
  · exact .inl ⟨_, rfl⟩
  · exact .inr ⟨x, rfl, h⟩
theorem fldR (R : List Str) (h : ∀ x ∈ R, x.length ≤ sizeLine) : ∀ u ∈ R.map fieldT, Fld u := fun u hu => by
  obtain ⟨x, hx, rfl⟩ := List.mem_map.mp hu
  exact fld_field (h x hx)
def RowsL (H : Hp) (L : Addr) (xs : List V) (m : Nat) : Prop := H L = some (.lst xs) ∧ xs.length ≤ m ∧ ∀ x ∈ xs, ∃ t r, x = .ref t ∧ H t = some (.tup r) ∧ ∀ u ∈ r, Fld u
theorem RowsL.same {H H' : Hp} {L : Addr} {xs : List V} {m : Nat} (h : RowsL H L xs m) (s : Same H H') : RowsL H' L xs m :=
  ⟨s _ _ h.1, h.2.1, fun x hx => by
    obtain ⟨t, r, e, ht, hu⟩ := h.2.2 x hx
    exact ⟨t, r, e, s _ _ ht, hu⟩⟩
theorem RowsL.push {H : Hp} {L T : Addr} {xs r : List V} {m : Nat} (h : RowsL H L xs m) (hT : H T = some (.tup r)) (hr : ∀ u ∈ r, Fld u) : RowsL (upd H L (.lst (xs ++ [.ref T]))) L (xs ++ [.ref T]) (m + 1) := by
  have ne : ∀ (b : Addr) (r : List V), H b = some (.tup r) → upd H L (.lst (xs ++ [.ref T])) b = some (.tup r) := fun b r e => by
    rw [upd_ne (fun z => by rw [z, h.1] at e; cases e)]
    exact e
  refine ⟨upd_same, by rw [List.length_append]; exact Nat.succ_le_succ h.2.1, fun x hx => ?_⟩
  rcases List.mem_append.mp hx with hx | hx
  · obtain ⟨t, r, e, ht, hu⟩ := h.2.2 x hx
    exact ⟨t, r, e, ne _ _ ht, hu⟩
  · exact ⟨T, r, List.mem_singleton.mp hx, ne _ _ hT, hr⟩
theorem RowsL.keep {H : Hp} {L M : Addr} {xs ys zs : List V} {m n : Nat} (h : RowsL H L xs m) (hM : RowsL H M ys n) (ne : L ≠ M) : RowsL (upd H M (.lst zs)) L xs (m + 1) := by
  refine ⟨by rw [upd_ne ne]; exact h.1, Nat.le_succ_of_le h.2.1, fun x hx => ?_⟩
  obtain ⟨t, r, e, ht, hu⟩ := h.2.2 x hx
  refine ⟨t, r, e, ?_, hu⟩
  rw [upd_ne (fun z => by rw [z, hM.1] at ht; cases ht)]
  exact ht
theorem RowsL.mono {H : Hp} {L : Addr} {xs : List V} {m n : Nat} (h : RowsL H L xs m) (mn : m ≤ n) : RowsL H L xs n := ⟨h.1, Nat.le_trans h.2.1 mn, h.2.2⟩
theorem RowsL.lstV {H : Hp} {L : Addr} {xs : List V} {m : Nat} (h : RowsL H L xs m) : LstV H (.ref L) := by
  refine ⟨.lst h.1, fun ys e x hx => ?_⟩
  have ey : ys = xs := by
    obtain ⟨a, ea, ha⟩ := of_lst e
    cases ea
    rw [h.1] at ha
    cases ha
    rfl
  rw [ey] at hx
  obtain ⟨t, r, rfl, ht, hu⟩ := h.2.2 x hx
  refine ⟨.tup ht, fun zs ez z hz => ?_⟩
  obtain ⟨b, eb, hb⟩ := of_tup ez
  cases eb
  rw [ht] at hb
  cases hb
  exact (hu z hz).ti
theorem yearB_same {H H' : Hp} {d h l r : V} (lh : LstV H h) (ll : LstV H l) (lr : LstV H r) (sm : Same H H') : yearB H' d h l r = yearB H d h l r := by
  unfold yearB
  cases d with
  | int dd =>
    show (_ && headsB _ h && limsB _ dd (nsOf _ h) l && rulesB _ dd (nsOf _ h) r) = (_ && headsB H h && limsB H dd (nsOf H h) l && rulesB H dd (nsOf H h) r)
    rw [headsB_same lh sm, nsOf_same lh sm, limsB_same ll sm, rulesB_same lr sm]
  | _ => rfl
section
variable {P : Program} {w : World} {K : PySem.W.Frag} {mg : Str → Option Value} {base : Heap} {C Cn Ct : Addr}
theorem c_ro3 (B : Base K mg) (Nt : ErrF K mg "NoText" Ct) (D : DefT K mg "rows_of" sRo3 ["text"]) : CalN P w K mg base 1 "rows_of" (spRo3 Ct) := by
  refine calN D scRo3 (fun vs H Q E h => ?_) (fun f cdv A outer s H vs Q E hr h => ?_)
  · obtain ⟨v, rfl, _⟩ := h
    rfl
  · obtain ⟨v, rfl, tv, hx, k, kE⟩ := h
    have hz : sizeLine = 16777216 := by decide
    refine ⟨_, (pss_cons (ps_if (pt_not (pt_val (pe_callB call_isi (by rfl) B.isi (by decide +kernel) (pa_cons (pv 0) (pa_cons (pe_bltn (v := .ty "str") (by rfl) B.str (by decide +kernel) rfl) pa_nil))))) (pss_one (L2N.ps_raise rfl (L2N.takes_of rfl rfl rfl rfl) (L2N.pmk_own PySem.F.excBase_ValueError Nt.x Nt.g Nt.k (raises_own Nt.b Nt.t) rfl))) pss_nil)
        (pss_cons (ps_asg (pe_split (pv 0) pe_str) (KT.pg_star (n := 2) (i := 0) rfl (KT.pgs_star (pg_name (i := 1) scRo3.nd rfl (by first | exact Or.inl rfl | exact Or.inr rfl)) (pgs_cons (pg_name (i := 2) scRo3.nd rfl (by first | exact Or.inl rfl | exact Or.inr rfl)) pgs_nil))))
        (pss_cons (ps_if (pt_cmpR op_ne (pv 2) pe_str (nomark _)) (pss_one (L2N.ps_raise rfl (L2N.takes_of rfl rfl rfl rfl) (L2N.pmk_own PySem.F.excBase_ValueError Nt.x Nt.g Nt.k (raises_own Nt.b Nt.t) rfl))) pss_nil)
        (pss_one (ps_ret (pv 1)))))), ?_⟩
    obtain ⟨u, t1, t2⟩ := th_str (K := K) tv
    refine ⟨_, rfl, _, _, _, _, isSt v, rfl, .ty _, t1, t2, _, rfl, ?_⟩
    cases v with
    | str x =>
      have xl := hx x rfl
      refine iteF ?_
      obtain ⟨b1, b2, b3⟩ := split_bound (x := x) (y := nl1) (by rw [tl_nl]; simp) (by decide +kernel)
      refine ⟨_, rfl, ⟨_, rfl⟩, _, _, rfl, rfl, (by decide +kernel), (by omega), fun p hp => ?_⟩
      have en : ("\n" : Str) = nl1 := rfl
      rw [en]
      generalize Txt.split x nl1 = ps at b1 b2 b3
      obtain ⟨rs, z, rfl⟩ : ∃ rs z, ps = rs ++ [z] := ⟨ps.dropLast, ps.getLast b3, (List.dropLast_concat_getLast b3).symm⟩
      have el : ((rs ++ [z]).map V.str).length + 1 - 2 = rs.length := by simp
      have e1 : (((rs ++ [z]).map V.str).drop 0).take (((rs ++ [z]).map V.str).length + 1 - 2) = rs.map V.str := by
        rw [el, List.drop_zero, List.map_append, List.take_append_of_le_length (by simp), List.take_of_length_le (by simp)]
      have e2 : (((rs ++ [z]).map V.str).drop 0).drop (((rs ++ [z]).map V.str).length + 1 - 2) = [V.str z] := by
        rw [el, List.drop_zero, List.map_append, List.drop_append_of_le_length (by simp), List.drop_of_length_le (by simp)]
        rfl
      refine ⟨p, _, rfl, SqL.of upd_same, (by simp), fun D2 hD2 => ?_⟩
      rw [e1, e2]
      refine ⟨_, _, rfl, _, _, rfl, rfl, _, rfl, rfl, _, rfl, ite2 (fun _ => ?_) (fun _ => ?_)⟩
      · exact kE _ ((same_new hp).trans (same_new hD2))
      · refine ⟨_, rfl, k x D2 _ rs rfl ((same_new hp).trans (same_new hD2)) (same_none (same_new hp) hD2) upd_same (fun r hr => Nat.le_trans (b1 r (List.mem_append_left _ hr)) xl) ?_⟩
        rw [List.length_append, List.length_singleton] at b2
        omega
    | _ => exact iteT (kE _ (Same.refl _))
set_option maxHeartbeats 4000000 in
theorem c_yo3 (B : Base K mg) (Nt : ErrF K mg "NoText" Ct) (Rf : Cal P w K mg base 2 "read_field" spRf) (Rfs : Cal P w K mg base 3 "read_fields" spRfs) (Yc : MakT P w K mg base 4 "Year" C (spYear C)) (Yn : MakN P w K mg base 4 "Year" C (spYearB C Cn)) (D : DefT K mg "year_of" sYo3 ["rows"]) : CalN P w K mg base 6 "year_of" (spYo3 C Ct Cn) := by
  refine calN D scYo3 (fun vs H Q E h => ?_) (fun f cdv A outer s H vs Q E hr h => ?_)
  · obtain ⟨l, rs, rfl, _⟩ := h
    rfl
  · obtain ⟨l, rs, rfl, hl, hrl, hrn, k, kT, kN⟩ := h
    have hz : sizeLine = 16777216 := by decide
    refine ⟨_, (pss_cons (ps_set (i := 1) scYo3.nd rfl (by first | exact Or.inl rfl | exact Or.inr rfl) pe_non)
        (pss_cons (ps_set (i := 2) scYo3.nd rfl (by first | exact Or.inl rfl | exact Or.inr rfl) (pe_lstW pa_nil))
        (pss_cons (ps_set (i := 3) scYo3.nd rfl (by first | exact Or.inl rfl | exact Or.inr rfl) (pe_lstW pa_nil))
        (pss_cons (ps_set (i := 4) scYo3.nd rfl (by first | exact Or.inl rfl | exact Or.inr rfl) (pe_lstW pa_nil))
        (pss_cons (ps_for (passes_of rfl) rfl (pi_list (pv 0)) (pg_name (i := 5) scYo3.nd rfl (by first | exact Or.inl rfl | exact Or.inr rfl)) (pss_cons (ps_set (i := 6) scYo3.nd rfl (by first | exact Or.inl rfl | exact Or.inr rfl) (pe_split (pv 5) pe_str))
        (pss_one (KM.ps_match (pv 6)
          (KT.pm_seq (n := 2) rfl (KT.each_lit (KT.each_cap KT.each_nil)) (KM.stores_cons (i := 7) scYo3.nd KM.stores_nil rfl (by first | exact Or.inl rfl | exact Or.inr rfl)) (pss_one (ps_set (i := 1) scYo3.nd rfl (by first | exact Or.inl rfl | exact Or.inr rfl) (pe_cl Rf hr (by decide) (by rfl) (pa_cons (pv 7) pa_nil))))
          (KT.pm_seq (n := 2) rfl (KT.each_lit (KT.each_cap KT.each_nil)) (KM.stores_cons (i := 8) scYo3.nd KM.stores_nil rfl (by first | exact Or.inl rfl | exact Or.inr rfl)) (pss_one (ps_expr (pe_bm PySem.F.plainAttrs_list PySem.F.slot_list_append PySem.F.type_list_append mt_append (pv 2) (pa_cons (pe_tupW (pa_cons (pv 8) (pa_cons pe_str pa_nil))) pa_nil))))
          (KT.pm_seq (n := 4) rfl (KT.each_lit (KT.each_cap (KT.each_lit (KT.each_cap KT.each_nil)))) (KM.stores_cons (i := 8) scYo3.nd (KM.stores_cons (i := 9) scYo3.nd KM.stores_nil rfl (by first | exact Or.inl rfl | exact Or.inr rfl)) rfl (by first | exact Or.inl rfl | exact Or.inr rfl)) (pss_one (ps_expr (pe_bm PySem.F.plainAttrs_list PySem.F.slot_list_append PySem.F.type_list_append mt_append (pv 2) (pa_cons (pe_tupW (pa_cons (pv 8) (pa_cons (pv 9) pa_nil))) pa_nil))))
          (KT.pm_star (n := 2) (i := 1) rfl (KT.each_lit (KT.each_star KT.each_nil)) (KM.stores_cons (i := 10) scYo3.nd KM.stores_nil rfl (by first | exact Or.inl rfl | exact Or.inr rfl)) (pss_one (ps_expr (pe_bm PySem.F.plainAttrs_list PySem.F.slot_list_append PySem.F.type_list_append mt_append (pv 3) (pa_cons (pe_cl Rfs hr (by decide) (by rfl) (pa_cons (pv 10) pa_nil)) pa_nil))))
          (KT.pm_star (n := 2) (i := 1) rfl (KT.each_lit (KT.each_star KT.each_nil)) (KM.stores_cons (i := 10) scYo3.nd KM.stores_nil rfl (by first | exact Or.inl rfl | exact Or.inr rfl)) (pss_one (ps_expr (pe_bm PySem.F.plainAttrs_list PySem.F.slot_list_append PySem.F.type_list_append mt_append (pv 4) (pa_cons (pe_cl Rfs hr (by decide) (by rfl) (pa_cons (pv 10) pa_nil)) pa_nil))))
          (KT.pm_wild (pss_one (L2N.ps_raise rfl (L2N.takes_of rfl rfl rfl rfl) (L2N.pmk_own PySem.F.excBase_ValueError Nt.x Nt.g Nt.k (raises_own Nt.b Nt.t) rfl)))))))))))))
        (pss_one (ps_ret (pe_mkG Yc Yn hr (by decide) (fun σ => L2N.passAt (L2N.takes_of rfl rfl rfl rfl) σ) (by rfl) (pa_cons (pv 1) (pa_cons (pv 2) (pa_cons (pv 3) (pa_cons (pv 4) pa_nil)))))))))))), ?_⟩
    refine ⟨(by show 0 ≤ sizeLine; omega), fun Lh H1 s1 nLh hLh => ⟨(by show 0 ≤ sizeLine; omega), fun Ll H2 s2 nLl hLl => ⟨(by show 0 ≤ sizeLine; omega), fun Lr H3 s3 nLr hLr => ?_⟩⟩⟩
    have hl3 := s3 _ _ (s2 _ _ (s1 _ _ hl))
    have n12 : Lh ≠ Ll := ne_of_none hLh nLl
    have n13 : Lh ≠ Lr := ne_of_none (s2 _ _ hLh) nLr
    have n23 : Ll ≠ Lr := ne_of_none hLl nLr
    have nll : H Ll = none := same_none s1 nLl
    have nlr : H Lr = none := same_none (s1.trans s2) nLr
    have em0 : ∀ {H : Hp} {L : Addr}, H L = some (.lst []) → RowsL H L [] 0 := fun e => ⟨e, Nat.le_refl _, fun _ z => nomatch z⟩
    refine ⟨_, rfl, l, rfl, ⟨_, SqL.of hl3⟩, for_list (K := K) (a := l) (xs := rs.map V.str) (fun i σ H' => ∃ (v1 : V) (v5 v6 v7 v8 v9 v10 : Option V) (x1 x2 x3 : List V), σ = [some (.ref l), some v1, some (.ref Lh), some (.ref Ll), some (.ref Lr), v5, v6, v7, v8, v9, v10] ∧ (v1 = .non ∨ Fld v1) ∧ Same H H' ∧
        RowsL H' Lh x1 i ∧ RowsL H' Ll x2 i ∧ RowsL H' Lr x3 i)
      ⟨.non, none, none, none, none, none, none, [], [], [], rfl, .inl rfl, (s1.trans s2).trans s3, em0 (s3 _ _ (s2 _ _ hLh)), em0 (s3 _ _ hLl), em0 hLr⟩ (fun i σ H' _ ⟨_, _, _, _, _, _, _, _, _, _, _, _, z, _⟩ => SqL.of (z _ _ hl)) ?_ ?_⟩
    · rintro i v σ H4 hi ⟨v1, v5, v6, v7, v8, v9, v10, x1, x2, x3, rfl, hv1, s4, r1, r2, r3⟩
      have il : i < rs.length := by
        have := (List.getElem?_eq_some_iff.mp hi).1
        rwa [List.length_map] at this
      obtain ⟨r, hr1, rfl⟩ : ∃ r, r ∈ rs ∧ v = V.str r := by
        obtain ⟨r, h1, h2⟩ := List.mem_map.mp (List.mem_of_getElem? hi)
        exact ⟨r, h1, h2.symm⟩
      have rl := hrl r hr1
      obtain ⟨b1, b2, b3⟩ := split_bound (x := r) (y := sp1) (by rw [tl_sp]; simp) (by decide +kernel)
      refine ⟨_, rfl, ⟨_, rfl⟩, _, _, rfl, rfl, (by decide +kernel), (by omega), fun W hW => ?_⟩
      have en : (" " : Str) = sp1 := rfl
      rw [en]
      generalize Txt.split r sp1 = ws at b1 b2 b3
      have sW : Same H4 (upd H4 W (.lst (ws.map V.str))) := same_new hW
      have hWW : upd H4 W (.lst (ws.map V.str)) W = some (.lst (ws.map V.str)) := upd_same
      generalize upd H4 W (.lst (ws.map V.str)) = H5 at sW hWW
      have S5 := s4.trans sW
      have R1 := r1.same sW
      have R2 := r2.same sW
      have R3 := r3.same sW
      have lw : ∀ x ∈ ws, x.length ≤ sizeLine := fun x hx => by have := b1 x hx; omega
      have nbH : ∀ {b : Addr} {o : HO}, H b = some o → b ≠ Lh ∧ b ≠ Ll ∧ b ≠ Lr := fun e => ⟨ne_of_none e nLh, ne_of_none e nll, ne_of_none e nlr⟩
      obtain ⟨A, R, rfl⟩ : ∃ A R, ws = A :: R := by
        cases ws with
        | nil => exact absurd rfl b3
        | cons A R => exact ⟨A, R, rfl⟩
      have lwR : ∀ x ∈ R, x.length ≤ sizeLine := fun x hx => lw x (List.mem_cons_of_mem _ hx)
      have Rlen : R.length < sizeLine := by
        rw [List.length_cons] at b2
        omega
      have HW0 : H5 W = some (.lst (V.str A :: R.map V.str)) := hWW
      refine ⟨_, rfl, ?_⟩
      by_cases h2 : R.length = 1
      · obtain ⟨b, rfl⟩ := List.length_eq_one_iff.mp h2
        have lb := lwR b (by simp)
        by_cases c1 : A = "year"
        · rw [c1] at HW0
          refine ⟨W, [.str "year", .str b], rfl, SqL.of HW0, .inr ⟨rfl, ⟨⟨_, rfl⟩, trivial⟩, .inl ⟨hit_yes, ?_⟩⟩⟩
          refine ⟨_, rfl, b, rfl, lb, fun H6 s6 => ?_⟩
          exact ⟨_, _, _, _, _, _, _, _, _, _, rfl, .inr (fld_field lb), S5.trans s6, (R1.same s6).mono (by omega), (R2.same s6).mono (by omega), (R3.same s6).mono (by omega)⟩
        refine ⟨W, [.str A, .str b], rfl, SqL.of HW0, .inr ⟨rfl, ⟨⟨_, rfl⟩, trivial⟩, .inr ⟨hit_no c1, ?_⟩⟩⟩
        by_cases c2 : A = "head"
        · rw [c2] at HW0
          refine ⟨W, [.str "head", .str b], rfl, SqL.of HW0, .inr ⟨rfl, ⟨⟨_, rfl⟩, trivial⟩, .inl ⟨hit_yes, ?_⟩⟩⟩
          refine ⟨_, rfl, .inl ⟨rfl, _, SqL.of R1.1⟩, _, rfl, (by show 2 ≤ sizeLine; omega), fun T H6 s6 nT hT => ?_⟩
          refine ⟨Lh, _, _, rfl, rfl, (R1.same s6).1, (by have := R1.2.1; omega), ?_⟩
          exact ⟨_, _, _, _, _, _, _, _, _, _, rfl, hv1, (fun b o e => by rw [upd_ne (nbH e).1]; exact s6 _ _ (S5 _ _ e)), (R1.same s6).push hT (fun u hu => by
              simp only [List.mem_cons, List.not_mem_nil, or_false] at hu
              rcases hu with rfl | rfl
              · exact .inr ⟨_, rfl, lb⟩
              · exact .inr ⟨_, rfl, by decide +kernel⟩), (R2.same s6).keep (R1.same s6) n12.symm, (R3.same s6).keep (R1.same s6) n13.symm⟩
        refine ⟨W, [.str A, .str b], rfl, SqL.of HW0, .inr ⟨rfl, ⟨⟨_, rfl⟩, trivial⟩, .inr ⟨hit_no c2, ?_⟩⟩⟩
        refine ⟨W, [.str A, .str b], rfl, SqL.of HW0, .inl ⟨(by simp), ?_⟩⟩
        refine ⟨W, V.str A :: [V.str b], rfl, SqL.of HW0, .inr ⟨(by simp), fun F0 hF0 ys ey => ?_⟩⟩
        have ey : ys = [.str A, .ref F0] := by rw [ey]; simp
        subst ey
        have eR : (List.take ((V.str A :: [b].map V.str).length + 1 - 2) (List.drop 1 (V.str A :: [b].map V.str))) = [b].map V.str := by simp [List.take_of_length_le]
        skip
        have sF0 : Same H5 (upd H5 F0 (.lst ([b].map V.str))) := same_new hF0
        by_cases c4 : A = "limit"
        · rw [c4]
          refine ⟨⟨⟨_, rfl⟩, trivial⟩, .inl ⟨hit_yes, ?_⟩⟩
          have hFF : upd H5 F0 (.lst ([b].map V.str)) F0 = some (.lst ([b].map V.str)) := upd_same
          refine ⟨_, rfl, .inl ⟨rfl, _, SqL.of (sF0 _ _ R2.1)⟩, _, rfl, F0, _, rfl, hFF, lwR, (by omega), fun T H6 s6 nT hT => ?_⟩
          have S6 : Same H5 H6 := sF0.trans s6
          refine ⟨Ll, _, _, rfl, rfl, (R2.same S6).1, (by have := R2.2.1; omega), ?_⟩
          exact ⟨_, _, _, _, _, _, _, _, _, _, rfl, hv1, (fun b o e => by rw [upd_ne (nbH e).2.1]; exact S6 _ _ (S5 _ _ e)), (R1.same S6).keep (R2.same S6) n12, (R2.same S6).push hT (fldR [b] lwR), (R3.same S6).keep (R2.same S6) n23.symm⟩
        · refine ⟨⟨⟨_, rfl⟩, trivial⟩, .inr ⟨hit_no c4, ?_⟩⟩
          refine ⟨W, V.str A :: [V.str b], rfl, SqL.of (sF0 _ _ HW0), .inr ⟨(by simp), fun F1 hF1 ys ey => ?_⟩⟩
          have ey : ys = [.str A, .ref F1] := by rw [ey]; simp
          subst ey
          skip
          have sF1 : Same H5 (upd (upd H5 F0 (.lst ([b].map V.str))) F1 (.lst ([b].map V.str))) := sF0.trans (same_new hF1)
          by_cases c5 : A = "rule"
          · rw [c5]
            refine ⟨⟨⟨_, rfl⟩, trivial⟩, .inl ⟨hit_yes, ?_⟩⟩
            have hFF : upd (upd H5 F0 (.lst ([b].map V.str))) F1 (.lst ([b].map V.str)) F1 = some (.lst ([b].map V.str)) := upd_same
            refine ⟨_, rfl, .inl ⟨rfl, _, SqL.of (sF1 _ _ R3.1)⟩, _, rfl, F1, _, rfl, hFF, lwR, (by omega), fun T H6 s6 nT hT => ?_⟩
            have S6 : Same H5 H6 := sF1.trans s6
            refine ⟨Lr, _, _, rfl, rfl, (R3.same S6).1, (by have := R3.2.1; omega), ?_⟩
            exact ⟨_, _, _, _, _, _, _, _, _, _, rfl, hv1, (fun b o e => by rw [upd_ne (nbH e).2.2]; exact S6 _ _ (S5 _ _ e)), (R1.same S6).keep (R3.same S6) n13, (R2.same S6).keep (R3.same S6) n23, (R3.same S6).push hT (fldR [b] lwR)⟩
          · refine ⟨⟨⟨_, rfl⟩, trivial⟩, .inr ⟨hit_no c5, ?_⟩⟩
            exact kT _ (S5.trans sF1)
      have ne2 : (V.str A :: R.map V.str).length ≠ 2 := by
        rw [List.length_cons, List.length_map]
        omega
      refine ⟨W, _, rfl, SqL.of HW0, .inl ⟨ne2, ?_⟩⟩
      refine ⟨W, _, rfl, SqL.of HW0, .inl ⟨ne2, ?_⟩⟩
      by_cases h4 : R.length = 3
      · obtain ⟨b, c, d, rfl⟩ : ∃ b c d, R = [b, c, d] := by
          match R, h4 with
          | [b, c, d], _ => exact ⟨b, c, d, rfl⟩
        have lb := lwR b (by simp)
        have ld := lwR d (by simp)
        by_cases c3 : A = "head" ∧ c = "in"
        · obtain ⟨rfl, rfl⟩ := c3
          refine ⟨W, [.str "head", .str b, .str "in", .str d], rfl, SqL.of HW0, .inr ⟨rfl, ⟨⟨_, rfl⟩, ⟨_, rfl⟩, trivial⟩, .inl ⟨?_, ?_⟩⟩⟩
          · rw [hit_yes]
            exact (hit_yes (k := "in") (f := hitCap fun x => true) (vs := [.str d]))
          refine ⟨_, rfl, .inl ⟨rfl, _, SqL.of R1.1⟩, _, rfl, _, rfl, (by show 2 ≤ sizeLine; omega), fun T H6 s6 nT hT => ?_⟩
          refine ⟨Lh, _, _, rfl, rfl, (R1.same s6).1, (by have := R1.2.1; omega), ?_⟩
          exact ⟨_, _, _, _, _, _, _, _, _, _, rfl, hv1, (fun b o e => by rw [upd_ne (nbH e).1]; exact s6 _ _ (S5 _ _ e)), (R1.same s6).push hT (fun u hu => by
              simp only [List.mem_cons, List.not_mem_nil, or_false] at hu
              rcases hu with rfl | rfl
              · exact .inr ⟨_, rfl, lb⟩
              · exact .inr ⟨_, rfl, ld⟩), (R2.same s6).keep (R1.same s6) n12.symm, (R3.same s6).keep (R1.same s6) n13.symm⟩
        refine ⟨W, [.str A, .str b, .str c, .str d], rfl, SqL.of HW0, .inr ⟨rfl, ⟨⟨_, rfl⟩, ⟨_, rfl⟩, trivial⟩, .inr ⟨?_, ?_⟩⟩⟩
        · by_cases ca : A = "head"
          · rw [ca, hit_yes]
            exact hit_no (f := hitCap fun x => true) (vs := [.str d]) (fun z => c3 ⟨ca, z⟩)
          · exact hit_no ca
        refine ⟨W, V.str A :: [V.str b, V.str c, V.str d], rfl, SqL.of HW0, .inr ⟨(by simp), fun F0 hF0 ys ey => ?_⟩⟩
        have ey : ys = [.str A, .ref F0] := by rw [ey]; simp
        subst ey
        have eR : (List.take ((V.str A :: [b, c, d].map V.str).length + 1 - 2) (List.drop 1 (V.str A :: [b, c, d].map V.str))) = [b, c, d].map V.str := by simp [List.take_of_length_le]
        skip
        have sF0 : Same H5 (upd H5 F0 (.lst ([b, c, d].map V.str))) := same_new hF0
        by_cases c4 : A = "limit"
        · rw [c4]
          refine ⟨⟨⟨_, rfl⟩, trivial⟩, .inl ⟨hit_yes, ?_⟩⟩
          have hFF : upd H5 F0 (.lst ([b, c, d].map V.str)) F0 = some (.lst ([b, c, d].map V.str)) := upd_same
          refine ⟨_, rfl, .inl ⟨rfl, _, SqL.of (sF0 _ _ R2.1)⟩, _, rfl, F0, _, rfl, hFF, lwR, (by omega), fun T H6 s6 nT hT => ?_⟩
          have S6 : Same H5 H6 := sF0.trans s6
          refine ⟨Ll, _, _, rfl, rfl, (R2.same S6).1, (by have := R2.2.1; omega), ?_⟩
          exact ⟨_, _, _, _, _, _, _, _, _, _, rfl, hv1, (fun b o e => by rw [upd_ne (nbH e).2.1]; exact S6 _ _ (S5 _ _ e)), (R1.same S6).keep (R2.same S6) n12, (R2.same S6).push hT (fldR [b, c, d] lwR), (R3.same S6).keep (R2.same S6) n23.symm⟩
        · refine ⟨⟨⟨_, rfl⟩, trivial⟩, .inr ⟨hit_no c4, ?_⟩⟩
          refine ⟨W, V.str A :: [V.str b, V.str c, V.str d], rfl, SqL.of (sF0 _ _ HW0), .inr ⟨(by simp), fun F1 hF1 ys ey => ?_⟩⟩
          have ey : ys = [.str A, .ref F1] := by rw [ey]; simp
          subst ey
          skip
          have sF1 : Same H5 (upd (upd H5 F0 (.lst ([b, c, d].map V.str))) F1 (.lst ([b, c, d].map V.str))) := sF0.trans (same_new hF1)
          by_cases c5 : A = "rule"
          · rw [c5]
            refine ⟨⟨⟨_, rfl⟩, trivial⟩, .inl ⟨hit_yes, ?_⟩⟩
            have hFF : upd (upd H5 F0 (.lst ([b, c, d].map V.str))) F1 (.lst ([b, c, d].map V.str)) F1 = some (.lst ([b, c, d].map V.str)) := upd_same
            refine ⟨_, rfl, .inl ⟨rfl, _, SqL.of (sF1 _ _ R3.1)⟩, _, rfl, F1, _, rfl, hFF, lwR, (by omega), fun T H6 s6 nT hT => ?_⟩
            have S6 : Same H5 H6 := sF1.trans s6
            refine ⟨Lr, _, _, rfl, rfl, (R3.same S6).1, (by have := R3.2.1; omega), ?_⟩
            exact ⟨_, _, _, _, _, _, _, _, _, _, rfl, hv1, (fun b o e => by rw [upd_ne (nbH e).2.2]; exact S6 _ _ (S5 _ _ e)), (R1.same S6).keep (R3.same S6) n13, (R2.same S6).keep (R3.same S6) n23, (R3.same S6).push hT (fldR [b, c, d] lwR)⟩
          · refine ⟨⟨⟨_, rfl⟩, trivial⟩, .inr ⟨hit_no c5, ?_⟩⟩
            exact kT _ (S5.trans sF1)
      have ne4 : (V.str A :: R.map V.str).length ≠ 4 := by
        rw [List.length_cons, List.length_map]
        omega
      refine ⟨W, _, rfl, SqL.of HW0, .inl ⟨ne4, ?_⟩⟩
      refine ⟨W, V.str A :: (R : List Str).map V.str, rfl, SqL.of HW0, .inr ⟨(by simp), fun F0 hF0 ys ey => ?_⟩⟩
      have ey : ys = [.str A, .ref F0] := by rw [ey]; simp
      subst ey
      have eR : (List.take ((V.str A :: R.map V.str).length + 1 - 2) (List.drop 1 (V.str A :: R.map V.str))) = R.map V.str := by simp [List.take_of_length_le]
      rw [eR]
      have sF0 : Same H5 (upd H5 F0 (.lst (R.map V.str))) := same_new hF0
      by_cases c4 : A = "limit"
      · rw [c4]
        refine ⟨⟨⟨_, rfl⟩, trivial⟩, .inl ⟨hit_yes, ?_⟩⟩
        have hFF : upd H5 F0 (.lst (R.map V.str)) F0 = some (.lst (R.map V.str)) := upd_same
        refine ⟨_, rfl, .inl ⟨rfl, _, SqL.of (sF0 _ _ R2.1)⟩, _, rfl, F0, _, rfl, hFF, lwR, (by omega), fun T H6 s6 nT hT => ?_⟩
        have S6 : Same H5 H6 := sF0.trans s6
        refine ⟨Ll, _, _, rfl, rfl, (R2.same S6).1, (by have := R2.2.1; omega), ?_⟩
        exact ⟨_, _, _, _, _, _, _, _, _, _, rfl, hv1, (fun b o e => by rw [upd_ne (nbH e).2.1]; exact S6 _ _ (S5 _ _ e)), (R1.same S6).keep (R2.same S6) n12, (R2.same S6).push hT (fldR R lwR), (R3.same S6).keep (R2.same S6) n23.symm⟩
      · refine ⟨⟨⟨_, rfl⟩, trivial⟩, .inr ⟨hit_no c4, ?_⟩⟩
        refine ⟨W, V.str A :: (R : List Str).map V.str, rfl, SqL.of (sF0 _ _ HW0), .inr ⟨(by simp), fun F1 hF1 ys ey => ?_⟩⟩
        have ey : ys = [.str A, .ref F1] := by rw [ey]; simp
        subst ey
        rw [eR]
        have sF1 : Same H5 (upd (upd H5 F0 (.lst (R.map V.str))) F1 (.lst (R.map V.str))) := sF0.trans (same_new hF1)
        by_cases c5 : A = "rule"
        · rw [c5]
          refine ⟨⟨⟨_, rfl⟩, trivial⟩, .inl ⟨hit_yes, ?_⟩⟩
          have hFF : upd (upd H5 F0 (.lst (R.map V.str))) F1 (.lst (R.map V.str)) F1 = some (.lst (R.map V.str)) := upd_same
          refine ⟨_, rfl, .inl ⟨rfl, _, SqL.of (sF1 _ _ R3.1)⟩, _, rfl, F1, _, rfl, hFF, lwR, (by omega), fun T H6 s6 nT hT => ?_⟩
          have S6 : Same H5 H6 := sF1.trans s6
          refine ⟨Lr, _, _, rfl, rfl, (R3.same S6).1, (by have := R3.2.1; omega), ?_⟩
          exact ⟨_, _, _, _, _, _, _, _, _, _, rfl, hv1, (fun b o e => by rw [upd_ne (nbH e).2.2]; exact S6 _ _ (S5 _ _ e)), (R1.same S6).keep (R3.same S6) n13, (R2.same S6).keep (R3.same S6) n23, (R3.same S6).push hT (fldR R lwR)⟩
        · refine ⟨⟨⟨_, rfl⟩, trivial⟩, .inr ⟨hit_no c5, ?_⟩⟩
          exact kT _ (S5.trans sF1)
    · rintro σ H4 ⟨v1, v5, v6, v7, v8, v9, v10, x1, x2, x3, rfl, hv1, s4, r1, r2, r3⟩
      have td : Th H4 v1 := by
        rcases hv1 with rfl | h
        · exact .non
        · exact (h.ti (H := H4)).th
      refine ⟨_, rfl, _, rfl, _, rfl, _, rfl, fun x dx nx ndx nex => ?_⟩
      have sm : Same H4 (upd (upd H4 dx (.own x)) x (.ins C dx [])) := fun b' o e => by
        rw [upd_ne (ne_of_none e nx), upd_ne (ne_of_none e ndx)]
        exact e
      cases hB : yearB H4 v1 (.ref Lh) (.ref Ll) (.ref Lr) with
      | true =>
        obtain ⟨y, th, tl', tr, rfl, ok, q1, q2, q3⟩ := yr_of hB
        refine .inl ⟨x, dx, Lh, Ll, Lr, th, tl', tr, y, rfl, upd_same, q1.same sm, q2.same sm, q3.same sm, ok, fun H8 m1 m2 m3 hx8 R1 R2 R3 nl1 nl2 nl3 k8 => ⟨rfl, ?_⟩⟩
        have s8 : Same H4 H8 := Same.made nx ndx k8
        have fr : ∀ {a : Addr}, (upd (upd H4 dx (.own x)) x (.ins C dx [])) a = none → H a = none := fun e => same_none (s4.trans sm) e
        refine k x H8 y ok (s4.trans s8) fun M hM => ⟨dx, m1, m2, m3, th, tl', tr, hx8, R1, R2, R3, (fun z => hM _ z (fr nl1)), (fun z => hM _ z (fr nl2)), (fun z => hM _ z (fr nl3))⟩
      | false =>
        refine .inr ⟨x, dx, v1, .ref Lh, .ref Ll, .ref Lr, rfl, upd_same, td.same sm, r1.lstV.same sm, r2.lstV.same sm, r3.lstV.same sm, ?_, fun H2 s2 => kN _ ((s4.trans sm).trans s2)⟩
        rw [yearB_same r1.lstV r2.lstV r3.lstV sm]
        exact hB
end
end KP
namespace KP
open PySem L2 KD KM KT TL
theorem calX {P : Program} {w : World} {K : PySem.W.Frag} {mg : Str → Option Value} {base : Heap} {x : Str} {st : Stmt} {N ps : List Str} {k : Nat} {sp : Sp} (D : DefT K mg x st ps) (S : FnScope N ps (defScope st)) (len : ∀ vs H Q E, sp vs H Q E → vs.length = ps.length)
    (hbody : ∀ (f : Addr) (cdv : Value) (A : Around) (outer : List Env) (s : Shared) (H : Hp) (vs : List V) (Q : VK) (E : XK), Room k (A.deeper (PyProof.Rows.envOfC x (defScope st) s.heap.objs.size f cdv)) → sp vs H Q E →
      ∃ t, PSs (cxOf (L2.CX P w) P w K mg base N x (defScope st) f cdv A outer s H E) (defBody st) t ∧ t { nx := fun _ H' => Q .non H', rt := Q } (start N vs) H) : CalX P w K mg base (k + 1) x sp := by
  obtain ⟨f, fd, F, b, m⟩ := D.ex
  exact ⟨f, fd, ps, F.okX S len (hbody f), m, F.kp, b⟩
section
variable {X : Cx} {C : Addr} {bmB : List Value} {B newId initId : String}
theorem pmk5_own {x m : Str} {j : Nat} {p p2 pos : Pos} (F : ExcBaseFacts B newId initId bmB) (q : PySem.W.excIn X.K C bmB newId = true) (gC : X.mg x = some (.ref C)) (kC : PySem.W.keepIn X.K (.ref C) = true) (r : Raises X (.ref C)) (hg : Gl X x)
    (hdb : (x == ("__debug__" : Str)) = false := by decide) : L2H.PMk5 X (.Call (.Name x p) [.Constant (.str m) j p2] [] pos) (fun _ H Q => Q (.ref C) none H) := by
  intro pins s σ H Q I h
  refine wpAny_Call_Name_kw (ld_glob I hg gC ?_ hdb)
  have ha : PA X [.Constant (.str m) j p2] (tCons (tC (.str m)) tNil) := pa_cons pe_str pa_nil
  refine PySem.W.callWith_K (h₀ := X.base) I.ok.mod.kin kC (thn (ha.run pos pins s σ H (fun vs H1 => vs = [V.str m] ∧ H = H1) I ⟨rfl, rfl⟩) fun us s1 hh => ?_)
  obtain ⟨vs, H1, I1, r1, ev, eH⟩ := hh
  subst ev
  rw [← eH] at I1
  refine ⟨I1.kIn, ?_⟩
  cases r1 with
  | cons ru rn =>
    rename_i u us'
    cases rn
    show wpAny _ _ (call (.ref C) [u]) _ _ _
    obtain ⟨bm, N, nm, qn, bs, hdct, sn, sub, ab, col, dd, k0, k1, k2, k3, k5, mN, hC, hN, hni, T⟩ := exc_obj I1.kIn q
    refine wpAny_call_exc_subT F T hC hN hni (fun h' e hm => ?_) (by show 1 ≤ sizeLine; rw [sizeLine_eq]; omega)
    exact L2H.mk_of5 I1 hm r h (I1.hok.gone hm.new)
end
def spRyB (Ct : Addr) : Sp := fun vs H _ E => ∃ v : V, vs = [v] ∧ Th H v ∧ (∀ x, v = .str x → x.length ≤ 100000) ∧ (∀ y : Yr, y.ok → v ≠ .str (ytext y)) ∧ ∀ H', Same H H' → E (.ref Ct) none H'
section
variable {P : Program} {w : World} {K : PySem.W.Frag} {mg : Str → Option Value} {base : Heap} {C Cn Ct : Addr}
theorem c_ryB (Nt : ErrF K mg "NoText" Ct) (Ny : ErrF K mg "NoYear" Cn) (eY : PySem.W.exmOne K (.ref Cn) (.ref Cn) = some true) (eT : PySem.W.exmOne K (.ref Ct) (.ref Cn) = some false) (Ro : CalN P w K mg base 1 "rows_of" (spRo3 Ct)) (Yo : CalN P w K mg base 6 "year_of" (spYo3 C Ct Cn)) (Yt : Cal P w K mg base 2 "year_text" (spYt C)) (D : DefT K mg "read_year" sRy ["text"]) : CalX P w K mg base 7 "read_year" (spRyB Ct) := by
  refine calX D scRy (fun vs H Q E h => ?_) (fun f cdv A outer s H vs Q E hr h => ?_)
  · obtain ⟨v, rfl, _⟩ := h
    rfl
  · obtain ⟨v, rfl, tv, hx, hn, k⟩ := h
    refine ⟨_, (pss_cons (L2H.ps_try_onlyX rfl rfl ⟨rfl, by decide, .inl Ny.g⟩ (fun hd => L2H.passesAt_of rfl hd) (takes_of rfl rfl rfl rfl)
        (fun W pn xe tk _ _ => (pss_one (ps_set (i := 1) scRy.nd rfl (by first | exact Or.inl rfl | exact Or.inr rfl) (pe_clN Yo hr (by decide) (fun σ => L2N.passAt tk σ) (by rfl) (pa_cons (pe_clN Ro hr (by decide) (fun σ => L2N.passAt tk σ) (by rfl) (pa_cons (pv 0) pa_nil)) pa_nil)))))
        (fun a oe cls d pn hz hf tk hot => (pss_one (L2H.ps_raiseHN hot tk (pmk5_own PySem.F.excBase_ValueError Nt.x Nt.g Nt.k (raises_own Nt.b Nt.t) rfl)))))
        (pss_cons (ps_if (pt_cmpR op_ne (pe_cl Yt hr (by decide) (by rfl) (pa_cons (pv 1) pa_nil)) (pv 0) (nomark _)) (pss_one (ps_raise rfl (takes_of rfl rfl rfl rfl) (pmk_own PySem.F.excBase_ValueError Nt.x Nt.g Nt.k (raises_own Nt.b Nt.t) rfl))) pss_nil)
        (pss_one ps_never))), ?_⟩
    have no : ∀ H', Same H H' → E (.ref Ct) none H' := k
    refine ⟨_, rfl, v, rfl, tv, hx, fun x p H1 rs ev s1 np hp hrl hrn => ?_, fun H1 s1 => ⟨false, eT, (fun z => nomatch z), fun _ => k _ s1⟩⟩
    subst ev
    refine ⟨p, rs, rfl, hp, hrl, hrn, fun q H2 y ok s2 hy => ?_, fun H2 s2 => ⟨false, eT, (fun z => nomatch z), fun _ => k _ (s1.trans s2)⟩, fun H2 s2 => ⟨true, eY, fun _ a ha => k _ (s1.trans s2), fun z => nomatch z⟩⟩
    have hy0 : YearAt C [] H2 q y := hy [] (fun a z => nomatch z)
    refine ⟨_, rfl, q, y, rfl, hy0, ok, fun H3 s3 => ⟨_, rfl, rfl, _, rfl, ?_⟩⟩
    show if (!decide (V.str (ytext y) = V.str x)) = true then _ else _
    rw [decide_eq_false (fun e => hn y ok e.symm)]
    exact iteT (k _ ((s1.trans s2).trans s3))
end
end KP
namespace KP
open PySem L2 KD KM KT TL
def rJoinK (K : PySem.W.Frag) : V → List V → Hp → VK → Prop := fun x xs H Q => ∃ a p, ∃ ys : List Str, x = .str a ∧ xs = [.ref p] ∧ (SqL K H p (ys.map V.str) ∨ SqT K H p (ys.map V.str)) ∧ (ys.map (·.length)).sum + ys.length * a.length ≤ 16777216 ∧ Q (.str (Txt.join a ys)) H
/-- str(x) of a text or an int -/
def rStrIS : List V → Hp → VK → Prop := fun xs H Q => (∃ a : Str, xs = [.str a] ∧ Q (.str a) H) ∨ ∃ i : Int, xs = [.int i] ∧ i.natAbs.log2 < 1920 ∧ Q (.str (nt i)) H
theorem call_strIS {X : Cx} : CallR X (.type "str") rStrIS := by
  intro pins s σ H xs us Q I r h
  rcases h with ⟨a, e, q⟩ | ⟨i, e, hz, q⟩
  · exact SkE.call_str_str pins s σ H xs us Q I r ⟨a, e, q⟩
  · exact call_str_int pins s σ H xs us Q I r ⟨i, e, hz, q⟩
abbrev sLt : Stmt := top 80
abbrev nLt : List Str := ["_law_parts_here", "_law_rows", "_law_name_here", "_law_above", "_law_limit", "_law_rule", "_law_row", "_law_one"]
theorem scLt : FnScope nLt ["_law_parts_here"] (defScope sLt) := ⟨rfl, rfl, rfl, by decide +kernel, rfl, by decide +kernel, by decide +kernel⟩

def spLt : Sp := fun vs H Q _ => ∃ (q lh ll lr : Addr) (th tl tr : List Addr) (y : Yr), vs = [.ref q] ∧ H q = some (.lst [.int y.days, .ref lh, .ref ll, .ref lr]) ∧ RowsAt H lh th (y.hs.map hv) ∧ RowsAt H ll tl (y.ls.map rv) ∧ RowsAt H lr tr (y.rs.map rv) ∧ y.ok ∧ ∀ H', Same H H' → Q (.str (ytext y)) H'
section
variable {P : Program} {w : World} {K : PySem.W.Frag} {mg : Str → Option Value} {base : Heap} {C : Addr}
set_option maxHeartbeats 4000000 in
theorem c_lt (B : Base K mg) (D : DefT K mg "_law_text" sLt ["_law_parts_here"]) : Cal P w K mg base 1 "_law_text" spLt := by
  refine cal D scLt (fun vs H Q E h => ?_) (fun f cdv A outer s H vs Q E hr h => ?_)
  · obtain ⟨q, lh, ll, lr, th, tl, tr, y, rfl, _⟩ := h
    rfl
  · obtain ⟨q, lh, ll, lr, th, tl', tr, y, rfl, hq, r1, r2, r3, ok, k⟩ := h
    have hz : sizeLine = 16777216 := by decide
    have d := ok.d
    have thl : th.length = y.hs.length := by rw [r1.len, List.length_map]
    have tll : tl'.length = y.ls.length := by rw [r2.len, List.length_map]
    have trl : tr.length = y.rs.length := by rw [r3.len, List.length_map]
    have h8 := ok.h.l8
    have h6 := ok.l6
    have h4 := ok.r4
    refine ⟨_, (C8.pss_cut (ps_set (i := 1) scLt.nd rfl (by first | exact Or.inl rfl | exact Or.inr rfl) (pe_lstW (pa_cons (pe_op op_add_str pe_str (pe_callTy call_strIS (by rfl) B.str (by decide +kernel) (pa_cons (pe_ix ix_list (pv 0) pe_int (fun _ _ => rfl)) pa_nil))) pa_nil)))
        (C8.pss_cut (ps_for PassesOwn.never rfl (pi_list (pe_ix ix_list (pv 0) pe_int (fun _ _ => rfl))) (pg_tup rfl (pgs_cons (pg_name (i := 2) scLt.nd rfl (by first | exact Or.inl rfl | exact Or.inr rfl)) (pgs_cons (pg_name (i := 3) scLt.nd rfl (by first | exact Or.inl rfl | exact Or.inr rfl)) pgs_nil))) (pss_one (ps_expr (pe_bm PySem.F.plainAttrs_list PySem.F.slot_list_append PySem.F.type_list_append mt_append (pv 1) (pa_cons (pe_join pe_str (pe_op op_catLW (pe_lstW (pa_cons pe_str (pa_cons (pv 2) pa_nil))) (pe_ix ix_list (pe_lstW (pa_cons (pe_lstW (pa_cons pe_str (pa_cons (pv 3) pa_nil))) (pa_cons (pe_lstW pa_nil) pa_nil))) (pe_callTy call_int1 (by rfl) B.int (by decide +kernel) (pa_cons (pe_cmpR op_eq (pv 3) pe_str (nomark _)) pa_nil)) (fun _ _ => rfl)))) pa_nil)))))
        (C8.pss_cut (ps_set (i := 1) scLt.nd rfl (by first | exact Or.inl rfl | exact Or.inr rfl) (pe_op op_catLW (pv 1) (pe_lc (own := [("_law_limit", 4)]) (g := (gName 4)) (tt := tYes) (te := (tM1 (rJoinK K) (tC (.str " ")) (tOp rCatLW (tLstW (tCons (tC (.str "limit")) tNil)) (tLc (iTup K (tVar 4)) (gName 7) tYes (tCB rStrIS (tCons (tVar 7) tNil)) [7])))) rfl scLt.nd (pi_list (pe_ix ix_list (pv 0) pe_int (fun _ _ => rfl))) (blkOk_by (N := nLt) (sc := defScope sLt) (by decide +kernel)) (fun _ _ _ _ _ => (pg_name (i := 4) scLt.nd rfl (by first | exact Or.inl rfl | exact Or.inr rfl))) (fun _ _ _ _ _ => pts_nil) (fun _ _ _ _ _ => (pe_join pe_str (pe_op op_catLW (pe_lstW (pa_cons pe_str pa_nil)) (pe_lc (own := [("_law_one", 7)]) (g := (gName 7)) (tt := tYes) (te := (tCB rStrIS (tCons (tVar 7) tNil))) rfl scLt.nd (pi_tup (pv 4)) (KT.blkOk_in (N := nLt) (by decide +kernel)) (fun _ _ _ _ _ => (pg_name (i := 7) scLt.nd rfl (by first | exact Or.inl rfl | exact Or.inr rfl))) (fun _ _ _ _ _ => pts_nil) (fun _ _ _ _ _ => (pe_callTy call_strIS (by rfl) B.str (by decide +kernel) (pa_cons (pv 7) pa_nil))))))))))
        (C8.pss_cut (ps_set (i := 1) scLt.nd rfl (by first | exact Or.inl rfl | exact Or.inr rfl) (pe_op op_catLW (pv 1) (pe_lc (own := [("_law_rule", 5)]) (g := (gName 5)) (tt := tYes) (te := (tM1 (rJoinK K) (tC (.str " ")) (tOp rCatLW (tLstW (tCons (tC (.str "rule")) tNil)) (tLc (iTup K (tVar 5)) (gName 7) tYes (tCB rStrIS (tCons (tVar 7) tNil)) [7])))) rfl scLt.nd (pi_list (pe_ix ix_list (pv 0) pe_int (fun _ _ => rfl))) (blkOk_by (N := nLt) (sc := defScope sLt) (by decide +kernel)) (fun _ _ _ _ _ => (pg_name (i := 5) scLt.nd rfl (by first | exact Or.inl rfl | exact Or.inr rfl))) (fun _ _ _ _ _ => pts_nil) (fun _ _ _ _ _ => (pe_join pe_str (pe_op op_catLW (pe_lstW (pa_cons pe_str pa_nil)) (pe_lc (own := [("_law_one", 7)]) (g := (gName 7)) (tt := tYes) (te := (tCB rStrIS (tCons (tVar 7) tNil))) rfl scLt.nd (pi_tup (pv 5)) (KT.blkOk_in (N := nLt) (by decide +kernel)) (fun _ _ _ _ _ => (pg_name (i := 7) scLt.nd rfl (by first | exact Or.inl rfl | exact Or.inr rfl))) (fun _ _ _ _ _ => pts_nil) (fun _ _ _ _ _ => (pe_callTy call_strIS (by rfl) B.str (by decide +kernel) (pa_cons (pv 7) pa_nil))))))))))
        (pss_one (ps_ret (pe_join pe_str (pe_lc (own := [("_law_row", 6)]) (g := (gName 6)) (tt := tYes) rfl scLt.nd (pi_list (pv 1)) (blkOk_by (N := nLt) (sc := defScope sLt) (by decide +kernel)) (fun _ _ _ _ _ => (pg_name (i := 6) scLt.nd rfl (by first | exact Or.inl rfl | exact Or.inr rfl))) (fun _ _ _ _ _ => pts_nil) (fun _ _ _ _ _ => (pe_op op_add_str (pv 6) pe_str)))))))))), ?_⟩
    have n1 : ("year " : Str).length = 5 := by decide +kernel
    have ld : (nt y.days).length ≤ 16 := nt_len (by omega) (by omega)
    refine ⟨fun σ' H' => ∃ R, σ' = [some (.ref q), some (.ref R), none, none, none, none, none, none] ∧ Same H H' ∧ H R = none ∧ H' R = some (.lst (([rowT (yearW y.days)]).map V.str)), ?_, ?_⟩
    · refine ⟨_, rfl, q, _, 0, _, rfl, rfl, SqL.of hq, rfl, .inr ⟨y.days, rfl, log_le (by omega) (by omega), _, _, rfl, rfl, (by omega), (by show 1 ≤ sizeLine; omega), fun R H1 s1 nR hR => ⟨R, rfl, s1, nR, ?_⟩⟩⟩
      rw [hR]
      have e : "year " ++ nt y.days = rowT (yearW y.days) := lit_row _ _ (by decide +kernel) _
      show some (HO.lst [V.str ("year " ++ nt y.days)]) = _
      rw [e]
      rfl
    rintro σ H1 ⟨R, rfl, s1, nR, hR⟩
    -- the heads
    refine ⟨fun σ' H' => ∃ R v2 v3, σ' = [some (.ref q), some (.ref R), v2, v3, none, none, none, none] ∧ Same H H' ∧ H' R = some (.lst (([rowT (yearW y.days)] ++ (y.hs.map fun h => rowT (headW h))).map V.str)), ?_, ?_⟩
    · refine ⟨_, rfl, q, _, 1, _, rfl, rfl, SqL.of (s1 _ _ hq), rfl, lh, rfl, ⟨_, SqL.of (s1 _ _ r1.1)⟩, for_list (K := K) (a := lh) (xs := th.map V.ref) (fun i σ H' => ∃ v2 v3, σ = [some (.ref q), some (.ref R), v2, v3, none, none, none, none] ∧ Same H H' ∧ H' R = some (.lst (([rowT (yearW y.days)] ++ (y.hs.take i).map fun h => rowT (headW h)).map V.str)))
        ⟨none, none, rfl, s1, hR⟩ (fun i σ H' _ ⟨_, _, _, z, _⟩ => SqL.of (z _ _ r1.1)) ?_ ?_⟩
      · rintro i v σ H2 hi ⟨v2, v3, rfl, s2, hR2⟩
        obtain ⟨t, r, rfl, hr1, ht, hti⟩ := row_get r1 hi
        have kw := rw_head ok.h (List.mem_of_getElem? hr1)
        refine ⟨t, _, rfl, SqT.of (s2 _ _ ht), rfl, _, _, rfl, _, _, rfl, rfl, ?_⟩
        refine ⟨_, rfl, .inl ⟨rfl, _, SqL.of hR2⟩, ⟨_, rfl⟩, _, rfl, (by show 2 ≤ sizeLine; omega), fun A1 Ha sa na ha => ?_⟩
        refine ⟨_, rfl, (by show 2 ≤ sizeLine; omega), fun A2 Hb sb nb hb => ⟨(by show 0 ≤ sizeLine; omega), fun A3 Hc sc nc hc => ⟨(by show 2 ≤ sizeLine; omega), fun A4 Hd sd nd hd => ?_⟩⟩⟩
        have Sd : Same H2 Hd := (sa.trans sb).trans (sc.trans sd)
        have ha' := sd _ _ (sc _ _ (sb _ _ ha))
        have push : ∀ (ws : List Str) (p : Addr) (H7 : Hp), ws = headW r → Same H2 H7 → H7 p = some (.lst (ws.map V.str)) → rJoinK K (.str " ") [.ref p] H7 fun z H8 => ∃ l xs y', V.ref R = .ref l ∧ [z] = [y'] ∧ H8 l = some (.lst xs) ∧ xs.length < sizeLine ∧ ∃ v2' v3', ([some (V.ref q), some (.ref R), some (.str r.1), some (.str r.2), none, none, none, none] : L2.St) = [some (.ref q), some (.ref R), v2', v3', none, none, none, none] ∧ Same H (upd H8 l (.lst (xs ++ [y']))) ∧ upd H8 l (.lst (xs ++ [y'])) R = some (.lst (([rowT (yearW y.days)] ++ (y.hs.take (i + 1)).map fun h => rowT (headW h)).map V.str)) := by
          rintro ws p H7 rfl s7 hp
          refine ⟨_, p, headW r, rfl, rfl, .inl (SqL.of hp), ?_, R, _, _, rfl, rfl, s7 _ _ hR2, ?_, _, _, rfl, fun b o e => ?_, ?_⟩
          · have := sum_le (n := 16) (ps := headW r) fun p hp => (kw.2.2 p hp).1
            have e1 : (" " : Str).length = 1 := by decide +kernel
            have l8 := kw.2.1
            rw [e1]
            omega
          · rw [List.length_map, List.length_append, List.length_map, List.length_take]
            show 1 + _ < _
            omega
          · rw [upd_ne (ne_of_none e nR)]
            exact s7 _ _ (s2 _ _ e)
          · rw [upd_same, take_more hr1, join_eq]
            simp only [List.map_append, List.append_assoc]
            rfl
        by_cases e0 : r.2 = ""
        · refine ⟨_, rfl, rfl, .inr ⟨_, rfl, A4, _, _, .ref A3, rfl, rfl, SqL.of hd, ?_, A1, A3, _, _, rfl, rfl, ha', sd _ _ hc, (by show 2 + 0 ≤ sizeLine; omega), fun p H7 s7 np hp => ?_⟩⟩
          · rw [e0]
            rfl
          · refine push ["head", r.1] p H7 ?_ (Sd.trans s7) hp
            unfold headW
            rw [if_pos e0]
        · refine ⟨_, rfl, rfl, .inr ⟨_, rfl, A4, _, _, .ref A2, rfl, rfl, SqL.of hd, ?_, A1, A2, _, _, rfl, rfl, ha', sd _ _ (sc _ _ hb), (by show 2 + 2 ≤ sizeLine; omega), fun p H7 s7 np hp => ?_⟩⟩
          · rw [decide_eq_false (fun z => e0 (by injection z))]
            rfl
          · refine push ["head", r.1, "in", r.2] p H7 ?_ (Sd.trans s7) hp
            unfold headW
            rw [if_neg e0]
      · rintro σ H2 ⟨v2, v3, rfl, s2, hR2⟩
        refine ⟨R, v2, v3, rfl, s2, ?_⟩
        rw [hR2, List.take_of_length_le (by rw [List.length_map, thl]; exact Nat.le_refl _)]
    rintro σ Hp ⟨R, v2, v3, rfl, sp, hR⟩
    refine ⟨fun σ' H' => ∃ R v2 v3, σ' = [some (.ref q), some (.ref R), v2, v3, none, none, none, none] ∧ Same H H' ∧ H' R = some (.lst (([rowT (yearW y.days)] ++ (y.hs.map fun h => rowT (headW h)) ++ y.ls.map fun h => rowT (limW h)).map V.str)), ?_, ?_⟩
    · refine ⟨_, rfl, _, rfl, q, _, 2, _, rfl, rfl, SqL.of (sp _ _ hq), rfl, ll, rfl, ⟨_, SqL.of (sp _ _ r2.1)⟩, fun D1 hD1 => lc_it (walk_list (xs := tl'.map V.ref)) (fun i H' => Same Hp H' ∧ H' D1 = some (.lst (((y.ls.take i).map fun h => rowT (limW h)).map V.str))) ⟨same_new hD1, upd_same⟩ (fun i H' _ e => SqL.of (e.1 _ _ (sp _ _ r2.1))) ?_ ?_⟩
      · rintro i v H4 H5 hi ⟨s4, d4⟩ ⟨rfl, hv⟩
        obtain ⟨t, r, rfl, hr1, ht, hti⟩ := row_get r2 hv
        obtain ⟨m1, m2, m3, m4⟩ := ok.l r (List.mem_of_getElem? hr1)
        have kw := rw_lim ok (List.mem_of_getElem? hr1)
        refine ⟨rfl, yes (iteT ⟨⟨_, rfl⟩, (by show 1 ≤ sizeLine; omega), fun A1 Ha sa na ha => ?_⟩)⟩
        have ta := sa _ _ (s4 _ _ (sp _ _ ht))
        refine ⟨_, rfl, t, rfl, ⟨_, SqT.of ta⟩, fun D2 hD2 => lc_it (walk_tup (xs := rv r)) (fun j H' => Same Ha H' ∧ H' D2 = some (.lst (([r.1, nt r.2.1, nt r.2.2.1, nt r.2.2.2].take j).map V.str))) ⟨same_new hD2, upd_same⟩ (fun j H' _ e => SqT.of (e.1 _ _ ta)) ?_ ?_⟩
        · rintro j v H6 H7 hj ⟨s6, d6⟩ ⟨rfl, hv⟩
          have fin : ∀ (x : Str), [r.1, nt r.2.1, nt r.2.2.1, nt r.2.2.2][j]? = some x → ∃ acc, H7 D2 = some (.lst acc) ∧ acc.length < sizeLine ∧ Same Ha (upd H7 D2 (.lst (acc ++ [V.str x]))) ∧ upd H7 D2 (.lst (acc ++ [V.str x])) D2 = some (.lst (([r.1, nt r.2.1, nt r.2.2.1, nt r.2.2.2].take (j + 1)).map V.str)) := fun x hx => by
            refine ⟨_, d6, ?_, fun b o e => ?_, ?_⟩
            · rw [List.length_map, List.length_take]
              show min j 4 < sizeLine
              omega
            · rw [upd_ne (ne_of_none e hD2)]
              exact s6 _ _ e
            · rw [upd_same, take_more hx, List.map_append]
              rfl
          have hv' : ([V.str r.1, .int r.2.1, .int r.2.2.1, .int r.2.2.2] : List V)[j]? = some v := hv
          match j, hv', fin with
          | 0, hv', fin =>
            cases hv'
            exact ⟨rfl, yes (iteT ⟨_, rfl, .inl ⟨_, rfl, fin _ rfl⟩⟩)⟩
          | 1, hv', fin =>
            cases hv'
            exact ⟨rfl, yes (iteT ⟨_, rfl, .inr ⟨_, rfl, log_le (by omega) (by omega), fin _ rfl⟩⟩)⟩
          | 2, hv', fin =>
            cases hv'
            exact ⟨rfl, yes (iteT ⟨_, rfl, .inr ⟨_, rfl, log_le (by omega) (by omega), fin _ rfl⟩⟩)⟩
          | 3, hv', fin =>
            cases hv'
            exact ⟨rfl, yes (iteT ⟨_, rfl, .inr ⟨_, rfl, log_le (by omega) (by omega), fin _ rfl⟩⟩)⟩
          | j + 4, hv', fin => simp at hv'
        · rintro H6 ⟨s6, d6⟩
          have d6' : H6 D2 = some (.lst ([r.1, nt r.2.1, nt r.2.2.1, nt r.2.2.2].map V.str)) := d6
          refine ⟨A1, D2, _, _, rfl, rfl, s6 _ _ ha, d6', (by show 1 + 4 ≤ sizeLine; omega), fun p H7 s7 np hp => ?_⟩
          refine ⟨_, p, limW r, rfl, rfl, .inl (SqL.of hp), ?_, ?_⟩
          · have := sum_le (n := 16) (ps := limW r) fun p hp => (kw.2.2 p hp).1
            have e5 : (limW r).length = 5 := rfl
            have e1 : (" " : Str).length = 1 := by decide +kernel
            rw [e5] at this
            rw [e5, e1]
            omega
          · have S7 : Same Hp H7 := ((s4.trans sa).trans s6).trans s7
            have d7 := s7 _ _ (s6 _ _ (sa _ _ d4))
            refine ⟨_, d7, ?_, fun b o e => ?_, ?_⟩
            · rw [List.length_map, List.length_map, List.length_take]
              omega
            · rw [upd_ne (ne_of_none e hD1)]
              exact S7 _ _ e
            · rw [upd_same, take_more hr1, List.map_append, List.map_append, join_eq]
              rfl
      · rintro H4 ⟨s4, d4⟩
        have eL : (y.ls.take (tl'.map V.ref).length) = y.ls := List.take_of_length_le (by rw [List.length_map, tll]; exact Nat.le_refl _)
        rw [eL] at d4
        refine ⟨R, D1, _, _, rfl, rfl, s4 _ _ hR, d4, (by simp only [List.length_map, List.length_append, List.length_singleton]; omega), fun R2 H5 s5 n5 h5 => ⟨R2, _, _, rfl, (sp.trans s4).trans s5, ?_⟩⟩
        rw [h5, ← List.map_append]
    rintro σ Hp ⟨R, v2, v3, rfl, sp, hR⟩
    refine ⟨fun σ' H' => ∃ R v2 v3, σ' = [some (.ref q), some (.ref R), v2, v3, none, none, none, none] ∧ Same H H' ∧ H' R = some (.lst (([rowT (yearW y.days)] ++ (y.hs.map fun h => rowT (headW h)) ++ (y.ls.map fun h => rowT (limW h)) ++ y.rs.map fun h => rowT (rulW h)).map V.str)), ?_, ?_⟩
    · refine ⟨_, rfl, _, rfl, q, _, 3, _, rfl, rfl, SqL.of (sp _ _ hq), rfl, lr, rfl, ⟨_, SqL.of (sp _ _ r3.1)⟩, fun D1 hD1 => lc_it (walk_list (xs := tr.map V.ref)) (fun i H' => Same Hp H' ∧ H' D1 = some (.lst (((y.rs.take i).map fun h => rowT (rulW h)).map V.str))) ⟨same_new hD1, upd_same⟩ (fun i H' _ e => SqL.of (e.1 _ _ (sp _ _ r3.1))) ?_ ?_⟩
      · rintro i v H4 H5 hi ⟨s4, d4⟩ ⟨rfl, hv⟩
        obtain ⟨t, r, rfl, hr1, ht, hti⟩ := row_get r3 hv
        obtain ⟨m1, m2, m3, m4⟩ := ok.r r (List.mem_of_getElem? hr1)
        have kw := rw_rul ok (List.mem_of_getElem? hr1)
        refine ⟨rfl, yes (iteT ⟨⟨_, rfl⟩, (by show 1 ≤ sizeLine; omega), fun A1 Ha sa na ha => ?_⟩)⟩
        have ta := sa _ _ (s4 _ _ (sp _ _ ht))
        refine ⟨_, rfl, t, rfl, ⟨_, SqT.of ta⟩, fun D2 hD2 => lc_it (walk_tup (xs := rv r)) (fun j H' => Same Ha H' ∧ H' D2 = some (.lst (([r.1, nt r.2.1, nt r.2.2.1, nt r.2.2.2].take j).map V.str))) ⟨same_new hD2, upd_same⟩ (fun j H' _ e => SqT.of (e.1 _ _ ta)) ?_ ?_⟩
        · rintro j v H6 H7 hj ⟨s6, d6⟩ ⟨rfl, hv⟩
          have fin : ∀ (x : Str), [r.1, nt r.2.1, nt r.2.2.1, nt r.2.2.2][j]? = some x → ∃ acc, H7 D2 = some (.lst acc) ∧ acc.length < sizeLine ∧ Same Ha (upd H7 D2 (.lst (acc ++ [V.str x]))) ∧ upd H7 D2 (.lst (acc ++ [V.str x])) D2 = some (.lst (([r.1, nt r.2.1, nt r.2.2.1, nt r.2.2.2].take (j + 1)).map V.str)) := fun x hx => by
            refine ⟨_, d6, ?_, fun b o e => ?_, ?_⟩
            · rw [List.length_map, List.length_take]
              show min j 4 < sizeLine
              omega
            · rw [upd_ne (ne_of_none e hD2)]
              exact s6 _ _ e
            · rw [upd_same, take_more hx, List.map_append]
              rfl
          have hv' : ([V.str r.1, .int r.2.1, .int r.2.2.1, .int r.2.2.2] : List V)[j]? = some v := hv
          match j, hv', fin with
          | 0, hv', fin =>
            cases hv'
            exact ⟨rfl, yes (iteT ⟨_, rfl, .inl ⟨_, rfl, fin _ rfl⟩⟩)⟩
          | 1, hv', fin =>
            cases hv'
            exact ⟨rfl, yes (iteT ⟨_, rfl, .inr ⟨_, rfl, log_le (by omega) (by omega), fin _ rfl⟩⟩)⟩
          | 2, hv', fin =>
            cases hv'
            exact ⟨rfl, yes (iteT ⟨_, rfl, .inr ⟨_, rfl, log_le (by omega) (by omega), fin _ rfl⟩⟩)⟩
          | 3, hv', fin =>
            cases hv'
            exact ⟨rfl, yes (iteT ⟨_, rfl, .inr ⟨_, rfl, log_le (by omega) (by omega), fin _ rfl⟩⟩)⟩
          | j + 4, hv', fin => simp at hv'
        · rintro H6 ⟨s6, d6⟩
          have d6' : H6 D2 = some (.lst ([r.1, nt r.2.1, nt r.2.2.1, nt r.2.2.2].map V.str)) := d6
          refine ⟨A1, D2, _, _, rfl, rfl, s6 _ _ ha, d6', (by show 1 + 4 ≤ sizeLine; omega), fun p H7 s7 np hp => ?_⟩
          refine ⟨_, p, rulW r, rfl, rfl, .inl (SqL.of hp), ?_, ?_⟩
          · have := sum_le (n := 16) (ps := rulW r) fun p hp => (kw.2.2 p hp).1
            have e5 : (rulW r).length = 5 := rfl
            have e1 : (" " : Str).length = 1 := by decide +kernel
            rw [e5] at this
            rw [e5, e1]
            omega
          · have S7 : Same Hp H7 := ((s4.trans sa).trans s6).trans s7
            have d7 := s7 _ _ (s6 _ _ (sa _ _ d4))
            refine ⟨_, d7, ?_, fun b o e => ?_, ?_⟩
            · rw [List.length_map, List.length_map, List.length_take]
              omega
            · rw [upd_ne (ne_of_none e hD1)]
              exact S7 _ _ e
            · rw [upd_same, take_more hr1, List.map_append, List.map_append, join_eq]
              rfl
      · rintro H4 ⟨s4, d4⟩
        have eL : (y.rs.take (tr.map V.ref).length) = y.rs := List.take_of_length_le (by rw [List.length_map, trl]; exact Nat.le_refl _)
        rw [eL] at d4
        refine ⟨R, D1, _, _, rfl, rfl, s4 _ _ hR, d4, (by simp only [List.length_map, List.length_append, List.length_singleton]; omega), fun R2 H5 s5 n5 h5 => ⟨R2, _, _, rfl, (sp.trans s4).trans s5, ?_⟩⟩
        rw [h5, ← List.map_append]
    rintro σ Hp ⟨R, v2, v3, rfl, sp, hR⟩
    have er : [rowT (yearW y.days)] ++ (y.hs.map fun h => rowT (headW h)) ++ (y.ls.map fun h => rowT (limW h)) ++ (y.rs.map fun h => rowT (rulW h)) = (rowsW y).map rowT := by
      unfold rowsW
      simp only [List.map_cons, List.map_append, List.map_map, List.singleton_append, List.cons_append]
      rfl
    rw [er] at hR
    have rl := rowsW_len ok
    have rb : ∀ x ∈ (rowsW y).map rowT, x.length ≤ 136 := fun x hx => by
      obtain ⟨ws, hw, rfl⟩ := List.mem_map.mp hx
      exact rowT_le (rw_all ok ws hw)
    generalize hrs : (rowsW y).map rowT = rs at hR rb
    have rsl : rs.length ≤ 19 := by rw [← hrs, List.length_map]; exact rl
    have k' : ∀ H', Same H H' → Q (.str (linesT rs)) H' := fun H' s' => by rw [← hrs]; exact k H' s'
    refine ⟨⟨_, rfl⟩, _, rfl, R, rfl, ⟨_, SqL.of hR⟩, fun D hD => lc_it (walk_list (xs := rs.map V.str)) (fun i H' => H' = upd Hp D (.lst (((rs.take i).map lnT).map V.str))) rfl (fun i H' _ e => by rw [e]; exact SqL.of (same_new hD _ _ hR)) ?_ ?_⟩
    · rintro i v H1 H2 hi rfl ⟨rfl, hv⟩
      obtain ⟨r, hr2, rfl⟩ : ∃ r, rs[i]? = some r ∧ v = V.str r := by
        rw [List.getElem?_map] at hv
        cases e : rs[i]? with
        | none => rw [e] at hv; cases hv
        | some z => rw [e] at hv; exact ⟨z, rfl, (Option.some.inj hv).symm⟩
      have hrl := rb r (List.mem_of_getElem? hr2)
      have n1 : ("
" : Str).length = 1 := by decide +kernel
      refine ⟨rfl, yes (iteT ⟨_, rfl, _, _, rfl, rfl, (by omega), _, upd_same, ?_, ?_⟩)⟩
      · rw [List.length_map, List.length_map, List.length_take]
        omega
      · rw [upd_upd, take_more hr2, List.map_append, List.map_append]
        rfl
    · rintro H1 rfl
      rw [List.length_map, List.take_length]
      refine ⟨_, D, rs.map lnT, rfl, rfl, .inl (SqL.of upd_same), ?_, ?_⟩
      · have := sum_le (n := 137) (ps := rs.map lnT) fun p hp => by
          obtain ⟨r, hr, rfl⟩ := List.mem_map.mp hp
          rw [lnT_len]
          have := rb r hr
          omega
        have e : ("" : Str).length = 0 := by decide +kernel
        rw [e, Nat.mul_zero]
        rw [List.length_map] at this
        have : rs.length * 137 ≤ 19 * 137 := Nat.mul_le_mul_right _ rsl
        omega
      · rw [join_eq]
        exact k' _ (sp.trans (same_new hD))
end
end KP
namespace KP
open PySem L2 KD KM KT TL
/-! ### split and join -/
theorem spl_ne (S : List Nat) : ∀ (l : List Nat) (k : Nat) (acc : List Nat), spl S k acc l ≠ [] := fun l k acc => (spl_bound S l k acc).2.2
theorem joinL_cons {S p : List Nat} {ps : List (List Nat)} (h : ps ≠ []) : joinL S (p :: ps) = p ++ (S ++ joinL S ps) := by
  cases ps with
  | nil => exact absurd rfl h
  | cons q r => rfl
theorem joinL_spl {s : Nat} : ∀ (l acc : List Nat), joinL [s] (spl [s] 0 acc l) = acc ++ l
  | [], acc => by
    rw [spl_nil, List.append_nil]
    rfl
  | c :: r, acc => by
    cases h : pre [s] (c :: r) with
    | true =>
      have e : c = s := by
        unfold pre at h
        simpa using h
      rw [spl_hit h]
      show joinL [s] (acc :: spl [s] 0 [] r) = _
      rw [joinL_cons (spl_ne _ _ _ _), joinL_spl r [], e]
      rfl
    | false =>
      rw [spl_miss h, joinL_spl r (acc ++ [c]), List.append_assoc]
      rfl
theorem join_split {x y : Str} {s : Nat} (ey : tl y = [s]) (hk : y.cps.all (· < 256) = true) : Str.join y (Txt.split x y) = x := by
  refine ext_tl ?_
  rw [tl_join, split_spl x y (by rw [ey]; simp) (kind_ok hk), ey, joinL_spl, List.nil_append]
/-! ### a number's figures are told by its value -/
theorem num_canon : ∀ (m : Nat) (ds : List Nat), ds.length = m → (∀ c ∈ ds, 48 ≤ c ∧ c ≤ 57) → ds ≠ [] → (ds = [48] ∨ ds.head? ≠ some 48) → numL (NumText.digitsVal ds) = ds ∧ (ds ≠ [48] → 1 ≤ NumText.digitsVal ds)
  | 0, ds, h, _, hn, _ => absurd (List.eq_nil_of_length_eq_zero h) hn
  | m + 1, ds, h, hd, hn, hh => by
    obtain ⟨ds', c, rfl⟩ : ∃ a c, ds = a ++ [c] := ⟨ds.dropLast, ds.getLast hn, (List.dropLast_concat_getLast hn).symm⟩
    have hc := hd c (by simp)
    have ev : NumText.digitsVal (ds' ++ [c]) = NumText.digitsVal ds' * 10 + (c - 48) := by
      unfold NumText.digitsVal
      rw [List.foldl_append]
      rfl
    rw [ev]
    by_cases e : ds' = []
    · subst e
      have e0 : NumText.digitsVal [] = 0 := rfl
      rw [e0, Nat.zero_mul, Nat.zero_add, numL_lt (by omega)]
      refine ⟨by rw [List.nil_append, show 48 + (c - 48) = c by omega], fun z => ?_⟩
      have : c ≠ 48 := fun q => z (by rw [q]; rfl)
      omega
    · have hl : ds'.length = m := by simpa using h
      have h48 : (ds' ++ [c]).head? ≠ some 48 := by
        rcases hh with hh | hh
        · have := congrArg List.length hh
          rw [List.length_append] at this
          have l0 := List.length_pos_iff.mpr e
          rw [List.length_singleton, List.length_singleton] at this
          omega
        · exact hh
      have hd' : ds'.head? ≠ some 48 := by
        cases ds' with
        | nil => exact absurd rfl e
        | cons a r => exact h48
      obtain ⟨i1, i2⟩ := num_canon m ds' hl (fun c hc => hd c (List.mem_append_left _ hc)) e (.inr hd')
      have hv := i2 (fun z => hd' (by rw [z]; rfl))
      refine ⟨?_, fun _ => by omega⟩
      rw [numL_step (by omega), show (NumText.digitsVal ds' * 10 + (c - 48)) / 10 = NumText.digitsVal ds' by omega, show (NumText.digitsVal ds' * 10 + (c - 48)) % 10 = c - 48 by omega, i1, show 48 + (c - 48) = c by omega]
theorem nt_val {x : Str} (h : isNumB x = true) : 0 ≤ valN x ∧ nt (valN x) = x := by
  refine ⟨Int.natCast_nonneg _, ?_⟩
  refine ext_tl ?_
  unfold valN
  rw [tl_nt (Int.natCast_nonneg _)]
  show numL (((NumText.digitsVal x.cps.toList : Nat) : Int).toNat) = x.cps.toList
  rw [Int.toNat_natCast]
  unfold isNumB at h
  simp only [Bool.and_eq_true, decide_eq_true_eq, Bool.or_eq_true, Bool.not_eq_true', decide_eq_false_iff_not] at h
  obtain ⟨⟨⟨h1, h2⟩, h3⟩, h4⟩ := h
  refine (num_canon _ x.cps.toList rfl (fun c hc => figs_digit (of_decide_eq_true (List.all_eq_true.mp h3 c hc))) (fun e => ?_) ?_).1
  · have : x.length = x.cps.toList.length := by simp [Str.length]
    rw [e] at this
    simp at this
    omega
  · rcases h4 with h4 | h4
    · left
      rw [h4]
      exact str0
    · right
      intro z
      refine h4 (ext_tl ?_)
      rw [str0]
      have hg : x.cps.getD 0 0 = 48 := by
        have : x.cps[0]? = some 48 := by
          rw [← Array.getElem?_toList, ← List.head?_eq_getElem?]
          exact z
        rw [Array.getD_eq_getD_getElem?, this]
        rfl
      rw [hg]
end KP
namespace KP
open PySem L2 KD KM KT TL
structure ErrT (K : PySem.W.Frag) (mg : Str → Option Value) (Cn Cp : Addr) (cs : Nat → Addr) : Prop where
  m0 : mg "Full" = some (.ref (cs 0))
  m1 : mg "Leaned" = some (.ref (cs 1))
  m2 : mg "NoDay" = some (.ref (cs 2))
  m3 : mg "NoYear" = some (.ref (cs 3))
  m4 : mg "NoHead" = some (.ref (cs 4))
  m5 : mg "NoNumber" = some (.ref (cs 5))
  m6 : mg "NoPromise" = some (.ref (cs 6))
  m7 : mg "NoRow" = some (.ref (cs 7))
  m8 : mg "NoEntry" = some (.ref (cs 8))
  m9 : mg "Passed" = some (.ref (cs 9))
  m10 : mg "Taken" = some (.ref (cs 10))
  kit : ∀ i < 11, PySem.W.kitOne K (.ref Cn) (.ref (cs i)) = some false
  kitN : PySem.W.kitOne K (.ref Cn) (.ref Cn) = some true
  kitV : PySem.W.kitOne K (.ref Cn) (.type "ValueError") = some true
  exc : ExcC K Cn
  mP : mg "PurseError" = some (.ref Cp)
  exm : PySem.W.exmOne K (.ref Cn) (.ref Cp) = some true
  ve : mg "ValueError" = none
abbrev sNx : Stmt := top 81
abbrev nNx : List Str := ["_law_which", "_law_text_here", "_law_found", "e", "_law_others"]
theorem scNx : FnScope nNx ["_law_which", "_law_text_here"] (defScope sNx) := ⟨rfl, rfl, rfl, by decide +kernel, rfl, by decide +kernel, by decide +kernel⟩

def spNx : Sp := fun vs H Q _ => ∃ v : V, vs = [.int 0, v] ∧ Th H v ∧ (∀ x, v = .str x → x.length ≤ 100000) ∧ (∀ y : Yr, y.ok → v ≠ .str (ytext y)) ∧ ∀ H', Same H H' → Q (.bl true) H'
section
variable {P : Program} {w : World} {K : PySem.W.Frag} {mg : Str → Option Value} {base : Heap} {C Ct Cp : Addr} {cs : Nat → Addr}
theorem c_nx (B : Base K mg) (Nt : ErrF K mg "NoText" Ct) (Er : ErrT K mg Ct Cp cs) (Ry : CalX P w K mg base 7 "read_year" (spRyB Ct)) (D : DefT K mg "_law_no_text" sNx ["_law_which", "_law_text_here"]) :
    Cal P w K mg base 8 "_law_no_text" spNx := by
  refine cal D scNx (fun vs H Q E h => ?_) (fun f cdv A outer s H vs Q E hr h => ?_)
  · obtain ⟨v, rfl, _⟩ := h
    rfl
  · obtain ⟨v, rfl, tv, hx, hn, k⟩ := h
    have n9 : PySem.W.kitAny K (.ref Ct) [.ref (cs 0), .ref (cs 1), .ref (cs 2), .ref (cs 3), .ref (cs 4), .ref (cs 5), .ref (cs 6), .ref (cs 7), .ref (cs 8)] = some false := kitAny_no fun u hu => by
      simp only [List.mem_cons, List.not_mem_nil, or_false] at hu
      rcases hu with rfl | rfl | rfl | rfl | rfl | rfl | rfl | rfl | rfl <;> exact Er.kit _ (by decide)
    have n2 : PySem.W.kitAny K (.ref Ct) [.ref (cs 9), .ref (cs 10)] = some false := kitAny_no fun u hu => by
      simp only [List.mem_cons, List.not_mem_nil, or_false] at hu
      rcases hu with rfl | rfl <;> exact Er.kit _ (by decide)
    refine ⟨_, (pss_cons (ps_set (i := 2) scNx.nd rfl (by first | exact Or.inl rfl | exact Or.inr rfl) pe_str)
        (pss_cons (ps_try_as (i := 3) rfl rfl scNx.nd rfl rfl ⟨rfl, by decide, .inl Er.mP⟩ takes0
        (fun W pn xe tk _ => (pss_one (ps_if (pt_cmpR op_eq (pv 0) pe_int (nomark _)) (pss_one (ps_expr (pe_clX Ry hr (by decide) (fun σ => passAt tk σ) (by rfl) (pa_cons (pv 1) pa_nil)))) (pss_one ps_never))))
        (fun a oe cls d pn hz hf => (pss_cons (ps_set (i := 4) scNx.nd rfl (Or.inl rfl) (pe_callB (call_isXT hz hf) (by rfl) B.isi (by decide +kernel) (pa_cons (pv 3) (pa_cons (pe_tup (pa_cons (pe_glob (v := .ref (cs 0)) rfl Er.m0 rfl) (pa_cons (pe_glob (v := .ref (cs 1)) rfl Er.m1 rfl) (pa_cons (pe_glob (v := .ref (cs 2)) rfl Er.m2 rfl) (pa_cons (pe_glob (v := .ref (cs 3)) rfl Er.m3 rfl) (pa_cons (pe_glob (v := .ref (cs 4)) rfl Er.m4 rfl) (pa_cons (pe_glob (v := .ref (cs 5)) rfl Er.m5 rfl) (pa_cons (pe_glob (v := .ref (cs 6)) rfl Er.m6 rfl) (pa_cons (pe_glob (v := .ref (cs 7)) rfl Er.m7 rfl) (pa_cons (pe_glob (v := .ref (cs 8)) rfl Er.m8 rfl) pa_nil)))))))))) pa_nil))))
          (pss_cons (ps_set (i := 4) scNx.nd rfl (Or.inl rfl) (pe_or (pv 4) (pe_one (pe_callB (call_isXT hz hf) (by rfl) B.isi (by decide +kernel) (pa_cons (pv 3) (pa_cons (pe_tup (pa_cons (pe_glob (v := .ref (cs 9)) rfl Er.m9 rfl) (pa_cons (pe_glob (v := .ref (cs 10)) rfl Er.m10 rfl) pa_nil))) pa_nil))))))
          (pss_one (ps_set (i := 2) scNx.nd rfl (Or.inl rfl) (pe_ix (show IxR _ (rIxL K) from ix_list) (pe_lst (pa_cons pe_str (pa_cons pe_str pa_nil))) (pe_callTy call_int1 (by rfl) B.int (by decide +kernel) (pa_cons (pe_or (pv 4) (pe_or (pe_not (pe_callB (call_isX hz hf) (by rfl) B.isi (by decide +kernel) (pa_cons (pv 3) (pa_cons (pe_glob (v := .ref Ct) rfl Nt.g rfl) pa_nil)))) (pe_one (pe_not (pe_callB (call_isX hz hf) (by rfl) B.isi (by decide +kernel) (pa_cons (pv 3) (pa_cons (pe_bltn (v := .ty "ValueError") (by rfl) Er.ve (by decide +kernel) rfl) pa_nil))))))) pa_nil)) (fun _ _ => rfl))))))))
        (pss_one (ps_ret (pe_cmpR op_eq (pv 2) pe_str (nomark _)))))), ?_⟩
    refine ⟨_, rfl, rfl, _, rfl, ?_⟩
    rw [decide_eq_true rfl]
    refine iteT ⟨_, rfl, v, rfl, tv, hx, hn, fun H2 s2 => ⟨true, Er.exm, fun _ a ha => ?_, fun z => nomatch z⟩⟩
    refine ⟨_, rfl, (by show 9 ≤ sizeLine; decide), fun tp htp => ⟨Ct, tp, _, _, false, rfl, rfl, Er.exc, rfl, upd_same, .cons (.own _) (.cons (.own _) (.cons (.own _) (.cons (.own _) (.cons (.own _) (.cons (.own _) (.cons (.own _) (.cons (.own _) (.cons (.own _) .nil)))))))), n9, ?_⟩⟩
    refine ⟨_, rfl, _, rfl, iteF ⟨_, rfl, (by show 2 ≤ sizeLine; decide), fun tp2 htp2 => ⟨Ct, tp2, _, _, false, rfl, rfl, Er.exc, rfl, upd_same, .cons (.own _) (.cons (.own _) .nil), n2, ?_⟩⟩⟩
    refine ⟨(by show 2 ≤ sizeLine; decide), fun L hL => ⟨_, rfl, _, rfl, iteF ⟨_, rfl, Ct, .ref Ct, .ref Ct, true, rfl, rfl, Er.exc, rfl, .own _, Er.kitN, _, rfl, _, rfl, iteF ⟨_, rfl, Ct, .ty "ValueError", _, true, rfl, rfl, Er.exc, rfl, .ty _, Er.kitV, _, rfl, .inr ⟨_, rfl, L, _, 0, .str "refused", rfl, rfl, SqL.of upd_same, rfl, ?_⟩⟩⟩⟩⟩
    refine ⟨_, rfl, rfl, ?_⟩
    rw [decide_eq_true rfl]
    exact k _ (s2.trans (((same_new htp).trans (same_new htp2)).trans (same_new hL)))
end
end KP
namespace KP
open PySem L2 KD KM KT TL
/-! ### what the rows of a good year's text are -/
def midW (y : Yr) : List (List Str) := y.hs.map headW ++ y.ls.map limW ++ y.rs.map rulW
theorem ytext_split {y : Yr} (ok : y.ok) : Txt.split (ytext y) nl1 = rowT (yearW y.days) :: ((midW y).map rowT ++ [em]) := by
  have : Txt.split (ytext y) nl1 = (rowsW y).map rowT ++ [em] := lines_split fun r hr => by
    obtain ⟨ws, hw, rfl⟩ := List.mem_map.mp hr
    exact row_free fun w h => ((rw_all ok ws hw).2.2 w h).2.2
  rw [this]
  rfl
/-- a text of these rows that is a good year's: its first row and the others -/
theorem rows_year {x : Str} {r0 : Str} {rs : List Str} {y : Yr} (ok : y.ok) (e : x = ytext y) (h : Txt.split x nl1 = r0 :: (rs ++ [em])) : r0 = rowT (yearW y.days) ∧ rs = (midW y).map rowT := by
  have q := ytext_split ok
  rw [← e, h] at q
  injection q with q1 q2
  exact ⟨q1, List.append_cancel_right q2⟩
theorem last_year {x : Str} {rs : List Str} {z : Str} {y : Yr} (ok : y.ok) (e : x = ytext y) (h : Txt.split x nl1 = rs ++ [z]) : z = em := by
  have q := ytext_split ok
  rw [← e, h] at q
  have := congrArg List.getLast? q
  rw [← List.cons_append, List.getLast?_append, List.getLast?_append] at this
  simpa using this
theorem mid_words {y : Yr} (ok : y.ok) {r : Str} (h : r ∈ (midW y).map rowT) : Txt.split r sp1 ∈ midW y := by
  obtain ⟨ws, hw, rfl⟩ := List.mem_map.mp h
  have kw := rw_all ok ws (List.mem_cons_of_mem _ hw)
  rw [row_split kw.1 fun w h => (kw.2.2 w h).2.1]
  exact hw
theorem mid_cases {y : Yr} {ws : List Str} (h : ws ∈ midW y) : (∃ r ∈ y.hs, ws = headW r) ∨ (∃ r ∈ y.ls, ws = limW r) ∨ ∃ r ∈ y.rs, ws = rulW r := by
  unfold midW at h
  rcases List.mem_append.mp h with h | h
  · rcases List.mem_append.mp h with h | h
    · obtain ⟨r, hr, rfl⟩ := List.mem_map.mp h
      exact .inl ⟨r, hr, rfl⟩
    · obtain ⟨r, hr, rfl⟩ := List.mem_map.mp h
      exact .inr (.inl ⟨r, hr, rfl⟩)
  · obtain ⟨r, hr, rfl⟩ := List.mem_map.mp h
    exact .inr (.inr ⟨r, hr, rfl⟩)
/-- a number's text tells it -/
theorem nt_inj {i j : Int} (hi : 0 ≤ i) (hj : 0 ≤ j) (h : nt i = nt j) : i = j := by
  have := congrArg tl h
  rw [tl_nt hi, tl_nt hj] at this
  have := numL_inj this
  omega
/-- what a row of a good year may be, by its words -/
theorem mid_head {y : Yr} (ok : y.ok) {ws : List Str} (h : ("head" : Str) :: ws ∈ midW y) : (∃ n : Str, ws = [n] ∧ ((n, em) : Hd) ∈ y.hs) ∨ ∃ n u : Str, ws = ([n, "in", u] : List Str) ∧ u ≠ "" ∧ ((n, u) : Hd) ∈ y.hs := by
  rcases mid_cases h with ⟨r, hr, e⟩ | ⟨r, hr, e⟩ | ⟨r, hr, e⟩
  · unfold headW at e
    split at e
    · rename_i e0
      injection e with _ e
      refine .inl ⟨r.1, e, ?_⟩
      have : ((r.1, em) : Hd) = r := Prod.ext rfl e0.symm
      rw [this]
      exact hr
    · rename_i e0
      injection e with _ e
      exact .inr ⟨r.1, r.2, e, e0, hr⟩
  · injection e with e _
    exact absurd e (by decide +kernel)
  · injection e with e _
    exact absurd e (by decide +kernel)
theorem mid_lim {y : Yr} {ws : List Str} (h : ("limit" : Str) :: ws ∈ midW y) : ∃ r ∈ y.ls, ws = [r.1, nt r.2.1, nt r.2.2.1, nt r.2.2.2] := by
  rcases mid_cases h with ⟨r, hr, e⟩ | ⟨r, hr, e⟩ | ⟨r, hr, e⟩
  · unfold headW at e
    split at e <;> (injection e with e _; exact absurd e (by decide +kernel))
  · injection e with _ e
    exact ⟨r, hr, e⟩
  · injection e with e _
    exact absurd e (by decide +kernel)
theorem mid_rul {y : Yr} {ws : List Str} (h : ("rule" : Str) :: ws ∈ midW y) : ∃ r ∈ y.rs, ws = [r.1, nt r.2.1, nt r.2.2.1, nt r.2.2.2] := by
  rcases mid_cases h with ⟨r, hr, e⟩ | ⟨r, hr, e⟩ | ⟨r, hr, e⟩
  · unfold headW at e
    split at e <;> (injection e with e _; exact absurd e (by decide +kernel))
  · injection e with e _
    exact absurd e (by decide +kernel)
  · injection e with _ e
    exact ⟨r, hr, e⟩
theorem mid_other {y : Yr} {a : Str} {ws : List Str} (h : a :: ws ∈ midW y) : a = "head" ∨ a = "limit" ∨ a = "rule" := by
  rcases mid_cases h with ⟨r, hr, e⟩ | ⟨r, hr, e⟩ | ⟨r, hr, e⟩
  · unfold headW at e
    split at e <;> (injection e with e _; exact .inl e)
  · injection e with e _
    exact .inr (.inl e)
  · injection e with e _
    exact .inr (.inr e)
/-! ### the names of the heads' rows -/
def hn (ws : List Str) : Option Str := match ws with
  | a :: n :: _ => if a = "head" then some n else none
  | _ => none
theorem hn_head (r : Hd) : hn (headW r) = some r.1 := by
  unfold headW
  split <;> (show (if ("head" : Str) = "head" then some r.1 else none) = _; rw [if_pos rfl])
theorem hn_mid (y : Yr) : (midW y).filterMap hn = nms y.hs := by
  unfold midW nms
  have a : ∀ l : List Hd, (l.map headW).filterMap hn = l.map (·.1) := fun l => by
    induction l with
    | nil => rfl
    | cons r l ih => rw [List.map_cons, List.filterMap_cons_some (hn_head r), ih]; rfl
  have b : ∀ (l : List Rw4) (f : Rw4 → List Str), (∀ r, hn (f r) = none) → (l.map f).filterMap hn = [] := fun l f h => by
    induction l with
    | nil => rfl
    | cons r l ih => rw [List.map_cons, List.filterMap_cons_none (h r), ih]
  rw [List.filterMap_append, List.filterMap_append, a, b _ _ (fun r => by show (if ("limit" : Str) = "head" then some r.1 else none) = none; rw [if_neg (by decide +kernel)]), b _ _ (fun r => by show (if ("rule" : Str) = "head" then some r.1 else none) = none; rw [if_neg (by decide +kernel)]), List.append_nil, List.append_nil]
end KP
namespace KP
open PySem L2 KD KM KT TL
/-! ### rows that no good year has -/
theorem not_nt {x : Str} (h : isNumB x = false) {i : Int} (h0 : 0 ≤ i) (h1 : i ≤ 9999999999999999) : x ≠ nt i := fun e => by
  rw [e, (nt_num h0 h1).1] at h
  cases h
theorem lit_nt {x : Str} {k i : Int} (hx : x = nt k) (hk : 0 ≤ k) (hi : 0 ≤ i) (e : x = nt i) : k = i := nt_inj hk hi (hx ▸ e)
theorem nm_mem {hs : List Hd} {n u : Str} (h : ((n, u) : Hd) ∈ hs) : n ∈ nms hs := List.mem_map.mpr ⟨(n, u), h, rfl⟩
theorem other9_no (h : IsW "other9") : False := w_free h (s := 57) (by decide) (by decide +kernel)
theorem upper_no {n : Str} (h : IsW n) (h2 : IsW (Txt.upper n)) : False := by
  have h0 : 0 < n.cps.size := h.2.1
  have hl : n.cps[0] ∈ letters.cps.toList := h.1 _ (Array.mem_toList_iff.mpr (Array.getElem_mem h0))
  have ha : letters.cps.toList.all (fun c => decide (Unicode.upperOf c = [c - 32]) && decide (c < 129)) = true := by decide +kernel
  have hu := List.all_eq_true.mp ha _ hl
  simp only [Bool.and_eq_true, decide_eq_true_eq] at hu
  refine w_free h2 (s := n.cps[0] - 32) (by omega) ?_
  show n.cps[0] - 32 ∈ (Txt.upper n).cps.toList
  refine Array.mem_toList_iff.mpr ?_
  show n.cps[0] - 32 ∈ (n.cps.mapIdx fun i c => (Unicode.upperOf c).toArray).flatten
  refine Array.mem_flatten.mpr ⟨(Unicode.upperOf n.cps[0]).toArray, Array.mem_mapIdx.mpr ⟨0, h0, rfl⟩, ?_⟩
  rw [hu.1]
  simp
def badWs (n : Str) (d : Int) : List (List Str) := [([em] : List Str), ([em, em] : List Str), (["head"] : List Str), (["head", em] : List Str), (["head", Txt.upper n] : List Str), (["head", n, "in"] : List Str), (["heads", "a"] : List Str), (["head", em, n] : List Str), (["limit", n, "1", "1"] : List Str), (["limit", n, "1", "1", "5", "5"] : List Str), (["limit", "other9", "1", "1", "5"] : List Str), (["limit", n, "0", "1", "5"] : List Str), (["limit", n, "1", nt (d + 1), "5"] : List Str), (["limit", n, "1", "1", "05"] : List Str), (["limit", n, "1", "1", "-5"] : List Str), (["limit", n, "1", "1", nt 1000000000000001] : List Str), (["limits", n, "1", "1", "5"] : List Str), (["limit", n, "1", "1", Txt.mul "9" 4000] : List Str), (["rule", n, "1", "0", "2"] : List Str), (["rule", n, "2", "1", "2"] : List Str), (["rule", n, "0", "1", "1"] : List Str), (["rule", n, "0", "1", nt (d + 2)] : List Str), (["rule", n, "0", "1001", "2"] : List Str), (["rule", n, "0", "1"] : List Str), (["rule", "other9", "0", "1", "2"] : List Str), (["rule", n, "0", em, "1", "2"] : List Str), (["rule", n, "0", "1", "2", em] : List Str), (["year", "3"] : List Str), (["Head", "a"] : List Str), ([em, "head", "a"] : List Str), (["limit", n, "1", "1", "5", em] : List Str), (["rule", n, "+0", "1", "2"] : List Str), (["note", "a"] : List Str)]
theorem bad_no {n : Str} {y : Yr} (ok : y.ok) (wn : IsW n) {ws : List Str} {d : Int} (hd : d = y.days) (hw : ws ∈ badWs n d) (hm : ws ∈ midW y) : False := by
  have dd := ok.d
  unfold badWs at hw
  simp only [List.mem_cons, List.not_mem_nil, or_false] at hw
  rcases hw with rfl | rfl | rfl | rfl | rfl | rfl | rfl | rfl | rfl | rfl | rfl | rfl | rfl | rfl | rfl | rfl | rfl | rfl | rfl | rfl | rfl | rfl | rfl | rfl | rfl | rfl | rfl | rfl | rfl | rfl | rfl | rfl | rfl
  · rcases mid_other hm with e | e | e <;> exact absurd e (by decide +kernel)
  · rcases mid_other hm with e | e | e <;> exact absurd e (by decide +kernel)
  · rcases mid_head ok hm with ⟨m, e, _⟩ | ⟨m, u, e, _⟩ <;> exact absurd (congrArg List.length e) (by simp)
  · rcases mid_head ok hm with ⟨m, e, hh⟩ | ⟨m, u, e, _⟩
    · injection e with e _
      exact isW_ne (ok.h.w _ (nm_mem hh)) e.symm
    · exact absurd (congrArg List.length e) (by simp)
  · rcases mid_head ok hm with ⟨m, e, hh⟩ | ⟨m, u, e, _⟩
    · injection e with e _
      exact upper_no wn (by rw [e]; exact ok.h.w _ (nm_mem hh))
    · exact absurd (congrArg List.length e) (by simp)
  · rcases mid_head ok hm with ⟨m, e, _⟩ | ⟨m, u, e, _⟩ <;> exact absurd (congrArg List.length e) (by simp)
  · rcases mid_other hm with e | e | e <;> exact absurd e (by decide +kernel)
  · rcases mid_head ok hm with ⟨m, e, _⟩ | ⟨m, u, e, _⟩ <;> exact absurd (congrArg List.length e) (by simp)
  · obtain ⟨r, hr, e⟩ := mid_lim hm
    exact absurd (congrArg List.length e) (by simp)
  · obtain ⟨r, hr, e⟩ := mid_lim hm
    exact absurd (congrArg List.length e) (by simp)
  · obtain ⟨r, hr, e⟩ := mid_lim hm
    obtain ⟨m1, m2, m3, m4⟩ := ok.l r hr
    injection e with e1 e
    injection e with e2 e
    injection e with e3 e
    injection e with e4 _
    have := (ok.h.w _ m1)
    rw [← e1] at this
    exact other9_no this
  · obtain ⟨r, hr, e⟩ := mid_lim hm
    obtain ⟨m1, m2, m3, m4⟩ := ok.l r hr
    injection e with e1 e
    injection e with e2 e
    injection e with e3 e
    injection e with e4 _
    have := lit_nt (k := 0) (by decide +kernel) (by omega) (by omega) e2
    omega
  · obtain ⟨r, hr, e⟩ := mid_lim hm
    obtain ⟨m1, m2, m3, m4⟩ := ok.l r hr
    injection e with e1 e
    injection e with e2 e
    injection e with e3 e
    injection e with e4 _
    have := nt_inj (by omega) (by omega) e3
    omega
  · obtain ⟨r, hr, e⟩ := mid_lim hm
    obtain ⟨m1, m2, m3, m4⟩ := ok.l r hr
    injection e with e1 e
    injection e with e2 e
    injection e with e3 e
    injection e with e4 _
    exact not_nt (by decide +kernel) (by omega) (by omega) e4
  · obtain ⟨r, hr, e⟩ := mid_lim hm
    obtain ⟨m1, m2, m3, m4⟩ := ok.l r hr
    injection e with e1 e
    injection e with e2 e
    injection e with e3 e
    injection e with e4 _
    exact not_nt (by decide +kernel) (by omega) (by omega) e4
  · obtain ⟨r, hr, e⟩ := mid_lim hm
    obtain ⟨m1, m2, m3, m4⟩ := ok.l r hr
    injection e with e1 e
    injection e with e2 e
    injection e with e3 e
    injection e with e4 _
    have := nt_inj (by omega) (by omega) e4
    omega
  · rcases mid_other hm with e | e | e <;> exact absurd e (by decide +kernel)
  · obtain ⟨r, hr, e⟩ := mid_lim hm
    obtain ⟨m1, m2, m3, m4⟩ := ok.l r hr
    injection e with e1 e
    injection e with e2 e
    injection e with e3 e
    injection e with e4 _
    exact not_nt (by decide +kernel) (by omega) (by omega) e4
  · obtain ⟨r, hr, e⟩ := mid_rul hm
    obtain ⟨m1, m2, m3, m4⟩ := ok.r r hr
    injection e with e1 e
    injection e with e2 e
    injection e with e3 e
    injection e with e4 _
    have := lit_nt (k := 0) (by decide +kernel) (by omega) (by omega) e3
    omega
  · obtain ⟨r, hr, e⟩ := mid_rul hm
    obtain ⟨m1, m2, m3, m4⟩ := ok.r r hr
    injection e with e1 e
    injection e with e2 e
    injection e with e3 e
    injection e with e4 _
    have h1 := lit_nt (k := 2) (by decide +kernel) (by omega) (by omega) e2
    have h2 := lit_nt (k := 1) (by decide +kernel) (by omega) (by omega) e3
    omega
  · obtain ⟨r, hr, e⟩ := mid_rul hm
    obtain ⟨m1, m2, m3, m4⟩ := ok.r r hr
    injection e with e1 e
    injection e with e2 e
    injection e with e3 e
    injection e with e4 _
    have := lit_nt (k := 1) (by decide +kernel) (by omega) (by omega) e4
    omega
  · obtain ⟨r, hr, e⟩ := mid_rul hm
    obtain ⟨m1, m2, m3, m4⟩ := ok.r r hr
    injection e with e1 e
    injection e with e2 e
    injection e with e3 e
    injection e with e4 _
    have := nt_inj (by omega) (by omega) e4
    omega
  · obtain ⟨r, hr, e⟩ := mid_rul hm
    obtain ⟨m1, m2, m3, m4⟩ := ok.r r hr
    injection e with e1 e
    injection e with e2 e
    injection e with e3 e
    injection e with e4 _
    have := lit_nt (k := 1001) (by decide +kernel) (by omega) (by omega) e3
    omega
  · obtain ⟨r, hr, e⟩ := mid_rul hm
    exact absurd (congrArg List.length e) (by simp)
  · obtain ⟨r, hr, e⟩ := mid_rul hm
    obtain ⟨m1, m2, m3, m4⟩ := ok.r r hr
    injection e with e1 e
    injection e with e2 e
    injection e with e3 e
    injection e with e4 _
    have := (ok.h.w _ m1)
    rw [← e1] at this
    exact other9_no this
  · obtain ⟨r, hr, e⟩ := mid_rul hm
    exact absurd (congrArg List.length e) (by simp)
  · obtain ⟨r, hr, e⟩ := mid_rul hm
    exact absurd (congrArg List.length e) (by simp)
  · rcases mid_other hm with e | e | e <;> exact absurd e (by decide +kernel)
  · rcases mid_other hm with e | e | e <;> exact absurd e (by decide +kernel)
  · rcases mid_other hm with e | e | e <;> exact absurd e (by decide +kernel)
  · obtain ⟨r, hr, e⟩ := mid_lim hm
    exact absurd (congrArg List.length e) (by simp)
  · obtain ⟨r, hr, e⟩ := mid_rul hm
    obtain ⟨m1, m2, m3, m4⟩ := ok.r r hr
    injection e with e1 e
    injection e with e2 e
    injection e with e3 e
    injection e with e4 _
    exact not_nt (by decide +kernel) (by omega) (by omega) e2
  · rcases mid_other hm with e | e | e <;> exact absurd e (by decide +kernel)
end KP
namespace KP
open PySem L2 KD KM KT TL
def Fr (w : Str) : Prop := 32 ∉ tl w ∧ 10 ∉ tl w
theorem fr_w {x : Str} (h : IsW x) : Fr x := ⟨w_free h (by decide), w_free h (by decide)⟩
theorem fr_n {i : Int} (h0 : 0 ≤ i) : Fr (nt i) := ⟨nt_free h0 (by decide), nt_free h0 (by decide)⟩
theorem fr_up {n : Str} (h : IsW n) : Fr (Txt.upper n) := by
  have ha : letters.cps.toList.all (fun c => decide (Unicode.upperOf c = [c - 32]) && decide (97 ≤ c)) = true := by decide +kernel
  have key : ∀ v ∈ tl (Txt.upper n), 65 ≤ v := fun v hv => by
    have hv : v ∈ (n.cps.mapIdx fun i c => (Unicode.upperOf c).toArray).flatten := Array.mem_toList_iff.mp hv
    obtain ⟨xs, hxs, hvx⟩ := Array.mem_flatten.mp hv
    obtain ⟨i, hi, rfl⟩ := Array.mem_mapIdx.mp hxs
    have hl : n.cps[i] ∈ letters.cps.toList := h.1 _ (Array.mem_toList_iff.mpr (Array.getElem_mem hi))
    have hu := List.all_eq_true.mp ha _ hl
    simp only [Bool.and_eq_true, decide_eq_true_eq] at hu
    rw [hu.1] at hvx
    simp at hvx
    omega
  exact ⟨fun z => by have := key _ z; omega, fun z => by have := key _ z; omega⟩
theorem fr_lit : ∀ x ∈ ([em, "head", "in", "heads", "a", "limit", "1", "5", "other9", "0", "05", "-5", "limits", Txt.mul "9" 4000, "rule", "2", "1001", "year", "3", "Head", "+0", "note"] : List Str), Fr x := by
  intro x hx
  have h : ([em, "head", "in", "heads", "a", "limit", "1", "5", "other9", "0", "05", "-5", "limits", Txt.mul "9" 4000, "rule", "2", "1001", "year", "3", "Head", "+0", "note"] : List Str).all (fun x => (tl x).all fun c => decide (c ≠ 32) && decide (c ≠ 10)) = true := by decide +kernel
  have := List.all_eq_true.mp h x hx
  refine ⟨fun z => ?_, fun z => ?_⟩
  · have := List.all_eq_true.mp this _ z
    simp at this
  · have := List.all_eq_true.mp this _ z
    simp at this
theorem bad_fr {n : Str} {d : Int} (hd : 0 ≤ d) (wn : IsW n) {ws : List Str} (hw : ws ∈ badWs n d) : ws ≠ [] ∧ ∀ w ∈ ws, Fr w := by
  have L := fr_lit
  have fn := fr_w wn
  have fu := fr_up wn
  have f1 := fr_n (i := d + 1) (by omega)
  have f2 := fr_n (i := d + 2) (by omega)
  have f3 := fr_n (i := 1000000000000001) (by omega)
  unfold badWs at hw
  simp only [List.mem_cons, List.not_mem_nil, or_false] at hw
  rcases hw with rfl | rfl | rfl | rfl | rfl | rfl | rfl | rfl | rfl | rfl | rfl | rfl | rfl | rfl | rfl | rfl | rfl | rfl | rfl | rfl | rfl | rfl | rfl | rfl | rfl | rfl | rfl | rfl | rfl | rfl | rfl | rfl | rfl
  · refine ⟨by simp, fun w h => ?_⟩
    simp only [List.mem_cons, List.not_mem_nil, or_false] at h
    subst h
    exact L _ (by simp)
  · refine ⟨by simp, fun w h => ?_⟩
    simp only [List.mem_cons, List.not_mem_nil, or_false] at h
    rcases h with rfl | rfl
    · exact L _ (by simp)
    · exact L _ (by simp)
  · refine ⟨by simp, fun w h => ?_⟩
    simp only [List.mem_cons, List.not_mem_nil, or_false] at h
    subst h
    exact L _ (by simp)
  · refine ⟨by simp, fun w h => ?_⟩
    simp only [List.mem_cons, List.not_mem_nil, or_false] at h
    rcases h with rfl | rfl
    · exact L _ (by simp)
    · exact L _ (by simp)
  · refine ⟨by simp, fun w h => ?_⟩
    simp only [List.mem_cons, List.not_mem_nil, or_false] at h
    rcases h with rfl | rfl
    · exact L _ (by simp)
    · exact fu
  · refine ⟨by simp, fun w h => ?_⟩
    simp only [List.mem_cons, List.not_mem_nil, or_false] at h
    rcases h with rfl | rfl | rfl
    · exact L _ (by simp)
    · exact fn
    · exact L _ (by simp)
  · refine ⟨by simp, fun w h => ?_⟩
    simp only [List.mem_cons, List.not_mem_nil, or_false] at h
    rcases h with rfl | rfl
    · exact L _ (by simp)
    · exact L _ (by simp)
  · refine ⟨by simp, fun w h => ?_⟩
    simp only [List.mem_cons, List.not_mem_nil, or_false] at h
    rcases h with rfl | rfl | rfl
    · exact L _ (by simp)
    · exact L _ (by simp)
    · exact fn
  · refine ⟨by simp, fun w h => ?_⟩
    simp only [List.mem_cons, List.not_mem_nil, or_false] at h
    rcases h with rfl | rfl | rfl | rfl
    · exact L _ (by simp)
    · exact fn
    · exact L _ (by simp)
    · exact L _ (by simp)
  · refine ⟨by simp, fun w h => ?_⟩
    simp only [List.mem_cons, List.not_mem_nil, or_false] at h
    rcases h with rfl | rfl | rfl | rfl | rfl | rfl
    · exact L _ (by simp)
    · exact fn
    · exact L _ (by simp)
    · exact L _ (by simp)
    · exact L _ (by simp)
    · exact L _ (by simp)
  · refine ⟨by simp, fun w h => ?_⟩
    simp only [List.mem_cons, List.not_mem_nil, or_false] at h
    rcases h with rfl | rfl | rfl | rfl | rfl
    · exact L _ (by simp)
    · exact L _ (by simp)
    · exact L _ (by simp)
    · exact L _ (by simp)
    · exact L _ (by simp)
  · refine ⟨by simp, fun w h => ?_⟩
    simp only [List.mem_cons, List.not_mem_nil, or_false] at h
    rcases h with rfl | rfl | rfl | rfl | rfl
    · exact L _ (by simp)
    · exact fn
    · exact L _ (by simp)
    · exact L _ (by simp)
    · exact L _ (by simp)
  · refine ⟨by simp, fun w h => ?_⟩
    simp only [List.mem_cons, List.not_mem_nil, or_false] at h
    rcases h with rfl | rfl | rfl | rfl | rfl
    · exact L _ (by simp)
    · exact fn
    · exact L _ (by simp)
    · exact f1
    · exact L _ (by simp)
  · refine ⟨by simp, fun w h => ?_⟩
    simp only [List.mem_cons, List.not_mem_nil, or_false] at h
    rcases h with rfl | rfl | rfl | rfl | rfl
    · exact L _ (by simp)
    · exact fn
    · exact L _ (by simp)
    · exact L _ (by simp)
    · exact L _ (by simp)
  · refine ⟨by simp, fun w h => ?_⟩
    simp only [List.mem_cons, List.not_mem_nil, or_false] at h
    rcases h with rfl | rfl | rfl | rfl | rfl
    · exact L _ (by simp)
    · exact fn
    · exact L _ (by simp)
    · exact L _ (by simp)
    · exact L _ (by simp)
  · refine ⟨by simp, fun w h => ?_⟩
    simp only [List.mem_cons, List.not_mem_nil, or_false] at h
    rcases h with rfl | rfl | rfl | rfl | rfl
    · exact L _ (by simp)
    · exact fn
    · exact L _ (by simp)
    · exact L _ (by simp)
    · exact f3
  · refine ⟨by simp, fun w h => ?_⟩
    simp only [List.mem_cons, List.not_mem_nil, or_false] at h
    rcases h with rfl | rfl | rfl | rfl | rfl
    · exact L _ (by simp)
    · exact fn
    · exact L _ (by simp)
    · exact L _ (by simp)
    · exact L _ (by simp)
  · refine ⟨by simp, fun w h => ?_⟩
    simp only [List.mem_cons, List.not_mem_nil, or_false] at h
    rcases h with rfl | rfl | rfl | rfl | rfl
    · exact L _ (by simp)
    · exact fn
    · exact L _ (by simp)
    · exact L _ (by simp)
    · exact L _ (by simp)
  · refine ⟨by simp, fun w h => ?_⟩
    simp only [List.mem_cons, List.not_mem_nil, or_false] at h
    rcases h with rfl | rfl | rfl | rfl | rfl
    · exact L _ (by simp)
    · exact fn
    · exact L _ (by simp)
    · exact L _ (by simp)
    · exact L _ (by simp)
  · refine ⟨by simp, fun w h => ?_⟩
    simp only [List.mem_cons, List.not_mem_nil, or_false] at h
    rcases h with rfl | rfl | rfl | rfl | rfl
    · exact L _ (by simp)
    · exact fn
    · exact L _ (by simp)
    · exact L _ (by simp)
    · exact L _ (by simp)
  · refine ⟨by simp, fun w h => ?_⟩
    simp only [List.mem_cons, List.not_mem_nil, or_false] at h
    rcases h with rfl | rfl | rfl | rfl | rfl
    · exact L _ (by simp)
    · exact fn
    · exact L _ (by simp)
    · exact L _ (by simp)
    · exact L _ (by simp)
  · refine ⟨by simp, fun w h => ?_⟩
    simp only [List.mem_cons, List.not_mem_nil, or_false] at h
    rcases h with rfl | rfl | rfl | rfl | rfl
    · exact L _ (by simp)
    · exact fn
    · exact L _ (by simp)
    · exact L _ (by simp)
    · exact f2
  · refine ⟨by simp, fun w h => ?_⟩
    simp only [List.mem_cons, List.not_mem_nil, or_false] at h
    rcases h with rfl | rfl | rfl | rfl | rfl
    · exact L _ (by simp)
    · exact fn
    · exact L _ (by simp)
    · exact L _ (by simp)
    · exact L _ (by simp)
  · refine ⟨by simp, fun w h => ?_⟩
    simp only [List.mem_cons, List.not_mem_nil, or_false] at h
    rcases h with rfl | rfl | rfl | rfl
    · exact L _ (by simp)
    · exact fn
    · exact L _ (by simp)
    · exact L _ (by simp)
  · refine ⟨by simp, fun w h => ?_⟩
    simp only [List.mem_cons, List.not_mem_nil, or_false] at h
    rcases h with rfl | rfl | rfl | rfl | rfl
    · exact L _ (by simp)
    · exact L _ (by simp)
    · exact L _ (by simp)
    · exact L _ (by simp)
    · exact L _ (by simp)
  · refine ⟨by simp, fun w h => ?_⟩
    simp only [List.mem_cons, List.not_mem_nil, or_false] at h
    rcases h with rfl | rfl | rfl | rfl | rfl | rfl
    · exact L _ (by simp)
    · exact fn
    · exact L _ (by simp)
    · exact L _ (by simp)
    · exact L _ (by simp)
    · exact L _ (by simp)
  · refine ⟨by simp, fun w h => ?_⟩
    simp only [List.mem_cons, List.not_mem_nil, or_false] at h
    rcases h with rfl | rfl | rfl | rfl | rfl | rfl
    · exact L _ (by simp)
    · exact fn
    · exact L _ (by simp)
    · exact L _ (by simp)
    · exact L _ (by simp)
    · exact L _ (by simp)
  · refine ⟨by simp, fun w h => ?_⟩
    simp only [List.mem_cons, List.not_mem_nil, or_false] at h
    rcases h with rfl | rfl
    · exact L _ (by simp)
    · exact L _ (by simp)
  · refine ⟨by simp, fun w h => ?_⟩
    simp only [List.mem_cons, List.not_mem_nil, or_false] at h
    rcases h with rfl | rfl
    · exact L _ (by simp)
    · exact L _ (by simp)
  · refine ⟨by simp, fun w h => ?_⟩
    simp only [List.mem_cons, List.not_mem_nil, or_false] at h
    rcases h with rfl | rfl | rfl
    · exact L _ (by simp)
    · exact L _ (by simp)
    · exact L _ (by simp)
  · refine ⟨by simp, fun w h => ?_⟩
    simp only [List.mem_cons, List.not_mem_nil, or_false] at h
    rcases h with rfl | rfl | rfl | rfl | rfl | rfl
    · exact L _ (by simp)
    · exact fn
    · exact L _ (by simp)
    · exact L _ (by simp)
    · exact L _ (by simp)
    · exact L _ (by simp)
  · refine ⟨by simp, fun w h => ?_⟩
    simp only [List.mem_cons, List.not_mem_nil, or_false] at h
    rcases h with rfl | rfl | rfl | rfl | rfl
    · exact L _ (by simp)
    · exact fn
    · exact L _ (by simp)
    · exact L _ (by simp)
    · exact L _ (by simp)
  · refine ⟨by simp, fun w h => ?_⟩
    simp only [List.mem_cons, List.not_mem_nil, or_false] at h
    rcases h with rfl | rfl
    · exact L _ (by simp)
    · exact L _ (by simp)
end KP
namespace KP
open PySem L2 KD KM KT TL
/-! ### a bad row among a good year's rows -/
theorem yw_split {d : Int} (h : 0 ≤ d) : Txt.split (rowT (yearW d)) sp1 = yearW d := row_split (by unfold yearW; simp) fun w hw => by
  unfold yearW at hw
  simp only [List.mem_cons, List.not_mem_nil, or_false] at hw
  rcases hw with rfl | rfl
  · decide +kernel
  · exact (fr_n h).1
theorem year_eq {d d' : Int} (h : 0 ≤ d) (h' : 0 ≤ d') (e : rowT (yearW d) = rowT (yearW d')) : d = d' := by
  have q := congrArg (fun r => Txt.split r sp1) e
  have q : Txt.split (rowT (yearW d)) sp1 = Txt.split (rowT (yearW d')) sp1 := q
  rw [yw_split h, yw_split h'] at q
  unfold yearW at q
  injection q with _ q
  injection q with q _
  exact nt_inj h h' q
theorem mid_free {y : Yr} (ok : y.ok) : ∀ r ∈ (midW y).map rowT, 10 ∉ tl r := fun r hr => by
  obtain ⟨ws, hw, rfl⟩ := List.mem_map.mp hr
  exact row_free fun w h => ((rw_all ok ws (List.mem_cons_of_mem _ hw)).2.2 w h).2.2
theorem first_free {y : Yr} (ok : y.ok) : 10 ∉ tl (rowT (yearW y.days)) := row_free fun w h => ((rw_all ok _ (List.mem_cons_self ..)).2.2 w h).2.2
theorem head_fr {n : Str} (wn : IsW n) : (["head", n] : List Str) ≠ [] ∧ ∀ w ∈ (["head", n] : List Str), Fr w := by
  refine ⟨by simp, fun w h => ?_⟩
  simp only [List.mem_cons, List.not_mem_nil, or_false] at h
  rcases h with rfl | rfl
  · exact fr_lit _ (by simp)
  · exact fr_w wn
theorem mid_split {y : Yr} (ok : y.ok) : ((midW y).map rowT).map (fun r => Txt.split r sp1) = midW y := by
  rw [List.map_map]
  refine (List.map_congr_left fun ws hw => ?_).trans (List.map_id _)
  have kw := rw_all ok ws (List.mem_cons_of_mem _ hw)
  exact row_split kw.1 fun w h => (kw.2.2 w h).2.1
theorem ins_no {y y' : Yr} (ok : y.ok) (ok' : y'.ok) {n : Str} (hn : n ∈ nms y.hs) {ws : List Str} (hw : ws ∈ badWs n y.days ∨ ws = (["head", n] : List Str)) (k : Nat) :
    linesT (rowT (yearW y.days) :: (((midW y).map rowT).take k ++ rowT ws :: ((midW y).map rowT).drop k)) ≠ ytext y' := fun e => by
  have d := ok.d
  have d' := ok'.d
  have wn := ok.h.w n hn
  have fr : ws ≠ [] ∧ ∀ w ∈ ws, Fr w := by
    rcases hw with hw | rfl
    · exact bad_fr (by omega) wn hw
    · exact head_fr wn
  have hs : Txt.split (linesT (rowT (yearW y.days) :: (((midW y).map rowT).take k ++ rowT ws :: ((midW y).map rowT).drop k))) nl1 = rowT (yearW y.days) :: ((((midW y).map rowT).take k ++ rowT ws :: ((midW y).map rowT).drop k) ++ [em]) := by
    rw [lines_split]
    · rfl
    intro r hr
    rcases List.mem_cons.mp hr with rfl | hr
    · exact first_free ok
    · rcases List.mem_append.mp hr with hr | hr
      · exact mid_free ok r (List.mem_of_mem_take hr)
      · rcases List.mem_cons.mp hr with rfl | hr
        · exact row_free fun w h => (fr.2 w h).2
        · exact mid_free ok r (List.mem_of_mem_drop hr)
  obtain ⟨q1, q2⟩ := rows_year ok' e hs
  have hd := year_eq (by omega) (by omega) q1
  have ew : Txt.split (rowT ws) sp1 = ws := row_split fr.1 fun w h => (fr.2 w h).1
  have hm : ws ∈ midW y' := by
    have := mid_words ok' (r := rowT ws) (by rw [← q2]; simp)
    rwa [ew] at this
  rcases hw with hw | rfl
  · exact bad_no ok' wn hd hw hm
  · have q3 := congrArg (fun l => (l.map fun r => Txt.split r sp1).filterMap KP.hn) q2
    have q3 : ((((midW y).map rowT).take k ++ rowT ["head", n] :: ((midW y).map rowT).drop k).map fun r => Txt.split r sp1).filterMap KP.hn = (((midW y').map rowT).map fun r => Txt.split r sp1).filterMap KP.hn := q3
    have h1 : KP.hn (["head", n] : List Str) = some n := by
      show (if ("head" : Str) = "head" then some n else none) = _
      rw [if_pos rfl]
    rw [mid_split ok', hn_mid, List.map_append, List.map_cons, ew, List.filterMap_append, List.filterMap_cons_some h1] at q3
    have q4 : ((((midW y).map rowT).take k).map fun r => Txt.split r sp1).filterMap KP.hn ++ ((((midW y).map rowT).drop k).map fun r => Txt.split r sp1).filterMap KP.hn = nms y.hs := by
      rw [← List.filterMap_append, ← List.map_append, List.take_append_drop, mid_split ok, hn_mid]
    have nd := ok'.h.nd
    rw [← q3] at nd
    have hm2 := hn
    rw [← q4] at hm2
    have nd2 := List.nodup_append.mp nd
    rcases List.mem_append.mp hm2 with h | h
    · exact nd2.2.2 n h n (by simp) rfl
    · exact (List.nodup_cons.mp nd2.2.1).1 h
end KP
namespace KP
open PySem L2 KD KM KT TL
/-! ### first rows that no good year has -/
def hdWs (d : Int) : List (List Str) := [(["year", "0"] : List Str), (["year", "31"] : List Str), (["year", "0" ++ nt d] : List Str), (["year"] : List Str), (["year", em] : List Str), (["year", nt d, em] : List Str), (["years", nt d] : List Str), ([em, "year", nt d] : List Str), (["year", em, nt d] : List Str), (["year", "-1"] : List Str), (["year", "+" ++ nt d] : List Str), ([em] : List Str), (["Year", nt d] : List Str), (["year", Txt.mul "1" 4000] : List Str), (["year", nt d, "1"] : List Str), (["year", "x"] : List Str), ([nt d] : List Str)]
theorem hd_no {d d' : Int} (h : 1 ≤ d ∧ d ≤ 30) (h' : 1 ≤ d' ∧ d' ≤ 30) {ws : List Str} (hw : ws ∈ hdWs d) : ws ≠ yearW d' := fun e => by
  unfold hdWs at hw
  simp only [List.mem_cons, List.not_mem_nil, or_false] at hw
  rcases hw with rfl | rfl | rfl | rfl | rfl | rfl | rfl | rfl | rfl | rfl | rfl | rfl | rfl | rfl | rfl | rfl | rfl
  · unfold yearW at e
    injection e with _ e
    injection e with e _
    have := lit_nt (k := 0) (by decide +kernel) (by omega) (by omega) e
    omega
  · unfold yearW at e
    injection e with _ e
    injection e with e _
    have := lit_nt (k := 31) (by decide +kernel) (by omega) (by omega) e
    omega
  · unfold yearW at e
    injection e with _ e
    injection e with e _
    have := congrArg tl e
    rw [tl_append, tl_nt (i := d') (by omega), show tl ("0" : Str) = [48] by decide +kernel] at this
    obtain ⟨c, r, e2, hc⟩ := num_head d'.toNat d'.toNat (Nat.le_refl _) (by omega)
    rw [e2] at this
    injection this with this _
    exact hc this.symm
  · exact absurd (congrArg List.length e) (by unfold yearW; simp)
  · unfold yearW at e
    injection e with _ e
    injection e with e _
    exact not_nt (by decide +kernel) (by omega) (by omega) e
  · exact absurd (congrArg List.length e) (by unfold yearW; simp)
  · unfold yearW at e
    injection e with e _
    exact absurd e (by decide +kernel)
  · exact absurd (congrArg List.length e) (by unfold yearW; simp)
  · exact absurd (congrArg List.length e) (by unfold yearW; simp)
  · unfold yearW at e
    injection e with _ e
    injection e with e _
    exact not_nt (by decide +kernel) (by omega) (by omega) e
  · unfold yearW at e
    injection e with _ e
    injection e with e _
    have h43 : 43 ∉ tl (nt d') := nt_free (by omega) (by decide)
    rw [← e, tl_append, show tl ("+" : Str) = [43] by decide +kernel] at h43
    simp at h43
  · exact absurd (congrArg List.length e) (by unfold yearW; simp)
  · unfold yearW at e
    injection e with e _
    exact absurd e (by decide +kernel)
  · unfold yearW at e
    injection e with _ e
    injection e with e _
    exact not_nt (by decide +kernel) (by omega) (by omega) e
  · exact absurd (congrArg List.length e) (by unfold yearW; simp)
  · unfold yearW at e
    injection e with _ e
    injection e with e _
    exact not_nt (by decide +kernel) (by omega) (by omega) e
  · exact absurd (congrArg List.length e) (by unfold yearW; simp)
theorem fr_lit2 : ∀ x ∈ (["year", "0", "31", em, "years", "-1", "Year", Txt.mul "1" 4000, "1", "x"] : List Str), Fr x := by
  intro x hx
  have h : (["year", "0", "31", em, "years", "-1", "Year", Txt.mul "1" 4000, "1", "x"] : List Str).all (fun x => (tl x).all fun c => decide (c ≠ 32) && decide (c ≠ 10)) = true := by decide +kernel
  have := List.all_eq_true.mp h x hx
  refine ⟨fun z => ?_, fun z => ?_⟩
  · have := List.all_eq_true.mp this _ z
    simp at this
  · have := List.all_eq_true.mp this _ z
    simp at this
theorem fr_app {a b : Str} (h : Fr a) (h' : Fr b) : Fr (a ++ b) := by
  unfold Fr
  rw [tl_append]
  exact ⟨fun z => (List.mem_append.mp z).elim h.1 h'.1, fun z => (List.mem_append.mp z).elim h.2 h'.2⟩
theorem hd_fr {d : Int} (h : 0 ≤ d) {ws : List Str} (hw : ws ∈ hdWs d) : ws ≠ [] ∧ ∀ w ∈ ws, Fr w := by
  have L := fr_lit2
  have fd := fr_n h
  have f0 : Fr ("0" ++ nt d) := fr_app (L _ (by simp)) fd
  have fp : Fr ("+" ++ nt d) := fr_app (by unfold Fr; decide +kernel) fd
  unfold hdWs at hw
  simp only [List.mem_cons, List.not_mem_nil, or_false] at hw
  rcases hw with rfl | rfl | rfl | rfl | rfl | rfl | rfl | rfl | rfl | rfl | rfl | rfl | rfl | rfl | rfl | rfl | rfl
  · refine ⟨by simp, fun w h => ?_⟩
    simp only [List.mem_cons, List.not_mem_nil, or_false] at h
    rcases h with rfl | rfl
    · exact L _ (by simp)
    · exact L _ (by simp)
  · refine ⟨by simp, fun w h => ?_⟩
    simp only [List.mem_cons, List.not_mem_nil, or_false] at h
    rcases h with rfl | rfl
    · exact L _ (by simp)
    · exact L _ (by simp)
  · refine ⟨by simp, fun w h => ?_⟩
    simp only [List.mem_cons, List.not_mem_nil, or_false] at h
    rcases h with rfl | rfl
    · exact L _ (by simp)
    · exact f0
  · refine ⟨by simp, fun w h => ?_⟩
    simp only [List.mem_cons, List.not_mem_nil, or_false] at h
    subst h
    exact L _ (by simp)
  · refine ⟨by simp, fun w h => ?_⟩
    simp only [List.mem_cons, List.not_mem_nil, or_false] at h
    rcases h with rfl | rfl
    · exact L _ (by simp)
    · exact L _ (by simp)
  · refine ⟨by simp, fun w h => ?_⟩
    simp only [List.mem_cons, List.not_mem_nil, or_false] at h
    rcases h with rfl | rfl | rfl
    · exact L _ (by simp)
    · exact fd
    · exact L _ (by simp)
  · refine ⟨by simp, fun w h => ?_⟩
    simp only [List.mem_cons, List.not_mem_nil, or_false] at h
    rcases h with rfl | rfl
    · exact L _ (by simp)
    · exact fd
  · refine ⟨by simp, fun w h => ?_⟩
    simp only [List.mem_cons, List.not_mem_nil, or_false] at h
    rcases h with rfl | rfl | rfl
    · exact L _ (by simp)
    · exact L _ (by simp)
    · exact fd
  · refine ⟨by simp, fun w h => ?_⟩
    simp only [List.mem_cons, List.not_mem_nil, or_false] at h
    rcases h with rfl | rfl | rfl
    · exact L _ (by simp)
    · exact L _ (by simp)
    · exact fd
  · refine ⟨by simp, fun w h => ?_⟩
    simp only [List.mem_cons, List.not_mem_nil, or_false] at h
    rcases h with rfl | rfl
    · exact L _ (by simp)
    · exact L _ (by simp)
  · refine ⟨by simp, fun w h => ?_⟩
    simp only [List.mem_cons, List.not_mem_nil, or_false] at h
    rcases h with rfl | rfl
    · exact L _ (by simp)
    · exact fp
  · refine ⟨by simp, fun w h => ?_⟩
    simp only [List.mem_cons, List.not_mem_nil, or_false] at h
    subst h
    exact L _ (by simp)
  · refine ⟨by simp, fun w h => ?_⟩
    simp only [List.mem_cons, List.not_mem_nil, or_false] at h
    rcases h with rfl | rfl
    · exact L _ (by simp)
    · exact fd
  · refine ⟨by simp, fun w h => ?_⟩
    simp only [List.mem_cons, List.not_mem_nil, or_false] at h
    rcases h with rfl | rfl
    · exact L _ (by simp)
    · exact L _ (by simp)
  · refine ⟨by simp, fun w h => ?_⟩
    simp only [List.mem_cons, List.not_mem_nil, or_false] at h
    rcases h with rfl | rfl | rfl
    · exact L _ (by simp)
    · exact fd
    · exact L _ (by simp)
  · refine ⟨by simp, fun w h => ?_⟩
    simp only [List.mem_cons, List.not_mem_nil, or_false] at h
    rcases h with rfl | rfl
    · exact L _ (by simp)
    · exact L _ (by simp)
  · refine ⟨by simp, fun w h => ?_⟩
    simp only [List.mem_cons, List.not_mem_nil, or_false] at h
    subst h
    exact fd
theorem first_no {y' : Yr} (ok' : y'.ok) {ws : List Str} {M : List Str} (f : ws ≠ [] ∧ ∀ w ∈ ws, Fr w) (h : ∀ d', 1 ≤ d' ∧ d' ≤ 30 → ws ≠ yearW d') (hM : ∀ r ∈ M, 10 ∉ tl r) : linesT (rowT ws :: M) ≠ ytext y' := fun e => by
  have hs : Txt.split (linesT (rowT ws :: M)) nl1 = rowT ws :: (M ++ [em]) := by
    rw [lines_split]
    · rfl
    intro r hr
    rcases List.mem_cons.mp hr with rfl | hr
    · exact row_free fun w h => (f.2 w h).2
    · exact hM r hr
  obtain ⟨q1, _⟩ := rows_year ok' e hs
  have d' := ok'.d
  have q := congrArg (fun r => Txt.split r sp1) q1
  have q : Txt.split (rowT ws) sp1 = Txt.split (rowT (yearW y'.days)) sp1 := q
  rw [yw_split (by omega), row_split f.1 fun w h => (f.2 w h).1] at q
  exact h _ d' q
/-- one row more behind a good year's -/
theorem mids_no {y' : Yr} (ok' : y'.ok) {r0 : Str} {M : List Str} {r : Str} (h0 : 10 ∉ tl r0) (hM : ∀ r ∈ M, 10 ∉ tl r) (hr : r ∈ M) (h : ∀ ws, Txt.split r sp1 = ws → ws ∉ midW y') : linesT (r0 :: M) ≠ ytext y' := fun e => by
  have hs : Txt.split (linesT (r0 :: M)) nl1 = r0 :: (M ++ [em]) := by
    rw [lines_split]
    · rfl
    intro r hr
    rcases List.mem_cons.mp hr with rfl | hr
    · exact h0
    · exact hM r hr
  obtain ⟨_, q2⟩ := rows_year ok' e hs
  exact h _ rfl (mid_words ok' (by rw [← q2]; exact hr))
theorem none_no {y' : Yr} (ok' : y'.ok) {r0 : Str} (h0 : 10 ∉ tl r0) : linesT [r0] ≠ ytext y' := fun e => by
  have hs : Txt.split (linesT [r0]) nl1 = r0 :: ([] ++ [em]) := by
    rw [lines_split]
    · rfl
    intro r hr
    rw [List.mem_singleton.mp hr]
    exact h0
  obtain ⟨_, q2⟩ := rows_year ok' e hs
  have l1 := ok'.h.l1
  have q3 := congrArg List.length q2
  unfold midW at q3
  simp only [List.length_map, List.length_append, List.length_nil] at q3
  omega
end KP
namespace KP
open PySem L2 KD KM KT TL
theorem joinL_app {S : List Nat} : ∀ {a b : List (List Nat)}, a ≠ [] → b ≠ [] → joinL S (a ++ b) = joinL S a ++ (S ++ joinL S b)
  | [], _, h, _ => absurd rfl h
  | [p], b, _, hb => joinL_cons hb
  | p :: q :: r, b, _, hb => by
    rw [List.cons_append, joinL_cons (by simp), joinL_app (a := q :: r) (by simp) hb, joinL_cons (p := p) (ps := q :: r) (by simp), List.append_assoc, List.append_assoc]
theorem rowT_app {a b : List Str} (ha : a ≠ []) (hb : b ≠ []) : tl (rowT (a ++ b)) = joinL [32] (a.map tl) ++ (32 :: joinL [32] (b.map tl)) := by
  unfold rowT
  rw [tl_join, tl_sp, List.map_append, joinL_app (by simpa using ha) (by simpa using hb)]
  rfl
theorem row_one {p n : Str} {a : List Str} (h : tl p = joinL [32] (a.map tl) ++ [32]) (ha : a ≠ []) : p ++ n = rowT (a ++ [n]) := ext_tl (by
  rw [rowT_app ha (by simp), tl_append, h, List.append_assoc]
  rfl)
theorem row_two {p n s : Str} {a b : List Str} (h : tl p = joinL [32] (a.map tl) ++ [32]) (h2 : tl s = 32 :: joinL [32] (b.map tl)) (ha : a ≠ []) (hb : b ≠ []) : p ++ n ++ s = rowT (a ++ n :: b) := ext_tl (by
  rw [rowT_app ha (by simp), tl_append, tl_append, h, h2, List.map_cons, joinL_cons (by simpa using hb), List.append_assoc, List.append_assoc]
  rfl)
theorem row_three {p n s m : Str} {a c : List Str} (h : tl p = joinL [32] (a.map tl) ++ [32]) (h2 : tl s = 32 :: (joinL [32] (c.map tl) ++ [32])) (ha : a ≠ []) (hc : c ≠ []) : p ++ n ++ s ++ m = rowT (a ++ n :: (c ++ [m])) := ext_tl (by
  rw [rowT_app ha (by simp), tl_append, tl_append, tl_append, h, h2, List.map_cons, joinL_cons (by simp), List.map_append, joinL_app (by simpa using hc) (by simp)]
  simp only [List.append_assoc, List.cons_append, List.nil_append]
  rfl)
theorem row_four {p n s m t : Str} {a c b : List Str} (h : tl p = joinL [32] (a.map tl) ++ [32]) (h2 : tl s = 32 :: (joinL [32] (c.map tl) ++ [32])) (h3 : tl t = 32 :: joinL [32] (b.map tl)) (ha : a ≠ []) (hc : c ≠ []) (hb : b ≠ []) : p ++ n ++ s ++ m ++ t = rowT (a ++ n :: (c ++ m :: b)) := ext_tl (by
  rw [rowT_app ha (by simp), tl_append, tl_append, tl_append, tl_append, h, h2, h3, List.map_cons, joinL_cons (by simp), List.map_append, joinL_app (by simpa using hc) (by simp), List.map_cons, joinL_cons (by simpa using hb)]
  simp only [List.append_assoc, List.cons_append, List.nil_append])
def badRows (n : Str) (d : Int) : List Str := [("" : Str), (" " : Str), ("head" : Str), ("head " : Str), ("head " ++ Txt.upper n : Str), ("head " ++ n : Str), ("head " ++ n ++ " in" : Str), ("heads a" : Str), ("head  " ++ n : Str), ("limit " ++ n ++ " 1 1" : Str), ("limit " ++ n ++ " 1 1 5 5" : Str), ("limit other9 1 1 5" : Str), ("limit " ++ n ++ " 0 1 5" : Str), ("limit " ++ n ++ " 1 " ++ nt (d + 1) ++ " 5" : Str), ("limit " ++ n ++ " 1 1 05" : Str), ("limit " ++ n ++ " 1 1 -5" : Str), ("limit " ++ n ++ " 1 1 " ++ nt 1000000000000001 : Str), ("limits " ++ n ++ " 1 1 5" : Str), ("limit " ++ n ++ " 1 1 " ++ Txt.mul "9" 4000 : Str), ("rule " ++ n ++ " 1 0 2" : Str), ("rule " ++ n ++ " 2 1 2" : Str), ("rule " ++ n ++ " 0 1 1" : Str), ("rule " ++ n ++ " 0 1 " ++ nt (d + 2) : Str), ("rule " ++ n ++ " 0 1001 2" : Str), ("rule " ++ n ++ " 0 1" : Str), ("rule other9 0 1 2" : Str), ("rule " ++ n ++ " 0  1 2" : Str), ("rule " ++ n ++ " 0 1 2 " : Str), ("year 3" : Str), ("Head a" : Str), (" head a" : Str), ("limit " ++ n ++ " 1 1 5 " : Str), ("rule " ++ n ++ " +0 1 2" : Str), ("note a" : Str)]
theorem badRows_ok {n : Str} {d : Int} : ∀ r ∈ badRows n d, ∃ ws, r = rowT ws ∧ (ws ∈ badWs n d ∨ ws = (["head", n] : List Str)) := by
  intro r hr
  unfold badRows at hr
  simp only [List.mem_cons, List.not_mem_nil, or_false] at hr
  rcases hr with rfl | rfl | rfl | rfl | rfl | rfl | rfl | rfl | rfl | rfl | rfl | rfl | rfl | rfl | rfl | rfl | rfl | rfl | rfl | rfl | rfl | rfl | rfl | rfl | rfl | rfl | rfl | rfl | rfl | rfl | rfl | rfl | rfl | rfl
  · exact ⟨([em] : List Str), (by decide +kernel), .inl (by unfold badWs; simp)⟩
  · exact ⟨([em, em] : List Str), (by decide +kernel), .inl (by unfold badWs; simp)⟩
  · exact ⟨(["head"] : List Str), (by decide +kernel), .inl (by unfold badWs; simp)⟩
  · exact ⟨(["head", em] : List Str), (by decide +kernel), .inl (by unfold badWs; simp)⟩
  · exact ⟨(["head", Txt.upper n] : List Str), (row_one (a := (["head"] : List Str)) (by decide +kernel) (by simp)), .inl (by unfold badWs; simp)⟩
  · exact ⟨(["head", n] : List Str), (row_one (a := (["head"] : List Str)) (by decide +kernel) (by simp)), .inr rfl⟩
  · exact ⟨(["head", n, "in"] : List Str), (row_two (a := (["head"] : List Str)) (b := (["in"] : List Str)) (by decide +kernel) (by decide +kernel) (by simp) (by simp)), .inl (by unfold badWs; simp)⟩
  · exact ⟨(["heads", "a"] : List Str), (by decide +kernel), .inl (by unfold badWs; simp)⟩
  · exact ⟨(["head", em, n] : List Str), (row_one (a := (["head", em] : List Str)) (by decide +kernel) (by simp)), .inl (by unfold badWs; simp)⟩
  · exact ⟨(["limit", n, "1", "1"] : List Str), (row_two (a := (["limit"] : List Str)) (b := (["1", "1"] : List Str)) (by decide +kernel) (by decide +kernel) (by simp) (by simp)), .inl (by unfold badWs; simp)⟩
  · exact ⟨(["limit", n, "1", "1", "5", "5"] : List Str), (row_two (a := (["limit"] : List Str)) (b := (["1", "1", "5", "5"] : List Str)) (by decide +kernel) (by decide +kernel) (by simp) (by simp)), .inl (by unfold badWs; simp)⟩
  · exact ⟨(["limit", "other9", "1", "1", "5"] : List Str), (by decide +kernel), .inl (by unfold badWs; simp)⟩
  · exact ⟨(["limit", n, "0", "1", "5"] : List Str), (row_two (a := (["limit"] : List Str)) (b := (["0", "1", "5"] : List Str)) (by decide +kernel) (by decide +kernel) (by simp) (by simp)), .inl (by unfold badWs; simp)⟩
  · exact ⟨(["limit", n, "1", nt (d + 1), "5"] : List Str), (row_four (a := (["limit"] : List Str)) (c := (["1"] : List Str)) (b := (["5"] : List Str)) (by decide +kernel) (by decide +kernel) (by decide +kernel) (by simp) (by simp) (by simp)), .inl (by unfold badWs; simp)⟩
  · exact ⟨(["limit", n, "1", "1", "05"] : List Str), (row_two (a := (["limit"] : List Str)) (b := (["1", "1", "05"] : List Str)) (by decide +kernel) (by decide +kernel) (by simp) (by simp)), .inl (by unfold badWs; simp)⟩
  · exact ⟨(["limit", n, "1", "1", "-5"] : List Str), (row_two (a := (["limit"] : List Str)) (b := (["1", "1", "-5"] : List Str)) (by decide +kernel) (by decide +kernel) (by simp) (by simp)), .inl (by unfold badWs; simp)⟩
  · exact ⟨(["limit", n, "1", "1", nt 1000000000000001] : List Str), (row_three (a := (["limit"] : List Str)) (c := (["1", "1"] : List Str)) (by decide +kernel) (by decide +kernel) (by simp) (by simp)), .inl (by unfold badWs; simp)⟩
  · exact ⟨(["limits", n, "1", "1", "5"] : List Str), (row_two (a := (["limits"] : List Str)) (b := (["1", "1", "5"] : List Str)) (by decide +kernel) (by decide +kernel) (by simp) (by simp)), .inl (by unfold badWs; simp)⟩
  · exact ⟨(["limit", n, "1", "1", Txt.mul "9" 4000] : List Str), (row_three (a := (["limit"] : List Str)) (c := (["1", "1"] : List Str)) (by decide +kernel) (by decide +kernel) (by simp) (by simp)), .inl (by unfold badWs; simp)⟩
  · exact ⟨(["rule", n, "1", "0", "2"] : List Str), (row_two (a := (["rule"] : List Str)) (b := (["1", "0", "2"] : List Str)) (by decide +kernel) (by decide +kernel) (by simp) (by simp)), .inl (by unfold badWs; simp)⟩
  · exact ⟨(["rule", n, "2", "1", "2"] : List Str), (row_two (a := (["rule"] : List Str)) (b := (["2", "1", "2"] : List Str)) (by decide +kernel) (by decide +kernel) (by simp) (by simp)), .inl (by unfold badWs; simp)⟩
  · exact ⟨(["rule", n, "0", "1", "1"] : List Str), (row_two (a := (["rule"] : List Str)) (b := (["0", "1", "1"] : List Str)) (by decide +kernel) (by decide +kernel) (by simp) (by simp)), .inl (by unfold badWs; simp)⟩
  · exact ⟨(["rule", n, "0", "1", nt (d + 2)] : List Str), (row_three (a := (["rule"] : List Str)) (c := (["0", "1"] : List Str)) (by decide +kernel) (by decide +kernel) (by simp) (by simp)), .inl (by unfold badWs; simp)⟩
  · exact ⟨(["rule", n, "0", "1001", "2"] : List Str), (row_two (a := (["rule"] : List Str)) (b := (["0", "1001", "2"] : List Str)) (by decide +kernel) (by decide +kernel) (by simp) (by simp)), .inl (by unfold badWs; simp)⟩
  · exact ⟨(["rule", n, "0", "1"] : List Str), (row_two (a := (["rule"] : List Str)) (b := (["0", "1"] : List Str)) (by decide +kernel) (by decide +kernel) (by simp) (by simp)), .inl (by unfold badWs; simp)⟩
  · exact ⟨(["rule", "other9", "0", "1", "2"] : List Str), (by decide +kernel), .inl (by unfold badWs; simp)⟩
  · exact ⟨(["rule", n, "0", em, "1", "2"] : List Str), (row_two (a := (["rule"] : List Str)) (b := (["0", em, "1", "2"] : List Str)) (by decide +kernel) (by decide +kernel) (by simp) (by simp)), .inl (by unfold badWs; simp)⟩
  · exact ⟨(["rule", n, "0", "1", "2", em] : List Str), (row_two (a := (["rule"] : List Str)) (b := (["0", "1", "2", em] : List Str)) (by decide +kernel) (by decide +kernel) (by simp) (by simp)), .inl (by unfold badWs; simp)⟩
  · exact ⟨(["year", "3"] : List Str), (by decide +kernel), .inl (by unfold badWs; simp)⟩
  · exact ⟨(["Head", "a"] : List Str), (by decide +kernel), .inl (by unfold badWs; simp)⟩
  · exact ⟨([em, "head", "a"] : List Str), (by decide +kernel), .inl (by unfold badWs; simp)⟩
  · exact ⟨(["limit", n, "1", "1", "5", em] : List Str), (row_two (a := (["limit"] : List Str)) (b := (["1", "1", "5", em] : List Str)) (by decide +kernel) (by decide +kernel) (by simp) (by simp)), .inl (by unfold badWs; simp)⟩
  · exact ⟨(["rule", n, "+0", "1", "2"] : List Str), (row_two (a := (["rule"] : List Str)) (b := (["+0", "1", "2"] : List Str)) (by decide +kernel) (by decide +kernel) (by simp) (by simp)), .inl (by unfold badWs; simp)⟩
  · exact ⟨(["note", "a"] : List Str), (by decide +kernel), .inl (by unfold badWs; simp)⟩
end KP
namespace KP
open PySem L2 KD KM KT TL
abbrev sRb : Stmt := top 82
abbrev nRb : List Str := ["_law_well_here", "_law_parts_here", "_law_days", "_law_heads_here", "_law_name_here", "_law_some"]
theorem scRb : FnScope nRb ["_law_well_here", "_law_parts_here"] (defScope sRb) := ⟨rfl, rfl, rfl, by decide +kernel, rfl, by decide +kernel, by decide +kernel⟩

theorem op_mulS {X : Cx} : OpR X (binaryOp .Mult) (fun x y H Q => ∃ (a : Str) (n : Int), x = .str a ∧ y = .int n ∧ MulOk a n ∧ Q (.str (Txt.mul a n)) H) := by
  intro pins s σ H x y v u Q I rx ry h
  obtain ⟨i, j, rfl, rfl, hz, q⟩ := h
  obtain ⟨t, rfl⟩ := rx
  obtain ⟨t', rfl⟩ := ry
  exact SB.mul hz (fun t' tk => ⟨.str (Txt.mul i j), H, I.tok _, ⟨_, rfl⟩, q⟩)
theorem mul9 : MulOk "9" 4000 := ⟨by decide, fun _ _ => by decide +kernel, fun _ _ => by decide +kernel⟩
theorem WellAt.same {H H' : Hp} {a : Addr} (w : WellAt H a) (s : Same H H') : WellAt H' a := by
  obtain ⟨x, y, z, e⟩ := w
  exact ⟨x, y, z, s _ _ e⟩
theorem len_app2 {a b : Str} {m n : Nat} (h1 : a.length ≤ m) (h2 : b.length ≤ n) : (a ++ b).length ≤ m + n := by
  rw [app_len]
  exact Nat.add_le_add h1 h2
theorem sz_app2 {a b : Str} {m n : Nat} (h1 : a.length ≤ m) (h2 : b.length ≤ n) (h : m + n ≤ sizeLine) : a.length + b.length ≤ sizeLine := Nat.le_trans (Nat.add_le_add h1 h2) h
def rb0 (n : Str) (d : Int) : List Str := [("" : Str), (" " : Str), ("head" : Str), ("head " : Str), (("head " : Str) ++ Txt.upper n), (("head " : Str) ++ n)]
def rb1 (n : Str) (d : Int) : List Str := rb0 n d ++ [((("head " : Str) ++ n) ++ (" in" : Str)), ("heads a" : Str)]
def rb2 (n : Str) (d : Int) : List Str := rb1 n d ++ [(("head  " : Str) ++ n), ((("limit " : Str) ++ n) ++ (" 1 1" : Str)), ((("limit " : Str) ++ n) ++ (" 1 1 5 5" : Str))]
def rb3 (n : Str) (d : Int) : List Str := rb2 n d ++ [("limit other9 1 1 5" : Str)]
def rb4 (n : Str) (d : Int) : List Str := rb3 n d ++ [((("limit " : Str) ++ n) ++ (" 0 1 5" : Str)), ((((("limit " : Str) ++ n) ++ (" 1 " : Str)) ++ nt (d + 1)) ++ (" 5" : Str))]
def rb5 (n : Str) (d : Int) : List Str := rb4 n d ++ [((("limit " : Str) ++ n) ++ (" 1 1 05" : Str))]
def rb6 (n : Str) (d : Int) : List Str := rb5 n d ++ [((("limit " : Str) ++ n) ++ (" 1 1 -5" : Str)), (((("limit " : Str) ++ n) ++ (" 1 1 " : Str)) ++ nt 1000000000000001)]
def rb7 (n : Str) (d : Int) : List Str := rb6 n d ++ [((("limits " : Str) ++ n) ++ (" 1 1 5" : Str))]
def rb8 (n : Str) (d : Int) : List Str := rb7 n d ++ [(((("limit " : Str) ++ n) ++ (" 1 1 " : Str)) ++ Txt.mul "9" 4000), ((("rule " : Str) ++ n) ++ (" 1 0 2" : Str))]
def rb9 (n : Str) (d : Int) : List Str := rb8 n d ++ [((("rule " : Str) ++ n) ++ (" 2 1 2" : Str))]
def rb10 (n : Str) (d : Int) : List Str := rb9 n d ++ [((("rule " : Str) ++ n) ++ (" 0 1 1" : Str)), (((("rule " : Str) ++ n) ++ (" 0 1 " : Str)) ++ nt (d + 2))]
def rb11 (n : Str) (d : Int) : List Str := rb10 n d ++ [((("rule " : Str) ++ n) ++ (" 0 1001 2" : Str))]
def rb12 (n : Str) (d : Int) : List Str := rb11 n d ++ [((("rule " : Str) ++ n) ++ (" 0 1" : Str)), ("rule other9 0 1 2" : Str), ((("rule " : Str) ++ n) ++ (" 0  1 2" : Str))]
def rb13 (n : Str) (d : Int) : List Str := rb12 n d ++ [((("rule " : Str) ++ n) ++ (" 0 1 2 " : Str))]
def rb14 (n : Str) (d : Int) : List Str := rb13 n d ++ [("year 3" : Str), ("Head a" : Str), (" head a" : Str), ((("limit " : Str) ++ n) ++ (" 1 1 5 " : Str))]
def rb15 (n : Str) (d : Int) : List Str := rb14 n d ++ [((("rule " : Str) ++ n) ++ (" +0 1 2" : Str)), ("note a" : Str)]
theorem rb_all (n : Str) (d : Int) : rb15 n d = badRows n d := rfl
def spRb : Sp := fun vs H Q _ => ∃ (b q lh ll lr : Addr) (th : List Addr) (y : Yr), vs = [.ref b, .ref q] ∧ WellAt H b ∧ H q = some (.lst [.int y.days, .ref lh, .ref ll, .ref lr]) ∧ RowsAt H lh th (y.hs.map hv) ∧ y.ok ∧
  ∀ (n : Str) (p : Addr) (H' : Hp), n ∈ nms y.hs → WellAt H' b → SameB b H H' → H p = none → H' p = some (.lst ((badRows n y.days).map V.str)) → Q (.ref p) H'
section
variable {P : Program} {w : World} {K : PySem.W.Frag} {mg : Str → Option Value} {base : Heap}
set_option maxHeartbeats 4000000 in
theorem c_rb (B : Base K mg) (Dr : Cal P w K mg base 1 "_law_draw" spDraw) (D : DefT K mg "_law_rows_bad" sRb ["_law_well_here", "_law_parts_here"]) : Cal P w K mg base 2 "_law_rows_bad" spRb := by
  refine cal D scRb (fun vs H Q E h => ?_) (fun f cdv A outer s H vs Q E hr h => ?_)
  · obtain ⟨b, q, lh, ll, lr, th, y, rfl, _⟩ := h
    rfl
  · obtain ⟨b, q, lh, ll, lr, th, y, rfl, wb, hq, r1, ok, k⟩ := h
    have hz : sizeLine = 16777216 := by decide
    have dd := ok.d
    have h1 := ok.h.l1
    have h8 := ok.h.l8
    refine ⟨_, (pss_cons (ps_asg (pe_slice sl_listW (pv 1) po_none (po_some pe_int)) (pg_unl rfl (pgs_cons (pg_name (i := 2) scRb.nd rfl (by first | exact Or.inl rfl | exact Or.inr rfl)) (pgs_cons (pg_name (i := 3) scRb.nd rfl (by first | exact Or.inl rfl | exact Or.inr rfl)) pgs_nil))))
        (pss_cons (ps_set (i := 4) scRb.nd rfl (by first | exact Or.inl rfl | exact Or.inr rfl) (pe_ix ix_tup (pe_ix ix_list (pv 3) (pe_cl Dr hr (by decide) (by rfl) (pa_cons (pv 0) (pa_cons (pe_callB call_len_seq (by rfl) B.len (by decide +kernel) (pa_cons (pv 3) pa_nil)) pa_nil))) (fun _ _ => rfl)) pe_int (fun _ _ => rfl)))
        (C8.pss_cut (ps_set (i := 5) scRb.nd rfl (by first | exact Or.inl rfl | exact Or.inr rfl) (pe_lstW (pa_cons pe_str (pa_cons pe_str (pa_cons pe_str (pa_cons pe_str (pa_cons (pe_op op_add_str pe_str (pe_upper (pv 4))) (pa_cons (pe_op op_add_str pe_str (pv 4)) pa_nil))))))))
        (C8.pss_cut (ps_set (i := 5) scRb.nd rfl (by first | exact Or.inl rfl | exact Or.inr rfl) (pe_op op_catLW (pv 5) (pe_lstW (pa_cons (pe_op op_add_str (pe_op op_add_str pe_str (pv 4)) pe_str) (pa_cons pe_str pa_nil)))))
        (C8.pss_cut (ps_set (i := 5) scRb.nd rfl (by first | exact Or.inl rfl | exact Or.inr rfl) (pe_op op_catLW (pv 5) (pe_lstW (pa_cons (pe_op op_add_str pe_str (pv 4)) (pa_cons (pe_op op_add_str (pe_op op_add_str pe_str (pv 4)) pe_str) (pa_cons (pe_op op_add_str (pe_op op_add_str pe_str (pv 4)) pe_str) pa_nil))))))
        (C8.pss_cut (ps_set (i := 5) scRb.nd rfl (by first | exact Or.inl rfl | exact Or.inr rfl) (pe_op op_catLW (pv 5) (pe_lstW (pa_cons pe_str pa_nil))))
        (C8.pss_cut (ps_set (i := 5) scRb.nd rfl (by first | exact Or.inl rfl | exact Or.inr rfl) (pe_op op_catLW (pv 5) (pe_lstW (pa_cons (pe_op op_add_str (pe_op op_add_str pe_str (pv 4)) pe_str) (pa_cons (pe_op op_add_str (pe_op op_add_str (pe_op op_add_str (pe_op op_add_str pe_str (pv 4)) pe_str) (pe_callTy call_strIS (by rfl) B.str (by decide +kernel) (pa_cons (pe_op op_add (pv 2) pe_int) pa_nil))) pe_str) pa_nil)))))
        (C8.pss_cut (ps_set (i := 5) scRb.nd rfl (by first | exact Or.inl rfl | exact Or.inr rfl) (pe_op op_catLW (pv 5) (pe_lstW (pa_cons (pe_op op_add_str (pe_op op_add_str pe_str (pv 4)) pe_str) pa_nil))))
        (C8.pss_cut (ps_set (i := 5) scRb.nd rfl (by first | exact Or.inl rfl | exact Or.inr rfl) (pe_op op_catLW (pv 5) (pe_lstW (pa_cons (pe_op op_add_str (pe_op op_add_str pe_str (pv 4)) pe_str) (pa_cons (pe_op op_add_str (pe_op op_add_str (pe_op op_add_str pe_str (pv 4)) pe_str) (pe_callTy call_strIS (by rfl) B.str (by decide +kernel) (pa_cons (pe_op op_add (pe_op op_pow pe_int pe_int) pe_int) pa_nil))) pa_nil)))))
        (C8.pss_cut (ps_set (i := 5) scRb.nd rfl (by first | exact Or.inl rfl | exact Or.inr rfl) (pe_op op_catLW (pv 5) (pe_lstW (pa_cons (pe_op op_add_str (pe_op op_add_str pe_str (pv 4)) pe_str) pa_nil))))
        (C8.pss_cut (ps_set (i := 5) scRb.nd rfl (by first | exact Or.inl rfl | exact Or.inr rfl) (pe_op op_catLW (pv 5) (pe_lstW (pa_cons (pe_op op_add_str (pe_op op_add_str (pe_op op_add_str pe_str (pv 4)) pe_str) (pe_op op_mulS pe_str pe_int)) (pa_cons (pe_op op_add_str (pe_op op_add_str pe_str (pv 4)) pe_str) pa_nil)))))
        (C8.pss_cut (ps_set (i := 5) scRb.nd rfl (by first | exact Or.inl rfl | exact Or.inr rfl) (pe_op op_catLW (pv 5) (pe_lstW (pa_cons (pe_op op_add_str (pe_op op_add_str pe_str (pv 4)) pe_str) pa_nil))))
        (C8.pss_cut (ps_set (i := 5) scRb.nd rfl (by first | exact Or.inl rfl | exact Or.inr rfl) (pe_op op_catLW (pv 5) (pe_lstW (pa_cons (pe_op op_add_str (pe_op op_add_str pe_str (pv 4)) pe_str) (pa_cons (pe_op op_add_str (pe_op op_add_str (pe_op op_add_str pe_str (pv 4)) pe_str) (pe_callTy call_strIS (by rfl) B.str (by decide +kernel) (pa_cons (pe_op op_add (pv 2) pe_int) pa_nil))) pa_nil)))))
        (C8.pss_cut (ps_set (i := 5) scRb.nd rfl (by first | exact Or.inl rfl | exact Or.inr rfl) (pe_op op_catLW (pv 5) (pe_lstW (pa_cons (pe_op op_add_str (pe_op op_add_str pe_str (pv 4)) pe_str) pa_nil))))
        (C8.pss_cut (ps_set (i := 5) scRb.nd rfl (by first | exact Or.inl rfl | exact Or.inr rfl) (pe_op op_catLW (pv 5) (pe_lstW (pa_cons (pe_op op_add_str (pe_op op_add_str pe_str (pv 4)) pe_str) (pa_cons pe_str (pa_cons (pe_op op_add_str (pe_op op_add_str pe_str (pv 4)) pe_str) pa_nil))))))
        (C8.pss_cut (ps_set (i := 5) scRb.nd rfl (by first | exact Or.inl rfl | exact Or.inr rfl) (pe_op op_catLW (pv 5) (pe_lstW (pa_cons (pe_op op_add_str (pe_op op_add_str pe_str (pv 4)) pe_str) pa_nil))))
        (C8.pss_cut (ps_set (i := 5) scRb.nd rfl (by first | exact Or.inl rfl | exact Or.inr rfl) (pe_op op_catLW (pv 5) (pe_lstW (pa_cons pe_str (pa_cons pe_str (pa_cons pe_str (pa_cons (pe_op op_add_str (pe_op op_add_str pe_str (pv 4)) pe_str) pa_nil)))))))
        (pss_one (ps_ret (pe_op op_catLW (pv 5) (pe_lstW (pa_cons (pe_op op_add_str (pe_op op_add_str pe_str (pv 4)) pe_str) (pa_cons pe_str pa_nil))))))))))))))))))))))), ?_⟩
    refine ⟨_, rfl, _, rfl, q, _, rfl, SqL.of hq, fun p2 H1 s1 np2 hp2 => ?_⟩
    have hp2 : H1 p2 = some (.lst [.int y.days, .ref lh]) := hp2
    refine ⟨p2, _, rfl, SqL.of hp2, rfl, _, _, rfl, _, _, rfl, rfl, ?_⟩
    have w1 := wb.same s1
    have R1 := r1.same s1
    have tl1 : th.length = y.hs.length := by rw [r1.len, List.length_map]
    have nlb : lh ≠ b := fun e => by
      subst e
      obtain ⟨a1, a2, a3, e⟩ := wb
      rw [r1.1] at e
      cases th with
      | nil => cases e
      | cons t r => cases e
    refine ⟨_, rfl, _, rfl, _, rfl, lh, _, rfl, .inl (SqL.of R1.1), b, _, rfl, w1, (by rw [List.length_map]; omega), (by rw [List.length_map]; omega), fun a H2 a0 a1 w2 s2 => ?_⟩
    rw [List.length_map] at a1
    obtain ⟨ai, rfl⟩ : ∃ ai : Nat, a = (ai : Int) := ⟨a.toNat, by omega⟩
    have hai : ai < th.length := by omega
    obtain ⟨t, ht⟩ : ∃ t, th[ai]? = some t := ⟨_, List.getElem?_eq_getElem hai⟩
    have lh2 := s2 _ _ R1.1 nlb
    obtain ⟨r, hr1, ht1⟩ := paired_get R1.2 ht
    obtain ⟨h, hh, rfl⟩ : ∃ h, y.hs[ai]? = some h ∧ r = hv h := by
      rw [List.getElem?_map] at hr1
      cases e : y.hs[ai]? with
      | none => rw [e] at hr1; cases hr1
      | some z => rw [e] at hr1; exact ⟨z, rfl, (Option.some.inj hr1).symm⟩
    have ntb : t ≠ b := fun e => by
      subst e
      obtain ⟨a1, a2, a3, e⟩ := w1
      rw [ht1] at e
      cases e
    have hn : h.1 ∈ nms y.hs := List.mem_of_getElem? (nms_get hh)
    have wn := ok.h.w _ hn
    have hn8 := wn.2.2
    refine ⟨lh, _, _, .ref t, rfl, rfl, SqL.of lh2, atI_nat (by rw [List.getElem?_map, ht]; rfl), ?_⟩
    have t2 := s2 _ _ ht1 ntb
    refine ⟨t, _, 0, .str h.1, rfl, rfl, SqT.of t2, rfl, ?_⟩
    have lu : (Txt.upper h.1).length ≤ 24 := Nat.le_trans (PyProof.Rows.len_upper h.1) (by omega)
    have m9 : (Txt.mul "9" 4000).length ≤ 4000 := by decide +kernel
    have ld1 : (nt (y.days + 1)).length ≤ 16 := nt_len (by omega) (by omega)
    have ld2 : (nt (y.days + 2)).length ≤ 16 := nt_len (by omega) (by omega)
    have ld3 : (nt 1000000000000001).length ≤ 16 := nt_len (by decide) (by decide)
    have sB : SameB b H H2 := fun z o e n => s2 _ _ (s1 _ _ e) n
    refine ⟨fun σ' H' => ∃ L, σ' = [some (.ref b), some (.ref q), some (.int y.days), some (.ref lh), some (.str h.1), some (.ref L)] ∧ Same H2 H' ∧ H2 L = none ∧ H' L = some (.lst ((rb0 h.1 y.days).map V.str)), ?_, ?_⟩
    · refine ⟨_, rfl, ⟨_, rfl⟩, _, rfl, rfl, (by omega), _, _, rfl, rfl, sz_app2 (show ("head " : Str).length ≤ 5 by decide +kernel) lu (by decide), _, rfl, _, _, rfl, rfl, sz_app2 (show ("head " : Str).length ≤ 5 by decide +kernel) hn8 (by decide), (by show 6 ≤ sizeLine; omega), fun L G t nL hL => ⟨L, rfl, t, nL, hL⟩⟩
    rintro _ H3 ⟨L, rfl, s3, nL, hL⟩
    refine ⟨fun σ' H' => ∃ L, σ' = [some (.ref b), some (.ref q), some (.int y.days), some (.ref lh), some (.str h.1), some (.ref L)] ∧ Same H2 H' ∧ H2 L = none ∧ H' L = some (.lst ((rb1 h.1 y.days).map V.str)), ?_, ?_⟩
    · refine ⟨_, rfl, _, rfl, _, _, rfl, rfl, sz_app2 (show ("head " : Str).length ≤ 5 by decide +kernel) hn8 (by decide), _, _, rfl, rfl, sz_app2 (len_app2 (show ("head " : Str).length ≤ 5 by decide +kernel) hn8) (show (" in" : Str).length ≤ 3 by decide +kernel) (by decide), (by show 2 ≤ sizeLine; omega), fun M K u nM hM => ⟨L, M, _, _, rfl, rfl, u _ _ hL, hM, (by show 6 + 2 ≤ sizeLine; omega), fun L2 G t nL2 hL2 => ⟨L2, rfl, (s3.trans u).trans t, same_none (s3.trans u) nL2, (by rw [hL2]; unfold rb1; rw [List.map_append]; rfl)⟩⟩⟩
    clear nL hL s3 L H3
    rintro _ H3 ⟨L, rfl, s3, nL, hL⟩
    refine ⟨fun σ' H' => ∃ L, σ' = [some (.ref b), some (.ref q), some (.int y.days), some (.ref lh), some (.str h.1), some (.ref L)] ∧ Same H2 H' ∧ H2 L = none ∧ H' L = some (.lst ((rb2 h.1 y.days).map V.str)), ?_, ?_⟩
    · refine ⟨_, rfl, _, rfl, _, _, rfl, rfl, sz_app2 (show ("head  " : Str).length ≤ 6 by decide +kernel) hn8 (by decide), _, rfl, _, _, rfl, rfl, sz_app2 (show ("limit " : Str).length ≤ 6 by decide +kernel) hn8 (by decide), _, _, rfl, rfl, sz_app2 (len_app2 (show ("limit " : Str).length ≤ 6 by decide +kernel) hn8) (show (" 1 1" : Str).length ≤ 4 by decide +kernel) (by decide), _, rfl, _, _, rfl, rfl, sz_app2 (show ("limit " : Str).length ≤ 6 by decide +kernel) hn8 (by decide), _, _, rfl, rfl, sz_app2 (len_app2 (show ("limit " : Str).length ≤ 6 by decide +kernel) hn8) (show (" 1 1 5 5" : Str).length ≤ 8 by decide +kernel) (by decide), (by show 3 ≤ sizeLine; omega), fun M K u nM hM => ⟨L, M, _, _, rfl, rfl, u _ _ hL, hM, (by show 8 + 3 ≤ sizeLine; omega), fun L2 G t nL2 hL2 => ⟨L2, rfl, (s3.trans u).trans t, same_none (s3.trans u) nL2, (by rw [hL2]; unfold rb2; rw [List.map_append]; rfl)⟩⟩⟩
    clear nL hL s3 L H3
    rintro _ H3 ⟨L, rfl, s3, nL, hL⟩
    refine ⟨fun σ' H' => ∃ L, σ' = [some (.ref b), some (.ref q), some (.int y.days), some (.ref lh), some (.str h.1), some (.ref L)] ∧ Same H2 H' ∧ H2 L = none ∧ H' L = some (.lst ((rb3 h.1 y.days).map V.str)), ?_, ?_⟩
    · refine ⟨_, rfl, (by show 1 ≤ sizeLine; omega), fun M K u nM hM => ⟨L, M, _, _, rfl, rfl, u _ _ hL, hM, (by show 11 + 1 ≤ sizeLine; omega), fun L2 G t nL2 hL2 => ⟨L2, rfl, (s3.trans u).trans t, same_none (s3.trans u) nL2, (by rw [hL2]; unfold rb3; rw [List.map_append]; rfl)⟩⟩⟩
    clear nL hL s3 L H3
    rintro _ H3 ⟨L, rfl, s3, nL, hL⟩
    refine ⟨fun σ' H' => ∃ L, σ' = [some (.ref b), some (.ref q), some (.int y.days), some (.ref lh), some (.str h.1), some (.ref L)] ∧ Same H2 H' ∧ H2 L = none ∧ H' L = some (.lst ((rb4 h.1 y.days).map V.str)), ?_, ?_⟩
    · refine ⟨_, rfl, _, rfl, _, _, rfl, rfl, sz_app2 (show ("limit " : Str).length ≤ 6 by decide +kernel) hn8 (by decide), _, _, rfl, rfl, sz_app2 (len_app2 (show ("limit " : Str).length ≤ 6 by decide +kernel) hn8) (show (" 0 1 5" : Str).length ≤ 6 by decide +kernel) (by decide), _, rfl, _, _, rfl, rfl, sz_app2 (show ("limit " : Str).length ≤ 6 by decide +kernel) hn8 (by decide), _, _, rfl, rfl, sz_app2 (len_app2 (show ("limit " : Str).length ≤ 6 by decide +kernel) hn8) (show (" 1 " : Str).length ≤ 3 by decide +kernel) (by decide), _, rfl, _, _, rfl, rfl, .inr ⟨_, rfl, log_le (by omega) (by omega), _, _, rfl, rfl, sz_app2 (len_app2 (len_app2 (show ("limit " : Str).length ≤ 6 by decide +kernel) hn8) (show (" 1 " : Str).length ≤ 3 by decide +kernel)) ld1 (by decide), _, _, rfl, rfl, sz_app2 (len_app2 (len_app2 (len_app2 (show ("limit " : Str).length ≤ 6 by decide +kernel) hn8) (show (" 1 " : Str).length ≤ 3 by decide +kernel)) ld1) (show (" 5" : Str).length ≤ 2 by decide +kernel) (by decide), (by show 2 ≤ sizeLine; omega), fun M K u nM hM => ⟨L, M, _, _, rfl, rfl, u _ _ hL, hM, (by show 12 + 2 ≤ sizeLine; omega), fun L2 G t nL2 hL2 => ⟨L2, rfl, (s3.trans u).trans t, same_none (s3.trans u) nL2, (by rw [hL2]; unfold rb4; rw [List.map_append]; rfl)⟩⟩⟩⟩
    clear nL hL s3 L H3
    rintro _ H3 ⟨L, rfl, s3, nL, hL⟩
    refine ⟨fun σ' H' => ∃ L, σ' = [some (.ref b), some (.ref q), some (.int y.days), some (.ref lh), some (.str h.1), some (.ref L)] ∧ Same H2 H' ∧ H2 L = none ∧ H' L = some (.lst ((rb5 h.1 y.days).map V.str)), ?_, ?_⟩
    · refine ⟨_, rfl, _, rfl, _, _, rfl, rfl, sz_app2 (show ("limit " : Str).length ≤ 6 by decide +kernel) hn8 (by decide), _, _, rfl, rfl, sz_app2 (len_app2 (show ("limit " : Str).length ≤ 6 by decide +kernel) hn8) (show (" 1 1 05" : Str).length ≤ 7 by decide +kernel) (by decide), (by show 1 ≤ sizeLine; omega), fun M K u nM hM => ⟨L, M, _, _, rfl, rfl, u _ _ hL, hM, (by show 14 + 1 ≤ sizeLine; omega), fun L2 G t nL2 hL2 => ⟨L2, rfl, (s3.trans u).trans t, same_none (s3.trans u) nL2, (by rw [hL2]; unfold rb5; rw [List.map_append]; rfl)⟩⟩⟩
    clear nL hL s3 L H3
    rintro _ H3 ⟨L, rfl, s3, nL, hL⟩
    refine ⟨fun σ' H' => ∃ L, σ' = [some (.ref b), some (.ref q), some (.int y.days), some (.ref lh), some (.str h.1), some (.ref L)] ∧ Same H2 H' ∧ H2 L = none ∧ H' L = some (.lst ((rb6 h.1 y.days).map V.str)), ?_, ?_⟩
    · refine ⟨_, rfl, _, rfl, _, _, rfl, rfl, sz_app2 (show ("limit " : Str).length ≤ 6 by decide +kernel) hn8 (by decide), _, _, rfl, rfl, sz_app2 (len_app2 (show ("limit " : Str).length ≤ 6 by decide +kernel) hn8) (show (" 1 1 -5" : Str).length ≤ 7 by decide +kernel) (by decide), _, rfl, _, _, rfl, rfl, sz_app2 (show ("limit " : Str).length ≤ 6 by decide +kernel) hn8 (by decide), _, _, rfl, rfl, sz_app2 (len_app2 (show ("limit " : Str).length ≤ 6 by decide +kernel) hn8) (show (" 1 1 " : Str).length ≤ 5 by decide +kernel) (by decide), _, _, rfl, rfl, ⟨by decide, by decide, by decide⟩, _, _, rfl, rfl, .inr ⟨1000000000000001, rfl, log_le (by decide) (by decide), _, _, rfl, rfl, sz_app2 (len_app2 (len_app2 (show ("limit " : Str).length ≤ 6 by decide +kernel) hn8) (show (" 1 1 " : Str).length ≤ 5 by decide +kernel)) ld3 (by decide), (by show 2 ≤ sizeLine; omega), fun M K u nM hM => ⟨L, M, _, _, rfl, rfl, u _ _ hL, hM, (by show 15 + 2 ≤ sizeLine; omega), fun L2 G t nL2 hL2 => ⟨L2, rfl, (s3.trans u).trans t, same_none (s3.trans u) nL2, (by rw [hL2]; unfold rb6; rw [List.map_append]; rfl)⟩⟩⟩⟩
    clear nL hL s3 L H3
    rintro _ H3 ⟨L, rfl, s3, nL, hL⟩
    refine ⟨fun σ' H' => ∃ L, σ' = [some (.ref b), some (.ref q), some (.int y.days), some (.ref lh), some (.str h.1), some (.ref L)] ∧ Same H2 H' ∧ H2 L = none ∧ H' L = some (.lst ((rb7 h.1 y.days).map V.str)), ?_, ?_⟩
    · refine ⟨_, rfl, _, rfl, _, _, rfl, rfl, sz_app2 (show ("limits " : Str).length ≤ 7 by decide +kernel) hn8 (by decide), _, _, rfl, rfl, sz_app2 (len_app2 (show ("limits " : Str).length ≤ 7 by decide +kernel) hn8) (show (" 1 1 5" : Str).length ≤ 6 by decide +kernel) (by decide), (by show 1 ≤ sizeLine; omega), fun M K u nM hM => ⟨L, M, _, _, rfl, rfl, u _ _ hL, hM, (by show 17 + 1 ≤ sizeLine; omega), fun L2 G t nL2 hL2 => ⟨L2, rfl, (s3.trans u).trans t, same_none (s3.trans u) nL2, (by rw [hL2]; unfold rb7; rw [List.map_append]; rfl)⟩⟩⟩
    clear nL hL s3 L H3
    rintro _ H3 ⟨L, rfl, s3, nL, hL⟩
    refine ⟨fun σ' H' => ∃ L, σ' = [some (.ref b), some (.ref q), some (.int y.days), some (.ref lh), some (.str h.1), some (.ref L)] ∧ Same H2 H' ∧ H2 L = none ∧ H' L = some (.lst ((rb8 h.1 y.days).map V.str)), ?_, ?_⟩
    · refine ⟨_, rfl, _, rfl, _, _, rfl, rfl, sz_app2 (show ("limit " : Str).length ≤ 6 by decide +kernel) hn8 (by decide), _, _, rfl, rfl, sz_app2 (len_app2 (show ("limit " : Str).length ≤ 6 by decide +kernel) hn8) (show (" 1 1 " : Str).length ≤ 5 by decide +kernel) (by decide), _, _, rfl, rfl, mul9, _, _, rfl, rfl, sz_app2 (len_app2 (len_app2 (show ("limit " : Str).length ≤ 6 by decide +kernel) hn8) (show (" 1 1 " : Str).length ≤ 5 by decide +kernel)) m9 (by decide), _, rfl, _, _, rfl, rfl, sz_app2 (show ("rule " : Str).length ≤ 5 by decide +kernel) hn8 (by decide), _, _, rfl, rfl, sz_app2 (len_app2 (show ("rule " : Str).length ≤ 5 by decide +kernel) hn8) (show (" 1 0 2" : Str).length ≤ 6 by decide +kernel) (by decide), (by show 2 ≤ sizeLine; omega), fun M K u nM hM => ⟨L, M, _, _, rfl, rfl, u _ _ hL, hM, (by show 18 + 2 ≤ sizeLine; omega), fun L2 G t nL2 hL2 => ⟨L2, rfl, (s3.trans u).trans t, same_none (s3.trans u) nL2, (by rw [hL2]; unfold rb8; rw [List.map_append]; rfl)⟩⟩⟩
    clear nL hL s3 L H3
    rintro _ H3 ⟨L, rfl, s3, nL, hL⟩
    refine ⟨fun σ' H' => ∃ L, σ' = [some (.ref b), some (.ref q), some (.int y.days), some (.ref lh), some (.str h.1), some (.ref L)] ∧ Same H2 H' ∧ H2 L = none ∧ H' L = some (.lst ((rb9 h.1 y.days).map V.str)), ?_, ?_⟩
    · refine ⟨_, rfl, _, rfl, _, _, rfl, rfl, sz_app2 (show ("rule " : Str).length ≤ 5 by decide +kernel) hn8 (by decide), _, _, rfl, rfl, sz_app2 (len_app2 (show ("rule " : Str).length ≤ 5 by decide +kernel) hn8) (show (" 2 1 2" : Str).length ≤ 6 by decide +kernel) (by decide), (by show 1 ≤ sizeLine; omega), fun M K u nM hM => ⟨L, M, _, _, rfl, rfl, u _ _ hL, hM, (by show 20 + 1 ≤ sizeLine; omega), fun L2 G t nL2 hL2 => ⟨L2, rfl, (s3.trans u).trans t, same_none (s3.trans u) nL2, (by rw [hL2]; unfold rb9; rw [List.map_append]; rfl)⟩⟩⟩
    clear nL hL s3 L H3
    rintro _ H3 ⟨L, rfl, s3, nL, hL⟩
    refine ⟨fun σ' H' => ∃ L, σ' = [some (.ref b), some (.ref q), some (.int y.days), some (.ref lh), some (.str h.1), some (.ref L)] ∧ Same H2 H' ∧ H2 L = none ∧ H' L = some (.lst ((rb10 h.1 y.days).map V.str)), ?_, ?_⟩
    · refine ⟨_, rfl, _, rfl, _, _, rfl, rfl, sz_app2 (show ("rule " : Str).length ≤ 5 by decide +kernel) hn8 (by decide), _, _, rfl, rfl, sz_app2 (len_app2 (show ("rule " : Str).length ≤ 5 by decide +kernel) hn8) (show (" 0 1 1" : Str).length ≤ 6 by decide +kernel) (by decide), _, rfl, _, _, rfl, rfl, sz_app2 (show ("rule " : Str).length ≤ 5 by decide +kernel) hn8 (by decide), _, _, rfl, rfl, sz_app2 (len_app2 (show ("rule " : Str).length ≤ 5 by decide +kernel) hn8) (show (" 0 1 " : Str).length ≤ 5 by decide +kernel) (by decide), _, rfl, _, _, rfl, rfl, .inr ⟨_, rfl, log_le (by omega) (by omega), _, _, rfl, rfl, sz_app2 (len_app2 (len_app2 (show ("rule " : Str).length ≤ 5 by decide +kernel) hn8) (show (" 0 1 " : Str).length ≤ 5 by decide +kernel)) ld2 (by decide), (by show 2 ≤ sizeLine; omega), fun M K u nM hM => ⟨L, M, _, _, rfl, rfl, u _ _ hL, hM, (by show 21 + 2 ≤ sizeLine; omega), fun L2 G t nL2 hL2 => ⟨L2, rfl, (s3.trans u).trans t, same_none (s3.trans u) nL2, (by rw [hL2]; unfold rb10; rw [List.map_append]; rfl)⟩⟩⟩⟩
    clear nL hL s3 L H3
    rintro _ H3 ⟨L, rfl, s3, nL, hL⟩
    refine ⟨fun σ' H' => ∃ L, σ' = [some (.ref b), some (.ref q), some (.int y.days), some (.ref lh), some (.str h.1), some (.ref L)] ∧ Same H2 H' ∧ H2 L = none ∧ H' L = some (.lst ((rb11 h.1 y.days).map V.str)), ?_, ?_⟩
    · refine ⟨_, rfl, _, rfl, _, _, rfl, rfl, sz_app2 (show ("rule " : Str).length ≤ 5 by decide +kernel) hn8 (by decide), _, _, rfl, rfl, sz_app2 (len_app2 (show ("rule " : Str).length ≤ 5 by decide +kernel) hn8) (show (" 0 1001 2" : Str).length ≤ 9 by decide +kernel) (by decide), (by show 1 ≤ sizeLine; omega), fun M K u nM hM => ⟨L, M, _, _, rfl, rfl, u _ _ hL, hM, (by show 23 + 1 ≤ sizeLine; omega), fun L2 G t nL2 hL2 => ⟨L2, rfl, (s3.trans u).trans t, same_none (s3.trans u) nL2, (by rw [hL2]; unfold rb11; rw [List.map_append]; rfl)⟩⟩⟩
    clear nL hL s3 L H3
    rintro _ H3 ⟨L, rfl, s3, nL, hL⟩
    refine ⟨fun σ' H' => ∃ L, σ' = [some (.ref b), some (.ref q), some (.int y.days), some (.ref lh), some (.str h.1), some (.ref L)] ∧ Same H2 H' ∧ H2 L = none ∧ H' L = some (.lst ((rb12 h.1 y.days).map V.str)), ?_, ?_⟩
    · refine ⟨_, rfl, _, rfl, _, _, rfl, rfl, sz_app2 (show ("rule " : Str).length ≤ 5 by decide +kernel) hn8 (by decide), _, _, rfl, rfl, sz_app2 (len_app2 (show ("rule " : Str).length ≤ 5 by decide +kernel) hn8) (show (" 0 1" : Str).length ≤ 4 by decide +kernel) (by decide), _, rfl, _, _, rfl, rfl, sz_app2 (show ("rule " : Str).length ≤ 5 by decide +kernel) hn8 (by decide), _, _, rfl, rfl, sz_app2 (len_app2 (show ("rule " : Str).length ≤ 5 by decide +kernel) hn8) (show (" 0  1 2" : Str).length ≤ 7 by decide +kernel) (by decide), (by show 3 ≤ sizeLine; omega), fun M K u nM hM => ⟨L, M, _, _, rfl, rfl, u _ _ hL, hM, (by show 24 + 3 ≤ sizeLine; omega), fun L2 G t nL2 hL2 => ⟨L2, rfl, (s3.trans u).trans t, same_none (s3.trans u) nL2, (by rw [hL2]; unfold rb12; rw [List.map_append]; rfl)⟩⟩⟩
    clear nL hL s3 L H3
    rintro _ H3 ⟨L, rfl, s3, nL, hL⟩
    refine ⟨fun σ' H' => ∃ L, σ' = [some (.ref b), some (.ref q), some (.int y.days), some (.ref lh), some (.str h.1), some (.ref L)] ∧ Same H2 H' ∧ H2 L = none ∧ H' L = some (.lst ((rb13 h.1 y.days).map V.str)), ?_, ?_⟩
    · refine ⟨_, rfl, _, rfl, _, _, rfl, rfl, sz_app2 (show ("rule " : Str).length ≤ 5 by decide +kernel) hn8 (by decide), _, _, rfl, rfl, sz_app2 (len_app2 (show ("rule " : Str).length ≤ 5 by decide +kernel) hn8) (show (" 0 1 2 " : Str).length ≤ 7 by decide +kernel) (by decide), (by show 1 ≤ sizeLine; omega), fun M K u nM hM => ⟨L, M, _, _, rfl, rfl, u _ _ hL, hM, (by show 27 + 1 ≤ sizeLine; omega), fun L2 G t nL2 hL2 => ⟨L2, rfl, (s3.trans u).trans t, same_none (s3.trans u) nL2, (by rw [hL2]; unfold rb13; rw [List.map_append]; rfl)⟩⟩⟩
    clear nL hL s3 L H3
    rintro _ H3 ⟨L, rfl, s3, nL, hL⟩
    refine ⟨fun σ' H' => ∃ L, σ' = [some (.ref b), some (.ref q), some (.int y.days), some (.ref lh), some (.str h.1), some (.ref L)] ∧ Same H2 H' ∧ H2 L = none ∧ H' L = some (.lst ((rb14 h.1 y.days).map V.str)), ?_, ?_⟩
    · refine ⟨_, rfl, _, rfl, _, _, rfl, rfl, sz_app2 (show ("limit " : Str).length ≤ 6 by decide +kernel) hn8 (by decide), _, _, rfl, rfl, sz_app2 (len_app2 (show ("limit " : Str).length ≤ 6 by decide +kernel) hn8) (show (" 1 1 5 " : Str).length ≤ 7 by decide +kernel) (by decide), (by show 4 ≤ sizeLine; omega), fun M K u nM hM => ⟨L, M, _, _, rfl, rfl, u _ _ hL, hM, (by show 28 + 4 ≤ sizeLine; omega), fun L2 G t nL2 hL2 => ⟨L2, rfl, (s3.trans u).trans t, same_none (s3.trans u) nL2, (by rw [hL2]; unfold rb14; rw [List.map_append]; rfl)⟩⟩⟩
    clear nL hL s3 L H3
    rintro _ H3 ⟨L, rfl, s3, nL, hL⟩
    refine ⟨_, rfl, _, rfl, _, _, rfl, rfl, sz_app2 (show ("rule " : Str).length ≤ 5 by decide +kernel) hn8 (by decide), _, _, rfl, rfl, sz_app2 (len_app2 (show ("rule " : Str).length ≤ 5 by decide +kernel) hn8) (show (" +0 1 2" : Str).length ≤ 7 by decide +kernel) (by decide), (by show 2 ≤ sizeLine; omega), fun M K u nM hM => ⟨L, M, _, _, rfl, rfl, u _ _ hL, hM, (by show 32 + 2 ≤ sizeLine; omega), fun L2 G t nL2 hL2 => ?_⟩⟩
    refine k h.1 L2 G hn ((w2.same s3).same (u.trans t)) (fun z o e n => t _ _ (u _ _ (s3 _ _ (sB _ _ e n)))) ?_ ?_
    · have n2 := same_none (s3.trans u) nL2
      cases e : H L2 with
      | none => rfl
      | some o =>
        by_cases eb : L2 = b
        · subst eb
          obtain ⟨a1, a2, a3, e3⟩ := w2
          rw [e3] at n2
          cases n2
        · rw [sB _ _ e eb] at n2
          cases n2
    · rw [hL2, ← rb_all]
      unfold rb15
      rw [List.map_append]
      rfl
end
end KP
namespace KP
open PySem L2 KD KM KT TL
/-! ### texts that are no good year's -/
def NoY (x : Str) : Prop := ∀ y : Yr, y.ok → x ≠ ytext y
theorem tl_lines_cons (r : Str) (rs : List Str) : tl (linesT (r :: rs)) = tl r ++ (10 :: tl (linesT rs)) := by
  rw [lines_join, lines_join, tl_join, tl_join, tl_nl, List.cons_append, List.map_cons, joinL_cons (by simp)]
  rfl
theorem lines_cons (r : Str) (rs : List Str) : linesT (r :: rs) = r ++ nl1 ++ linesT rs := ext_tl (by
  rw [tl_lines_cons, tl_append, tl_append, tl_nl, List.append_assoc]
  rfl)
theorem tl_lines_nil : tl (linesT []) = [] := by decide +kernel
theorem tl_lines_app : ∀ (a b : List Str), tl (linesT (a ++ b)) = tl (linesT a) ++ tl (linesT b)
  | [], b => by rw [tl_lines_nil]; rfl
  | r :: a, b => by rw [List.cons_append, tl_lines_cons, tl_lines_app a b, tl_lines_cons, List.append_assoc]; rfl
theorem lines_app (a b : List Str) : linesT (a ++ b) = linesT a ++ linesT b := ext_tl (by rw [tl_lines_app, tl_append])
theorem join_lines {rs : List Str} (h : rs ≠ []) : Str.join nl1 rs ++ nl1 = linesT rs := ext_tl (by
  rw [lines_join, tl_append, tl_join, tl_join, tl_nl, List.map_append, joinL_app (by simpa using h) (by simp)]
  show joinL [10] (rs.map tl) ++ [10] = joinL [10] (rs.map tl) ++ ([10] ++ tl em)
  rw [tl_em]
  rfl)
theorem ytext_eq (y : Yr) : ytext y = linesT (rowT (yearW y.days) :: (midW y).map rowT) := rfl
/-- rows that split to others than a good year's -/
theorem last_no {rs : List Str} {l : Str} (h : ∀ r ∈ rs ++ [l], 10 ∉ tl r) (hl : l ≠ em) : NoY (Str.join nl1 (rs ++ [l])) := fun y ok e => by
  have s1 : Txt.split (Str.join nl1 (rs ++ [l])) nl1 = rs ++ [l] := by
    rw [← join_eq]
    exact split_join tl_nl (by decide +kernel) (by simp) h
  rw [e, ytext_split ok] at s1
  have q : (rowT (yearW y.days) :: (midW y).map rowT) ++ [em] = rs ++ [l] := s1
  have q2 := congrArg List.getLast? q
  rw [List.getLast?_append, List.getLast?_append] at q2
  simp at q2
  exact hl q2.symm
theorem no_em : NoY em := fun y ok e => by
  have q := ytext_split ok
  rw [← e] at q
  have q2 := congrArg List.length q
  rw [show Txt.split em nl1 = [em] by decide +kernel] at q2
  simp at q2
theorem mid_ne {y : Yr} (ok : y.ok) : (midW y).map rowT ≠ [] := fun e => by
  have h := congrArg List.length e
  have l1 := ok.h.l1
  unfold midW at h
  simp at h
  have := h.1
  rw [this] at l1
  simp at l1
theorem nt_ne {i : Int} (h0 : 0 ≤ i) (h1 : i ≤ 9999999999999999) : nt i ≠ em := fun e => not_nt (x := em) (by decide +kernel) h0 h1 e.symm
theorem w_ne {x : Str} (h : IsW x) : x ≠ em := isW_ne h
theorem mid_last {y : Yr} (ok : y.ok) {ws : List Str} (h : ws ∈ midW y) : ws.getLast? ≠ some em := fun e => by
  unfold midW at h
  rcases List.mem_append.mp h with h | h
  · rcases List.mem_append.mp h with h | h
    · obtain ⟨r, hr, rfl⟩ := List.mem_map.mp h
      obtain ⟨i, hi⟩ := List.mem_iff_getElem?.mp hr
      have hm := nms_get hi
      have w1 := ok.h.w _ (List.mem_of_getElem? hm)
      unfold headW at e
      by_cases h2 : r.2 = ""
      · rw [if_pos h2] at e
        simp at e
        exact w_ne w1 e
      · rw [if_neg h2] at e
        simp at e
        exact h2 e
    · obtain ⟨r, hr, rfl⟩ := List.mem_map.mp h
      have l := ok.l r hr
      have d := ok.d
      unfold limW at e
      simp at e
      exact nt_ne (by have := l.2; omega) (by have := l.2; omega) e
  · obtain ⟨r, hr, rfl⟩ := List.mem_map.mp h
    have l := ok.r r hr
    have d := ok.d
    unfold rulW at e
    simp at e
    exact nt_ne (by have := l.2; omega) (by have := l.2; omega) e
end KP
namespace KP
open PySem L2 KD KM KT TL
section
variable {y : Yr}
abbrev R0 (y : Yr) : Str := rowT (yearW y.days)
abbrev MM (y : Yr) : List Str := (midW y).map rowT
theorem all_free (ok : y.ok) : ∀ r ∈ R0 y :: MM y, 10 ∉ tl r := fun r hr => by
  rcases List.mem_cons.mp hr with rfl | hr
  · exact first_free ok
  · exact mid_free ok r hr
theorem row_ne {ws : List Str} (h : ws ≠ []) (hl : ws.getLast? ≠ some em) (f : ∀ w ∈ ws, 32 ∉ tl w) : rowT ws ≠ em := fun e => by
  have s := row_split h f
  rw [e, show Txt.split em sp1 = [em] by decide +kernel] at s
  rw [← s] at hl
  exact hl rfl
theorem mid_split_end (ok : y.ok) : ∃ (a : List Str) (ws : List Str), MM y = a ++ [rowT ws] ∧ ws ∈ midW y := by
  have hne := mid_ne ok
  have e := List.dropLast_concat_getLast hne
  have hm : (MM y).getLast hne ∈ MM y := List.getLast_mem hne
  obtain ⟨ws, hw, e2⟩ := List.mem_map.mp hm
  exact ⟨(MM y).dropLast, ws, by rw [e2]; exact e.symm, hw⟩
theorem mid_ws (ok : y.ok) {ws : List Str} (h : ws ∈ midW y) : ws ≠ [] ∧ ∀ w ∈ ws, Fr w := by
  have kw := rw_all ok ws (List.mem_cons_of_mem _ h)
  exact ⟨kw.1, fun w hw => ⟨(kw.2.2 w hw).2.1, (kw.2.2 w hw).2.2⟩⟩
/-- without its last line end -/
theorem no_cut (ok : y.ok) : NoY (Str.join nl1 (R0 y :: MM y)) := by
  obtain ⟨a, ws, e, hw⟩ := mid_split_end ok
  have h := mid_ws ok hw
  have q : R0 y :: MM y = (R0 y :: a) ++ [rowT ws] := by rw [e]; rfl
  rw [q]
  exact last_no (by rw [← q]; exact all_free ok) (row_ne h.1 (mid_last ok hw) fun w z => (h.2 w z).1)
/-- a line end more -/
theorem no_nl (ok : y.ok) : NoY (ytext y ++ nl1) := fun y' ok' => by
  have e : ytext y ++ nl1 = linesT (R0 y :: (MM y ++ [em])) := by
    rw [ytext_eq, ← List.cons_append, lines_app]
    congr 1
  rw [e]
  refine mids_no ok' (first_free ok) (fun r hr => ?_) (r := em) (by simp) ?_
  · rcases List.mem_append.mp hr with hr | hr
    · exact mid_free ok r hr
    · rw [List.mem_singleton.mp hr, tl_em]
      simp
  · rintro ws rfl hm
    rw [show Txt.split em sp1 = [em] by decide +kernel] at hm
    exact mid_last ok' hm rfl
theorem no_nl0 (ok : y.ok) : NoY (nl1 ++ ytext y) := fun y' ok' => by
  have e : nl1 ++ ytext y = linesT (rowT [em] :: (R0 y :: MM y)) := by
    rw [lines_cons, ytext_eq]
    congr 1
  rw [e]
  refine first_no ok' ⟨by simp, fun w hw => ?_⟩ (fun d' _ z => ?_) (all_free ok)
  · rw [List.mem_singleton.mp hw]
    unfold Fr
    rw [tl_em]
    simp
  · unfold yearW at z
    simp at z
theorem no_sp0 (ok : y.ok) : NoY (sp1 ++ ytext y) := fun y' ok' => by
  have d := ok.d
  have e : sp1 ++ ytext y = linesT (rowT [em, "year", nt y.days] :: MM y) := by
    rw [lines_cons, ytext_eq, lines_cons]
    refine ext_tl ?_
    have q : tl (rowT [em, "year", nt y.days]) = 32 :: tl (R0 y) := by
      show tl (rowT ([em] ++ (["year", nt y.days] : List Str))) = _
      rw [rowT_app (by simp) (by simp)]
      show tl em ++ 32 :: joinL [32] _ = _
      rw [tl_em]
      show 32 :: joinL [32] _ = 32 :: tl (Str.join sp1 _)
      rw [tl_join, tl_sp]
      rfl
    rw [tl_append, tl_append, tl_append, tl_append, tl_append, q, tl_sp]
    rfl
  rw [e]
  refine first_no ok' (hd_fr (d := y.days) (by omega) (by unfold hdWs; simp)) (fun d' _ z => ?_) (mid_free ok)
  unfold yearW at z
  simp at z
theorem no_sp (ok : y.ok) : NoY (ytext y ++ sp1) := by
  have e : ytext y ++ sp1 = Str.join nl1 ((R0 y :: MM y) ++ [sp1]) := ext_tl (by
    rw [ytext_eq, lines_join, tl_append, tl_join, tl_join, tl_nl, List.map_append, List.map_append, joinL_app (by simp) (by simp), joinL_app (by simp) (by simp)]
    show _ ++ ([10] ++ tl em) ++ tl sp1 = _ ++ ([10] ++ tl sp1)
    rw [tl_em, List.append_assoc, List.append_assoc]
    rfl)
  rw [e]
  refine last_no (fun r hr => ?_) (by decide +kernel)
  rcases List.mem_append.mp hr with hr | hr
  · exact all_free ok r hr
  · rw [List.mem_singleton.mp hr, tl_sp]
    simp
theorem no_rest (ok : y.ok) : NoY (linesT (MM y)) := fun y' ok' => by
  have l1 := ok.h.l1
  cases eh : y.hs with
  | nil => rw [eh] at l1; simp at l1
  | cons h hs =>
    have em1 : midW y = headW h :: (hs.map headW ++ y.ls.map limW ++ y.rs.map rulW) := by
      unfold midW
      rw [eh]
      rfl
    have hm : headW h ∈ midW y := by rw [em1]; simp
    have e : MM y = rowT (headW h) :: (hs.map headW ++ y.ls.map limW ++ y.rs.map rulW).map rowT := by
      show (midW y).map rowT = _
      rw [em1]
      rfl
    have fr := mid_free ok
    show linesT (MM y) ≠ _
    rw [e]
    refine first_no ok' (mid_ws ok hm) (fun d' _ z => ?_) (fun r hr => fr r (by rw [show (midW y).map rowT = _ from e]; exact List.mem_cons_of_mem _ hr))
    unfold headW yearW at z
    split at z
    · injection z with z _
      exact absurd z (by decide +kernel)
    · injection z with z _
      exact absurd z (by decide +kernel)
theorem no_first (ok : y.ok) : NoY (R0 y ++ nl1) := fun y' ok' => by
  have e : R0 y ++ nl1 = linesT [R0 y] := ext_tl (by
    rw [tl_lines_cons, tl_lines_nil, tl_append, tl_nl])
  rw [e]
  exact none_no ok' (first_free ok)
theorem yw_mid (ok : y.ok) {d : Int} : yearW d ∉ midW y := fun hm => by
  unfold midW yearW at hm
  rcases List.mem_append.mp hm with h | h
  · rcases List.mem_append.mp h with h | h
    · obtain ⟨r, _, z⟩ := List.mem_map.mp h
      unfold headW at z
      split at z
      · injection z with z _
        exact absurd z (by decide +kernel)
      · injection z with z _
        exact absurd z (by decide +kernel)
    · obtain ⟨r, _, z⟩ := List.mem_map.mp h
      unfold limW at z
      injection z with z _
      exact absurd z (by decide +kernel)
  · obtain ⟨r, _, z⟩ := List.mem_map.mp h
    unfold rulW at z
    injection z with z _
    exact absurd z (by decide +kernel)
theorem no_two (ok : y.ok) : NoY (ytext y ++ ytext y) := fun y' ok' => by
  have d := ok.d
  have e : ytext y ++ ytext y = linesT (R0 y :: (MM y ++ R0 y :: MM y)) := by
    rw [ytext_eq, ← lines_app]
    rfl
  rw [e]
  refine mids_no ok' (first_free ok) (fun r hr => ?_) (r := R0 y) (by simp) ?_
  · rcases List.mem_append.mp hr with hr | hr
    · exact mid_free ok r hr
    · exact all_free ok r hr
  · rintro ws rfl hm
    rw [show Txt.split (R0 y) sp1 = yearW y.days from yw_split (by omega)] at hm
    exact yw_mid ok' hm
/-- a blank at the end of the last row -/
theorem no_blank (ok : y.ok) : NoY (Str.join nl1 (R0 y :: MM y) ++ " \n") := fun y' ok' => by
  obtain ⟨a, ws, e, hw⟩ := mid_split_end ok
  have f := mid_ws ok hw
  have e1 : Str.join nl1 (R0 y :: MM y) ++ " \n" = linesT (R0 y :: (a ++ [rowT (ws ++ [em])])) := ext_tl (by
    show tl (Str.join nl1 (R0 y :: MM y) ++ " \n") = _
    rw [show MM y = a ++ [rowT ws] from e, ← join_lines (by simp), tl_append, tl_append, tl_join, tl_join, tl_nl, ← List.cons_append, ← List.cons_append, List.map_append, List.map_append, joinL_app (by simp) (by simp), joinL_app (by simp) (by simp)]
    show _ ++ ([10] ++ tl (rowT ws)) ++ tl " \n" = _ ++ ([10] ++ tl (rowT (ws ++ [em]))) ++ [10]
    rw [rowT_app f.1 (by simp)]
    show _ ++ ([10] ++ tl (Str.join sp1 ws)) ++ tl " \n" = _ ++ ([10] ++ (joinL [32] (ws.map tl) ++ (32 :: tl em))) ++ [10]
    rw [tl_join, tl_sp, tl_em, show tl " \n" = [32, 10] by decide +kernel]
    simp only [List.append_assoc, List.cons_append, List.nil_append])
  rw [e1]
  have fe : ∀ w ∈ ws ++ [em], Fr w := fun w h => by
    rcases List.mem_append.mp h with h | h
    · exact f.2 w h
    · rw [List.mem_singleton.mp h]
      unfold Fr
      rw [tl_em]
      simp
  refine mids_no ok' (first_free ok) (fun r hr => ?_) (r := rowT (ws ++ [em])) (by simp) ?_
  · rcases List.mem_append.mp hr with hr | hr
    · exact mid_free ok r (by rw [show (midW y).map rowT = _ from e]; exact List.mem_append_left _ hr)
    · rw [List.mem_singleton.mp hr]
      exact row_free fun w h => (fe w h).2
  · rintro ws' rfl hm
    rw [row_split (by simp) fun w h => (fe w h).1] at hm
    exact mid_last ok' hm (by simp)
end
/-! ### the first rows -/
def hdRows (d : Int) : List Str := [("year 0" : Str), "year 31", "year 0" ++ nt d, "year", "year ", "year " ++ nt d ++ " ", "years " ++ nt d, " year " ++ nt d, "year  " ++ nt d, "year -1", "year +" ++ nt d, "", "Year " ++ nt d, "year " ++ Txt.mul "1" 4000, "year " ++ nt d ++ " 1", "year x", nt d, "year\nyear " ++ nt d]
theorem no_hd {y : Yr} (ok : y.ok) : ∀ r ∈ hdRows y.days, NoY (r ++ nl1 ++ linesT (MM y)) := by
  intro r hr y' ok'
  have d := ok.d
  have go : ∀ ws, r = rowT ws → ws ∈ hdWs y.days → r ++ nl1 ++ linesT (MM y) ≠ ytext y' := fun ws e hw => by
    rw [e, ← lines_cons]
    exact first_no ok' (hd_fr (by omega) hw) (fun d' h' => hd_no d h' hw) (mid_free ok)
  unfold hdRows at hr
  simp only [List.mem_cons, List.not_mem_nil, or_false] at hr
  rcases hr with rfl | rfl | rfl | rfl | rfl | rfl | rfl | rfl | rfl | rfl | rfl | rfl | rfl | rfl | rfl | rfl | rfl | rfl
  · exact go (["year", "0"] : List Str) (by decide +kernel) (by unfold hdWs; simp)
  · exact go (["year", "31"] : List Str) (by decide +kernel) (by unfold hdWs; simp)
  · refine go (["year", "0" ++ nt y.days] : List Str) (ext_tl ?_) (by unfold hdWs; simp)
    rw [show (["year", "0" ++ nt y.days] : List Str) = (["year"] : List Str) ++ ["0" ++ nt y.days] from rfl, rowT_app (by simp) (by simp), tl_append]
    show tl "year 0" ++ tl (nt y.days) = tl "year" ++ 32 :: tl ("0" ++ nt y.days)
    rw [tl_append, show tl "year 0" = tl "year" ++ 32 :: tl "0" by decide +kernel, List.append_assoc]
    rfl
  · exact go (["year"] : List Str) (by decide +kernel) (by unfold hdWs; simp)
  · exact go (["year", em] : List Str) (by decide +kernel) (by unfold hdWs; simp)
  · exact go (["year", nt y.days, em] : List Str) (row_two (a := (["year"] : List Str)) (b := ([em] : List Str)) (by decide +kernel) (by decide +kernel) (by simp) (by simp)) (by unfold hdWs; simp)
  · exact go (["years", nt y.days] : List Str) (row_one (a := (["years"] : List Str)) (by decide +kernel) (by simp)) (by unfold hdWs; simp)
  · exact go ([em, "year", nt y.days] : List Str) (row_one (a := ([em, "year"] : List Str)) (by decide +kernel) (by simp)) (by unfold hdWs; simp)
  · exact go (["year", em, nt y.days] : List Str) (row_one (a := (["year", em] : List Str)) (by decide +kernel) (by simp)) (by unfold hdWs; simp)
  · exact go (["year", "-1"] : List Str) (by decide +kernel) (by unfold hdWs; simp)
  · refine go (["year", "+" ++ nt y.days] : List Str) (ext_tl ?_) (by unfold hdWs; simp)
    rw [show (["year", "+" ++ nt y.days] : List Str) = (["year"] : List Str) ++ ["+" ++ nt y.days] from rfl, rowT_app (by simp) (by simp), tl_append]
    show tl "year +" ++ tl (nt y.days) = tl "year" ++ 32 :: tl ("+" ++ nt y.days)
    rw [tl_append, show tl "year +" = tl "year" ++ 32 :: tl "+" by decide +kernel, List.append_assoc]
    rfl
  · exact go ([em] : List Str) (by decide +kernel) (by unfold hdWs; simp)
  · exact go (["Year", nt y.days] : List Str) (row_one (a := (["Year"] : List Str)) (by decide +kernel) (by simp)) (by unfold hdWs; simp)
  · exact go (["year", Txt.mul "1" 4000] : List Str) (row_one (a := (["year"] : List Str)) (by decide +kernel) (by simp)) (by unfold hdWs; simp)
  · exact go (["year", nt y.days, "1"] : List Str) (row_two (a := (["year"] : List Str)) (b := (["1"] : List Str)) (by decide +kernel) (by decide +kernel) (by simp) (by simp)) (by unfold hdWs; simp)
  · exact go (["year", "x"] : List Str) (by decide +kernel) (by unfold hdWs; simp)
  · exact go ([nt y.days] : List Str) rfl (by unfold hdWs; simp)
  · have e : "year\nyear " ++ nt y.days ++ nl1 ++ linesT (MM y) = linesT (rowT ["year"] :: R0 y :: MM y) := ext_tl (by
      rw [tl_lines_cons, tl_lines_cons, tl_append, tl_append, tl_append, tl_nl]
      show tl "year\nyear " ++ tl (nt y.days) ++ [10] ++ tl (linesT (MM y)) = tl (rowT ["year"]) ++ 10 :: (tl (rowT ((["year"] : List Str) ++ [nt y.days])) ++ 10 :: tl (linesT (MM y)))
      rw [rowT_app (by simp) (by simp), show tl "year\nyear " = tl (rowT ["year"]) ++ 10 :: (joinL [32] ((["year"] : List Str).map tl) ++ [32]) by decide +kernel]
      show _ = tl (rowT ["year"]) ++ 10 :: ((joinL [32] ((["year"] : List Str).map tl) ++ 32 :: tl (nt y.days)) ++ 10 :: tl (linesT (MM y)))
      simp only [List.append_assoc, List.cons_append, List.nil_append])
    rw [e]
    exact first_no ok' (hd_fr (d := y.days) (by omega) (by unfold hdWs; simp)) (fun d' _ z => by unfold yearW at z; simp at z) (all_free ok)
end KP
namespace KP
open PySem L2 KD KM KT TL
abbrev sHb : Stmt := top 83
abbrev nHb : List Str := ["_law_days", "_law_rest", "_law_some", "_law_one"]
theorem scHb : FnScope nHb ["_law_days", "_law_rest"] (defScope sHb) := ⟨rfl, rfl, rfl, by decide +kernel, rfl, by decide +kernel, by decide +kernel⟩
def hb0 (d : Int) : List Str := [("year 0" : Str), ("year 31" : Str), (("year 0" : Str) ++ nt d), ("year" : Str), ("year " : Str)]
def hb1 (d : Int) : List Str := hb0 d ++ [((("year " : Str) ++ nt d) ++ (" " : Str)), (("years " : Str) ++ nt d)]
def hb2 (d : Int) : List Str := hb1 d ++ [((" year " : Str) ++ nt d), (("year  " : Str) ++ nt d), ("year -1" : Str), (("year +" : Str) ++ nt d)]
def hb3 (d : Int) : List Str := hb2 d ++ [("" : Str), (("Year " : Str) ++ nt d)]
def hb4 (d : Int) : List Str := hb3 d ++ [(("year " : Str) ++ Txt.mul "1" 4000), ((("year " : Str) ++ nt d) ++ (" 1" : Str)), ("year x" : Str), nt d]
def hb5 (d : Int) : List Str := hb4 d ++ [(("year\nyear " : Str) ++ nt d)]
theorem mul1 : MulOk "1" 4000 := ⟨by decide, fun _ _ => by decide +kernel, fun _ _ => by decide +kernel⟩
theorem hb_all (d : Int) : hb5 d = hdRows d := rfl
theorem hd_le {d : Int} (h : 1 ≤ d ∧ d ≤ 30) : ∀ r ∈ hdRows d, r.length ≤ 5000 := by
  intro r hr
  have ld1 : (nt d).length ≤ 16 := nt_len (by omega) (by omega)
  have m9 : (Txt.mul "1" 4000).length ≤ 4000 := by decide +kernel
  unfold hdRows at hr
  simp only [List.mem_cons, List.not_mem_nil, or_false] at hr
  rcases hr with rfl | rfl | rfl | rfl | rfl | rfl | rfl | rfl | rfl | rfl | rfl | rfl | rfl | rfl | rfl | rfl | rfl | rfl
  · exact Nat.le_trans (show ("year 0" : Str).length ≤ 6 by decide +kernel) (by decide)
  · exact Nat.le_trans (show ("year 31" : Str).length ≤ 7 by decide +kernel) (by decide)
  · exact Nat.le_trans (len_app2 (show ("year 0" : Str).length ≤ 6 by decide +kernel) ld1) (by decide)
  · exact Nat.le_trans (show ("year" : Str).length ≤ 4 by decide +kernel) (by decide)
  · exact Nat.le_trans (show ("year " : Str).length ≤ 5 by decide +kernel) (by decide)
  · exact Nat.le_trans (len_app2 (len_app2 (show ("year " : Str).length ≤ 5 by decide +kernel) ld1) (show (" " : Str).length ≤ 1 by decide +kernel)) (by decide)
  · exact Nat.le_trans (len_app2 (show ("years " : Str).length ≤ 6 by decide +kernel) ld1) (by decide)
  · exact Nat.le_trans (len_app2 (show (" year " : Str).length ≤ 6 by decide +kernel) ld1) (by decide)
  · exact Nat.le_trans (len_app2 (show ("year  " : Str).length ≤ 6 by decide +kernel) ld1) (by decide)
  · exact Nat.le_trans (show ("year -1" : Str).length ≤ 7 by decide +kernel) (by decide)
  · exact Nat.le_trans (len_app2 (show ("year +" : Str).length ≤ 6 by decide +kernel) ld1) (by decide)
  · exact Nat.le_trans (show ("" : Str).length ≤ 0 by decide +kernel) (by decide)
  · exact Nat.le_trans (len_app2 (show ("Year " : Str).length ≤ 5 by decide +kernel) ld1) (by decide)
  · exact Nat.le_trans (len_app2 (show ("year " : Str).length ≤ 5 by decide +kernel) m9) (by decide)
  · exact Nat.le_trans (len_app2 (len_app2 (show ("year " : Str).length ≤ 5 by decide +kernel) ld1) (show (" 1" : Str).length ≤ 2 by decide +kernel)) (by decide)
  · exact Nat.le_trans (show ("year x" : Str).length ≤ 6 by decide +kernel) (by decide)
  · exact Nat.le_trans ld1 (by decide)
  · exact Nat.le_trans (len_app2 (show ("year\nyear " : Str).length ≤ 10 by decide +kernel) ld1) (by decide)
/-- all first rows, with what stands behind -/
def hdAll (d : Int) (rest : Str) : List Str := (hdRows d).map fun r => r ++ nl1 ++ rest
def spHb : Sp := fun vs H Q _ => ∃ (d : Int) (rest : Str), vs = [.int d, .str rest] ∧ 1 ≤ d ∧ d ≤ 30 ∧ rest.length ≤ 10000 ∧ ∀ (p : Addr) (H' : Hp), Same H H' → H p = none → H' p = some (.lst ((hdAll d rest).map V.str)) → Q (.ref p) H'
section
variable {P : Program} {w : World} {K : PySem.W.Frag} {mg : Str → Option Value} {base : Heap}
set_option maxHeartbeats 4000000 in
theorem c_hb (B : Base K mg) (D : DefT K mg "_law_heads_bad" sHb ["_law_days", "_law_rest"]) : Cal P w K mg base 1 "_law_heads_bad" spHb := by
  refine cal D scHb (fun vs H Q E h => ?_) (fun f cdv A outer s H vs Q E hr h => ?_)
  · obtain ⟨d, rest, rfl, _⟩ := h
    rfl
  · obtain ⟨d, rest, rfl, d1, d30, hrest, k⟩ := h
    have hz : sizeLine = 16777216 := by decide
    have ld1 : (nt d).length ≤ 16 := nt_len (by omega) (by omega)
    have m9 : (Txt.mul "1" 4000).length ≤ 4000 := by decide +kernel
    refine ⟨_, (C8.pss_cut (ps_set (i := 2) scHb.nd rfl (by first | exact Or.inl rfl | exact Or.inr rfl) (pe_lstW (pa_cons pe_str (pa_cons pe_str (pa_cons (pe_op op_add_str pe_str (pe_callTy call_strIS (by rfl) B.str (by decide +kernel) (pa_cons (pv 0) pa_nil))) (pa_cons pe_str (pa_cons pe_str pa_nil)))))))
        (C8.pss_cut (ps_set (i := 2) scHb.nd rfl (by first | exact Or.inl rfl | exact Or.inr rfl) (pe_op op_catLW (pv 2) (pe_lstW (pa_cons (pe_op op_add_str (pe_op op_add_str pe_str (pe_callTy call_strIS (by rfl) B.str (by decide +kernel) (pa_cons (pv 0) pa_nil))) pe_str) (pa_cons (pe_op op_add_str pe_str (pe_callTy call_strIS (by rfl) B.str (by decide +kernel) (pa_cons (pv 0) pa_nil))) pa_nil)))))
        (C8.pss_cut (ps_set (i := 2) scHb.nd rfl (by first | exact Or.inl rfl | exact Or.inr rfl) (pe_op op_catLW (pv 2) (pe_lstW (pa_cons (pe_op op_add_str pe_str (pe_callTy call_strIS (by rfl) B.str (by decide +kernel) (pa_cons (pv 0) pa_nil))) (pa_cons (pe_op op_add_str pe_str (pe_callTy call_strIS (by rfl) B.str (by decide +kernel) (pa_cons (pv 0) pa_nil))) (pa_cons pe_str (pa_cons (pe_op op_add_str pe_str (pe_callTy call_strIS (by rfl) B.str (by decide +kernel) (pa_cons (pv 0) pa_nil))) pa_nil)))))))
        (C8.pss_cut (ps_set (i := 2) scHb.nd rfl (by first | exact Or.inl rfl | exact Or.inr rfl) (pe_op op_catLW (pv 2) (pe_lstW (pa_cons pe_str (pa_cons (pe_op op_add_str pe_str (pe_callTy call_strIS (by rfl) B.str (by decide +kernel) (pa_cons (pv 0) pa_nil))) pa_nil)))))
        (C8.pss_cut (ps_set (i := 2) scHb.nd rfl (by first | exact Or.inl rfl | exact Or.inr rfl) (pe_op op_catLW (pv 2) (pe_lstW (pa_cons (pe_op op_add_str pe_str (pe_op op_mulS pe_str pe_int)) (pa_cons (pe_op op_add_str (pe_op op_add_str pe_str (pe_callTy call_strIS (by rfl) B.str (by decide +kernel) (pa_cons (pv 0) pa_nil))) pe_str) (pa_cons pe_str (pa_cons (pe_callTy call_strIS (by rfl) B.str (by decide +kernel) (pa_cons (pv 0) pa_nil)) pa_nil)))))))
        (C8.pss_cut (ps_set (i := 2) scHb.nd rfl (by first | exact Or.inl rfl | exact Or.inr rfl) (pe_op op_catLW (pv 2) (pe_lstW (pa_cons (pe_op op_add_str pe_str (pe_callTy call_strIS (by rfl) B.str (by decide +kernel) (pa_cons (pv 0) pa_nil))) pa_nil))))
        (pss_one (ps_ret (pe_lc (own := [("_law_one", 3)]) (g := (gName 3)) (tt := tYes) rfl scHb.nd (pi_list (pv 2)) (blkOk_by (N := nHb) (sc := defScope sHb) (by decide +kernel)) (fun _ _ _ _ _ => (pg_name (i := 3) scHb.nd rfl (by first | exact Or.inl rfl | exact Or.inr rfl))) (fun _ _ _ _ _ => pts_nil) (fun _ _ _ _ _ => (pe_op op_add_str (pe_op op_add_str (pv 3) pe_str) (pv 1)))))))))))), ?_⟩
    refine ⟨fun σ' H' => ∃ L, σ' = [some (.int d), some (.str rest), some (.ref L), none] ∧ Same H H' ∧ H L = none ∧ H' L = some (.lst ((hb0 d).map V.str)), ?_, ?_⟩
    · refine ⟨_, rfl, .inr ⟨_, rfl, log_le (by omega) (by omega), _, _, rfl, rfl, sz_app2 (show ("year 0" : Str).length ≤ 6 by decide +kernel) ld1 (by decide), (by show 5 ≤ sizeLine; omega), fun L G t nL hL => ⟨L, rfl, t, nL, hL⟩⟩⟩
    rintro _ H3 ⟨L, rfl, s3, nL, hL⟩
    refine ⟨fun σ' H' => ∃ L, σ' = [some (.int d), some (.str rest), some (.ref L), none] ∧ Same H H' ∧ H L = none ∧ H' L = some (.lst ((hb1 d).map V.str)), ?_, ?_⟩
    · refine ⟨_, rfl, _, rfl, .inr ⟨_, rfl, log_le (by omega) (by omega), _, _, rfl, rfl, sz_app2 (show ("year " : Str).length ≤ 5 by decide +kernel) ld1 (by decide), _, _, rfl, rfl, sz_app2 (len_app2 (show ("year " : Str).length ≤ 5 by decide +kernel) ld1) (show (" " : Str).length ≤ 1 by decide +kernel) (by decide), _, rfl, .inr ⟨_, rfl, log_le (by omega) (by omega), _, _, rfl, rfl, sz_app2 (show ("years " : Str).length ≤ 6 by decide +kernel) ld1 (by decide), (by show 2 ≤ sizeLine; omega), fun M K u nM hM => ⟨L, M, _, _, rfl, rfl, u _ _ hL, hM, (by show 5 + 2 ≤ sizeLine; omega), fun L2 G t nL2 hL2 => ⟨L2, rfl, (s3.trans u).trans t, same_none (s3.trans u) nL2, (by rw [hL2]; unfold hb1; rw [List.map_append]; rfl)⟩⟩⟩⟩⟩
    clear nL hL s3 L H3
    rintro _ H3 ⟨L, rfl, s3, nL, hL⟩
    refine ⟨fun σ' H' => ∃ L, σ' = [some (.int d), some (.str rest), some (.ref L), none] ∧ Same H H' ∧ H L = none ∧ H' L = some (.lst ((hb2 d).map V.str)), ?_, ?_⟩
    · refine ⟨_, rfl, _, rfl, .inr ⟨_, rfl, log_le (by omega) (by omega), _, _, rfl, rfl, sz_app2 (show (" year " : Str).length ≤ 6 by decide +kernel) ld1 (by decide), _, rfl, .inr ⟨_, rfl, log_le (by omega) (by omega), _, _, rfl, rfl, sz_app2 (show ("year  " : Str).length ≤ 6 by decide +kernel) ld1 (by decide), _, rfl, .inr ⟨_, rfl, log_le (by omega) (by omega), _, _, rfl, rfl, sz_app2 (show ("year +" : Str).length ≤ 6 by decide +kernel) ld1 (by decide), (by show 4 ≤ sizeLine; omega), fun M K u nM hM => ⟨L, M, _, _, rfl, rfl, u _ _ hL, hM, (by show 7 + 4 ≤ sizeLine; omega), fun L2 G t nL2 hL2 => ⟨L2, rfl, (s3.trans u).trans t, same_none (s3.trans u) nL2, (by rw [hL2]; unfold hb2; rw [List.map_append]; rfl)⟩⟩⟩⟩⟩⟩
    clear nL hL s3 L H3
    rintro _ H3 ⟨L, rfl, s3, nL, hL⟩
    refine ⟨fun σ' H' => ∃ L, σ' = [some (.int d), some (.str rest), some (.ref L), none] ∧ Same H H' ∧ H L = none ∧ H' L = some (.lst ((hb3 d).map V.str)), ?_, ?_⟩
    · refine ⟨_, rfl, _, rfl, .inr ⟨_, rfl, log_le (by omega) (by omega), _, _, rfl, rfl, sz_app2 (show ("Year " : Str).length ≤ 5 by decide +kernel) ld1 (by decide), (by show 2 ≤ sizeLine; omega), fun M K u nM hM => ⟨L, M, _, _, rfl, rfl, u _ _ hL, hM, (by show 11 + 2 ≤ sizeLine; omega), fun L2 G t nL2 hL2 => ⟨L2, rfl, (s3.trans u).trans t, same_none (s3.trans u) nL2, (by rw [hL2]; unfold hb3; rw [List.map_append]; rfl)⟩⟩⟩⟩
    clear nL hL s3 L H3
    rintro _ H3 ⟨L, rfl, s3, nL, hL⟩
    refine ⟨fun σ' H' => ∃ L, σ' = [some (.int d), some (.str rest), some (.ref L), none] ∧ Same H H' ∧ H L = none ∧ H' L = some (.lst ((hb4 d).map V.str)), ?_, ?_⟩
    · refine ⟨_, rfl, _, _, rfl, rfl, mul1, _, _, rfl, rfl, sz_app2 (show ("year " : Str).length ≤ 5 by decide +kernel) m9 (by decide), _, rfl, .inr ⟨_, rfl, log_le (by omega) (by omega), _, _, rfl, rfl, sz_app2 (show ("year " : Str).length ≤ 5 by decide +kernel) ld1 (by decide), _, _, rfl, rfl, sz_app2 (len_app2 (show ("year " : Str).length ≤ 5 by decide +kernel) ld1) (show (" 1" : Str).length ≤ 2 by decide +kernel) (by decide), _, rfl, .inr ⟨_, rfl, log_le (by omega) (by omega), (by show 4 ≤ sizeLine; omega), fun M K u nM hM => ⟨L, M, _, _, rfl, rfl, u _ _ hL, hM, (by show 13 + 4 ≤ sizeLine; omega), fun L2 G t nL2 hL2 => ⟨L2, rfl, (s3.trans u).trans t, same_none (s3.trans u) nL2, (by rw [hL2]; unfold hb4; rw [List.map_append]; rfl)⟩⟩⟩⟩⟩
    clear nL hL s3 L H3
    rintro _ H3 ⟨L, rfl, s3, nL, hL⟩
    refine ⟨fun σ' H' => ∃ L, σ' = [some (.int d), some (.str rest), some (.ref L), none] ∧ Same H H' ∧ H L = none ∧ H' L = some (.lst ((hb5 d).map V.str)), ?_, ?_⟩
    · refine ⟨_, rfl, _, rfl, .inr ⟨_, rfl, log_le (by omega) (by omega), _, _, rfl, rfl, sz_app2 (show ("year\nyear " : Str).length ≤ 10 by decide +kernel) ld1 (by decide), (by show 1 ≤ sizeLine; omega), fun M K u nM hM => ⟨L, M, _, _, rfl, rfl, u _ _ hL, hM, (by show 17 + 1 ≤ sizeLine; omega), fun L2 G t nL2 hL2 => ⟨L2, rfl, (s3.trans u).trans t, same_none (s3.trans u) nL2, (by rw [hL2]; unfold hb5; rw [List.map_append]; rfl)⟩⟩⟩⟩
    clear nL hL s3 L H3
    rintro _ H3 ⟨L, rfl, s3, nL, hL⟩
    have hL : H3 L = some (.lst ((hdRows d).map V.str)) := by rw [hL, hb_all]
    refine ⟨_, rfl, L, rfl, ⟨_, SqL.of hL⟩, fun D1 hD1 => lc_it (walk_list (xs := (hdRows d).map V.str)) (fun i H' => Same H3 H' ∧ H' D1 = some (.lst ((((hdRows d).take i).map fun r => r ++ nl1 ++ rest).map V.str))) ⟨same_new hD1, upd_same⟩ (fun i H' _ e => SqL.of (e.1 _ _ hL)) ?_ ?_⟩
    · rintro i v H4 H5 hi ⟨s4, d4⟩ ⟨rfl, hv⟩
      rw [List.getElem?_map] at hv
      cases er : (hdRows d)[i]? with
      | none => rw [er] at hv; cases hv
      | some r =>
        rw [er] at hv
        obtain rfl := Option.some.inj hv
        have lr := hd_le ⟨d1, d30⟩ r (List.mem_of_getElem? er)
        have ln : nl1.length ≤ 1 := by decide +kernel
        refine ⟨rfl, yes (iteT ⟨_, rfl, _, _, rfl, rfl, sz_app2 lr ln (by decide), _, rfl, _, _, rfl, rfl, sz_app2 (len_app2 lr ln) hrest (by decide), _, d4, ?_, fun b o e => ?_, ?_⟩)⟩
        · rw [List.length_map, List.length_map, List.length_take]
          have : (hdRows d).length = 18 := rfl
          omega
        · rw [upd_ne (ne_of_none e hD1)]
          exact s4 _ _ e
        · rw [upd_same, take_more er, List.map_append, List.map_append]
          rfl
    · rintro H4 ⟨s4, d4⟩
      refine k D1 H4 (s3.trans s4) (same_none s3 hD1) ?_
      rw [d4, List.take_of_length_le (by rw [List.length_map]; exact Nat.le_refl _)]
      rfl
end
end KP
namespace KP
open PySem L2 KD KM KT TL
abbrev nLaw : List Str := ["_law_script", "_law_cell", "_law_well_here", "_law_parts_here", "_law_text_here", "_law_rows", "_law_some", "_law_k", "_law_row", "_law_at", "_law_rest"]
theorem scLaw : FnScope nLaw ["_law_script"] (defScope sLaw) := ⟨rfl, rfl, rfl, by decide +kernel, rfl, by decide +kernel, by decide +kernel⟩

theorem cut_last {xs : List V} {z : V} : cutV (xs ++ [z]) none (some (-1)) = xs := by
  have l : (xs ++ [z]).length = xs.length + 1 := by simp
  have b : ∀ n d : Nat, HT.sIx (n + 1) d (some (-1)) = n := fun n d => by
    show (if (-1 : Int) < 0 then ((-1 : Int) + ((n + 1 : Nat) : Int)).toNat else min (-1 : Int).toNat (n + 1)) = n
    rw [if_pos (by omega)]
    omega
  unfold cutV
  rw [l, b, HT.sIx_none, List.drop_zero, Nat.sub_zero]
  simp
theorem cut_from {xs : List V} {k : Nat} : cutV xs (some (k : Int)) none = xs.drop k := by
  unfold cutV
  rw [HT.sIx_none, HT.sIx_nat]
  by_cases h : k ≤ xs.length
  · rw [Nat.min_eq_left h]
    exact List.take_of_length_le (by rw [List.length_drop]; omega)
  · rw [Nat.min_eq_right (by omega), List.drop_of_length_le (Nat.le_refl _), List.drop_of_length_le (by omega)]
    simp
theorem cutS_last {x z : Str} (h : tl x = tl z ++ [10]) : cutS x none (some (-1)) = z := ext_tl (by
  have l : x.length = z.length + 1 := by rw [len_tl, h, List.length_append, ← len_tl]; rfl
  have b : ∀ n d : Nat, HT.sIx (n + 1) d (some (-1)) = n := fun n d => by
    show (if (-1 : Int) < 0 then ((-1 : Int) + ((n + 1 : Nat) : Int)).toNat else min (-1 : Int).toNat (n + 1)) = n
    rw [if_pos (by omega)]
    omega
  unfold cutS
  rw [l, b, HT.sIx_none]
  show ((tl x).drop 0).take (z.length - 0) = tl z
  rw [h, List.drop_zero, Nat.sub_zero, len_tl, List.take_left])
theorem tl_ytext (y : Yr) : tl (ytext y) = tl (Str.join nl1 (R0 y :: MM y)) ++ [10] := by
  rw [ytext_eq, ← join_lines (by simp), tl_append, tl_nl]
def BadV (H : Hp) (v : V) : Prop := Th H v ∧ (∀ x, v = .str x → x.length ≤ 100000) ∧ ∀ y : Yr, y.ok → v ≠ .str (ytext y)
theorem BadV.same {H H' : Hp} {v : V} (b : BadV H v) (s : Same H H') : BadV H' v := ⟨b.1.same s, b.2⟩
theorem badS {H : Hp} {x : Str} (n : NoY x) (l : x.length ≤ 100000) : BadV H (.str x) := ⟨.str x (Nat.le_trans l (by decide)), (fun z e => by cases e; exact l), fun y ok e => n y ok (by injection e)⟩
theorem row_le136 {y : Yr} (ok : y.ok) : ∀ r ∈ R0 y :: MM y, r.length ≤ 136 := fun r hr => by
  have hr' : r ∈ (rowsW y).map rowT := hr
  obtain ⟨ws, hw, rfl⟩ := List.mem_map.mp hr'
  exact rowT_le (rw_all ok ws hw)
theorem rows_n {y : Yr} (ok : y.ok) : (R0 y :: MM y).length ≤ 19 := by
  have h := rowsW_len ok
  have e : (R0 y :: MM y).length = ((rowsW y).map rowT).length := rfl
  rw [e, List.length_map]
  exact h
theorem ytext_le {y : Yr} (ok : y.ok) : (ytext y).length ≤ 2603 := by
  have := linesT_le (rs := (rowsW y).map rowT) (n := 136) fun r hr => by
    obtain ⟨ws, hw, rfl⟩ := List.mem_map.mp hr
    exact rowT_le (rw_all ok ws hw)
  rw [List.length_map] at this
  have h19 := rowsW_len ok
  have : (rowsW y).length * 137 ≤ 19 * 137 := Nat.mul_le_mul_right _ h19
  unfold ytext
  omega
theorem bad_le {n : Str} {d : Int} (hn8 : n.length ≤ 8) (dd : 1 ≤ d ∧ d ≤ 30) : ∀ r ∈ badRows n d, r.length ≤ 4100 := by
  intro r hr
  have lu : (Txt.upper n).length ≤ 24 := Nat.le_trans (PyProof.Rows.len_upper n) (by omega)
  have m9 : (Txt.mul "9" 4000).length ≤ 4000 := by decide +kernel
  have ld1 : (nt (d + 1)).length ≤ 16 := nt_len (by omega) (by omega)
  have ld2 : (nt (d + 2)).length ≤ 16 := nt_len (by omega) (by omega)
  have ld3 : (nt 1000000000000001).length ≤ 16 := nt_len (by decide) (by decide)
  unfold badRows at hr
  simp only [List.mem_cons, List.not_mem_nil, or_false] at hr
  rcases hr with rfl | rfl | rfl | rfl | rfl | rfl | rfl | rfl | rfl | rfl | rfl | rfl | rfl | rfl | rfl | rfl | rfl | rfl | rfl | rfl | rfl | rfl | rfl | rfl | rfl | rfl | rfl | rfl | rfl | rfl | rfl | rfl | rfl | rfl
  · exact Nat.le_trans (show ("" : Str).length ≤ 0 by decide +kernel) (by decide)
  · exact Nat.le_trans (show (" " : Str).length ≤ 1 by decide +kernel) (by decide)
  · exact Nat.le_trans (show ("head" : Str).length ≤ 4 by decide +kernel) (by decide)
  · exact Nat.le_trans (show ("head " : Str).length ≤ 5 by decide +kernel) (by decide)
  · exact Nat.le_trans (len_app2 (show ("head " : Str).length ≤ 5 by decide +kernel) lu) (by decide)
  · exact Nat.le_trans (len_app2 (show ("head " : Str).length ≤ 5 by decide +kernel) hn8) (by decide)
  · exact Nat.le_trans (len_app2 (len_app2 (show ("head " : Str).length ≤ 5 by decide +kernel) hn8) (show (" in" : Str).length ≤ 3 by decide +kernel)) (by decide)
  · exact Nat.le_trans (show ("heads a" : Str).length ≤ 7 by decide +kernel) (by decide)
  · exact Nat.le_trans (len_app2 (show ("head  " : Str).length ≤ 6 by decide +kernel) hn8) (by decide)
  · exact Nat.le_trans (len_app2 (len_app2 (show ("limit " : Str).length ≤ 6 by decide +kernel) hn8) (show (" 1 1" : Str).length ≤ 4 by decide +kernel)) (by decide)
  · exact Nat.le_trans (len_app2 (len_app2 (show ("limit " : Str).length ≤ 6 by decide +kernel) hn8) (show (" 1 1 5 5" : Str).length ≤ 8 by decide +kernel)) (by decide)
  · exact Nat.le_trans (show ("limit other9 1 1 5" : Str).length ≤ 18 by decide +kernel) (by decide)
  · exact Nat.le_trans (len_app2 (len_app2 (show ("limit " : Str).length ≤ 6 by decide +kernel) hn8) (show (" 0 1 5" : Str).length ≤ 6 by decide +kernel)) (by decide)
  · exact Nat.le_trans (len_app2 (len_app2 (len_app2 (len_app2 (show ("limit " : Str).length ≤ 6 by decide +kernel) hn8) (show (" 1 " : Str).length ≤ 3 by decide +kernel)) ld1) (show (" 5" : Str).length ≤ 2 by decide +kernel)) (by decide)
  · exact Nat.le_trans (len_app2 (len_app2 (show ("limit " : Str).length ≤ 6 by decide +kernel) hn8) (show (" 1 1 05" : Str).length ≤ 7 by decide +kernel)) (by decide)
  · exact Nat.le_trans (len_app2 (len_app2 (show ("limit " : Str).length ≤ 6 by decide +kernel) hn8) (show (" 1 1 -5" : Str).length ≤ 7 by decide +kernel)) (by decide)
  · exact Nat.le_trans (len_app2 (len_app2 (len_app2 (show ("limit " : Str).length ≤ 6 by decide +kernel) hn8) (show (" 1 1 " : Str).length ≤ 5 by decide +kernel)) ld3) (by decide)
  · exact Nat.le_trans (len_app2 (len_app2 (show ("limits " : Str).length ≤ 7 by decide +kernel) hn8) (show (" 1 1 5" : Str).length ≤ 6 by decide +kernel)) (by decide)
  · exact Nat.le_trans (len_app2 (len_app2 (len_app2 (show ("limit " : Str).length ≤ 6 by decide +kernel) hn8) (show (" 1 1 " : Str).length ≤ 5 by decide +kernel)) m9) (by decide)
  · exact Nat.le_trans (len_app2 (len_app2 (show ("rule " : Str).length ≤ 5 by decide +kernel) hn8) (show (" 1 0 2" : Str).length ≤ 6 by decide +kernel)) (by decide)
  · exact Nat.le_trans (len_app2 (len_app2 (show ("rule " : Str).length ≤ 5 by decide +kernel) hn8) (show (" 2 1 2" : Str).length ≤ 6 by decide +kernel)) (by decide)
  · exact Nat.le_trans (len_app2 (len_app2 (show ("rule " : Str).length ≤ 5 by decide +kernel) hn8) (show (" 0 1 1" : Str).length ≤ 6 by decide +kernel)) (by decide)
  · exact Nat.le_trans (len_app2 (len_app2 (len_app2 (show ("rule " : Str).length ≤ 5 by decide +kernel) hn8) (show (" 0 1 " : Str).length ≤ 5 by decide +kernel)) ld2) (by decide)
  · exact Nat.le_trans (len_app2 (len_app2 (show ("rule " : Str).length ≤ 5 by decide +kernel) hn8) (show (" 0 1001 2" : Str).length ≤ 9 by decide +kernel)) (by decide)
  · exact Nat.le_trans (len_app2 (len_app2 (show ("rule " : Str).length ≤ 5 by decide +kernel) hn8) (show (" 0 1" : Str).length ≤ 4 by decide +kernel)) (by decide)
  · exact Nat.le_trans (show ("rule other9 0 1 2" : Str).length ≤ 17 by decide +kernel) (by decide)
  · exact Nat.le_trans (len_app2 (len_app2 (show ("rule " : Str).length ≤ 5 by decide +kernel) hn8) (show (" 0  1 2" : Str).length ≤ 7 by decide +kernel)) (by decide)
  · exact Nat.le_trans (len_app2 (len_app2 (show ("rule " : Str).length ≤ 5 by decide +kernel) hn8) (show (" 0 1 2 " : Str).length ≤ 7 by decide +kernel)) (by decide)
  · exact Nat.le_trans (show ("year 3" : Str).length ≤ 6 by decide +kernel) (by decide)
  · exact Nat.le_trans (show ("Head a" : Str).length ≤ 6 by decide +kernel) (by decide)
  · exact Nat.le_trans (show (" head a" : Str).length ≤ 7 by decide +kernel) (by decide)
  · exact Nat.le_trans (len_app2 (len_app2 (show ("limit " : Str).length ≤ 6 by decide +kernel) hn8) (show (" 1 1 5 " : Str).length ≤ 7 by decide +kernel)) (by decide)
  · exact Nat.le_trans (len_app2 (len_app2 (show ("rule " : Str).length ≤ 5 by decide +kernel) hn8) (show (" +0 1 2" : Str).length ≤ 7 by decide +kernel)) (by decide)
  · exact Nat.le_trans (show ("note a" : Str).length ≤ 6 by decide +kernel) (by decide)

def spLaw (K : PySem.W.Frag) : Sp := fun vs H Q _ => ∃ (a : Addr) (ns : List Int), vs = [.ref a] ∧ SqL K H a (ns.map V.int) ∧ ns.length ≤ 63 ∧ ∀ H', Q (.bl true) H'
theorem cut_intV {vs : List V} (hv : ∀ v ∈ vs, ∃ c, v = .int c) {lo hi : Option Int} : (cutV vs lo hi).length ≤ vs.length ∧ ∀ v ∈ cutV vs lo hi, ∃ c, v = .int c :=
  ⟨cutV_length vs lo hi, fun v h => by unfold cutV at h; exact hv v (List.mem_of_mem_drop (List.mem_of_mem_take h))⟩
section
variable {P : Program} {w : World} {K : PySem.W.Frag} {mg : Str → Option Value} {base : Heap} {C : Addr}
set_option maxHeartbeats 4000000 in
theorem ok_law {f : Addr} {fd : FuncData} (F : Fun K "law" "law" sLaw f fd) (B : Base K mg) (Wl : Cal P w K mg base 1 "_law_well" spWell) (Dr : Cal P w K mg base 1 "_law_draw" spDraw) (Pc : Cal P w K mg base 5 "_law_parts" spLParts) (Lt : Cal P w K mg base 1 "_law_text" spLt)
    (Rb : Cal P w K mg base 2 "_law_rows_bad" spRb) (Hb : Cal P w K mg base 1 "_law_heads_bad" spHb) (Nx : Cal P w K mg base 8 "_law_no_text" spNx) (Yt : Cal P w K mg base 2 "year_text" (spYt C)) (Ry : Cal P w K mg base 7 "read_year" (spRy C)) :
    FnOk P w K mg base CX0 9 f fd ["_law_script"] (spLaw K) := by
  refine F.ok scLaw (fun vs H Q E h => ?_) (fun cdv A outer s H vs Q E2 hr h => ?_)
  · obtain ⟨a, ns, rfl, _⟩ := h
    rfl
  · obtain ⟨a, ns, rfl, hS, hlen, k⟩ := h
    have hz : sizeLine = 16777216 := by decide
    refine ⟨_, (pss_cons (ps_for PassesOwn.never rfl (pi_list (pe_op op_catLW (pe_slice sl_listW (pv 0) po_none (po_some pe_int)) (pe_lstW (pa_cons pe_int (pa_cons pe_int pa_nil))))) (pg_name (i := 1) scLaw.nd rfl (by first | exact Or.inl rfl | exact Or.inr rfl)) (pss_cons (ps_set (i := 2) scLaw.nd rfl (by first | exact Or.inl rfl | exact Or.inr rfl) (pe_cl Wl hr (by decide) (by rfl) (pa_cons (pv 1) pa_nil)))
        (pss_cons (ps_set (i := 3) scLaw.nd rfl (by first | exact Or.inl rfl | exact Or.inr rfl) (pe_cl Pc hr (by decide) (by rfl) (pa_cons (pv 2) pa_nil)))
        (pss_cons (ps_set (i := 4) scLaw.nd rfl (by first | exact Or.inl rfl | exact Or.inr rfl) (pe_cl Lt hr (by decide) (by rfl) (pa_cons (pv 3) pa_nil)))
        (pss_cons (ps_set (i := 5) scLaw.nd rfl (by first | exact Or.inl rfl | exact Or.inr rfl) (pe_slice sl_listW (pe_split (pv 4) pe_str) po_none (po_some (pe_un un_neg pe_int))))
        (pss_cons (ps_set (i := 6) scLaw.nd rfl (by first | exact Or.inl rfl | exact Or.inr rfl) (pe_cl Rb hr (by decide) (by rfl) (pa_cons (pv 2) (pa_cons (pv 3) pa_nil))))
        (C8.pss_cut (ps_for PassesOwn.never rfl (pi_range1 (by rfl) B.range (pa_cons pe_int pa_nil)) (pg_name (i := 7) scLaw.nd rfl (by first | exact Or.inl rfl | exact Or.inr rfl)) (pss_cons (ps_set (i := 8) scLaw.nd rfl (by first | exact Or.inl rfl | exact Or.inr rfl) (pe_ix ix_list (pv 6) (pe_cl Dr hr (by decide) (by rfl) (pa_cons (pv 2) (pa_cons (pe_callB call_len_seq (by rfl) B.len (by decide +kernel) (pa_cons (pv 6) pa_nil)) pa_nil))) (fun _ _ => rfl)))
        (pss_cons (ps_set (i := 9) scLaw.nd rfl (by first | exact Or.inl rfl | exact Or.inr rfl) (pe_op op_add pe_int (pe_cl Dr hr (by decide) (by rfl) (pa_cons (pv 2) (pa_cons (pe_callB call_len_seq (by rfl) B.len (by decide +kernel) (pa_cons (pv 5) pa_nil)) pa_nil)))))
        (pss_one (ps_if (pt_not (pt_val (pe_cl Nx hr (by decide) (by rfl) (pa_cons pe_int (pa_cons (pe_op op_add_str (pe_join pe_str (pe_op op_catLW (pe_op op_catLW (pe_slice sl_listW (pv 5) po_none (po_some (pv 9))) (pe_lstW (pa_cons (pv 8) pa_nil))) (pe_slice sl_listW (pv 5) (po_some (pv 9)) po_none))) pe_str) pa_nil))))) (pss_one (ps_ret pe_bl)) pss_nil)))))
        (pss_cons (ps_set (i := 10) scLaw.nd rfl (by first | exact Or.inl rfl | exact Or.inr rfl) (pe_op op_add_str (pe_join pe_str (pe_slice sl_listW (pv 5) (po_some pe_int) po_none)) pe_str))
        (C8.pss_cut (ps_set (i := 6) scLaw.nd rfl (by first | exact Or.inl rfl | exact Or.inr rfl) (pe_op op_catLW (pe_cl Hb hr (by decide) (by rfl) (pa_cons (pe_ix ix_list (pv 3) pe_int (fun _ _ => rfl)) (pa_cons (pv 10) pa_nil))) (pe_lstW (pa_cons pe_non (pa_cons pe_int (pa_cons pe_bl (pa_cons (pe_lstW (pa_cons (pv 4) pa_nil)) (pa_cons (pe_tupW (pa_cons (pv 4) pa_nil)) (pa_cons pe_dnewK (pa_cons (pv 5) (pa_cons pe_str (pa_cons (pe_slice sl_str (pv 4) po_none (po_some (pe_un un_neg pe_int))) (pa_cons (pe_op op_add_str (pv 4) pe_str) pa_nil)))))))))))))
        (C8.pss_cut (ps_set (i := 6) scLaw.nd rfl (by first | exact Or.inl rfl | exact Or.inr rfl) (pe_op op_catLW (pv 6) (pe_lstW (pa_cons (pe_op op_add_str pe_str (pv 4)) (pa_cons (pe_op op_add_str pe_str (pv 4)) (pa_cons (pe_op op_add_str (pv 4) pe_str) (pa_cons (pv 10) (pa_cons (pe_op op_add_str (pe_ix ix_list (pv 5) pe_int (fun _ _ => rfl)) pe_str) (pa_cons (pe_op op_add_str (pv 4) (pv 4)) pa_nil)))))))))
        (C8.pss_cut (ps_set (i := 6) scLaw.nd rfl (by first | exact Or.inl rfl | exact Or.inr rfl) (pe_op op_catLW (pv 6) (pe_lstW (pa_cons (pe_op op_add_str (pe_slice sl_str (pv 4) po_none (po_some (pe_un un_neg pe_int))) pe_str) pa_nil))))
        (C8.pss_cut (ps_for PassesOwn.never rfl (pi_range1 (by rfl) B.range (pa_cons (pe_callB call_len_seq (by rfl) B.len (by decide +kernel) (pa_cons (pv 6) pa_nil)) pa_nil)) (pg_name (i := 7) scLaw.nd rfl (by first | exact Or.inl rfl | exact Or.inr rfl)) (pss_one (ps_if (pt_not (pt_val (pe_cl Nx hr (by decide) (by rfl) (pa_cons pe_int (pa_cons (pe_ix ix_list (pv 6) (pv 7) (fun _ _ => rfl)) pa_nil))))) (pss_one (ps_ret pe_bl)) pss_nil)))
        (pss_one (ps_if (pt_cmpR op_ne (pe_cl Yt hr (by decide) (by rfl) (pa_cons (pe_cl Ry hr (by decide) (by rfl) (pa_cons (pv 4) pa_nil)) pa_nil)) (pv 4) (nomark _)) (pss_one (ps_ret pe_bl)) pss_nil))))))))))))))
        (pss_one (ps_ret pe_bl))), ?_⟩
    obtain ⟨cl, ci⟩ := cut_intV (vs := ns.map V.int) (fun v hv => by obtain ⟨c, _, rfl⟩ := List.mem_map.mp hv; exact ⟨c, rfl⟩) (lo := none) (hi := some 10)
    rw [List.length_map] at cl
    refine ⟨_, rfl, _, rfl, a, _, rfl, hS, fun p H1 s1 np hp => ⟨(by show 2 ≤ sizeLine; decide), fun q H2 s2 nq hq => ⟨p, q, _, _, rfl, rfl, s2 _ _ hp, hq, (by show _ + 2 ≤ _; omega), fun R H3 s3 nR hR => ?_⟩⟩⟩
    have iint : ∀ v ∈ cutV (ns.map V.int) none (some 10) ++ [V.int 1, V.int 5], ∃ c, v = V.int c := fun v hv => by
      rcases List.mem_append.mp hv with hv | hv
      · exact ci v hv
      · simp at hv
        rcases hv with rfl | rfl <;> exact ⟨_, rfl⟩
    generalize cutV (ns.map V.int) none (some 10) ++ [V.int 1, V.int 5] = items at iint hR
    refine ⟨R, rfl, ⟨_, SqL.of hR⟩, for_list (K := K) (a := R) (xs := items) (fun i σ H' => ∃ (v1 v2 v3 v4 v5 v6 v7 v8 v9 v10 : Option V), σ = [some (.ref a), v1, v2, v3, v4, v5, v6, v7, v8, v9, v10] ∧ Same H3 H')
      ⟨none, none, none, none, none, none, none, none, none, none, rfl, Same.refl _⟩ (fun i σ H' _ ⟨_, _, _, _, _, _, _, _, _, _, _, z⟩ => SqL.of (z _ _ hR)) ?_ (fun σ H4 _ => k _)⟩
    rintro i v σ H4 hi ⟨v1, v2, v3, v4, v5, v6, v7, v8, v9, v10, rfl, s4⟩
    obtain ⟨c, rfl⟩ := iint v (List.mem_of_getElem? hi)
    refine ⟨_, rfl, c, rfl, fun b Hb sb nb wb => ?_⟩
    refine ⟨_, rfl, b, rfl, wb, fun q lh ll lr th tl' tr y H5 ok hq r1 r2 r3 nq nlh nll nlr w5 s5 => ?_⟩
    refine ⟨_, rfl, q, lh, ll, lr, th, tl', tr, y, rfl, hq, r1, r2, r3, ok, fun H6 s6 => ?_⟩
    have lt := ytext_le ok
    have dd := ok.d
    have fr := all_free ok
    refine ⟨_, rfl, ⟨_, rfl⟩, _, _, rfl, rfl, (by decide +kernel), (by omega), fun p0 hp0 => ?_⟩
    rw [show ("\n" : Str) = nl1 from rfl, show Txt.split (ytext y) nl1 = (R0 y :: MM y) ++ [em] from ytext_split ok]
    have s7 : Same H6 (upd H6 p0 (.lst (((R0 y :: MM y) ++ [em]).map V.str))) := same_new hp0
    have h7 : upd H6 p0 (.lst (((R0 y :: MM y) ++ [em]).map V.str)) p0 = some (.lst (((R0 y :: MM y) ++ [em]).map V.str)) := upd_same
    generalize upd H6 p0 (.lst (((R0 y :: MM y) ++ [em]).map V.str)) = H7 at s7 h7
    refine ⟨1, rfl, -1, rfl, p0, _, rfl, SqL.of h7, fun Rw H8 s8 nRw hRw => ?_⟩
    have hRw : H8 Rw = some (.lst ((R0 y :: MM y).map V.str)) := by
      rw [hRw, List.map_append]
      show some (HO.lst (cutV ((R0 y :: MM y).map V.str ++ [V.str em]) none (some (-1)))) = _
      rw [cut_last]
    have S58 : Same H5 H8 := (s6.trans s7).trans s8
    have w8 := w5.same S58
    have hq8 := S58 _ _ hq
    refine ⟨_, rfl, _, rfl, b, q, lh, ll, lr, th, y, rfl, w8, hq8, r1.same S58, ok, fun n S H9 hn w9 s9 nS hS => ?_⟩
    have nwb : ∀ (z : Addr) (xs : List Str), H8 z = some (.lst (xs.map V.str)) → z ≠ b := fun z xs e ez => by
      subst ez
      obtain ⟨x1, x2, x3, e3⟩ := w8
      rw [e3] at e
      have e := Option.some.inj e
      cases xs with
      | nil => cases e
      | cons x r => cases e
    have nRb : Rw ≠ b := nwb _ _ hRw
    have nSb : S ≠ b := fun e => by
      rw [e] at nS
      obtain ⟨x1, x2, x3, e3⟩ := w8
      rw [e3] at nS
      cases nS
    have nqb : q ≠ b := fun e => by
      subst e
      obtain ⟨x1, x2, x3, e3⟩ := w5
      rw [hq] at e3
      cases e3
    have hR9 := s9 _ _ hRw nRb
    have hq9 := s9 _ _ hq8 nqb
    have l136 := row_le136 ok
    have l19 := rows_n ok
    have wn := ok.h.w n hn
    have b4100 := bad_le wn.2.2 dd
    have lrn : ((R0 y :: MM y).map V.str).length ≤ 19 := by rw [List.length_map]; exact l19
    have lr1 : 1 ≤ ((R0 y :: MM y).map V.str).length := by rw [List.length_map, List.length_cons]; omega
    have lnl : nl1.length ≤ 1 := by decide +kernel
    refine ⟨fun σ' H' => ∃ v7 v8 v9, σ' = [some (.ref a), some (.int c), some (.ref b), some (.ref q), some (.str (ytext y)), some (.ref Rw), some (.ref S), v7, v8, v9, v10] ∧ WellAt H' b ∧ SameB b H9 H', ?_, ?_⟩
    · refine ⟨8, rfl, (by decide), (by decide), for_range (lo := 0) (n := 8) (fun i σ' H' => ∃ v7 v8 v9, σ' = [some (.ref a), some (.int c), some (.ref b), some (.ref q), some (.str (ytext y)), some (.ref Rw), some (.ref S), v7, v8, v9, v10] ∧ WellAt H' b ∧ SameB b H9 H')
        ⟨_, _, _, rfl, w9, SameB.refl⟩ ?_ (fun σ H' h => h)⟩
      rintro i σ Ha hi ⟨v7, v8, v9, rfl, wa, sa⟩
      refine ⟨_, rfl, _, rfl, _, rfl, S, _, rfl, .inl (SqL.of (sa _ _ hS nSb)), b, _, rfl, wa, (by show (0 : Int) < 34; decide), (by show (34 : Int) < _; decide), fun r Hb' r0 r1 wb' sb' => ?_⟩
      have r34 : r < 34 := r1
      obtain ⟨ri, rfl⟩ : ∃ ri : Nat, r = (ri : Int) := ⟨r.toNat, by omega⟩
      have hri : ri < (badRows n y.days).length := by show ri < 34; omega
      obtain ⟨x, hx⟩ : ∃ x, (badRows n y.days)[ri]? = some x := ⟨_, List.getElem?_eq_getElem hri⟩
      have hxm := List.mem_of_getElem? hx
      have sab := sa.trans sb'
      refine ⟨S, _, _, .str x, rfl, rfl, SqL.of (sab _ _ hS nSb), atI_nat (by rw [List.getElem?_map, hx]; rfl), ?_⟩
      refine ⟨_, rfl, _, rfl, Rw, _, rfl, .inl (SqL.of (sab _ _ hR9 nRb)), b, _, rfl, wb', (by omega), (by omega), fun r' Hc q0 q1 wc sc => ⟨_, _, rfl, rfl, ?_⟩⟩
      have sabc := sab.trans sc
      have hRc := sabc _ _ hR9 nRb
      obtain ⟨k', rfl⟩ : ∃ k' : Nat, r' = (k' : Int) := ⟨r'.toNat, by omega⟩
      have e1 : (1 + (k' : Int)) = ((k' + 1 : Nat) : Int) := by omega
      refine ⟨⟨_, rfl⟩, _, rfl, _, rfl, _, rfl, Rw, _, rfl, SqL.of hRc, fun A1 Hd sd nd hd => ?_⟩
      refine ⟨_, rfl, (by show 1 ≤ sizeLine; omega), fun A2 He se ne he => ?_⟩
      have hd' : He A1 = some (.lst (((R0 y :: (MM y).take k').map V.str))) := by
        rw [se _ _ hd, e1, cut_take (by omega)]
        rw [← List.map_take]
        rfl
      have lA : ((R0 y :: (MM y).take k').map V.str).length ≤ 20 := by
        rw [List.length_map, List.length_cons, List.length_take]
        have := l19
        rw [List.length_cons] at this
        omega
      refine ⟨A1, A2, _, _, rfl, rfl, hd', he, (by show _ + 1 ≤ sizeLine; omega), fun A3 Hf sf nf hf => ?_⟩
      refine ⟨_, rfl, _, rfl, _, rfl, Rw, _, rfl, SqL.of (sf _ _ (se _ _ (sd _ _ hRc))), fun A4 Hg sg ng hg => ?_⟩
      have hg' : Hg A4 = some (.lst (((MM y).drop k').map V.str)) := by
        rw [hg, e1, cut_from, ← List.map_drop]
        rfl
      have hf' : Hg A3 = some (.lst ((R0 y :: ((MM y).take k' ++ [x])).map V.str)) := by
        rw [sg _ _ hf]
        show _ = some (HO.lst (((R0 y :: (MM y).take k') ++ [x]).map V.str))
        rw [List.map_append]
        rfl
      have lB : ((R0 y :: ((MM y).take k' ++ [x])).map V.str).length ≤ 21 := by
        rw [List.length_map, List.length_cons, List.length_append, List.length_take]
        have := l19
        rw [List.length_cons] at this
        show min k' _ + 1 + 1 ≤ 21
        omega
      have lC : (((MM y).drop k').map V.str).length ≤ 19 := by
        rw [List.length_map, List.length_drop]
        have := l19
        rw [List.length_cons] at this
        omega
      refine ⟨A3, A4, _, _, rfl, rfl, hf', hg', (by omega), fun A5 Hh sh nh hh => ?_⟩
      have hh' : Hh A5 = some (.lst ((R0 y :: ((MM y).take k' ++ x :: (MM y).drop k')).map V.str)) := by
        rw [hh, ← List.map_append, List.cons_append, List.append_assoc]
        rfl
      have ax : ∀ z ∈ R0 y :: ((MM y).take k' ++ x :: (MM y).drop k'), z.length ≤ 4100 := fun z hz => by
        have mm : ∀ z ∈ MM y, z.length ≤ 4100 := fun z hz => Nat.le_trans (l136 z (List.mem_cons_of_mem _ hz)) (by decide)
        rcases List.mem_cons.mp hz with rfl | hz
        · exact Nat.le_trans (l136 _ (by simp)) (by decide)
        · rcases List.mem_append.mp hz with hz | hz
          · exact mm z (List.mem_of_mem_take hz)
          · rcases List.mem_cons.mp hz with rfl | hz
            · exact b4100 _ hxm
            · exact mm z (List.mem_of_mem_drop hz)
      have ln20 : (R0 y :: ((MM y).take k' ++ x :: (MM y).drop k')).length ≤ 20 := by
        rw [List.length_cons, List.length_append, List.length_take, List.length_cons, List.length_drop]
        have := l19
        rw [List.length_cons] at this
        omega
      have js := sum_le (n := 4100) ax
      have jl := join_le (y := nl1) (n := 4100) ax
      have em1 : nl1.length = 1 := by decide +kernel
      rw [em1] at jl
      have jl2 : (Str.join nl1 (R0 y :: ((MM y).take k' ++ x :: (MM y).drop k'))).length ≤ 20 * 4101 := Nat.le_trans jl (Nat.mul_le_mul_right _ ln20)
      refine ⟨_, A5, _, rfl, rfl, .inl (SqL.of hh'), ?_, ?_⟩
      · show _ + _ * nl1.length ≤ _
        rw [em1]
        have := Nat.mul_le_mul_right 4100 ln20
        omega
      rw [join_eq]
      refine ⟨_, _, rfl, rfl, (by rw [em1]; omega), ?_⟩
      rw [join_lines (by simp)]
      have ll : (linesT (R0 y :: ((MM y).take k' ++ x :: (MM y).drop k'))).length ≤ 100000 := by
        rw [← join_lines (by simp), app_len, em1]
        omega
      have nos : NoY (linesT (R0 y :: ((MM y).take k' ++ x :: (MM y).drop k'))) := fun y' ok' => by
        obtain ⟨ws, rfl, hw⟩ := badRows_ok x hxm
        exact ins_no ok ok' hn hw k'
      have bv : BadV Hh (.str (linesT (R0 y :: ((MM y).take k' ++ x :: (MM y).drop k')))) := badS nos ll
      refine ⟨_, rfl, bv.1, bv.2.1, bv.2.2, fun Hi si => ⟨_, rfl, iteF ?_⟩⟩
      have S := ((((sd.trans se).trans sf).trans sg).trans sh).trans si
      exact ⟨_, _, _, rfl, wc.same S, sabc.trans (SameB.of S)⟩
    rintro _ Ha ⟨v7, v8, v9, rfl, wa, sa⟩
    have hRa := sa _ _ hR9 nRb
    have hqa := sa _ _ hq9 nqb
    refine ⟨⟨_, rfl⟩, _, rfl, 1, rfl, Rw, _, rfl, SqL.of hRa, fun A1 Hb' sb' nb' hb' => ?_⟩
    have hb1 : Hb' A1 = some (.lst ((MM y).map V.str)) := by
      rw [hb']
      show some (HO.lst (cutV ((R0 y :: MM y).map V.str) (some ((1 : Nat) : Int)) none)) = _
      rw [cut_from]
      rfl
    have mm : ∀ z ∈ MM y, z.length ≤ 136 := fun z hz => l136 z (List.mem_cons_of_mem _ hz)
    have lm : (MM y).length ≤ 18 := by
      rw [List.length_cons] at l19
      omega
    have js := sum_le (n := 136) mm
    have em1 : nl1.length = 1 := by decide +kernel
    have jl := join_le (y := nl1) (n := 136) mm
    rw [em1] at jl
    have jl2 := Nat.mul_le_mul_right 137 lm
    refine ⟨_, A1, _, rfl, rfl, .inl (SqL.of hb1), ?_, ?_⟩
    · show _ + _ * nl1.length ≤ _
      rw [em1]
      have := Nat.mul_le_mul_right 136 lm
      omega
    rw [join_eq]
    refine ⟨_, _, rfl, rfl, (by rw [em1]; omega), ?_⟩
    rw [join_lines (mid_ne ok)]
    have lrest : (linesT (MM y)).length ≤ 3000 := by
      rw [← join_lines (mid_ne ok), app_len, em1]
      show (Str.join nl1 (MM y)).length + 1 ≤ 3000
      omega
    have ec : cutS (ytext y) none (some (-1)) = Str.join nl1 (R0 y :: MM y) := cutS_last (tl_ytext y)
    have lc : (Str.join nl1 (R0 y :: MM y)).length ≤ 2603 := by
      rw [← ec]
      exact Nat.le_trans (cutS_length _ _ _) lt
    refine ⟨fun σ' H' => ∃ v7 v8 v9 S2 vs, σ' = [some (.ref a), some (.int c), some (.ref b), some (.ref q), some (.str (ytext y)), some (.ref Rw), some (.ref S2), v7, v8, v9, some (.str (linesT (MM y)))] ∧ Same Ha H' ∧ H' S2 = some (.lst vs) ∧ vs.length ≤ 100 ∧ ∀ v ∈ vs, BadV H' v, ?_, ?_⟩
    · refine ⟨_, rfl, q, _, 0, .int y.days, rfl, rfl, SqL.of (sb' _ _ hqa), rfl, _, rfl, y.days, _, rfl, dd.1, dd.2, Nat.le_trans lrest (by decide), fun B1 Hc sc nc hc => ?_⟩
      refine ⟨_, rfl, (by show 1 ≤ sizeLine; omega), fun B2 Hd sd nd hd => ?_⟩
      refine ⟨_, rfl, (by show 1 ≤ sizeLine; omega), fun B3 He se ne he => ?_⟩
      refine fun B4 nB4 => ?_
      have sf : Same He (upd He B4 (.dK [])) := same_new nB4
      have hf : upd He B4 (.dK []) B4 = some (.dK []) := upd_same
      generalize upd He B4 (.dK []) = Hf at sf hf
      refine ⟨_, rfl, _, rfl, 1, rfl, -1, rfl, _, rfl, (by omega), ?_⟩
      rw [ec]
      refine ⟨_, rfl, _, _, rfl, rfl, sz_app2 lt lnl (by decide), (by show 10 ≤ sizeLine; omega), fun B5 Hg sg ng hg => ?_⟩
      have S1 := sc.trans (sd.trans (se.trans (sf.trans sg)))
      refine ⟨B1, B5, _, _, rfl, rfl, (sd.trans (se.trans (sf.trans sg))) _ _ hc, hg, (by show _ + 10 ≤ sizeLine; rw [List.length_map]; show 18 + 10 ≤ _; omega), fun B6 Hh sh nh hh => ?_⟩
      refine ⟨_, _, _, B6, _, rfl, sb'.trans (S1.trans sh), hh, (by rw [List.length_append, List.length_map]; show 18 + 10 ≤ 100; omega), ?_⟩
      intro v hv
      rcases List.mem_append.mp hv with hv | hv
      · obtain ⟨x, hx, rfl⟩ := List.mem_map.mp hv
        unfold hdAll at hx
        obtain ⟨r, hr', rfl⟩ := List.mem_map.mp hx
        refine badS (no_hd ok r hr') ?_
        have := hd_le dd r hr'
        rw [app_len, app_len, em1]
        show r.length + 1 + (linesT (MM y)).length ≤ _
        omega
      · simp only [List.mem_cons, List.not_mem_nil, or_false] at hv
        rcases hv with rfl | rfl | rfl | rfl | rfl | rfl | rfl | rfl | rfl | rfl
        · exact ⟨.non, (fun x e => nomatch e), fun y _ e => nomatch e⟩
        · exact ⟨.int _, (fun x e => nomatch e), fun y _ e => nomatch e⟩
        · exact ⟨.bl _, (fun x e => nomatch e), fun y _ e => nomatch e⟩
        · exact ⟨.lst (sh _ _ (sg _ _ (sf _ _ (se _ _ hd)))), (fun x e => nomatch e), fun y _ e => nomatch e⟩
        · exact ⟨.tup (sh _ _ (sg _ _ (sf _ _ he))), (fun x e => nomatch e), fun y _ e => nomatch e⟩
        · exact ⟨.dct (sh _ _ (sg _ _ hf)), (fun x e => nomatch e), fun y _ e => nomatch e⟩
        · exact ⟨.lst ((S1.trans sh) _ _ (sb' _ _ hRa)), (fun x e => nomatch e), fun y _ e => nomatch e⟩
        · exact badS no_em (by decide)
        · exact badS (no_cut ok) (by omega)
        · exact badS (no_nl ok) (by rw [app_len, em1]; omega)
    rintro _ Hx ⟨v7', v8', v9', S2, vs, rfl, sx, hS2, lvs, bvs⟩
    have lsp : (" " : Str).length ≤ 1 := by decide +kernel
    have hRx := sx _ _ hRa
    have l0 := l136 (R0 y) (by simp)
    refine ⟨fun σ' H' => ∃ v7 v8 v9 S2 vs, σ' = [some (.ref a), some (.int c), some (.ref b), some (.ref q), some (.str (ytext y)), some (.ref Rw), some (.ref S2), v7, v8, v9, some (.str (linesT (MM y)))] ∧ Same Ha H' ∧ H' S2 = some (.lst vs) ∧ vs.length ≤ 200 ∧ ∀ v ∈ vs, BadV H' v, ?_, ?_⟩
    · refine ⟨_, rfl, _, rfl, _, _, rfl, rfl, sz_app2 lnl lt (by decide), _, rfl, _, _, rfl, rfl, sz_app2 lsp lt (by decide), _, rfl, _, _, rfl, rfl, sz_app2 lt lsp (by decide), _, rfl, _, rfl, Rw, _, 0, .str (R0 y), rfl, rfl, SqL.of hRx, (show atI (V.str (R0 y) :: (MM y).map V.str) ((0 : Nat) : Int) = _ from atI_nat rfl), _, _, rfl, rfl, sz_app2 l0 lnl (by decide), _, rfl, _, rfl, _, _, rfl, rfl, sz_app2 lt lt (by decide), (by show 6 ≤ sizeLine; omega), fun B5 Hg sg ng hg => ?_⟩
      refine ⟨S2, B5, _, _, rfl, rfl, sg _ _ hS2, hg, (by show _ + 6 ≤ sizeLine; omega), fun B6 Hh sh nh hh => ?_⟩
      refine ⟨_, _, _, B6, _, rfl, sx.trans (sg.trans sh), hh, (by rw [List.length_append]; show _ + 6 ≤ 200; omega), ?_⟩
      intro v hv
      rcases List.mem_append.mp hv with hv | hv
      · exact (bvs v hv).same (sg.trans sh)
      · simp only [List.mem_cons, List.not_mem_nil, or_false] at hv
        rcases hv with rfl | rfl | rfl | rfl | rfl | rfl
        · exact badS (no_nl0 ok) (by rw [app_len, em1]; omega)
        · exact badS (no_sp0 ok) (by rw [app_len]; have : sp1.length ≤ 1 := lsp; omega)
        · exact badS (no_sp ok) (by rw [app_len]; have : sp1.length ≤ 1 := lsp; omega)
        · exact badS (no_rest ok) (Nat.le_trans lrest (by decide))
        · exact badS (no_first ok) (by rw [app_len, em1]; omega)
        · exact badS (no_two ok) (by rw [app_len]; omega)
    clear bvs lvs hS2 sx vs hRx
    clear S2 Hx
    rintro _ Hx ⟨v7', v8', v9', S2, vs, rfl, sx, hS2, lvs, bvs⟩
    refine ⟨fun σ' H' => ∃ v7 v8 v9 S2 vs, σ' = [some (.ref a), some (.int c), some (.ref b), some (.ref q), some (.str (ytext y)), some (.ref Rw), some (.ref S2), v7, v8, v9, some (.str (linesT (MM y)))] ∧ Same Ha H' ∧ H' S2 = some (.lst vs) ∧ vs.length ≤ 300 ∧ ∀ v ∈ vs, BadV H' v, ?_, ?_⟩
    · refine ⟨_, rfl, _, rfl, 1, rfl, -1, rfl, _, rfl, (by omega), ?_⟩
      rw [ec]
      refine ⟨_, _, rfl, rfl, sz_app2 lc (show (" \n" : Str).length ≤ 2 by decide +kernel) (by decide), (by show 1 ≤ sizeLine; omega), fun B5 Hg sg ng hg => ?_⟩
      refine ⟨S2, B5, _, _, rfl, rfl, sg _ _ hS2, hg, (by show _ + 1 ≤ sizeLine; omega), fun B6 Hh sh nh hh => ?_⟩
      refine ⟨_, _, _, B6, _, rfl, sx.trans (sg.trans sh), hh, (by rw [List.length_append]; show _ + 1 ≤ 300; omega), ?_⟩
      intro v hv
      rcases List.mem_append.mp hv with hv | hv
      · exact (bvs v hv).same (sg.trans sh)
      · rw [List.mem_singleton.mp hv]
        exact badS (no_blank ok) (by rw [app_len, show (" \n" : Str).length = 2 by decide +kernel]; omega)
    clear bvs lvs hS2 sx vs
    clear S2 Hx
    rintro _ Hx ⟨v7', v8', v9', S2, vs, rfl, sx, hS2, lvs, bvs⟩
    refine ⟨fun σ' H' => ∃ v7 v8 v9, σ' = [some (.ref a), some (.int c), some (.ref b), some (.ref q), some (.str (ytext y)), some (.ref Rw), some (.ref S2), v7, v8, v9, some (.str (linesT (MM y)))] ∧ Same Ha H', ?_, ?_⟩
    · refine ⟨_, rfl, S2, _, rfl, .inl (SqL.of hS2), _, rfl, (by omega), (by omega), for_range (lo := 0) (n := vs.length) (fun i σ' H' => ∃ v7 v8 v9, σ' = [some (.ref a), some (.int c), some (.ref b), some (.ref q), some (.str (ytext y)), some (.ref Rw), some (.ref S2), v7, v8, v9, some (.str (linesT (MM y)))] ∧ Same Hx H') ⟨_, _, _, rfl, Same.refl _⟩ ?_ ?_⟩
      · rintro i σ Hy hi ⟨u7, u8, u9, rfl, sy⟩
        obtain ⟨v, hv⟩ : ∃ v, vs[i]? = some v := ⟨_, List.getElem?_eq_getElem hi⟩
        have bv := (bvs v (List.mem_of_getElem? hv)).same sy
        refine ⟨_, rfl, _, rfl, S2, _, _, v, rfl, rfl, SqL.of (sy _ _ hS2), ?_, v, rfl, bv.1, bv.2.1, bv.2.2, fun Hi si => ⟨_, rfl, iteF ⟨_, _, _, rfl, sy.trans si⟩⟩⟩
        rw [Int.zero_add]
        exact atI_nat hv
      · rintro σ Hy ⟨u7, u8, u9, rfl, sy⟩
        exact ⟨_, _, _, rfl, sx.trans sy⟩
    clear bvs lvs hS2 sx vs
    clear Hx
    rintro _ Hx ⟨v7', v8', v9', rfl, sx⟩
    refine ⟨_, rfl, y, rfl, ok, fun Y H16 s16 hy => ?_⟩
    have hY : YearAt C [] H16 Y y := hy [] (fun a z => nomatch z)
    refine ⟨Y, y, rfl, hY, ok, fun He se => ⟨_, rfl, rfl, _, rfl, ?_⟩⟩
    show if (!decide (V.str (ytext y) = V.str (ytext y))) = true then _ else _
    rw [decide_eq_true rfl]
    refine iteF ⟨_, _, _, _, _, _, _, _, _, _, rfl, ?_⟩
    intro p' o' ho'
    have h4 := s4 _ _ ho'
    have nb2 : p' ≠ b := ne_of_none h4 nb
    exact (sx.trans (s16.trans se)) _ _ (sa _ _ (s9 _ _ (S58 _ _ (s5 _ _ (sb _ _ h4) nb2)) nb2) nb2)

end
end KP
/-! a head by facts: the top is run once in the kernel, nothing of it is written out -/
namespace KH
open PySem PySem.Spec PyProof.Rows L2 He
/-- a list in hand before it is used -/
def fcL {α β : Type} (l : List α) (k : List α → β) : β := match l with
  | [] => k []
  | x :: r => fcL r fun r' => k (x :: r')
theorem fcL_eq {α β : Type} : ∀ (l : List α) (k : List α → β), fcL l k = k l
  | [], _ => rfl
  | x :: r, k => by
    show fcL r (fun r' => k (x :: r')) = _
    rw [fcL_eq r]
abbrev Xf : Type := PySem.W.Frag → Bool
def defB (K : PySem.W.Frag) (d : FnD) : Bool := (Fa.code d.at_ d.qual).ok K && (PySem.W.keepIn K (.ref (fAd K d.at_)) && (match d.at_.2 with
  | none => eqO (PySem.W.nsIn K mainGlobals d.at_.1) (some (some (.ref (fAd K d.at_))))
  | some m => eqO (PySem.W.findIn K (.ref (ga K d.at_.1)) m) (some (some (.ref (fAd K d.at_)))) && PySem.W.isFn K (.ref (fAd K d.at_))))
abbrev AlX : Type := Bool × List FnV
def obsX (fa : List Fa) (xs : List Xf) (fn : List FnD) (K : PySem.W.Frag) : AlX := ((fa.all fun f => f.ok K) && ((xs.all fun f => f K) && fn.all fun d => defB K d), fn.map fun d => fnObs K d.at_)
def valX (fn : List FnD) : AlX := (true, fn.map FnD.val)
def SaysX (fa : List Fa) (xs : List Xf) (fn : List FnD) (K : PySem.W.Frag) : Prop := obsX fa xs fn K = valX fn
def obsXG (as : List Addr) (fa : List Fa) (xs : List Xf) (fn : List FnD) (g : Addr → Option Obj) : AlX := fcL (frG g as) (obsX fa xs fn)
def hookX (as : List Addr) (fa : List Fa) (xs : List Xf) (fn : List FnD) : PySem.W.Hook where
  α := AlX
  obs := fun s => obsXG as fa xs fn s.heap.get?
  val := fun _ => valX fn
  says := fun _ h => ∃ K : PySem.W.Frag, K.In h ∧ SaysX fa xs fn K
  of := fun _ _ e => ⟨_, frG_in, (fcL_eq _ (obsX fa xs fn)).symm.trans e⟩
  keeps := fun _ _ _ ⟨K, hK, c⟩ k => ⟨K, PySem.W.Frag.In.keeps hK k, c⟩
theorem obsXG_eq {as : List Addr} {fa : List Fa} {xs : List Xf} {fn : List FnD} {g : Addr → Option Obj} {s : Shared} (h : ∀ a, g a = s.heap.get? a) : obsXG as fa xs fn g = (hookX as fa xs fn).obs s := by
  have e : g = s.heap.get? := funext h
  rw [e] <;> rfl
section
variable {fa : List Fa} {xs : List Xf} {fn : List FnD} {K : PySem.W.Frag} {h : Heap} {mg : Str → Option Value}
theorem SaysX.all (c : SaysX fa xs fn K) : ((fa.all fun f => f.ok K) && ((xs.all fun f => f K) && fn.all fun d => defB K d)) = true := congrArg (fun z : AlX => z.1) c
theorem SaysX.fact (c : SaysX fa xs fn K) (i : Nat) {f : Fa} (h : fa[i]? = some f) : f.ok K = true := List.all_eq_true.mp (ba c.all).1 f (List.mem_of_getElem? h)
theorem SaysX.xf (c : SaysX fa xs fn K) (i : Nat) {f : Xf} (h : xs[i]? = some f) : f K = true := List.all_eq_true.mp (ba (ba c.all).2).1 f (List.mem_of_getElem? h)
theorem SaysX.de (c : SaysX fa xs fn K) (i : Nat) {d : FnD} (h : fn[i]? = some d) : defB K d = true := List.all_eq_true.mp (ba (ba c.all).2).2 d (List.mem_of_getElem? h)
theorem SaysX.def_ (c : SaysX fa xs fn K) (i : Nat) {d : FnD} (h : fn[i]? = some d) :
    ∃ oc od osl kV doc pm an cdv ct, K.lookup (fAd K d.at_) = some ⟨oc, od, .func (PySem.W.fnOf d.name d.qual d.params d.body d.scope .none kV doc pm an cdv ct), osl⟩ ∧ PySem.W.codeIn K cdv d.qual = true := by
  have e : fn.map (fun d => fnObs K d.at_) = fn.map FnD.val := congrArg (fun z : AlX => z.2) c
  have e2 : (fn.map fun d => fnObs K d.at_)[i]? = (fn.map FnD.val)[i]? := by rw [e]
  rw [List.getElem?_map, List.getElem?_map, h] at e2
  exact fn_ok (Option.some.inj e2) (ba (c.de i h)).1
theorem SaysX.keep (c : SaysX fa xs fn K) (i : Nat) {d : FnD} (h : fn[i]? = some d) : PySem.W.keepIn K (.ref (fAd K d.at_)) = true := (ba (ba (c.de i h)).2).1
def mkD (x : Str) (st : Stmt) : FnD := ⟨(x, none), x, x, defArgs st, defBody st, defScope st⟩
def mkM (C m q : Str) (st : Stmt) : FnD := ⟨(C, some m), m, q, defArgs st, defBody st, defScope st⟩
theorem SaysX.glo (c : SaysX fa xs fn K) (i : Nat) {x : Str} {st : Stmt} (h : fn[i]? = some (mkD x st)) : PySem.W.nsIn K mainGlobals x = some (some (.ref (ga K x))) := eqO_ok (ba (ba (c.de i h)).2).2
theorem SaysX.met (c : SaysX fa xs fn K) (i : Nat) {C m q : Str} {st : Stmt} (h : fn[i]? = some (mkM C m q st)) : PySem.W.findIn K (.ref (ga K C)) m = some (some (.ref (ma K (ga K C) m))) ∧ PySem.W.isFn K (.ref (ma K (ga K C) m)) = true := by
  obtain ⟨h1, h2⟩ := ba (ba (ba (c.de i h)).2).2
  exact ⟨eqO_ok h1, h2⟩
/-- a def of the top -/
theorem SaysX.fun_ (c : SaysX fa xs fn K) (i : Nat) {x : Str} {st : Stmt} (h : fn[i]? = some (mkD x st)) : ∃ kV dc pm an cd ct, Fun K x x st (ga K x) (PySem.W.fnOf x x (defArgs st) (defBody st) (defScope st) .none kV dc pm an cd ct) := by
  obtain ⟨oc, od, osl, kV, doc, pm, an, cdv, ct, l, cd⟩ := c.def_ i h
  exact ⟨kV, doc, pm, an, cdv, ct, fun_mk l cd (c.keep i h)⟩
theorem SaysX.funM (c : SaysX fa xs fn K) (i : Nat) {C m q : Str} {st : Stmt} (h : fn[i]? = some (mkM C m q st)) : ∃ kV dc pm an cd ct, Fun K m q st (ma K (ga K C) m) (PySem.W.fnOf m q (defArgs st) (defBody st) (defScope st) .none kV dc pm an cd ct) := by
  obtain ⟨oc, od, osl, kV, doc, pm, an, cdv, ct, l, cd⟩ := c.def_ i h
  exact ⟨kV, doc, pm, an, cdv, ct, fun_mk l cd (c.keep i h)⟩
theorem yes {a : Bool} (h : a = true) : a = true := h
/-- facts of one's own: an equation that can be decided -/
theorem SaysX.eq {α : Type} [DecidableEq α] (c : SaysX fa xs fn K) (i : Nat) {f g : PySem.W.Frag → α} (h : xs[i]? = some fun K => decide (f K = g K)) : f K = g K := of_decide_eq_true (c.xf i h)
end
end KH
set_option maxHeartbeats 0
namespace KP
open PySem PySem.Spec PyProof.Rows L2
/-- law itself -/
structure LawT (K : PySem.W.Frag) (mg : Str → Option Value) : Prop where
  ex : ∃ f fd, Fun K "law" "law" sLaw f fd ∧ mg "law" = some (.ref f) ∧ ∀ (s : Shared) (v : Value), BindsTo s fd ⟨[v], []⟩ [("_law_script", v)]
section
variable {fa : List He.Fa} {xs : List KH.Xf} {fn : List He.FnD} {K : PySem.W.Frag} {h : Heap} {mg : Str → Option Value}
theorem defX {x : Str} {st : Stmt} {ps : List Str} (X : K.In h) (G : h.Ns mainGlobals mg) (c : KH.SaysX fa xs fn K) (i : Nat) (e : fn[i]? = some (KH.mkD x st))
    (hb : ∀ (kV doc pm : Value) (an : Option Addr) (cdv ct : Value) (us : List Value), us.length = ps.length → bindArgs (PySem.W.fnOf x x (defArgs st) (defBody st) (defScope st) .none kV doc pm an cdv ct) ⟨us, []⟩ = pure (ps.zip us)) : DefT K mg x st ps := by
  obtain ⟨kV, dc, pm, an, cd, ct, F⟩ := c.fun_ i e
  exact ⟨_, _, F, F.binds hb, PySem.W.mg_of X G (c.glo i e)⟩
theorem lawX (X : K.In h) (G : h.Ns mainGlobals mg) (c : KH.SaysX fa xs fn K) (i : Nat) (e : fn[i]? = some (KH.mkD "law" sLaw)) : LawT K mg := by
  obtain ⟨kV, dc, pm, an, cd, ct, F⟩ := c.fun_ i e
  exact ⟨_, _, F, PySem.W.mg_of X G (c.glo i e), fun s v => .of_eq rfl⟩
theorem methX {C m q : Str} {st : Stmt} {ps : List Str} (c : KH.SaysX fa xs fn K) (i : Nat) (e : fn[i]? = some (KH.mkM C m q st))
    (hb : ∀ (kV doc pm : Value) (an : Option Addr) (cdv ct : Value) (us : List Value), us.length = ps.length → bindArgs (PySem.W.fnOf m q (defArgs st) (defBody st) (defScope st) .none kV doc pm an cdv ct) ⟨us, []⟩ = pure (ps.zip us)) : MethT K (He.ga K C) m q st ps := by
  obtain ⟨kV, dc, pm, an, cd, ct, F⟩ := c.funM i e
  exact ⟨_, _, ⟨(c.met i e).1, (c.met i e).2, c.keep i e⟩, F, F.binds hb⟩
theorem initX {C q : Str} {st : Stmt} {ps : List Str} (mk : (PySem.W.makesIn K (He.ga K C) && PySem.W.keepIn K (.ref (He.ga K C))) = true) (c : KH.SaysX fa xs fn K) (i : Nat) (e : fn[i]? = some (KH.mkM C "__init__" q st))
    (hb : ∀ (kV doc pm : Value) (an : Option Addr) (cdv ct : Value) (us : List Value), us.length = ps.length → bindArgs (PySem.W.fnOf "__init__" q (defArgs st) (defBody st) (defScope st) .none kV doc pm an cdv ct) ⟨us, []⟩ = pure (ps.zip us)) : InitT K (He.ga K C) q st ps := by
  obtain ⟨kV, dc, pm, an, cd, ct, F⟩ := c.funM i e
  exact ⟨_, _, ⟨(He.ba mk).1, (c.met i e).1, (c.met i e).2, (He.ba mk).2⟩, F, F.binds hb⟩
end
def hFa : List He.Fa := ([.free "isinstance",
  .free "bool",
  .free "int",
  .free "str",
  .free "tuple",
  .free "len",
  .free "all",
  .free "range",
  .str "LETTERS" letters,
  .int "MOST_LETTERS" 8,
  .free "list",
  .free "dict",
  .int "MOST_DAYS" 30,
  .int "MOST_HEADS" 8,
  .int "MOST_LIMITS" 6,
  .int "MOST_RULES" 4,
  .int "MOST_LIMIT" 1000000000000000,
  .int "MOST_WHOLE" 1000,
  .cls "Year",
  .glo "Year",
  .noat "Year" "days",
  .noat "Year" "heads",
  .noat "Year" "limits",
  .noat "Year" "rules",
  .str "FIGURES" figs,
  .int "MOST_FIGURES" 16,
  .exc "NoYear",
  .glo "NoYear",
  .exc "NoText",
  .glo "NoText"] : List He.Fa) ++ ([.glo "Full",
  .glo "Leaned",
  .glo "NoDay",
  .glo "NoHead",
  .glo "NoNumber",
  .glo "NoPromise",
  .glo "NoRow",
  .glo "NoEntry",
  .glo "Passed",
  .glo "Taken",
  .glo "PurseError",
  .free "ValueError"] : List He.Fa)
def hXs : List KH.Xf := ([fun K => decide (PySem.W.kitOne K (.ref (He.ga K "NoText")) (.ref (He.ga K "Full")) = some false),
  fun K => decide (PySem.W.kitOne K (.ref (He.ga K "NoText")) (.ref (He.ga K "Leaned")) = some false),
  fun K => decide (PySem.W.kitOne K (.ref (He.ga K "NoText")) (.ref (He.ga K "NoDay")) = some false),
  fun K => decide (PySem.W.kitOne K (.ref (He.ga K "NoText")) (.ref (He.ga K "NoYear")) = some false),
  fun K => decide (PySem.W.kitOne K (.ref (He.ga K "NoText")) (.ref (He.ga K "NoHead")) = some false),
  fun K => decide (PySem.W.kitOne K (.ref (He.ga K "NoText")) (.ref (He.ga K "NoNumber")) = some false),
  fun K => decide (PySem.W.kitOne K (.ref (He.ga K "NoText")) (.ref (He.ga K "NoPromise")) = some false),
  fun K => decide (PySem.W.kitOne K (.ref (He.ga K "NoText")) (.ref (He.ga K "NoRow")) = some false),
  fun K => decide (PySem.W.kitOne K (.ref (He.ga K "NoText")) (.ref (He.ga K "NoEntry")) = some false),
  fun K => decide (PySem.W.kitOne K (.ref (He.ga K "NoText")) (.ref (He.ga K "Passed")) = some false),
  fun K => decide (PySem.W.kitOne K (.ref (He.ga K "NoText")) (.ref (He.ga K "Taken")) = some false),
  fun K => decide (PySem.W.findIn K (.ref (He.ga K "Year")) "__class__" = some (some (.builtin "object.__class__"))),
  fun K => decide (PySem.W.specialIn K (.builtin "object.__class__") "__get__" = some (some (.builtin "getset_descriptor.__get__"))),
  fun K => decide (PySem.W.takesIn K (.builtin "object.__class__") = some true),
  fun K => decide (PySem.W.mroIn K (He.ga K "Year") (.type "object") = some true),
  fun K => PySem.W.makesIn K (He.ga K "Year") && PySem.W.keepIn K (.ref (He.ga K "Year")),
  fun K => decide (PySem.W.kitOne K (.ref (He.ga K "NoText")) (.type "ValueError") = some true),
  fun K => decide (PySem.W.findIn K (.ref (He.ga K "NoText")) "__getattribute__" = some (some (.builtin "BaseException.__getattribute__"))),
  fun K => decide (PySem.W.findIn K (.ref (He.ga K "NoText")) "__getattr__" = some none),
  fun K => decide (PySem.W.subIn K (.ref (He.ga K "NoText")) (.type "BaseException") = some true),
  fun K => PySem.W.hasDictIn K (He.ga K "NoText"),
  fun K => decide (PySem.W.findIn K (.ref (He.ga K "NoText")) "__class__" = some (some (.builtin "object.__class__"))),
  fun K => decide (PySem.W.mroIn K (He.ga K "NoText") (.type "object") = some true),
  fun K => decide (PySem.W.exmOne K (.ref (He.ga K "NoText")) (.ref (He.ga K "PurseError")) = some true),
  fun K => decide (PySem.W.exmOne K (.ref (He.ga K "NoYear")) (.ref (He.ga K "NoYear")) = some true),
  fun K => decide (PySem.W.exmOne K (.ref (He.ga K "NoText")) (.ref (He.ga K "NoYear")) = some false)] : List KH.Xf)
def hFn : List He.FnD := ([KH.mkM "Year" "__init__" "Year.__init__" sYI,
  KH.mkD "is_whole" sWhole,
  KH.mkD "is_word" sWord,
  KH.mkD "is_list" sList,
  KH.mkD "is_row" sRow,
  KH.mkD "are_heads" sHeadsP,
  KH.mkD "is_limit" sLimit,
  KH.mkD "is_rule" sRule,
  KH.mkD "is_at_most_one" sOne,
  KH.mkD "are_limits" sLimitsP,
  KH.mkD "are_rules" sRulesP,
  KH.mkD "_law_well" sWell,
  KH.mkD "_law_draw" sDraw,
  KH.mkD "_law_name" sName,
  KH.mkD "_law_names" sNames,
  KH.mkD "_law_heads" sLHeads,
  KH.mkD "_law_limits" sLLimits,
  KH.mkD "_law_rules" sLRules,
  KH.mkD "_law_parts" sLParts,
  KH.mkD "is_number" sNum,
  KH.mkD "read_field" sRf,
  KH.mkD "read_fields" sRfs,
  KH.mkD "rows_of" sRo2,
  KH.mkD "text_of" sTx,
  KH.mkD "head_row" sHr,
  KH.mkD "year_text" sYt,
  KH.mkD "year_of" sYo,
  KH.mkD "read_year" sRy,
  KH.mkD "_law_text" sLt,
  KH.mkD "_law_no_text" sNx] : List He.FnD) ++ ([KH.mkD "_law_rows_bad" sRb,
  KH.mkD "_law_heads_bad" sHb,
  KH.mkD "law" sLaw] : List He.FnD)
def hAs : List Addr := ([2,
  3,
  15,
  22,
  23,
  24,
  25,
  28,
  35,
  36,
  37,
  40,
  47,
  48,
  49,
  52,
  59,
  60,
  61,
  64,
  71,
  72,
  73,
  76,
  83,
  84,
  85,
  88,
  95,
  96,
  97,
  100,
  107,
  108,
  109,
  112,
  119,
  120,
  121,
  124] : List Addr) ++ ([131,
  132,
  133,
  136,
  143,
  144,
  145,
  148,
  155,
  157,
  158,
  160,
  161,
  162,
  163,
  164,
  167,
  174,
  176,
  177,
  179,
  180,
  181,
  182,
  183,
  186,
  188,
  189,
  191,
  192,
  193,
  196,
  197,
  198,
  200,
  201,
  203,
  204,
  205,
  207] : List Addr) ++ ([208,
  210,
  211,
  212,
  214,
  215,
  217,
  218,
  219,
  222,
  223,
  231,
  233,
  234,
  236,
  237,
  238,
  240,
  241,
  243,
  244,
  245,
  246,
  247,
  248,
  249,
  252,
  259,
  261,
  262,
  264,
  265,
  266,
  268,
  269,
  271,
  272,
  273,
  275,
  276] : List Addr) ++ ([278,
  279,
  280,
  281,
  282,
  285,
  292,
  294,
  295,
  297,
  298,
  299,
  301,
  302,
  304,
  305,
  306,
  308,
  309,
  311,
  312,
  313,
  314,
  315,
  318,
  325,
  327,
  328,
  330,
  331,
  332,
  334,
  335,
  337,
  338,
  339,
  341,
  342,
  344,
  345] : List Addr) ++ ([346,
  347,
  348,
  351,
  358,
  360,
  361,
  363,
  364,
  365,
  367,
  368,
  370,
  371,
  372,
  374,
  375,
  377,
  378,
  379,
  380,
  381,
  384,
  391,
  393,
  394,
  396,
  397,
  398,
  400,
  401,
  403,
  404,
  405,
  407,
  408,
  410,
  411,
  412,
  413] : List Addr) ++ ([414,
  417,
  424,
  426,
  427,
  429,
  430,
  431,
  433,
  434,
  436,
  437,
  438,
  440,
  441,
  443,
  444,
  445,
  446,
  447,
  450,
  457,
  459,
  460,
  462,
  463,
  464,
  466,
  467,
  469,
  470,
  471,
  473,
  474,
  476,
  477,
  478,
  479,
  480,
  483] : List Addr) ++ ([486,
  487,
  488,
  490,
  491,
  493,
  494,
  495,
  497,
  498,
  500,
  501,
  502,
  504,
  505,
  507,
  508,
  509,
  511,
  512,
  514,
  515,
  516,
  519,
  520,
  521,
  524,
  525,
  533,
  536,
  537,
  538,
  541,
  542,
  543,
  545,
  546,
  548,
  549,
  550] : List Addr) ++ ([552,
  553,
  555,
  556,
  557,
  560,
  561,
  562,
  563,
  564,
  565,
  566,
  569,
  572,
  573,
  574,
  576,
  577,
  579,
  580,
  581,
  584,
  585,
  586,
  588,
  589,
  591,
  592,
  593,
  596,
  597,
  598,
  600,
  601,
  603,
  604,
  605,
  608,
  609,
  610] : List Addr) ++ ([613,
  614,
  615,
  617,
  618,
  620,
  621,
  622,
  624,
  625,
  627,
  628,
  629,
  632,
  633,
  634,
  637,
  638,
  639,
  641,
  642,
  644,
  645,
  646,
  649,
  650,
  651,
  654,
  655,
  663,
  665,
  666,
  668,
  669,
  670,
  672,
  673,
  675,
  676,
  677] : List Addr) ++ ([680,
  681,
  682,
  685,
  686,
  687,
  689,
  690,
  692,
  693,
  694,
  696,
  697,
  699,
  700,
  701,
  703,
  704,
  706,
  707,
  708,
  710,
  711,
  713,
  714,
  715,
  718,
  719,
  720,
  722,
  723,
  725,
  726,
  727,
  729,
  730,
  732,
  733,
  734,
  737] : List Addr) ++ ([738,
  739,
  741,
  742,
  744,
  745] : List Addr)
def hNm : List Str := (["__name__",
  "PurseError",
  "NoYear",
  "NoHead",
  "NoEntry",
  "NoDay",
  "NoNumber",
  "NoPromise",
  "Taken",
  "Full",
  "NoText",
  "NoRow",
  "Passed",
  "Leaned",
  "__name__",
  "LETTERS",
  "MOST_LETTERS",
  "is_whole",
  "is_word",
  "is_note",
  "is_list",
  "is_row",
  "__name__",
  "MOST_COINS",
  "LEAST_UNTIL",
  "MOST_UNTIL",
  "check_fields",
  "Entry",
  "Give",
  "Hold"] : List Str) ++ (["Move",
  "Spend",
  "Promise",
  "Lessen",
  "Out",
  "read_entry",
  "__name__",
  "MOST_DAYS",
  "MOST_HEADS",
  "MOST_LIMITS",
  "MOST_RULES",
  "MOST_LIMIT",
  "MOST_WHOLE",
  "are_heads",
  "is_limit",
  "is_rule",
  "is_at_most_one",
  "are_limits",
  "are_rules",
  "Year",
  "__name__",
  "FIGURES",
  "MOST_FIGURES",
  "MOST_NUMBER",
  "NO_NOTE",
  "is_number",
  "read_field",
  "read_fields",
  "rows_of",
  "text_of"] : List Str) ++ (["head_row",
  "year_text",
  "year_of",
  "read_year",
  "number_text",
  "told_text",
  "line_text",
  "read_told",
  "read_line",
  "read_lines",
  "__name__",
  "_law_cell_at",
  "_law_well",
  "_law_draw",
  "_law_name",
  "_law_names",
  "_law_heads",
  "_law_limits",
  "_law_rules",
  "_law_parts",
  "_law_text",
  "_law_no_text",
  "_law_rows_bad",
  "_law_heads_bad"] : List Str)
abbrev hR : PySem.W.OpenRow := PySem.W.OpenLaw.row PySem.Challenge.rw_knotpurse_k82_no_year_as_text
abbrev hK : PySem.W.Hook := KH.hookX hAs hFa hXs hFn
def hOb (s : PySem.W.SharedT) : KH.AlX := KH.obsXG hAs hFa hXs hFn (HandSHeadRun.getT s)
theorem hOb_eq (s : PySem.W.SharedT) : hOb s = hK.obs s.abs := KH.obsXG_eq (HandSHeadRun.getT_eq s)
theorem hRun (w : World) : HandSHeadRun.RunEq hR (PySem.W.view hR.prog [84]) hK hOb 40000 hNm w := by
  intro os
  kernel_rfl
theorem hEnd {P : Program} {w : World} {K : PySem.W.Frag} {h : Heap} {mg : Str → Option Value} {f : Addr} (X : K.In h) (G : h.Ns mainGlobals mg) (hfa : mg ("law" : Str) = some (.ref f)) (c : KH.SaysX hFa hXs hFn K) :
    ∃ fd : FuncData, (∀ (s : Shared) (v : Value), BindsTo s fd ⟨[v], []⟩ [("_law_script", v)]) ∧ ∀ base : Heap, K.In base → base.Ns mainGlobals mg → FnOk P w K mg base CX0 9 f fd ["_law_script"] (spLaw K) := by
  obtain ⟨f', fd, F, hm, hb⟩ := ((lawX X G c 32 rfl) : LawT K mg).ex
  have ef : f = f' := by
    have e := hfa.symm.trans hm
    injection e with e
    injection e
  subst ef
  refine ⟨fd, hb, fun base _ _ => ?_⟩
  have B : Base K mg := ⟨(He.free_ok X G (c.fact 0 rfl)), (He.free_ok X G (c.fact 1 rfl)), (He.free_ok X G (c.fact 2 rfl)), (He.free_ok X G (c.fact 3 rfl)), (He.free_ok X G (c.fact 4 rfl)), (He.free_ok X G (c.fact 5 rfl)), (He.free_ok X G (c.fact 6 rfl)), (He.free_ok X G (c.fact 7 rfl)), (He.str_ok X G (c.fact 8 rfl)), (He.int_ok X G (c.fact 9 rfl)), (He.free_ok X G (c.fact 10 rfl)), (He.free_ok X G (c.fact 11 rfl)), (He.int_ok X G (c.fact 12 rfl)), (He.int_ok X G (c.fact 13 rfl)), (He.int_ok X G (c.fact 14 rfl)), (He.int_ok X G (c.fact 15 rfl)), (He.int_ok X G (c.fact 16 rfl)), (He.int_ok X G (c.fact 17 rfl))⟩
  have T : YearF K mg (He.ga K "Year") := ⟨(He.cls_ok (c.fact 18 rfl)), (He.glo_ok X G (c.fact 19 rfl)), (He.noat_ok (c.fact 20 rfl)), (He.noat_ok (c.fact 21 rfl)), (He.noat_ok (c.fact 22 rfl)), (He.noat_ok (c.fact 23 rfl))⟩
  have TB : TextB K mg := ⟨(He.str_ok X G (c.fact 24 rfl)), (He.int_ok X G (c.fact 25 rfl))⟩
  have YI : YearI K (He.ga K "Year") := ⟨(of_decide_eq_true (c.xf 11 rfl)), (of_decide_eq_true (c.xf 12 rfl)), (of_decide_eq_true (c.xf 13 rfl)), (of_decide_eq_true (c.xf 14 rfl))⟩
  have Ny : ErrF K mg "NoYear" (He.ga K "NoYear") := ⟨(He.glo_ok X G (c.fact 27 rfl)), (He.exc_ok (c.fact 26 rfl)).1, (He.exc_ok (c.fact 26 rfl)).2.1, (He.exc_ok (c.fact 26 rfl)).2.2.1, (He.exc_ok (c.fact 26 rfl)).2.2.2⟩
  have Nt : ErrF K mg "NoText" (He.ga K "NoText") := ⟨(He.glo_ok X G (c.fact 29 rfl)), (He.exc_ok (c.fact 28 rfl)).1, (He.exc_ok (c.fact 28 rfl)).2.1, (He.exc_ok (c.fact 28 rfl)).2.2.1, (He.exc_ok (c.fact 28 rfl)).2.2.2⟩
  have yi : InitT K (He.ga K "Year") "Year.__init__" sYI ["self", "days", "heads", "limits", "rules"] := (initX (c.xf 15 rfl) c 0 rfl (fun _ _ _ _ _ _ us hl => match us, hl with | [_, _, _, _, _], _ => rfl))
  have kitA : ∀ i < 11, PySem.W.kitOne K (.ref (He.ga K "NoText")) (.ref ((fun i => match i with | 0 => (He.ga K "Full") | 1 => (He.ga K "Leaned") | 2 => (He.ga K "NoDay") | 3 => (He.ga K "NoYear") | 4 => (He.ga K "NoHead") | 5 => (He.ga K "NoNumber") | 6 => (He.ga K "NoPromise") | 7 => (He.ga K "NoRow") | 8 => (He.ga K "NoEntry") | 9 => (He.ga K "Passed") | _ => (He.ga K "Taken")) i)) = some false := fun i hi => match i, hi with
    | 0, _ => (of_decide_eq_true (c.xf 0 rfl))
    | 1, _ => (of_decide_eq_true (c.xf 1 rfl))
    | 2, _ => (of_decide_eq_true (c.xf 2 rfl))
    | 3, _ => (of_decide_eq_true (c.xf 3 rfl))
    | 4, _ => (of_decide_eq_true (c.xf 4 rfl))
    | 5, _ => (of_decide_eq_true (c.xf 5 rfl))
    | 6, _ => (of_decide_eq_true (c.xf 6 rfl))
    | 7, _ => (of_decide_eq_true (c.xf 7 rfl))
    | 8, _ => (of_decide_eq_true (c.xf 8 rfl))
    | 9, _ => (of_decide_eq_true (c.xf 9 rfl))
    | 10, _ => (of_decide_eq_true (c.xf 10 rfl))
  have Er : ErrT K mg (He.ga K "NoText") (He.ga K "PurseError") (fun i => match i with | 0 => (He.ga K "Full") | 1 => (He.ga K "Leaned") | 2 => (He.ga K "NoDay") | 3 => (He.ga K "NoYear") | 4 => (He.ga K "NoHead") | 5 => (He.ga K "NoNumber") | 6 => (He.ga K "NoPromise") | 7 => (He.ga K "NoRow") | 8 => (He.ga K "NoEntry") | 9 => (He.ga K "Passed") | _ => (He.ga K "Taken")) := ⟨(He.glo_ok X G (c.fact 30 rfl)), (He.glo_ok X G (c.fact 31 rfl)), (He.glo_ok X G (c.fact 32 rfl)), (He.glo_ok X G (c.fact 27 rfl)), (He.glo_ok X G (c.fact 33 rfl)), (He.glo_ok X G (c.fact 34 rfl)), (He.glo_ok X G (c.fact 35 rfl)), (He.glo_ok X G (c.fact 36 rfl)), (He.glo_ok X G (c.fact 37 rfl)), (He.glo_ok X G (c.fact 38 rfl)), (He.glo_ok X G (c.fact 39 rfl)), kitA, kit_self, (of_decide_eq_true (c.xf 16 rfl)), ⟨(of_decide_eq_true (c.xf 17 rfl)), (of_decide_eq_true (c.xf 18 rfl)), (of_decide_eq_true (c.xf 19 rfl)), (c.xf 20 rfl), (of_decide_eq_true (c.xf 21 rfl)), (of_decide_eq_true (c.xf 12 rfl)), (of_decide_eq_true (c.xf 13 rfl)), (of_decide_eq_true (c.xf 22 rfl))⟩, (He.glo_ok X G (c.fact 40 rfl)), (of_decide_eq_true (c.xf 23 rfl)), (He.free_ok X G (c.fact 41 rfl))⟩
  have eY := (of_decide_eq_true (c.xf 24 rfl))
  have eT := (of_decide_eq_true (c.xf 25 rfl))
  have kWh : Cal P w K mg base 1 "is_whole" spWhole := c_whole B (defX X G c 1 rfl (fun _ _ _ _ _ _ us hl => match us, hl with | [_, _, _], _ => rfl))
  have kWo : Cal P w K mg base 1 "is_word" spWord := c_word B (defX X G c 2 rfl (fun _ _ _ _ _ _ us hl => match us, hl with | [_], _ => rfl))
  have kLs : Cal P w K mg base 1 "is_list" spList := c_list B (defX X G c 3 rfl (fun _ _ _ _ _ _ us hl => match us, hl with | [_, _, _], _ => rfl))
  have kRo : Cal P w K mg base 1 "is_row" spRow := c_row B (defX X G c 4 rfl (fun _ _ _ _ _ _ us hl => match us, hl with | [_, _], _ => rfl))
  have kHs : Cal P w K mg base 2 "are_heads" spHeadsP := c_headsP B kLs kRo kWo (defX X G c 5 rfl (fun _ _ _ _ _ _ us hl => match us, hl with | [_], _ => rfl))
  have kLi : Cal P w K mg base 2 "is_limit" spLimit := c_limit B kRo kWh (defX X G c 6 rfl (fun _ _ _ _ _ _ us hl => match us, hl with | [_, _, _], _ => rfl))
  have kRu : Cal P w K mg base 2 "is_rule" spRule := c_rule B kRo kWh (defX X G c 7 rfl (fun _ _ _ _ _ _ us hl => match us, hl with | [_, _, _], _ => rfl))
  have kOn : Cal P w K mg base 1 "is_at_most_one" spOne := c_one (defX X G c 8 rfl (fun _ _ _ _ _ _ us hl => match us, hl with | [_, _], _ => rfl))
  have kLs2 : Cal P w K mg base 3 "are_limits" spLimitsP := c_limitsP B kLs kLi (defX X G c 9 rfl (fun _ _ _ _ _ _ us hl => match us, hl with | [_, _, _], _ => rfl))
  have kRs2 : Cal P w K mg base 3 "are_rules" spRulesP := c_rulesP B kLs kRu kOn (defX X G c 10 rfl (fun _ _ _ _ _ _ us hl => match us, hl with | [_, _, _], _ => rfl))
  have kY : MakT P w K mg base 4 "Year" (He.ga K "Year") (spYear (He.ga K "Year")) := c_year B T kWh kHs kLs2 kRs2 yi
  have kWl : Cal P w K mg base 1 "_law_well" spWell := c_well B (defX X G c 11 rfl (fun _ _ _ _ _ _ us hl => match us, hl with | [_], _ => rfl))
  have kDr : Cal P w K mg base 1 "_law_draw" spDraw := c_draw (defX X G c 12 rfl (fun _ _ _ _ _ _ us hl => match us, hl with | [_, _], _ => rfl))
  have kNm : Cal P w K mg base 2 "_law_name" spName := c_name B kDr (defX X G c 13 rfl (fun _ _ _ _ _ _ us hl => match us, hl with | [_], _ => rfl))
  have kNs : Cal P w K mg base 3 "_law_names" spNames := c_names B kDr kNm (defX X G c 14 rfl (fun _ _ _ _ _ _ us hl => match us, hl with | [_, _], _ => rfl))
  have kLH : Cal P w K mg base 4 "_law_heads" spLHeads := c_lheads B kDr kNs (defX X G c 15 rfl (fun _ _ _ _ _ _ us hl => match us, hl with | [_], _ => rfl))
  have kLL : Cal P w K mg base 2 "_law_limits" spLLimits := c_llimits B kDr (defX X G c 16 rfl (fun _ _ _ _ _ _ us hl => match us, hl with | [_, _, _], _ => rfl))
  have kLR : Cal P w K mg base 2 "_law_rules" spLRules := c_lrules B kDr (defX X G c 17 rfl (fun _ _ _ _ _ _ us hl => match us, hl with | [_, _, _], _ => rfl))
  have kP : Cal P w K mg base 5 "_law_parts" spLParts := c_lparts kDr kLH kLL kLR (defX X G c 18 rfl (fun _ _ _ _ _ _ us hl => match us, hl with | [_], _ => rfl))
  have vWh : Cal P w K mg base 1 "is_whole" spWholeV := c_wholeV B (defX X G c 1 rfl (fun _ _ _ _ _ _ us hl => match us, hl with | [_, _, _], _ => rfl))
  have vWo : Cal P w K mg base 1 "is_word" spWordV := c_wordV B (defX X G c 2 rfl (fun _ _ _ _ _ _ us hl => match us, hl with | [_], _ => rfl))
  have vLs : Cal P w K mg base 1 "is_list" spListV := c_listV B (defX X G c 3 rfl (fun _ _ _ _ _ _ us hl => match us, hl with | [_, _, _], _ => rfl))
  have vRo : Cal P w K mg base 1 "is_row" spRowV := c_rowV B (defX X G c 4 rfl (fun _ _ _ _ _ _ us hl => match us, hl with | [_, _], _ => rfl))
  have vHs : Cal P w K mg base 2 "are_heads" spHeadsV := c_headsV B vLs vRo vWo (defX X G c 5 rfl (fun _ _ _ _ _ _ us hl => match us, hl with | [_], _ => rfl))
  have vLi : Cal P w K mg base 2 "is_limit" spLimitV := c_limitV B vRo vWh (defX X G c 6 rfl (fun _ _ _ _ _ _ us hl => match us, hl with | [_, _, _], _ => rfl))
  have vRu : Cal P w K mg base 2 "is_rule" spRuleV := c_ruleV B vRo vWh (defX X G c 7 rfl (fun _ _ _ _ _ _ us hl => match us, hl with | [_, _, _], _ => rfl))
  have vOn : Cal P w K mg base 1 "is_at_most_one" spOneV := c_oneV (defX X G c 8 rfl (fun _ _ _ _ _ _ us hl => match us, hl with | [_, _], _ => rfl))
  have vLm : Cal P w K mg base 3 "are_limits" spLimitsV := c_limitsV B vLs vLi (defX X G c 9 rfl (fun _ _ _ _ _ _ us hl => match us, hl with | [_, _, _], _ => rfl))
  have vRl : Cal P w K mg base 3 "are_rules" spRulesV := c_rulesV B vLs vRu vOn (defX X G c 10 rfl (fun _ _ _ _ _ _ us hl => match us, hl with | [_, _, _], _ => rfl))
  have yN : MakN P w K mg base 4 "Year" (He.ga K "Year") (spYearB (He.ga K "Year") (He.ga K "NoYear")) := c_yearN B T Ny vWh vHs vLm vRl yi
  have kNu : Cal P w K mg base 1 "is_number" spNum := c_num B TB (defX X G c 19 rfl (fun _ _ _ _ _ _ us hl => match us, hl with | [_], _ => rfl))
  have kRf : Cal P w K mg base 2 "read_field" spRf := c_rf B kNu (defX X G c 20 rfl (fun _ _ _ _ _ _ us hl => match us, hl with | [_], _ => rfl))
  have kRfs : Cal P w K mg base 3 "read_fields" spRfs := c_rfs B kRf (defX X G c 21 rfl (fun _ _ _ _ _ _ us hl => match us, hl with | [_], _ => rfl))
  have kRo2 : Cal P w K mg base 1 "rows_of" spRo2 := c_ro2 B (defX X G c 22 rfl (fun _ _ _ _ _ _ us hl => match us, hl with | [_], _ => rfl))
  have kTx : Cal P w K mg base 1 "text_of" spTx := c_tx B (defX X G c 23 rfl (fun _ _ _ _ _ _ us hl => match us, hl with | [_], _ => rfl))
  have kHr : Cal P w K mg base 1 "head_row" spHr := c_hr (defX X G c 24 rfl (fun _ _ _ _ _ _ us hl => match us, hl with | [_, _], _ => rfl))
  have kYt : Cal P w K mg base 2 "year_text" (spYt (He.ga K "Year")) := c_yt B T YI kTx kHr (defX X G c 25 rfl (fun _ _ _ _ _ _ us hl => match us, hl with | [_], _ => rfl))
  have kYo : Cal P w K mg base 6 "year_of" (spYo (He.ga K "Year")) := c_yo B kRf kRfs kY (defX X G c 26 rfl (fun _ _ _ _ _ _ us hl => match us, hl with | [_], _ => rfl))
  have kRy : Cal P w K mg base 7 "read_year" (spRy (He.ga K "Year")) := c_ry kYo kRo2 kYt (defX X G c 27 rfl (fun _ _ _ _ _ _ us hl => match us, hl with | [_], _ => rfl))
  have nRo : CalN P w K mg base 1 "rows_of" (spRo3 (He.ga K "NoText")) := c_ro3 B Nt (defX X G c 22 rfl (fun _ _ _ _ _ _ us hl => match us, hl with | [_], _ => rfl))
  have nYo : CalN P w K mg base 6 "year_of" (spYo3 (He.ga K "Year") (He.ga K "NoText") (He.ga K "NoYear")) := c_yo3 B Nt kRf kRfs kY yN (defX X G c 26 rfl (fun _ _ _ _ _ _ us hl => match us, hl with | [_], _ => rfl))
  have nRy : CalX P w K mg base 7 "read_year" (spRyB (He.ga K "NoText")) := c_ryB Nt Ny eY eT nRo nYo kYt (defX X G c 27 rfl (fun _ _ _ _ _ _ us hl => match us, hl with | [_], _ => rfl))
  have kLt : Cal P w K mg base 1 "_law_text" spLt := c_lt B (defX X G c 28 rfl (fun _ _ _ _ _ _ us hl => match us, hl with | [_], _ => rfl))
  have kNx : Cal P w K mg base 8 "_law_no_text" spNx := c_nx B Nt Er nRy (defX X G c 29 rfl (fun _ _ _ _ _ _ us hl => match us, hl with | [_, _], _ => rfl))
  have kRb : Cal P w K mg base 2 "_law_rows_bad" spRb := c_rb B kDr (defX X G c 30 rfl (fun _ _ _ _ _ _ us hl => match us, hl with | [_, _], _ => rfl))
  have kHb : Cal P w K mg base 1 "_law_heads_bad" spHb := c_hb B (defX X G c 31 rfl (fun _ _ _ _ _ _ us hl => match us, hl with | [_, _], _ => rfl))
  exact ok_law F B kWl kDr kP kLt kRb kHb kNx kYt kRy
end KP
open PySem PySem.W PySem.Calls PyProof.Rows
theorem PySem.Challenge.cw_knotpurse_k82_no_year_as_text_holds : PySem.Challenge.rw_knotpurse_k82_no_year_as_text.Holds := by
  w_on; o_law
  refine HandSHeadRun.head_any (r := OpenLaw.row PySem.Challenge.rw_knotpurse_k82_no_year_as_text) (q := view (OpenLaw.row PySem.Challenge.rw_knotpurse_k82_no_year_as_text).prog [84]) (H := KP.hK) (ob := KP.hOb) (M := 40000) (loose := KP.hNm) (d := HandSHeadRun.topDef (OpenLaw.row PySem.Challenge.rw_knotpurse_k82_no_year_as_text).prog 84) (kwd := []) KP.hOb_eq
    (by kernel_rfl) (fun s => by kernel_rfl) KP.hRun (by kernel_rfl) (by kernel_rfl) (by kernel_rfl) (by rfl) (by first | assumption | decide +kernel) (by decide +kernel) ⟨rfl, rfl, rfl, rfl, rfl, by decide +kernel⟩ ?hw ?hc
  case hw => w_witness2
  case hc =>
    refine L2.walk_ofE (l := PySem.Challenge.rw_knotpurse_k82_no_year_as_text) (n := 63) (k := 9) (x := "_law_script") (CX := L2.CX0) rfl (by decide) (by kernel_rfl) ⟨rfl, by decide, by decide⟩ ?F (fun _ _ _ _ z => z)
    intro w mg fa h Y G hmg0
    obtain ⟨K, KX, c⟩ := Y
    have hmg : mg ("law" : PySem.Str) = some (.ref fa) := by
      have e : (HandSHeadRun.topDef (OpenLaw.row PySem.Challenge.rw_knotpurse_k82_no_year_as_text).prog 84).name = ("law" : PySem.Str) := by kernel_rfl
      rw [← e]
      exact hmg0
    obtain ⟨fd, hb, hF⟩ := KP.hEnd (P := (PySem.Challenge.rw_knotpurse_k82_no_year_as_text).prog) (w := w) KX G hmg c
    exact ⟨K, fd, KP.spLaw K, KX, hb, fun H a ns hl _ hS => ⟨a, ns, rfl, hS, hl, fun _ => rfl⟩, hF⟩
