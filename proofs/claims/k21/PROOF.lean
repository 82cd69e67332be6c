import PyProof.Rows.All
import Wide.All
import OpenK.AllK
import Wide.FinOn
import HandS.ForMost
import HandS.Walk
import HandS.Wide
import HandS.IsInst
import HandS.NoneIn
import HandS.Style
import HandS.Codes
import HandS.ForExc
import HandS.TupAny
import PyProof.NeKinds
import PyProof.Rows.MatchSeqLen
import KE.KUnpackStar
import HandS.FStr
import HandS.SortKw
import HandS.Keys
import HandS.Iter
import HandS.Words
import KE.SortKeyHeap
import HandS.More
import KE.GoesMore
import KE.KStateDown
import HandS.Head0
import HandS.Head1
import HandS.Head2
import HandS.HeadEnd
import HandS.HeadHook1
import HandS.HeadHook3
import HandS.DictComp
import HandS.SortRule
import HandS.Conv
import HandS.WordsList
import HandS.ExcIs
import HandS.ExcInit
import KE.KExcIs
import KE.DataMinMax
import KE.SortData
import PyProof.P3Eq
import PyProof.WalkInts
import HandS.HotCalls
import HandS.ExcField
import HandS.ExcCtx
import HandS.RaiseFrom
import HandS.ExcInitHot
import PyProof.StrBlock2
import PySem.Challenge.RW_knotpurse_k21_rows_that_are_none
set_option Elab.async false
set_option maxRecDepth 100000
set_option linter.all false
namespace KP
open PySem L2
def top (i : Nat) : Stmt := PySem.Challenge.pw_knotpurse_k21_rows_that_are_none.main.body.getD i (.Pass ⟨0, 0, 0, 0⟩)
/-! ### how a def of the text is known, and called -/
structure DefT (K : PySem.W.Frag) (mg : Str → Option Value) (x : Str) (st : Stmt) (ps : List Str) : Prop where
  ex : ∃ f fd, Fun K x x st f fd ∧ Binds K fd ps [] ∧ mg x = some (.ref f)
structure Cal (P : Program) (w : World) (K : PySem.W.Frag) (mg : Str → Option Value) (base : Heap) (k : Nat) (x : Str) (sp : Sp) : Prop where
  ex : ∃ f fd ps, FnOk P w K mg base CX0 k f fd ps sp ∧ mg x = some (.ref f) ∧ PySem.W.keepIn K (.ref f) = true ∧ Binds K fd ps []
section
variable {P : Program} {w : World} {K : PySem.W.Frag} {mg : Str → Option Value} {base : Heap}
theorem cal {x : Str} {st : Stmt} {N ps : List Str} {k : Nat} {sp : Sp} (D : DefT K mg x st ps) (S : FnScope N ps (defScope st)) (len : ∀ vs H Q E, sp vs H Q E → vs.length = ps.length)
    (hbody : ∀ (f : Addr) (cdv : Value) (A : Around) (outer : List Env) (s : Shared) (H : Hp) (vs : List V) (Q : VK) (E : XK), Room k (A.deeper (PyProof.Rows.envOfC x (defScope st) s.heap.objs.size f cdv)) → sp vs H Q E →
      ∃ t, PSs (cxOf CX0 P w K mg base N x (defScope st) f cdv A outer s H E).nox (defBody st) t ∧ t { nx := fun _ H' => Q .non H', rt := Q } (start N vs) H) : Cal P w K mg base (k + 1) x sp := by
  obtain ⟨f, fd, F, b, m⟩ := D.ex
  exact ⟨f, fd, ps, F.ok S len (hbody f), m, F.kp, b⟩
end
section
variable {X : Cx} {k j : Nat} {x : Str} {sp : Sp} {p pos : Pos} {e : Expr} {es : List Expr} {t : TA}
/-- f(e, ..) -/
theorem pe_cl (c : Cal X.prog X.w X.K X.mg X.base k x sp) (hr : Room j X.A) (hk : k ≤ j) (hg : Gl X x) (ha : PA X (e :: es) t)
    (hdb : (x == ("__debug__" : Str)) = false := by decide) (he : starEach (e :: es) X.env = (false, eval e X.env) :: starEach es X.env := by rfl) (hpl : (backTo pos (starEach es X.env)).any (·.1) = false := by rfl) :
    PE X (.Call (.Name x p) (e :: es) [] pos) (tCall sp [] E0 t) := by
  obtain ⟨f, fd, ps, F, m, kp, b⟩ := c.ex
  exact pe_call F (hr.mono hk) hg m kp b .nil pass0 ha hdb he hpl
end
theorem yes {σ : L2.St} {H : Hp} {Q : Bool → Hp → Prop} (h : Q true H) : tYes σ H Q := h
/-! ### texts of letters -/
def letters : Str := "abcdefghijklmnopqrstuvwxyz"
def Ltr (c : Nat) : Prop := c ∈ letters.cps.toList
def IsW (x : Str) : Prop := (∀ c ∈ x.cps.toList, Ltr c) ∧ 1 ≤ x.length ∧ x.length ≤ 8
def IsN (x : Str) : Prop := x = "" ∨ IsW x
/-! ### the written part: what of it the walk asks -/
structure Base (K : PySem.W.Frag) (mg : Str → Option Value) : Prop where
  isi : mg "isinstance" = none
  bool : mg "bool" = none
  int : mg "int" = none
  str : mg "str" = none
  tuple : mg "tuple" = none
  len : mg "len" = none
  all : mg "all" = none
  range : mg "range" = none
  letters : ∃ t, mg "LETTERS" = some (.str letters t)
  mostL : ∃ t, mg "MOST_LETTERS" = some (.int 8 t)
  list : mg "list" = none
  dict : mg "dict" = none
  mostD : ∃ t, mg "MOST_DAYS" = some (.int 30 t)
  mostH : ∃ t, mg "MOST_HEADS" = some (.int 8 t)
  mostLi : ∃ t, mg "MOST_LIMITS" = some (.int 6 t)
  mostR : ∃ t, mg "MOST_RULES" = some (.int 4 t)
  mostM : ∃ t, mg "MOST_LIMIT" = some (.int 1000000000000000 t)
  mostW : ∃ t, mg "MOST_WHOLE" = some (.int 1000 t)
  mostC : ∃ t, mg "MOST_COINS" = some (.int 1000000000000 t)
  leastU : ∃ t, mg "LEAST_UNTIL" = some (.int 2 t)
  mostU : ∃ t, mg "MOST_UNTIL" = some (.int 31 t)
  max : mg "max" = none
  min : mg "min" = none
abbrev sWhole : Stmt := top 18
abbrev sWord : Stmt := top 19
def spWhole : Sp := fun vs H Q _ => ∃ v lo hi : Int, vs = [.int v, .int lo, .int hi] ∧ Q (.bl (decide (lo ≤ v ∧ v ≤ hi))) H
def spWord : Sp := fun vs H Q _ => ∃ x : Str, vs = [.str x] ∧ IsW x ∧ ∀ H', Same H H' → Q (.bl true) H'
section
variable {P : Program} {w : World} {K : PySem.W.Frag} {mg : Str → Option Value} {base : Heap}
theorem scWhole : FnScope ["value", "least", "most"] ["value", "least", "most"] (defScope sWhole) := ⟨rfl, rfl, rfl, by decide +kernel, rfl, by decide +kernel, by decide +kernel⟩
theorem c_whole (B : Base K mg) (D : DefT K mg "is_whole" sWhole ["value", "least", "most"]) : Cal P w K mg base 1 "is_whole" spWhole := by
  refine cal D scWhole (fun vs H Q E h => ?_) (fun f cdv A outer s H vs Q E hr h => ?_)
  · obtain ⟨v, lo, hi, rfl, _⟩ := h
    rfl
  · obtain ⟨v, lo, hi, rfl, k⟩ := h
    refine ⟨_, pss_cons (ps_if (PW.pt (pw_or (pt_val (pe_callB call_isi (by rfl) B.isi (by decide +kernel) (pa_cons (pv 0) (pa_cons (pe_bltn (v := .ty "bool") (by rfl) B.bool (by decide +kernel) rfl) pa_nil))))
        (pw_or1 (pt_not (pt_val (pe_callB call_isi (by rfl) B.isi (by decide +kernel) (pa_cons (pv 0) (pa_cons (pe_bltn (v := .ty "int") (by rfl) B.int (by decide +kernel) rfl) pa_nil)))))))) (pss_one (ps_ret pe_bl)) pss_nil)
      (pss_one (ps_ret (pe_chain op_le op_le (pv 1) (pv 0) (pv 2)))), ?_⟩
    refine ⟨_, rfl, _, _, _, _, false, rfl, .ty _, .base (.int _), kit_ty (by decide +kernel), _, rfl, iteF ?_⟩
    refine ⟨_, rfl, _, _, _, _, true, rfl, .ty _, .base (.int _), kit_ty (by decide +kernel), _, rfl, iteF ?_⟩
    refine ⟨_, rfl, _, rfl, _, _, rfl, rfl, _, rfl, ?_⟩
    by_cases h1 : lo ≤ v
    · rw [if_pos (decide_eq_true h1)]
      refine ⟨_, rfl, _, _, rfl, rfl, ?_⟩
      by_cases h2 : v ≤ hi
      · show Q (.bl (decide (v ≤ hi))) H
        rw [decide_eq_true h2]
        rw [decide_eq_true ⟨h1, h2⟩] at k
        exact k
      · show Q (.bl (decide (v ≤ hi))) H
        rw [decide_eq_false h2]
        rw [decide_eq_false fun z => h2 z.2] at k
        exact k
    · rw [if_neg (by rw [decide_eq_false h1]; exact Bool.false_ne_true)]
      rw [decide_eq_false fun z => h1 z.1] at k
      exact k
/-- a new object leaves the rest as it was -/
theorem same_new {H : Hp} {a : Addr} {o : HO} (h : H a = none) : Same H (upd H a o) := fun b u e => by
  rw [upd_ne (ne_of_none e h)]
  exact e
theorem map_rep {n : Nat} : (List.replicate n true).map V.bl = List.replicate n (V.bl true) := by simp
theorem all_rep {n : Nat} : (List.replicate n true).all id = true := by
  rw [List.all_eq_true]
  intro x hx
  exact (List.mem_replicate.mp hx).2
theorem scWord : FnScope ["value", "sign"] ["value"] (defScope sWord) := ⟨rfl, rfl, rfl, by decide +kernel, rfl, by decide +kernel, by decide +kernel⟩
theorem c_word (B : Base K mg) (D : DefT K mg "is_word" sWord ["value"]) : Cal P w K mg base 1 "is_word" spWord := by
  obtain ⟨tL, hL⟩ := B.letters
  obtain ⟨tM, hM⟩ := B.mostL
  refine cal D scWord (fun vs H Q E h => ?_) (fun f cdv A outer s H vs Q E hr h => ?_)
  · obtain ⟨x, rfl, _⟩ := h
    rfl
  · obtain ⟨x, rfl, ⟨hl, h1, h8⟩, k⟩ := h
    refine ⟨_, pss_cons (ps_if (PW.pt (pw_or (pt_not (pt_val (pe_callB call_isi (by rfl) B.isi (by decide +kernel) (pa_cons (pv 0) (pa_cons (pe_bltn (v := .ty "str") (by rfl) B.str (by decide +kernel) rfl) pa_nil)))))
        (pw_or1 (pt_not (pt_chain op_le op_le pe_int (pe_callB call_len_str (by rfl) B.len (by decide +kernel) (pa_cons (pv 0) pa_nil)) (pe_glob (v := .int 8) rfl hM ⟨_, rfl⟩)))))) (pss_one (ps_ret pe_bl)) pss_nil)
      (pss_one (ps_ret (pe_callB (cr_all rfl) (by rfl) B.all (by decide +kernel) (pa_cons (pe_lc (own := [("sign", 1)]) (g := gName 1) (tt := tYes) rfl scWord.nd (pi_str (pv 0)) (blkOk_by (N := ["value", "sign"]) (sc := defScope sWord) (by decide +kernel))
        (fun _ _ _ _ _ => pg_name (i := 1) scWord.nd rfl (Or.inl rfl)) (fun _ _ _ _ _ => pts_nil) (fun _ _ _ _ _ => pe_cmpR op_in_sign (pv 1) (pe_glob (v := .str letters) rfl hL ⟨_, rfl⟩) rfl)) pa_nil)))), ?_⟩
    refine ⟨_, rfl, _, _, _, _, true, rfl, .ty _, .base (.str _), kit_ty (by decide +kernel), _, rfl, iteF ?_⟩
    have hs : x.length ≤ sizeLine := Nat.le_trans h8 (by decide)
    refine ⟨_, rfl, _, rfl, hs, _, _, rfl, rfl, _, rfl, ?_⟩
    rw [if_pos (decide_eq_true (show (1 : Int) ≤ ((x.length : Nat) : Int) by omega))]
    refine ⟨_, _, rfl, rfl, _, rfl, ?_⟩
    have e8 : decide (((x.length : Nat) : Int) ≤ 8) = true := decide_eq_true (by omega)
    rw [e8]
    refine iteF ?_
    refine ⟨_, rfl, x, rfl, fun D hD => lc_it walk_str (fun i H' => H' = upd H D (.lst (List.replicate i (V.bl true)))) rfl (fun _ _ _ _ => trivial) ?_ ?_⟩
    · rintro i v H1 H2 hi rfl ⟨rfl, c, hc, rfl⟩
      refine ⟨rfl, yes (iteT ⟨_, rfl, c, letters, rfl, rfl, _, upd_same, ?_, ?_⟩)⟩
      · rw [List.length_replicate]
        have : x.cps.size ≤ 8 := h8
        have e : sizeLine = 16777216 := by decide
        omega
      · have ec : decide (c ∈ letters.cps.toList) = true := decide_eq_true (hl c (by
          have := Array.mem_of_getElem? hc
          simpa using this))
        rw [ec, upd_upd]
        congr 2
        exact (List.replicate_succ' (n := i) (a := V.bl true)).symm ▸ rfl
    · rintro H1 rfl
      refine ⟨D, List.replicate x.cps.size true, rfl, SqL.of (by rw [upd_same, map_rep]), ?_⟩
      rw [all_rep]
      exact k _ (same_new hD)
end
end KP
namespace KP
open PySem L2
/-! ### numbers drawn -/
def WellAt (H : Hp) (a : Addr) : Prop := ∃ x y z : Int, H a = some (.lst [.int x, .int y, .int z])
/-- all but a is as it was -/
def SameB (a : Addr) (H H' : Hp) : Prop := ∀ b o, H b = some o → b ≠ a → H' b = some o
theorem SameB.trans {a : Addr} {H H1 H2 : Hp} (p : SameB a H H1) (q : SameB a H1 H2) : SameB a H H2 := fun b o e hb => q b o (p b o e hb) hb
theorem SameB.refl {a : Addr} {H : Hp} : SameB a H H := fun _ _ e _ => e
theorem SameB.of {a : Addr} {H H' : Hp} (s : Same H H') : SameB a H H' := fun b o e _ => s b o e
theorem SameB.newD {a D : Addr} {H H1 H2 : Hp} {o : HO} (hD : H D = none) (p : SameB a H H1) : SameB a H (upd H1 D o) := fun b u e hb => by
  rw [upd_ne (ne_of_none e hD)]
  exact p b u e hb
theorem WellAt.up {H : Hp} {a D : Addr} {o : HO} (h : WellAt H a) (hn : a ≠ D) : WellAt (upd H D o) a := by
  obtain ⟨x, y, z, e⟩ := h
  exact ⟨x, y, z, by rw [upd_ne hn]; exact e⟩
theorem WellAt.new {H : Hp} {a D : Addr} {o : HO} (h : WellAt H a) (hD : H D = none) : WellAt (upd H D o) a := by
  obtain ⟨x, y, z, e⟩ := id h
  exact h.up (ne_of_none e hD)
theorem WellAt.ne {H : Hp} {a D : Addr} (h : WellAt H a) (hD : H D = none) : a ≠ D := by
  obtain ⟨x, y, z, e⟩ := h
  exact ne_of_none e hD
def spWell : Sp := fun vs H Q _ => ∃ c : Int, vs = [.int c] ∧ ∀ a H', Same H H' → H a = none → WellAt H' a → Q (.ref a) H'
def spDraw : Sp := fun vs H Q _ => ∃ (a : Addr) (m : Int), vs = [.ref a, .int m] ∧ WellAt H a ∧ 0 < m ∧ m < 1152921504606846976 ∧ ∀ r H', 0 ≤ r → r < m → WellAt H' a → SameB a H H' → Q (.int r) H'
def spName : Sp := fun vs H Q _ => ∃ a : Addr, vs = [.ref a] ∧ WellAt H a ∧ ∀ x H', IsW x → WellAt H' a → SameB a H H' → Q (.str x) H'
section
variable {P : Program} {w : World} {K : PySem.W.Frag} {mg : Str → Option Value} {base : Heap}
theorem join_signs : ∀ cs : List Nat, TL.joinL [] (cs.map fun c => [c]) = cs
  | [] => rfl
  | [c] => rfl
  | c :: d :: r => by
    show [c] ++ ([] ++ TL.joinL [] ((d :: r).map fun c => [c])) = c :: d :: r
    rw [join_signs (d :: r)]
    rfl
theorem join_is (cs : List Nat) : Txt.join "" (cs.map fun c => (⟨#[c]⟩ : Str)) = SX.S cs := by
  have h := SX.join_S [] (cs.map fun c => [c])
  rw [join_signs, List.map_map] at h
  exact h
theorem isW_S {cs : List Nat} (h : ∀ c ∈ cs, Ltr c) (h1 : 1 ≤ cs.length) (h8 : cs.length ≤ 8) : IsW (SX.S cs) := ⟨fun c hc => h c (by simpa using hc), by rw [SX.S_len]; exact h1, by rw [SX.S_len]; exact h8⟩
def names16 : List Str := ["in", "year", "head", "limit", "rule", "back", "right", "give", "hold", "move", "spend", "promise", "lessen", "out", "none", "carried"]
def wordB (x : Str) : Bool := x.cps.toList.all (fun c => decide (c ∈ letters.cps.toList)) && decide (1 ≤ x.length) && decide (x.length ≤ 8)
theorem isW_of {x : Str} (h : wordB x = true) : IsW x := by
  unfold wordB at h
  simp only [Bool.and_eq_true, List.all_eq_true, decide_eq_true_eq] at h
  exact ⟨h.1.1, h.1.2, h.2⟩
theorem names16_ok : ∀ x ∈ names16, IsW x := by
  have h : names16.all wordB = true := by decide +kernel
  intro x hx
  exact isW_of (List.all_eq_true.mp h x hx)
theorem get_lt {α : Type} {l : List α} {r : Int} (h0 : 0 ≤ r) (h1 : r < (l.length : Int)) : ∃ v, atI l r = some v ∧ v ∈ l := by
  obtain ⟨j, rfl⟩ : ∃ j : Nat, r = (j : Int) := ⟨r.toNat, by omega⟩
  have hj : j < l.length := by omega
  exact ⟨l[j], atI_nat (List.getElem?_eq_getElem hj), List.getElem_mem hj⟩
theorem let_get {r : Int} (h0 : 0 ≤ r) (h1 : r < 26) : ∃ c, letters.cps[r.toNat]? = some c ∧ Ltr c := by
  have e : letters.cps.size = 26 := by decide +kernel
  have hj : r.toNat < letters.cps.size := by omega
  refine ⟨letters.cps[r.toNat], by simp [hj], ?_⟩
  show _ ∈ letters.cps.toList
  simp
end
end KP
namespace KP
open PySem L2
/-! ### the mathematics of names -/
theorem len_le_of_sub {α : Type} [DecidableEq α] : ∀ {l m : List α}, l.Nodup → (∀ x ∈ l, x ∈ m) → l.length ≤ m.length
  | [], _, _, _ => Nat.zero_le _
  | a :: l, m, hn, hs => by
    have ha : a ∈ m := hs a List.mem_cons_self
    have hn' := List.nodup_cons.mp hn
    have ih := len_le_of_sub (l := l) (m := m.erase a) hn'.2 (fun x hx => (List.mem_erase_of_ne (fun (e : x = a) => hn'.1 (e ▸ hx))).mpr (hs x (List.mem_cons_of_mem _ hx)))
    have e := List.length_erase_of_mem ha
    have p := List.length_pos_of_mem ha
    rw [List.length_cons]
    omega
def stem (y : Str) : Str := cutS y none (some 7)
def cands (y : Str) : List Str := y :: letters.cps.toList.map fun c => stem y ++ (⟨#[c]⟩ : Str)
theorem stem_S (y : Str) : stem y = SX.S (y.cps.toList.take 7) := by
  unfold stem
  rw [C8.cutS_slice]
  have h := SX.slice_to (a := y.cps.toList) (i := 7) (by decide)
  rw [SX.S_tl] at h
  exact h
theorem cand_S (y : Str) (c : Nat) : stem y ++ (⟨#[c]⟩ : Str) = SX.S (y.cps.toList.take 7 ++ [c]) := by
  rw [stem_S]
  exact SX.S_cat _ [c]
theorem cands_ok {y : Str} (h : IsW y) : ∀ x ∈ cands y, IsW x := by
  intro x hx
  rcases List.mem_cons.mp hx with rfl | hx
  · exact h
  · obtain ⟨c, hc, rfl⟩ := List.mem_map.mp hx
    rw [cand_S]
    refine isW_S (fun d hd => ?_) (by simp) (by simp; omega)
    rcases List.mem_append.mp hd with hd | hd
    · exact h.1 d (List.mem_of_mem_take hd)
    · rw [List.mem_singleton.mp hd]; exact hc
theorem letters_nd : letters.cps.toList.Nodup := by decide +kernel
theorem letters_len : letters.cps.toList.length = 26 := by decide +kernel
theorem nodup_map {α β : Type} {f : α → β} (hf : ∀ a b, f a = f b → a = b) : ∀ {l : List α}, l.Nodup → (l.map f).Nodup
  | [], _ => List.nodup_nil
  | a :: l, h => by
    have h' := List.nodup_cons.mp h
    rw [List.map_cons, List.nodup_cons]
    refine ⟨fun hm => ?_, nodup_map hf h'.2⟩
    obtain ⟨b, hb, e⟩ := List.mem_map.mp hm
    exact h'.1 (hf b a e ▸ hb)
def fresh (y : Str) (xs : List Str) : List Str := (cands y).filter fun c => !decide (c ∈ xs)
theorem fresh_ne {y : Str} {xs : List Str} (h : xs.length ≤ 8) : ∃ z zs, fresh y xs = z :: zs ∧ z ∈ cands y ∧ ¬ z ∈ xs := by
  cases e : fresh y xs with
  | nil =>
    exfalso
    have nd : (letters.cps.toList.map fun c => stem y ++ (⟨#[c]⟩ : Str)).Nodup := nodup_map (fun a b q => by
      rw [cand_S, cand_S] at q
      have := List.append_cancel_left (SX.S_inj q)
      simpa using this) letters_nd
    have hle := len_le_of_sub (m := xs) nd (fun x hx => by
      by_cases hm : x ∈ xs
      · exact hm
      · have : x ∈ fresh y xs := List.mem_filter.mpr ⟨List.mem_cons_of_mem _ hx, by simp [hm]⟩
        rw [e] at this
        cases this)
    rw [List.length_map, letters_len] at hle
    omega
  | cons z zs =>
    have hz : z ∈ fresh y xs := by rw [e]; exact List.mem_cons_self
    have h2 := List.mem_filter.mp hz
    exact ⟨z, zs, rfl, h2.1, by simpa using h2.2⟩
theorem strOk_W {x : Str} (h : IsW x) : PyData.strOk x = true := by
  have hb : letters.cps.toList.all (· < 0x110000) = true := by decide +kernel
  unfold PyData.strOk
  rw [← Array.all_toList, List.all_eq_true]
  intro c hc
  exact List.all_eq_true.mp hb c (h.1 c hc)
theorem canLay_strs : ∀ {xs : List Str}, (∀ x ∈ xs, PyData.strOk x = true) → PyData.canLayAll0 (xs.map PyData.str) = true
  | [], _ => rfl
  | x :: xs, h => by
    show (PyData.strOk x && PyData.canLayAll0 (xs.map PyData.str)) = true
    rw [h x List.mem_cons_self, canLay_strs fun y hy => h y (List.mem_cons_of_mem _ hy)]
    rfl
theorem depth_strs : ∀ {xs : List Str}, PyData.depthAll (xs.map PyData.str) = 0
  | [] => rfl
  | x :: xs => by
    show max 0 (PyData.depthAll (xs.map PyData.str)) = 0
    rw [depth_strs]
    rfl
theorem shaped_strs {xs : List Str} (h : ∀ x ∈ xs, PyData.strOk x = true) : SeqAt.shaped (.list (xs.map PyData.str)) = true := by
  have h1 : (PyData.list (xs.map PyData.str)).canLay0 = true := canLay_strs h
  have h2 : (PyData.list (xs.map PyData.str)).depth ≤ 64 := by
    show PyData.depthAll (xs.map PyData.str) + 1 ≤ 64
    rw [depth_strs]; decide
  unfold SeqAt.shaped
  rw [h1, decide_eq_true h2]
  rfl
theorem dp_strs {K : PySem.W.Frag} {H : Hp} : ∀ (xs : List Str), DpAll K H (xs.map V.str) (xs.map PyData.str)
  | [] => .nil
  | x :: xs => .cons (.str x) (dp_strs xs)
theorem inV_str {x : Str} : ∀ {xs : List Str}, inV (.str x) (xs.map V.str) = decide (x ∈ xs)
  | [] => by simp [inV]
  | y :: xs => by
    have ih := inV_str (x := x) (xs := xs)
    unfold inV at ih ⊢
    rw [List.map_cons, List.any_cons, ih]
    show ((y == x) || decide (x ∈ xs)) = decide (x ∈ y :: xs)
    by_cases h : y = x
    · subst h; simp
    · have h' : (y == x) = false := beq_eq_false_iff_ne.mpr h
      have h'' : ¬ x = y := fun e => h e.symm
      rw [h']; simp [h'']
theorem flat_strs {xs : List Str} : (xs.map V.str).all flatV = true := by
  rw [List.all_eq_true]
  intro v hv
  obtain ⟨x, _, rfl⟩ := List.mem_map.mp hv
  rfl
theorem take_more {α : Type} : ∀ {l : List α} {i : Nat} {x : α}, l[i]? = some x → l.take (i + 1) = l.take i ++ [x]
  | [], i, x, h => by simp at h
  | a :: l, 0, x, h => by
    have e : a = x := Option.some.inj h
    subst e
    rfl
  | a :: l, i + 1, x, h => by
    have ih := take_more (l := l) (i := i) (x := x) h
    show a :: l.take (i + 1) = a :: l.take i ++ [x]
    rw [ih]
    rfl
def spNames : Sp := fun vs H Q _ => ∃ (a : Addr) (m : Nat), vs = [.ref a, .int (m : Int)] ∧ WellAt H a ∧ m ≤ 9 ∧ ∀ (p : Addr) (xs : List Str) (H' : Hp), xs.length = m → (∀ x ∈ xs, IsW x) → xs.Nodup → H p = none → H' p = some (.lst (xs.map V.str)) → WellAt H' a → SameB a H H' → Q (.ref p) H'
section
variable {P : Program} {w : World} {K : PySem.W.Frag} {mg : Str → Option Value} {base : Heap}
end
end KP
/-! years: the mathematics -/
namespace KP
open PySem L2
abbrev Hd := Str × Str
abbrev Rw4 := Str × Int × Int × Int
def nms (hs : List Hd) : List Str := hs.map (·.1)
def up (hs : List Hd) (x : Str) : Str := ((hs.find? fun r => decide (r.1 = x)).map (·.2)).getD ""
structure VH (hs : List Hd) : Prop where
  nd : (nms hs).Nodup
  w : ∀ x ∈ nms hs, IsW x
  up : ∀ (i : Nat) (r : Hd), hs[i]? = some r → r.2 = "" ∨ ∃ j, j < i ∧ (nms hs)[j]? = some r.2
  l1 : 1 ≤ hs.length
  l8 : hs.length ≤ 8
theorem isW_ne {x : Str} (h : IsW x) : x ≠ "" := fun e => by
  have h1 := h.2.1
  rw [e] at h1
  exact absurd h1 (by decide)
theorem nms_get {hs : List Hd} {i : Nat} {r : Hd} (h : hs[i]? = some r) : (nms hs)[i]? = some r.1 := by
  unfold nms
  rw [List.getElem?_map, h]
  rfl
theorem get_nms {hs : List Hd} {i : Nat} {x : Str} (h : (nms hs)[i]? = some x) : ∃ u, hs[i]? = some (x, u) := by
  unfold nms at h
  rw [List.getElem?_map] at h
  cases e : hs[i]? with
  | none => rw [e] at h; cases h
  | some r =>
    rw [e] at h
    have : r.1 = x := Option.some.inj h
    exact ⟨r.2, by rw [← this]⟩
theorem mem_nms {hs : List Hd} {x : Str} (h : x ∈ nms hs) : ∃ (i : Nat) (u : Str), hs[i]? = some (x, u) := by
  obtain ⟨i, hi⟩ := List.mem_iff_getElem?.mp h
  obtain ⟨u, hu⟩ := get_nms hi
  exact ⟨i, u, hu⟩
theorem up_at : ∀ {hs : List Hd} {i : Nat} {r : Hd}, (nms hs).Nodup → hs[i]? = some r → up hs r.1 = r.2
  | [], i, r, _, h => by simp at h
  | a :: hs, 0, r, _, h => by
    have e : a = r := Option.some.inj h
    subst e
    unfold up
    rw [List.find?_cons_of_pos (by simp)]
    rfl
  | a :: hs, i + 1, r, hn, h => by
    have hn' := List.nodup_cons.mp (show (a.1 :: nms hs).Nodup from hn)
    have h' : hs[i]? = some r := h
    have ne : ¬ a.1 = r.1 := fun e => hn'.1 (by rw [e]; exact List.mem_iff_getElem?.mpr ⟨i, nms_get h'⟩)
    have ih := up_at hn'.2 h'
    unfold up at ih ⊢
    rw [List.find?_cons_of_neg (by simpa using ne)]
    exact ih
def rk (hs : List Hd) (x : Str) : Nat := if x = "" then 0 else (nms hs).idxOf x + 1
theorem idx_of {l : List Str} (hn : l.Nodup) {i : Nat} {x : Str} (h : l[i]? = some x) : l.idxOf x = i := by
  have hm : x ∈ l := List.mem_of_getElem? h
  have hlt : l.idxOf x < l.length := List.idxOf_lt_length_of_mem hm
  have e : l[l.idxOf x]? = some x := by
    rw [List.getElem?_eq_getElem hlt]
    simp
  exact nd_ix hn e h
theorem rk_at {hs : List Hd} (V : VH hs) {i : Nat} {x : Str} (h : (nms hs)[i]? = some x) : rk hs x = i + 1 := by
  unfold rk
  rw [if_neg (isW_ne (V.w x (List.mem_of_getElem? h))), idx_of V.nd h]
theorem rk_nil {hs : List Hd} : rk hs "" = 0 := by unfold rk; rw [if_pos rfl]
theorem up_ok {hs : List Hd} (V : VH hs) {x : Str} (h : x ∈ nms hs) : rk hs (up hs x) < rk hs x ∧ (up hs x = "" ∨ up hs x ∈ nms hs) := by
  obtain ⟨i, u, hi⟩ := mem_nms h
  have e1 := up_at V.nd hi
  dsimp only at e1
  rw [e1, rk_at V (nms_get hi)]
  rcases V.up i _ hi with e | ⟨j, hj, hu⟩
  · dsimp only at e
    subst e
    exact ⟨by rw [rk_nil]; omega, .inl rfl⟩
  · dsimp only at hu
    exact ⟨by rw [rk_at V hu]; omega, .inr (List.mem_of_getElem? hu)⟩
def chain (hs : List Hd) : Nat → Str → List Str
  | 0, _ => []
  | n + 1, x => if x = "" then [] else x :: chain hs n (up hs x)
theorem chain_nil {hs : List Hd} : ∀ n, chain hs n "" = []
  | 0 => rfl
  | n + 1 => by unfold chain; rw [if_pos rfl]
theorem chain_cons {hs : List Hd} {n : Nat} {x : Str} (h : x ≠ "") : chain hs (n + 1) x = x :: chain hs n (up hs x) := by
  show (if x = "" then [] else x :: chain hs n (up hs x)) = _
  rw [if_neg h]
theorem rk_pos {hs : List Hd} (V : VH hs) {x : Str} (h : x ∈ nms hs) : 1 ≤ rk hs x := by
  unfold rk
  rw [if_neg (isW_ne (V.w x h))]
  omega
theorem chain_eq {hs : List Hd} (V : VH hs) : ∀ {n m : Nat} {x : Str}, (x = "" ∨ x ∈ nms hs) → rk hs x ≤ n → rk hs x ≤ m → chain hs n x = chain hs m x
  | 0, m, x, hx, hn, hm => by
    rcases hx with rfl | hx
    · rw [chain_nil, chain_nil]
    · have := rk_pos V hx
      omega
  | n + 1, m, x, hx, hn, hm => by
    rcases hx with rfl | hx
    · rw [chain_nil, chain_nil]
    · have hp := rk_pos V hx
      obtain ⟨m', rfl⟩ : ∃ m', m = m' + 1 := ⟨m - 1, by omega⟩
      have hne := isW_ne (V.w x hx)
      have hu := up_ok V hx
      rw [chain_cons hne, chain_cons hne, chain_eq V (m := m') hu.2 (by omega) (by omega)]
def kn (hs : List Hd) (x : Str) : List Str := chain hs hs.length x
theorem rk_le {hs : List Hd} (V : VH hs) {x : Str} (h : x ∈ nms hs) : rk hs x ≤ hs.length := by
  obtain ⟨i, hi⟩ := List.mem_iff_getElem?.mp h
  rw [rk_at V hi]
  have := (List.getElem?_eq_some_iff.mp hi).1
  unfold nms at this
  rw [List.length_map] at this
  omega
theorem kn_nil {hs : List Hd} : kn hs "" = [] := chain_nil _
theorem kn_step {hs : List Hd} (V : VH hs) {x : Str} (h : x ∈ nms hs) : kn hs x = x :: kn hs (up hs x) := by
  have h1 := rk_le V h
  have h2 := rk_pos V h
  have hu := up_ok V h
  obtain ⟨m, hm⟩ : ∃ m, hs.length = m + 1 := ⟨hs.length - 1, by omega⟩
  unfold kn
  rw [hm, chain_cons (isW_ne (V.w x h))]
  congr 1
  exact chain_eq V hu.2 (by omega) (by omega)
theorem chain_mem {hs : List Hd} (V : VH hs) : ∀ {n : Nat} {x z : Str}, (x = "" ∨ x ∈ nms hs) → z ∈ chain hs n x → z ∈ nms hs
  | 0, x, z, _, h => by cases h
  | n + 1, x, z, hx, h => by
    rcases hx with rfl | hx
    · rw [chain_nil] at h; cases h
    · rw [chain_cons (isW_ne (V.w x hx))] at h
      rcases List.mem_cons.mp h with rfl | h
      · exact hx
      · exact chain_mem V (up_ok V hx).2 h
theorem chain_len {hs : List Hd} : ∀ (n : Nat) (x : Str), (chain hs n x).length ≤ n
  | 0, x => by simp [chain]
  | n + 1, x => by
    by_cases h : x = ""
    · subst h; rw [chain_nil]; simp
    · rw [chain_cons h, List.length_cons]; have := chain_len (hs := hs) n (up hs x); omega
theorem kn_mem {hs : List Hd} (V : VH hs) {x z : Str} (h : x ∈ nms hs) (hz : z ∈ kn hs x) : z ∈ nms hs := chain_mem V (.inr h) hz
theorem kn_len {hs : List Hd} (V : VH hs) (x : Str) : (kn hs x).length ≤ 8 := Nat.le_trans (chain_len _ _) V.l8
def und (hs : List Hd) (x : Str) : List Str := (nms hs).filter fun h => decide (x ∈ kn hs h)
/-! limits and rules -/
def LimOk (days : Int) (ns : List Str) (r : Rw4) : Prop := r.1 ∈ ns ∧ (1 ≤ r.2.1 ∧ r.2.1 ≤ days) ∧ (r.2.1 ≤ r.2.2.1 ∧ r.2.2.1 ≤ days) ∧ (0 ≤ r.2.2.2 ∧ r.2.2.2 ≤ 1000000000000000)
def RulOk (days : Int) (ns : List Str) (r : Rw4) : Prop := r.1 ∈ ns ∧ (1 ≤ r.2.2.1 ∧ r.2.2.1 ≤ 1000) ∧ (0 ≤ r.2.1 ∧ r.2.1 ≤ r.2.2.1) ∧ (2 ≤ r.2.2.2 ∧ r.2.2.2 ≤ days + 1)
def frS (x : Str) (p : Int × Int) (r : Rw4) : Int × Int := if r.1 = x then (p.1 * r.2.2.1 + r.2.1 * p.2, p.2 * r.2.2.1) else p
def fr (rs : List Rw4) (x : Str) : Int × Int := rs.foldl (frS x) (0, 1)
theorem fr_snoc (rs : List Rw4) (x : Str) (r : Rw4) : fr (rs ++ [r]) x = frS x (fr rs x) r := by unfold fr; rw [List.foldl_append]; rfl
structure Yr where
  days : Int
  hs : List Hd
  ls : List Rw4
  rs : List Rw4
structure Yr.ok (y : Yr) : Prop where
  d : 1 ≤ y.days ∧ y.days ≤ 30
  h : VH y.hs
  l : ∀ r ∈ y.ls, LimOk y.days (nms y.hs) r
  l6 : y.ls.length ≤ 6
  r : ∀ r ∈ y.rs, RulOk y.days (nms y.hs) r
  r4 : y.rs.length ≤ 4
  one : ∀ x, (fr y.rs x).1 ≤ (fr y.rs x).2
/-! rows in the heap -/
def hv (r : Hd) : List V := [.str r.1, .str r.2]
def rv (r : Rw4) : List V := [.str r.1, .int r.2.1, .int r.2.2.1, .int r.2.2.2]
/-- a list of tuples -/
def RowsAt (H : Hp) (l : Addr) (ts : List Addr) (rows : List (List V)) : Prop := H l = some (.lst (ts.map V.ref)) ∧ Paired (fun t r => H t = some (.tup r)) ts rows
theorem paired_mono {H H' : Hp} (h : ∀ b r, H b = some (.tup r) → H' b = some (.tup r)) : ∀ {ts : List Addr} {rows : List (List V)}, Paired (fun t r => H t = some (.tup r)) ts rows → Paired (fun t r => H' t = some (.tup r)) ts rows
  | _, _, .nil => .nil
  | _, _, .cons a p => .cons (h _ _ a) (paired_mono h p)
theorem paired_get {H : Hp} : ∀ {ts : List Addr} {rows : List (List V)} {i : Nat} {t : Addr}, Paired (fun t r => H t = some (.tup r)) ts rows → ts[i]? = some t → ∃ r, rows[i]? = some r ∧ H t = some (.tup r)
  | _, _, _, _, .nil, h => by simp at h
  | _, _, 0, t, .cons a p, h => by
    have e := Option.some.inj h
    subst e
    exact ⟨_, rfl, a⟩
  | _, _, i + 1, t, .cons a p, h => paired_get (i := i) (t := t) p (by simpa using h)
theorem paired_snoc {H : Hp} {t : Addr} {r : List V} (h : H t = some (.tup r)) : ∀ {ts : List Addr} {rows : List (List V)}, Paired (fun t r => H t = some (.tup r)) ts rows → Paired (fun t r => H t = some (.tup r)) (ts ++ [t]) (rows ++ [r])
  | _, _, .nil => .cons h .nil
  | _, _, .cons a p => .cons a (paired_snoc h p)
end KP
namespace KP
open PySem L2
theorem ifT {c A B : Prop} [Decidable c] (h : c) (ha : A) : if c then A else B := by
  rw [if_pos h]
  exact ha
theorem ifF {c A B : Prop} [Decidable c] (h : ¬ c) (hb : B) : if c then A else B := by
  rw [if_neg h]
  exact hb
abbrev sList : Stmt := top 21
abbrev sRow : Stmt := top 22
abbrev sHeadsP : Stmt := top 53
abbrev sLimit : Stmt := top 54
abbrev sRule : Stmt := top 55
abbrev sOne : Stmt := top 56
abbrev sLimitsP : Stmt := top 57
abbrev sRulesP : Stmt := top 58
def spList : Sp := fun vs H Q _ => ∃ (l : Addr) (xs : List V) (a b : Int), vs = [.ref l, .int a, .int b] ∧ H l = some (.lst xs) ∧ Q (.bl (decide (a ≤ (xs.length : Int) ∧ (xs.length : Int) ≤ b))) H
def spRow : Sp := fun vs H Q _ => ∃ (t : Addr) (xs : List V) (m : Int), vs = [.ref t, .int m] ∧ H t = some (.tup xs) ∧ Q (.bl (decide ((xs.length : Int) = m))) H
def spHeadsP : Sp := fun vs H Q _ => ∃ (l : Addr) (ts : List Addr) (hs : List Hd), vs = [.ref l] ∧ RowsAt H l ts (hs.map hv) ∧ VH hs ∧ ∀ H', Same H H' → Q (.bl true) H'
def spLimit : Sp := fun vs H Q _ => ∃ (t n : Addr) (d : Int) (ns : List Str) (r : Rw4), vs = [.ref t, .int d, .ref n] ∧ H t = some (.tup (rv r)) ∧ H n = some (.lst (ns.map V.str)) ∧ LimOk d ns r ∧ Q (.bl true) H
def spRule : Sp := fun vs H Q _ => ∃ (t n : Addr) (d : Int) (ns : List Str) (r : Rw4), vs = [.ref t, .int d, .ref n] ∧ H t = some (.tup (rv r)) ∧ H n = some (.lst (ns.map V.str)) ∧ RulOk d ns r ∧ Q (.bl true) H
def spOne : Sp := fun vs H Q _ => ∃ (l : Addr) (ts : List Addr) (x : Str) (rs : List Rw4), vs = [.ref l, .str x] ∧ RowsAt H l ts (rs.map rv) ∧ (∀ r ∈ rs, (0 ≤ r.2.1 ∧ r.2.1 ≤ 1000) ∧ 1 ≤ r.2.2.1 ∧ r.2.2.1 ≤ 1000) ∧ (fr rs x).1 ≤ (fr rs x).2 ∧ Q (.bl true) H
def spLimitsP : Sp := fun vs H Q _ => ∃ (l n : Addr) (ts : List Addr) (d : Int) (ns : List Str) (rs : List Rw4), vs = [.ref l, .int d, .ref n] ∧ RowsAt H l ts (rs.map rv) ∧ H n = some (.lst (ns.map V.str)) ∧ (∀ r ∈ rs, LimOk d ns r) ∧ rs.length ≤ 6 ∧ ∀ H', Same H H' → Q (.bl true) H'
def spRulesP : Sp := fun vs H Q _ => ∃ (l n : Addr) (ts : List Addr) (d : Int) (ns : List Str) (rs : List Rw4), vs = [.ref l, .int d, .ref n] ∧ RowsAt H l ts (rs.map rv) ∧ H n = some (.lst (ns.map V.str)) ∧ (∀ r ∈ rs, RulOk d ns r) ∧ rs.length ≤ 4 ∧ ns.length ≤ 8 ∧ (∀ x, (fr rs x).1 ≤ (fr rs x).2) ∧ ∀ H', Same H H' → Q (.bl true) H'
theorem RowsAt.same {H H' : Hp} {l : Addr} {ts : List Addr} {rows : List (List V)} (h : RowsAt H l ts rows) (s : Same H H') : RowsAt H' l ts rows := ⟨s _ _ h.1, paired_mono (fun _ _ e => s _ _ e) h.2⟩
theorem RowsAt.len {H : Hp} {l : Addr} {ts : List Addr} {rows : List (List V)} (h : RowsAt H l ts rows) : ts.length = rows.length := Paired.length h.2
/-- the i-th item of a list of rows -/
theorem row_get {α : Type} {H : Hp} {l : Addr} {ts : List Addr} {rs : List α} {f : α → List V} {i : Nat} {y : V} (h : RowsAt H l ts (rs.map f)) (hy : (ts.map V.ref)[i]? = some y) : ∃ t r, y = .ref t ∧ rs[i]? = some r ∧ H t = some (.tup (f r)) ∧ ts[i]? = some t := by
  rw [List.getElem?_map] at hy
  cases e : ts[i]? with
  | none => rw [e] at hy; cases hy
  | some t =>
    rw [e] at hy
    obtain ⟨r', hr', ht⟩ := paired_get h.2 e
    rw [List.getElem?_map] at hr'
    cases e2 : rs[i]? with
    | none => rw [e2] at hr'; cases hr'
    | some r =>
      rw [e2] at hr'
      have := Option.some.inj hr'
      subst this
      exact ⟨t, r, (Option.some.inj hy).symm, rfl, ht, rfl⟩
section
variable {P : Program} {w : World} {K : PySem.W.Frag} {mg : Str → Option Value} {base : Heap}
theorem scList : FnScope ["value", "least", "most"] ["value", "least", "most"] (defScope sList) := ⟨rfl, rfl, rfl, by decide +kernel, rfl, by decide +kernel, by decide +kernel⟩
theorem c_list (B : Base K mg) (D : DefT K mg "is_list" sList ["value", "least", "most"]) : Cal P w K mg base 1 "is_list" spList := by
  refine cal D scList (fun vs H Q E h => ?_) (fun f cdv A outer s H vs Q E hr h => ?_)
  · obtain ⟨l, xs, a, b, rfl, _⟩ := h
    rfl
  · obtain ⟨l, xs, a, b, rfl, hl, k⟩ := h
    refine ⟨_, pss_one (ps_ret (pe_and (pe_callB call_isi (by rfl) B.isi (by decide +kernel) (pa_cons (pv 0) (pa_cons (pe_bltn (v := .ty "list") (by rfl) B.list (by decide +kernel) rfl) pa_nil)))
      (pe_one (pe_chain op_le op_le (pv 1) (pe_callB call_len_seq (by rfl) B.len PySem.boot_len (pa_cons (pv 0) pa_nil)) (pv 2))))), ?_⟩
    refine ⟨_, rfl, _, _, _, _, true, rfl, .ty _, .base (.lst hl), kit_ty (by decide +kernel), _, rfl, iteT ?_⟩
    refine ⟨_, rfl, _, rfl, l, _, rfl, .inl (SqL.of hl), _, _, rfl, rfl, _, rfl, ?_⟩
    by_cases h1 : a ≤ (xs.length : Int)
    · refine ifT (decide_eq_true h1) ⟨_, rfl, _, _, rfl, rfl, ?_⟩
      show Q (.bl (decide ((xs.length : Int) ≤ b))) H
      by_cases h2 : (xs.length : Int) ≤ b
      · rw [decide_eq_true h2]
        rw [decide_eq_true ⟨h1, h2⟩] at k
        exact k
      · rw [decide_eq_false h2]
        rw [decide_eq_false fun z => h2 z.2] at k
        exact k
    · refine ifF (by rw [decide_eq_false h1]; exact Bool.false_ne_true) ?_
      rw [decide_eq_false fun z => h1 z.1] at k
      exact k
theorem scRow : FnScope ["value", "many"] ["value", "many"] (defScope sRow) := ⟨rfl, rfl, rfl, by decide +kernel, rfl, by decide +kernel, by decide +kernel⟩
theorem c_row (B : Base K mg) (D : DefT K mg "is_row" sRow ["value", "many"]) : Cal P w K mg base 1 "is_row" spRow := by
  refine cal D scRow (fun vs H Q E h => ?_) (fun f cdv A outer s H vs Q E hr h => ?_)
  · obtain ⟨l, xs, m, rfl, _⟩ := h
    rfl
  · obtain ⟨l, xs, m, rfl, hl, k⟩ := h
    refine ⟨_, pss_one (ps_ret (pe_and (pe_callB call_isi (by rfl) B.isi (by decide +kernel) (pa_cons (pv 0) (pa_cons (pe_bltn (v := .ty "tuple") (by rfl) B.tuple (by decide +kernel) rfl) pa_nil)))
      (pe_one (pe_cmpR op_eq (pe_callB call_len_seq (by rfl) B.len PySem.boot_len (pa_cons (pv 0) pa_nil)) (pv 1) (nomark _))))), ?_⟩
    refine ⟨_, rfl, _, _, _, _, true, rfl, .ty _, .base (.tup hl), kit_ty (by decide +kernel), _, rfl, iteT ?_⟩
    refine ⟨_, rfl, l, _, rfl, .inr (SqT.of hl), _, rfl, rfl, ?_⟩
    have e : decide (V.int (xs.length : Int) = V.int m) = decide ((xs.length : Int) = m) := by
      by_cases h : (xs.length : Int) = m
      · rw [h]; simp
      · rw [decide_eq_false h, decide_eq_false fun z => h (by injection z)]
    show Q (.bl (decide (V.int (xs.length : Int) = V.int m))) H
    rw [e]
    exact k
abbrev nHeadsP : List Str := ["heads", "ahead", "row", "name", "upper"]
theorem scHeadsP : FnScope nHeadsP ["heads"] (defScope sHeadsP) := ⟨rfl, rfl, rfl, by decide +kernel, rfl, by decide +kernel, by decide +kernel⟩
theorem c_headsP (B : Base K mg) (Ls : Cal P w K mg base 1 "is_list" spList) (Ro : Cal P w K mg base 1 "is_row" spRow) (Wo : Cal P w K mg base 1 "is_word" spWord) (D : DefT K mg "are_heads" sHeadsP ["heads"]) : Cal P w K mg base 2 "are_heads" spHeadsP := by
  obtain ⟨tH, hH⟩ := B.mostH
  refine cal D scHeadsP (fun vs H Q E h => ?_) (fun f cdv A outer s H vs Q E hr h => ?_)
  · obtain ⟨l, ts, hs, rfl, _⟩ := h
    rfl
  · obtain ⟨l, ts, hs, rfl, R, Vh, k⟩ := h
    have hz : sizeLine = 16777216 := by decide
    have tl : ts.length = hs.length := by rw [R.len, List.length_map]
    have h1 := Vh.l1
    have h8 := Vh.l8
    refine ⟨_, pss_cons (ps_if (pt_not (pt_val (pe_cl Ls hr (by decide) (by rfl) (pa_cons (pv 0) (pa_cons pe_int (pa_cons (pe_glob (v := .int 8) rfl hH ⟨_, rfl⟩) pa_nil)))))) (pss_one (ps_ret pe_bl)) pss_nil)
      (pss_cons (ps_set (i := 1) scHeadsP.nd rfl (Or.inl rfl) (pe_lst pa_nil))
      (pss_cons (ps_for PassesOwn.never rfl (pi_list (pv 0)) (pg_name (i := 2) scHeadsP.nd rfl (Or.inl rfl))
        (pss_cons (ps_if (pt_not (pt_val (pe_cl Ro hr (by decide) (by rfl) (pa_cons (pv 2) (pa_cons pe_int pa_nil))))) (pss_one (ps_ret pe_bl)) pss_nil)
        (pss_cons (ps_asg (pv 2) (pg_tup rfl (pgs_cons (pg_name (i := 3) scHeadsP.nd rfl (Or.inl rfl)) (pgs_cons (pg_name (i := 4) scHeadsP.nd rfl (Or.inl rfl)) pgs_nil))))
        (pss_cons (ps_if (PW.pt (pw_or (pt_not (pt_val (pe_cl Wo hr (by decide) (by rfl) (pa_cons (pv 3) pa_nil)))) (pw_or1 (pt_cmpR op_in_seq (pv 3) (pv 1) rfl)))) (pss_one (ps_ret pe_bl)) pss_nil)
        (pss_cons (ps_if (PW.pt (pw_and (pt_cmpR op_ne (pv 4) pe_str (nomark _)) (pw_and1 (pt_cmpR op_notIn_seq (pv 4) (pv 1) rfl)))) (pss_one (ps_ret pe_bl)) pss_nil)
        (pss_one (ps_expr (pe_bm PySem.F.plainAttrs_list PySem.F.slot_list_append PySem.F.type_list_append mt_append (pv 1) (pa_cons (pv 3) pa_nil)))))))))
      (pss_one (ps_ret pe_bl)))), ?_⟩
    refine ⟨_, rfl, l, _, _, _, rfl, R.1, _, rfl, ?_⟩
    rw [decide_eq_true (show (1 : Int) ≤ ((ts.map V.ref).length : Int) ∧ ((ts.map V.ref).length : Int) ≤ 8 by rw [List.length_map, tl]; omega)]
    refine iteF ⟨(by show 0 ≤ sizeLine; decide), fun A2 hA => ?_⟩
    have lA : l ≠ A2 := ne_of_none R.1 hA
    refine ⟨_, rfl, l, rfl, ⟨_, SqL.of (same_new hA _ _ R.1)⟩, for_list (K := K) (a := l) (xs := ts.map V.ref) (fun i σ H' => ∃ (v2 v3 v4 : Option V), σ = [some (.ref l), some (.ref A2), v2, v3, v4] ∧ Same H H' ∧ H' A2 = some (.lst (((nms hs).take i).map V.str)))
      ⟨none, none, none, rfl, same_new hA, upd_same⟩ (fun i σ H' _ ⟨_, _, _, _, s1, _⟩ => SqL.of (s1 _ _ R.1)) ?_ ?_⟩
    · rintro i y σ H1 hi ⟨v2, v3, v4, rfl, s1, a1⟩
      obtain ⟨t, r, rfl, hr1, ht, hti⟩ := row_get R hi
      have hi8 : i < ts.length := (List.getElem?_eq_some_iff.mp hti).1
      have ht1 := s1 _ _ ht
      have hn := nms_get hr1
      have hm : r.1 ∈ nms hs := List.mem_of_getElem? hn
      refine ⟨_, rfl, t, _, _, rfl, ht1, _, rfl, iteF ?_⟩
      refine ⟨_, rfl, t, _, rfl, SqT.of ht1, rfl, _, _, rfl, _, _, rfl, rfl, ?_⟩
      refine ⟨_, rfl, r.1, rfl, Vh.w _ hm, fun H2 s2 => ⟨_, rfl, iteF ?_⟩⟩
      have a2 := s2 _ _ a1
      refine ⟨_, rfl, _, rfl, A2, _, rfl, .inl (SqL.of a2), rfl, flat_strs, _, rfl, ?_⟩
      show if (inV (.str r.1) (((nms hs).take i).map V.str)) = true then _ else _
      rw [inV_str]
      have nin : ¬ r.1 ∈ (nms hs).take i := fun hmem => by
        obtain ⟨j, hj⟩ := List.mem_iff_getElem?.mp hmem
        rw [List.getElem?_take] at hj
        split at hj
        · rename_i hlt
          have := nd_ix Vh.nd hj hn
          omega
        · cases hj
      rw [decide_eq_false nin]
      refine iteF ?_
      have app : ∀ (H3 : Hp), H3 = H2 → ∃ l' xs y, V.ref A2 = .ref l' ∧ [V.str r.1] = [y] ∧ H3 l' = some (.lst xs) ∧ xs.length < sizeLine ∧ ∃ (v2 v3 v4 : Option V), [some (V.ref l), some (V.ref A2), some (V.ref t), some (V.str r.1), some (V.str r.2)] = [some (.ref l), some (.ref A2), v2, v3, v4] ∧ Same H (upd H3 l' (.lst (xs ++ [y]))) ∧ (upd H3 l' (.lst (xs ++ [y]))) A2 = some (.lst (((nms hs).take (i + 1)).map V.str)) := by
        rintro H3 rfl
        refine ⟨A2, _, _, rfl, rfl, a2, ?_, _, _, _, rfl, fun b o e => ?_, ?_⟩
        · rw [List.length_map, List.length_take]; omega
        · rw [upd_ne (ne_of_none e hA)]
          exact s2 _ _ (s1 _ _ e)
        · rw [upd_same, take_more hn, List.map_append]
          rfl
      refine ⟨_, rfl, rfl, _, rfl, ite2 (fun c => ?_) (fun c => ?_)⟩
      · refine ⟨_, rfl, _, rfl, A2, _, rfl, .inl (SqL.of a2), rfl, flat_strs, _, rfl, ?_⟩
        show if (!inV (.str r.2) (((nms hs).take i).map V.str)) = true then _ else _
        rw [inV_str]
        have hin : r.2 ∈ (nms hs).take i := by
          rcases Vh.up i r hr1 with e | ⟨j, hj, hu⟩
          · exfalso
            rw [e] at c
            exact absurd c (by decide +kernel)
          · exact List.mem_iff_getElem?.mpr ⟨j, by rw [List.getElem?_take, if_pos hj]; exact hu⟩
        rw [decide_eq_true hin]
        refine iteF ?_
        exact ⟨_, rfl, .inl ⟨rfl, _, SqL.of a2⟩, _, rfl, app _ rfl⟩
      · exact iteF ⟨_, rfl, .inl ⟨rfl, _, SqL.of a2⟩, _, rfl, app _ rfl⟩
    · rintro σ H1 ⟨v2, v3, v4, rfl, s1, a1⟩
      exact k _ s1
end
end KP
namespace KP
open PySem L2
section
variable {P : Program} {w : World} {K : PySem.W.Frag} {mg : Str → Option Value} {base : Heap}
abbrev nLimit : List Str := ["row", "days", "names", "head", "first", "last", "most"]
theorem scLimit : FnScope nLimit ["row", "days", "names"] (defScope sLimit) := ⟨rfl, rfl, rfl, by decide +kernel, rfl, by decide +kernel, by decide +kernel⟩
theorem c_limit (B : Base K mg) (Ro : Cal P w K mg base 1 "is_row" spRow) (Wh : Cal P w K mg base 1 "is_whole" spWhole) (D : DefT K mg "is_limit" sLimit ["row", "days", "names"]) : Cal P w K mg base 2 "is_limit" spLimit := by
  obtain ⟨tM, hM⟩ := B.mostM
  refine cal D scLimit (fun vs H Q E h => ?_) (fun f cdv A outer s H vs Q E hr h => ?_)
  · obtain ⟨t, n, d, ns, r, rfl, _⟩ := h
    rfl
  · obtain ⟨t, n, d, ns, r, rfl, ht, hn, ⟨o1, o2, o3, o4⟩, k⟩ := h
    refine ⟨_, pss_cons (ps_if (pt_not (pt_val (pe_cl Ro hr (by decide) (by rfl) (pa_cons (pv 0) (pa_cons pe_int pa_nil))))) (pss_one (ps_ret pe_bl)) pss_nil)
      (pss_cons (ps_asg (pv 0) (pg_tup rfl (pgs_cons (pg_name (i := 3) scLimit.nd rfl (Or.inl rfl)) (pgs_cons (pg_name (i := 4) scLimit.nd rfl (Or.inl rfl)) (pgs_cons (pg_name (i := 5) scLimit.nd rfl (Or.inl rfl)) (pgs_cons (pg_name (i := 6) scLimit.nd rfl (Or.inl rfl)) pgs_nil))))))
      (pss_cons (ps_if (PW.pt (pw_or (pt_cmpR op_notIn_seq (pv 3) (pv 2) rfl) (pw_or1 (pt_not (pt_val (pe_cl Wh hr (by decide) (by rfl) (pa_cons (pv 4) (pa_cons pe_int (pa_cons (pv 1) pa_nil))))))))) (pss_one (ps_ret pe_bl)) pss_nil)
      (pss_one (ps_ret (pe_and (pe_cl Wh hr (by decide) (by rfl) (pa_cons (pv 5) (pa_cons (pv 4) (pa_cons (pv 1) pa_nil)))) (pe_one (pe_cl Wh hr (by decide) (by rfl) (pa_cons (pv 6) (pa_cons pe_int (pa_cons (pe_glob (v := .int 1000000000000000) rfl hM ⟨_, rfl⟩) pa_nil)))))))))), ?_⟩
    refine ⟨_, rfl, t, _, _, rfl, ht, _, rfl, iteF ?_⟩
    refine ⟨_, rfl, t, _, rfl, SqT.of ht, rfl, _, _, rfl, _, _, rfl, _, _, rfl, _, _, rfl, rfl, ?_⟩
    refine ⟨_, rfl, _, rfl, n, _, rfl, .inl (SqL.of hn), rfl, flat_strs, _, rfl, ?_⟩
    show if (!inV (.str r.1) (ns.map V.str)) = true then _ else _
    rw [inV_str, decide_eq_true o1]
    refine iteF ⟨_, rfl, _, rfl, _, _, _, rfl, _, rfl, ?_⟩
    rw [decide_eq_true o2]
    refine iteF ⟨_, rfl, _, rfl, _, rfl, _, _, _, rfl, _, rfl, ?_⟩
    rw [decide_eq_true o3]
    refine iteT ⟨_, rfl, _, _, _, rfl, ?_⟩
    rw [decide_eq_true o4]
    exact k
abbrev nRule : List Str := ["row", "days", "names", "head", "part", "whole", "until"]
theorem scRule : FnScope nRule ["row", "days", "names"] (defScope sRule) := ⟨rfl, rfl, rfl, by decide +kernel, rfl, by decide +kernel, by decide +kernel⟩
theorem c_rule (B : Base K mg) (Ro : Cal P w K mg base 1 "is_row" spRow) (Wh : Cal P w K mg base 1 "is_whole" spWhole) (D : DefT K mg "is_rule" sRule ["row", "days", "names"]) : Cal P w K mg base 2 "is_rule" spRule := by
  obtain ⟨tM, hM⟩ := B.mostW
  refine cal D scRule (fun vs H Q E h => ?_) (fun f cdv A outer s H vs Q E hr h => ?_)
  · obtain ⟨t, n, d, ns, r, rfl, _⟩ := h
    rfl
  · obtain ⟨t, n, d, ns, r, rfl, ht, hn, ⟨o1, o2, o3, o4⟩, k⟩ := h
    refine ⟨_, pss_cons (ps_if (pt_not (pt_val (pe_cl Ro hr (by decide) (by rfl) (pa_cons (pv 0) (pa_cons pe_int pa_nil))))) (pss_one (ps_ret pe_bl)) pss_nil)
      (pss_cons (ps_asg (pv 0) (pg_tup rfl (pgs_cons (pg_name (i := 3) scRule.nd rfl (Or.inl rfl)) (pgs_cons (pg_name (i := 4) scRule.nd rfl (Or.inl rfl)) (pgs_cons (pg_name (i := 5) scRule.nd rfl (Or.inl rfl)) (pgs_cons (pg_name (i := 6) scRule.nd rfl (Or.inl rfl)) pgs_nil))))))
      (pss_cons (ps_if (PW.pt (pw_or (pt_cmpR op_notIn_seq (pv 3) (pv 2) rfl) (pw_or1 (pt_not (pt_val (pe_cl Wh hr (by decide) (by rfl) (pa_cons (pv 5) (pa_cons pe_int (pa_cons (pe_glob (v := .int 1000) rfl hM ⟨_, rfl⟩) pa_nil))))))))) (pss_one (ps_ret pe_bl)) pss_nil)
      (pss_one (ps_ret (pe_and (pe_cl Wh hr (by decide) (by rfl) (pa_cons (pv 4) (pa_cons pe_int (pa_cons (pv 5) pa_nil)))) (pe_one (pe_cl Wh hr (by decide) (by rfl) (pa_cons (pv 6) (pa_cons pe_int (pa_cons (pe_op op_add (pv 1) pe_int) pa_nil)))))))))), ?_⟩
    refine ⟨_, rfl, t, _, _, rfl, ht, _, rfl, iteF ?_⟩
    refine ⟨_, rfl, t, _, rfl, SqT.of ht, rfl, _, _, rfl, _, _, rfl, _, _, rfl, _, _, rfl, rfl, ?_⟩
    refine ⟨_, rfl, _, rfl, n, _, rfl, .inl (SqL.of hn), rfl, flat_strs, _, rfl, ?_⟩
    show if (!inV (.str r.1) (ns.map V.str)) = true then _ else _
    rw [inV_str, decide_eq_true o1]
    refine iteF ⟨_, rfl, _, _, _, rfl, _, rfl, ?_⟩
    rw [decide_eq_true o2]
    refine iteF ⟨_, rfl, _, rfl, _, _, _, rfl, _, rfl, ?_⟩
    rw [decide_eq_true o3]
    refine iteT ⟨_, rfl, _, rfl, _, _, rfl, rfl, _, _, _, rfl, ?_⟩
    rw [decide_eq_true o4]
    exact k
abbrev nOne : List Str := ["rules", "name", "top", "bottom", "head", "part", "whole", "until"]
theorem scOne : FnScope nOne ["rules", "name"] (defScope sOne) := ⟨rfl, rfl, rfl, by decide +kernel, rfl, by decide +kernel, by decide +kernel⟩
theorem c_one (D : DefT K mg "is_at_most_one" sOne ["rules", "name"]) : Cal P w K mg base 1 "is_at_most_one" spOne := by
  refine cal D scOne (fun vs H Q E h => ?_) (fun f cdv A outer s H vs Q E hr h => ?_)
  · obtain ⟨l, ts, x, rs, rfl, _⟩ := h
    rfl
  · obtain ⟨l, ts, x, rs, rfl, R, hb, h1, k⟩ := h
    refine ⟨_, pss_cons (ps_set (i := 2) scOne.nd rfl (Or.inl rfl) pe_int) (pss_cons (ps_set (i := 3) scOne.nd rfl (Or.inl rfl) pe_int)
      (pss_cons (ps_for PassesOwn.never rfl (pi_list (pv 0)) (pg_tup rfl (pgs_cons (pg_name (i := 4) scOne.nd rfl (Or.inl rfl)) (pgs_cons (pg_name (i := 5) scOne.nd rfl (Or.inl rfl)) (pgs_cons (pg_name (i := 6) scOne.nd rfl (Or.inl rfl)) (pgs_cons (pg_name (i := 7) scOne.nd rfl (Or.inl rfl)) pgs_nil)))))
        (pss_one (ps_if (pt_cmpR op_eq (pv 4) (pv 1) (nomark _))
          (pss_cons (ps_set (i := 2) scOne.nd rfl (Or.inl rfl) (pe_op op_add (pe_op op_mul (pv 2) (pv 6)) (pe_op op_mul (pv 5) (pv 3)))) (pss_one (ps_set (i := 3) scOne.nd rfl (Or.inl rfl) (pe_op op_mul (pv 3) (pv 6))))) pss_nil)))
      (pss_one (ps_ret (pe_cmpR op_le (pv 2) (pv 3) (nomark _)))))), ?_⟩
    refine ⟨_, rfl, l, rfl, ⟨_, SqL.of R.1⟩, for_list (K := K) (a := l) (xs := ts.map V.ref) (fun i σ H' => ∃ (v4 v5 v6 v7 : Option V), σ = [some (.ref l), some (.str x), some (.int (fr (rs.take i) x).1), some (.int (fr (rs.take i) x).2), v4, v5, v6, v7] ∧ H' = H)
      ⟨none, none, none, none, rfl, rfl⟩ (fun i σ H' _ ⟨_, _, _, _, _, e⟩ => by rw [e]; exact SqL.of R.1) ?_ ?_⟩
    · rintro i y σ H1 hi ⟨v4, v5, v6, v7, rfl, rfl⟩
      obtain ⟨t, r, rfl, hr1, ht, hti⟩ := row_get R hi
      have bb := hb r (List.mem_of_getElem? hr1)
      have step := fr_snoc (rs.take i) x r
      rw [← take_more hr1] at step
      refine ⟨t, _, rfl, SqT.of ht, rfl, _, _, rfl, _, _, rfl, _, _, rfl, _, _, rfl, rfl, ?_⟩
      refine ⟨_, rfl, _, rfl, rfl, _, rfl, ite2 (fun c => ?_) (fun c => ?_)⟩
      · have e : r.1 = x := by have := of_decide_eq_true c; injection this
        have e2 : frS x (fr (rs.take i) x) r = ((fr (rs.take i) x).1 * r.2.2.1 + r.2.1 * (fr (rs.take i) x).2, (fr (rs.take i) x).2 * r.2.2.1) := by unfold frS; rw [if_pos e]
        rw [e2] at step
        refine ⟨_, rfl, _, rfl, _, _, rfl, rfl, Or.inr ⟨by omega, by omega⟩, _, rfl, _, rfl, _, _, rfl, rfl, Or.inl ⟨by omega, by omega⟩, _, _, rfl, rfl, ?_⟩
        refine ⟨_, rfl, _, rfl, _, _, rfl, rfl, Or.inr ⟨by omega, by omega⟩, ?_⟩
        refine ⟨some (.str r.1), some (.int r.2.1), some (.int r.2.2.1), some (.int r.2.2.2), ?_, rfl⟩
        rw [step]
        rfl
      · have e : ¬ r.1 = x := fun z => c (decide_eq_true (by rw [z]))
        have e2 : frS x (fr (rs.take i) x) r = fr (rs.take i) x := by unfold frS; rw [if_neg e]
        rw [e2] at step
        refine ⟨some (.str r.1), some (.int r.2.1), some (.int r.2.2.1), some (.int r.2.2.2), ?_, rfl⟩
        rw [step]
        rfl
    · rintro σ H1 ⟨v4, v5, v6, v7, rfl, rfl⟩
      have el : rs.take (ts.map V.ref).length = rs := by rw [List.length_map, R.len, List.length_map]; exact List.take_length
      rw [el]
      refine ⟨_, rfl, _, rfl, _, _, rfl, rfl, ?_⟩
      show Q (.bl (decide ((fr rs x).1 ≤ (fr rs x).2))) H1
      rw [decide_eq_true h1]
      exact k
/-- all([f(..) for x in xs]): a list of Trues grows -/
theorem rep_snoc {i : Nat} : List.replicate i (V.bl true) ++ [V.bl true] = List.replicate (i + 1) (V.bl true) := List.replicate_succ'.symm
abbrev nLimitsP : List Str := ["limits", "days", "names", "row"]
theorem scLimitsP : FnScope nLimitsP ["limits", "days", "names"] (defScope sLimitsP) := ⟨rfl, rfl, rfl, by decide +kernel, rfl, by decide +kernel, by decide +kernel⟩
theorem c_limitsP (B : Base K mg) (Ls : Cal P w K mg base 1 "is_list" spList) (Li : Cal P w K mg base 2 "is_limit" spLimit) (D : DefT K mg "are_limits" sLimitsP ["limits", "days", "names"]) : Cal P w K mg base 3 "are_limits" spLimitsP := by
  obtain ⟨tM, hM⟩ := B.mostLi
  refine cal D scLimitsP (fun vs H Q E h => ?_) (fun f cdv A outer s H vs Q E hr h => ?_)
  · obtain ⟨l, n, ts, d, ns, rs, rfl, _⟩ := h
    rfl
  · obtain ⟨l, n, ts, d, ns, rs, rfl, R, hn, hok, h6, k⟩ := h
    have hz : sizeLine = 16777216 := by decide
    have tl : ts.length = rs.length := by rw [R.len, List.length_map]
    refine ⟨_, pss_one (ps_ret (pe_and (pe_cl Ls hr (by decide) (by rfl) (pa_cons (pv 0) (pa_cons pe_int (pa_cons (pe_glob (v := .int 6) rfl hM ⟨_, rfl⟩) pa_nil))))
      (pe_one (pe_callB (cr_all rfl) (by rfl) B.all (by decide +kernel) (pa_cons (pe_lc (own := [("row", 3)]) (g := gName 3) (tt := tYes) rfl scLimitsP.nd (pi_list (pv 0)) (blkOk_by (N := nLimitsP) (sc := defScope sLimitsP) (by decide +kernel))
        (fun _ _ _ _ _ => pg_name (i := 3) scLimitsP.nd rfl (Or.inl rfl)) (fun _ _ _ _ _ => pts_nil) (fun _ _ _ _ _ => pe_cl Li hr (by decide) (by rfl) (pa_cons (pv 3) (pa_cons (pv 1) (pa_cons (pv 2) pa_nil))))) pa_nil))))), ?_⟩
    refine ⟨_, rfl, l, _, _, _, rfl, R.1, _, rfl, ?_⟩
    rw [decide_eq_true (show (0 : Int) ≤ ((ts.map V.ref).length : Int) ∧ ((ts.map V.ref).length : Int) ≤ 6 by rw [List.length_map, tl]; omega)]
    refine iteT ⟨_, rfl, l, rfl, ⟨_, SqL.of R.1⟩, fun D2 hD => lc_it (walk_list (xs := ts.map V.ref)) (fun i H' => H' = upd H D2 (.lst (List.replicate i (V.bl true)))) rfl (fun i H' _ e => by rw [e]; exact SqL.of (same_new hD _ _ R.1)) ?_ ?_⟩
    · rintro i v H1 H2 hi rfl ⟨rfl, hv⟩
      obtain ⟨t, r, rfl, hr1, ht, hti⟩ := row_get R hv
      refine ⟨rfl, yes (iteT ⟨_, rfl, _, rfl, _, rfl, t, n, d, ns, r, rfl, same_new hD _ _ ht, same_new hD _ _ hn, hok r (List.mem_of_getElem? hr1), _, upd_same, ?_, ?_⟩)⟩
      · rw [List.length_replicate]
        rw [List.length_map, tl] at hi
        omega
      · rw [upd_upd, rep_snoc]
    · rintro H1 rfl
      refine ⟨D2, List.replicate (ts.map V.ref).length true, rfl, SqL.of (by rw [upd_same, map_rep]), ?_⟩
      rw [all_rep]
      exact k _ (same_new hD)
abbrev nRulesP : List Str := ["rules", "days", "names", "row", "name"]
theorem scRulesP : FnScope nRulesP ["rules", "days", "names"] (defScope sRulesP) := ⟨rfl, rfl, rfl, by decide +kernel, rfl, by decide +kernel, by decide +kernel⟩
theorem c_rulesP (B : Base K mg) (Ls : Cal P w K mg base 1 "is_list" spList) (Ru : Cal P w K mg base 2 "is_rule" spRule) (On : Cal P w K mg base 1 "is_at_most_one" spOne) (D : DefT K mg "are_rules" sRulesP ["rules", "days", "names"]) : Cal P w K mg base 3 "are_rules" spRulesP := by
  obtain ⟨tM, hM⟩ := B.mostR
  refine cal D scRulesP (fun vs H Q E h => ?_) (fun f cdv A outer s H vs Q E hr h => ?_)
  · obtain ⟨l, n, ts, d, ns, rs, rfl, _⟩ := h
    rfl
  · obtain ⟨l, n, ts, d, ns, rs, rfl, R, hn, hok, h4, h8, hone, k⟩ := h
    have hz : sizeLine = 16777216 := by decide
    have tl : ts.length = rs.length := by rw [R.len, List.length_map]
    refine ⟨_, pss_cons (ps_if (PW.pt (pw_or (pt_not (pt_val (pe_cl Ls hr (by decide) (by rfl) (pa_cons (pv 0) (pa_cons pe_int (pa_cons (pe_glob (v := .int 4) rfl hM ⟨_, rfl⟩) pa_nil))))))
      (pw_or1 (pt_not (pt_val (pe_callB (cr_all rfl) (by rfl) B.all (by decide +kernel) (pa_cons (pe_lc (own := [("row", 3)]) (g := gName 3) (tt := tYes) rfl scRulesP.nd (pi_list (pv 0)) (blkOk_by (N := nRulesP) (sc := defScope sRulesP) (by decide +kernel))
        (fun _ _ _ _ _ => pg_name (i := 3) scRulesP.nd rfl (Or.inl rfl)) (fun _ _ _ _ _ => pts_nil) (fun _ _ _ _ _ => pe_cl Ru hr (by decide) (by rfl) (pa_cons (pv 3) (pa_cons (pv 1) (pa_cons (pv 2) pa_nil))))) pa_nil))))))) (pss_one (ps_ret pe_bl)) pss_nil)
      (pss_one (ps_ret (pe_callB (cr_all rfl) (by rfl) B.all (by decide +kernel) (pa_cons (pe_lc (own := [("name", 4)]) (g := gName 4) (tt := tYes) rfl scRulesP.nd (pi_list (pv 2)) (blkOk_by (N := nRulesP) (sc := defScope sRulesP) (by decide +kernel))
        (fun _ _ _ _ _ => pg_name (i := 4) scRulesP.nd rfl (Or.inl rfl)) (fun _ _ _ _ _ => pts_nil) (fun _ _ _ _ _ => pe_cl On hr (by decide) (by rfl) (pa_cons (pv 0) (pa_cons (pv 4) pa_nil)))) pa_nil)))), ?_⟩
    refine ⟨_, rfl, l, _, _, _, rfl, R.1, _, rfl, ?_⟩
    rw [decide_eq_true (show (0 : Int) ≤ ((ts.map V.ref).length : Int) ∧ ((ts.map V.ref).length : Int) ≤ 4 by rw [List.length_map, tl]; omega)]
    refine iteF ⟨_, rfl, l, rfl, ⟨_, SqL.of R.1⟩, fun D2 hD => lc_it (walk_list (xs := ts.map V.ref)) (fun i H' => H' = upd H D2 (.lst (List.replicate i (V.bl true)))) rfl (fun i H' _ e => by rw [e]; exact SqL.of (same_new hD _ _ R.1)) ?_ ?_⟩
    · rintro i v H1 H2 hi rfl ⟨rfl, hv⟩
      obtain ⟨t, r, rfl, hr1, ht, hti⟩ := row_get R hv
      refine ⟨rfl, yes (iteT ⟨_, rfl, _, rfl, _, rfl, t, n, d, ns, r, rfl, same_new hD _ _ ht, same_new hD _ _ hn, hok r (List.mem_of_getElem? hr1), _, upd_same, ?_, ?_⟩)⟩
      · rw [List.length_replicate]
        rw [List.length_map, tl] at hi
        omega
      · rw [upd_upd, rep_snoc]
    · rintro H1 rfl
      refine ⟨D2, List.replicate (ts.map V.ref).length true, rfl, SqL.of (by rw [upd_same, map_rep]), _, rfl, ?_⟩
      rw [all_rep]
      refine iteF ?_
      have sD : Same H (upd H D2 (.lst (List.replicate (ts.map V.ref).length (V.bl true)))) := same_new hD
      generalize upd H D2 (.lst (List.replicate (ts.map V.ref).length (V.bl true))) = H2 at sD
      have R2 := R.same sD
      refine ⟨_, rfl, n, rfl, ⟨_, SqL.of (sD _ _ hn)⟩, fun D3 hD3 => lc_it (walk_list (xs := ns.map V.str)) (fun i H' => H' = upd H2 D3 (.lst (List.replicate i (V.bl true)))) rfl (fun i H' _ e => by rw [e]; exact SqL.of (same_new hD3 _ _ (sD _ _ hn))) ?_ ?_⟩
      · rintro i v H3 H4 hi rfl ⟨rfl, hv⟩
        obtain ⟨x, hx, rfl⟩ : ∃ x, ns[i]? = some x ∧ v = V.str x := by
          rw [List.getElem?_map] at hv
          cases z : ns[i]? with
          | none => rw [z] at hv; cases hv
          | some x => rw [z] at hv; exact ⟨x, rfl, (Option.some.inj hv).symm⟩
        refine ⟨rfl, yes (iteT ⟨_, rfl, _, rfl, l, ts, x, rs, rfl, R2.same (same_new hD3), (fun r hr => ?_), hone x, _, upd_same, ?_, ?_⟩)⟩
        · obtain ⟨_, o2, o3, _⟩ := hok r hr
          omega
        · rw [List.length_replicate]
          rw [List.length_map] at hi
          omega
        · rw [upd_upd, rep_snoc]
      · rintro H3 rfl
        refine ⟨D3, List.replicate (ns.map V.str).length true, rfl, SqL.of (by rw [upd_same, map_rep]), ?_⟩
        rw [all_rep]
        exact k _ (sD.trans (same_new hD3))
end
end KP
namespace KP
open PySem L2
theorem put1 (a : Str) (x : V) : putF a x [] = [(a, x)] := rfl
theorem put2 {a b : Str} (h : a ≠ b) (x y : V) : putF b y [(a, x)] = [(a, x), (b, y)] := by
  show (if a = b then (a, y) :: [] else (a, x) :: putF b y []) = _
  rw [if_neg h]
  rfl
theorem put3 {a b c : Str} (h : a ≠ c) (h2 : b ≠ c) (x y z : V) : putF c z [(a, x), (b, y)] = [(a, x), (b, y), (c, z)] := by
  show (if a = c then _ else (a, x) :: putF c z [(b, y)]) = _
  rw [if_neg h, put2 h2]
theorem put4 {a b c d : Str} (h : a ≠ d) (h2 : b ≠ d) (h3 : c ≠ d) (x y z u : V) : putF d u [(a, x), (b, y), (c, z)] = [(a, x), (b, y), (c, z), (d, u)] := by
  show (if a = d then _ else (a, x) :: putF d u [(b, y), (c, z)]) = _
  rw [if_neg h, put3 h2 h3]
structure MakT (P : Program) (w : World) (K : PySem.W.Frag) (mg : Str → Option Value) (base : Heap) (k : Nat) (x : Str) (C : Addr) (sp : Sp) : Prop where
  ex : ∃ f fd ps, Mk K C f ∧ FnOk P w K mg base CX0 k f fd ps sp ∧ mg x = some (.ref C) ∧ Binds K fd ps []
structure MetT (P : Program) (w : World) (K : PySem.W.Frag) (mg : Str → Option Value) (base : Heap) (k : Nat) (C : Addr) (m : Str) (sp : Sp) : Prop where
  ex : ∃ f fd ps, Cls K C ∧ Meth K C m f ∧ FnOk P w K mg base CX0 k f fd ps sp ∧ Binds K fd ps []
section
variable {X : Cx} {k j : Nat} {x m : Str} {C : Addr} {sp : Sp} {p pos apos : Pos} {e o : Expr} {es : List Expr} {ta : TE} {t : TA}
theorem pe_mkT (c : MakT X.prog X.w X.K X.mg X.base k x C sp) (hr : Room j X.A) (hk : k + 1 ≤ j) (hg : Gl X x) (ha : PA X (e :: es) t)
    (hdb : (x == ("__debug__" : Str)) = false := by decide) (he : starEach (e :: es) X.env = (false, eval e X.env) :: starEach es X.env := by rfl) (hpl : (backTo pos (starEach es X.env)).any (·.1) = false := by rfl) :
    PE X (.Call (.Name x p) (e :: es) [] pos) (tMake C sp [] E0 t) := by
  obtain ⟨f, fd, ps, M, F, m, b⟩ := c.ex
  exact pe_make M F (hr.mono hk) hg m b .nil pass0 ha hdb he hpl
theorem pe_mtT0 {pl : Sem Bool} (c : MetT X.prog X.w X.K X.mg X.base k C m sp) (hr : Room j X.A) (hk : k ≤ j) (he : PE X o ta)
    (ht : eval (.Call (.Attribute o m apos) [] [] pos) X.env = (do
      let ov ← eval o X.env
      standAt apos.atName
      let (f, first) ← holding [ov] (getMethod ov m pl)
      callWith pos f first (backTo pos (starEach [] X.env)) (backToKw pos (keywordEach [] X.env))) := by rfl) :
    PE X (.Call (.Attribute o m apos) [] [] pos) (tMeth C m sp [] E0 ta tNil) := by
  obtain ⟨f, fd, ps, c, hm, F, b⟩ := c.ex
  exact pe_meth0 he c hm F (hr.mono hk) b .nil pass0 ht
theorem pe_mtT {pl : Sem Bool} (c : MetT X.prog X.w X.K X.mg X.base k C m sp) (hr : Room j X.A) (hk : k ≤ j) (he : PE X o ta) (ha : PA X (e :: es) t)
    (hst : starEach (e :: es) X.env = (false, eval e X.env) :: starEach es X.env := by rfl) (hpl : (backTo pos (starEach es X.env)).any (·.1) = false := by rfl)
    (ht : eval (.Call (.Attribute o m apos) (e :: es) [] pos) X.env = (do
      let ov ← eval o X.env
      standAt apos.atName
      let (f, first) ← holding [ov] (getMethod ov m pl)
      callWith pos f first (backTo pos (starEach (e :: es) X.env)) (backToKw pos (keywordEach [] X.env))) := by rfl) :
    PE X (.Call (.Attribute o m apos) (e :: es) [] pos) (tMeth C m sp [] E0 ta t) := by
  obtain ⟨f, fd, ps, c, hm, F, b⟩ := c.ex
  exact pe_meth he c hm F (hr.mono hk) b .nil pass0 ha hst hpl ht
end

/-! ### a year in the heap -/
def yf (d : Int) (l1 l2 l3 : Addr) : List (Str × V) := [("days", .int d), ("heads", .ref l1), ("limits", .ref l2), ("rules", .ref l3)]
/-- lists at M alone may change -/
def KeepM (M : List Addr) (H H' : Hp) : Prop := ∀ b o, H b = some o → (b ∈ M → ∀ xs, o ≠ .lst xs) → H' b = some o
theorem KeepM.of {M : List Addr} {H H' : Hp} (s : Same H H') : KeepM M H H' := fun b o e _ => s b o e
theorem KeepM.trans {M : List Addr} {H H1 H2 : Hp} (s : KeepM M H H1) (t : KeepM M H1 H2) : KeepM M H H2 := fun b o e n => t b o (s b o e n) n
theorem KeepM.ofB {M : List Addr} {a : Addr} {H H' : Hp} {xs : List V} (s : SameB a H H') (h : H a = some (.lst xs)) (ha : a ∈ M) : KeepM M H H' := fun b o e n => s b o e fun z => by
  subst z
  rw [h] at e
  exact n ha xs (Option.some.inj e).symm
theorem KeepM.tup {M : List Addr} {H H' : Hp} (s : KeepM M H H') {b : Addr} {r : List V} (e : H b = some (.tup r)) : H' b = some (.tup r) := s b _ e fun _ _ z => nomatch z
theorem KeepM.lst {M : List Addr} {H H' : Hp} (s : KeepM M H H') {b : Addr} {r : List V} (e : H b = some (.lst r)) (h : b ∉ M) : H' b = some (.lst r) := s b _ e fun z => absurd z h
theorem RowsAt.keep {M : List Addr} {H H' : Hp} {l : Addr} {ts : List Addr} {rows : List (List V)} (h : RowsAt H l ts rows) (s : KeepM M H H') (hl : l ∉ M) : RowsAt H' l ts rows := ⟨s.lst h.1 hl, paired_mono (fun _ _ e => s.tup e) h.2⟩
structure YearAt (C : Addr) (M : List Addr) (H : Hp) (p : Addr) (y : Yr) : Prop where
  ex : ∃ dx l1 l2 l3 t1 t2 t3, H p = some (.ins C dx (yf y.days l1 l2 l3)) ∧ RowsAt H l1 t1 (y.hs.map hv) ∧ RowsAt H l2 t2 (y.ls.map rv) ∧ RowsAt H l3 t3 (y.rs.map rv) ∧ l1 ∉ M ∧ l2 ∉ M ∧ l3 ∉ M
theorem YearAt.keep {C : Addr} {M : List Addr} {H H' : Hp} {p : Addr} {y : Yr} (h : YearAt C M H p y) (s : KeepM M H H') : YearAt C M H' p y := by
  obtain ⟨dx, l1, l2, l3, t1, t2, t3, hp, r1, r2, r3, n1, n2, n3⟩ := h.ex
  exact ⟨dx, l1, l2, l3, t1, t2, t3, s _ _ hp (fun _ _ z => nomatch z), r1.keep s n1, r2.keep s n2, r3.keep s n3, n1, n2, n3⟩
theorem YearAt.sub {C : Addr} {M M' : List Addr} {H : Hp} {p : Addr} {y : Yr} (h : YearAt C M H p y) (s : ∀ a, a ∈ M' → a ∈ M) : YearAt C M' H p y := by
  obtain ⟨dx, l1, l2, l3, t1, t2, t3, hp, r1, r2, r3, n1, n2, n3⟩ := h.ex
  exact ⟨dx, l1, l2, l3, t1, t2, t3, hp, r1, r2, r3, fun z => n1 (s _ z), fun z => n2 (s _ z), fun z => n3 (s _ z)⟩
theorem YearAt.nil {C : Addr} {M : List Addr} {H : Hp} {p : Addr} {y : Yr} (h : YearAt C M H p y) : YearAt C [] H p y := h.sub fun _ z => nomatch z
theorem YearAt.ext {C : Addr} {M : List Addr} {H : Hp} {p a : Addr} {y : Yr} (h : YearAt C M H p y) (ha : H a = none) : YearAt C (a :: M) H p y := by
  obtain ⟨dx, l1, l2, l3, t1, t2, t3, hp, r1, r2, r3, n1, n2, n3⟩ := h.ex
  have g : ∀ {l : Addr} {o : HO}, H l = some o → l ∉ M → l ∉ a :: M := fun e n z => by
    rcases List.mem_cons.mp z with z | z
    · exact ne_of_none e ha z
    · exact n z
  exact ⟨dx, l1, l2, l3, t1, t2, t3, hp, r1, r2, r3, g r1.1 n1, g r2.1 n2, g r3.1 n3⟩
theorem YearAt.same {C : Addr} {M : List Addr} {H H' : Hp} {p : Addr} {y : Yr} (h : YearAt C M H p y) (s : Same H H') : YearAt C M H' p y := h.keep (KeepM.of s)
/-! ### the class -/
structure YearF (K : PySem.W.Frag) (mg : Str → Option Value) (C : Addr) : Prop where
  cl : Cls K C
  mgC : mg "Year" = some (.ref C)
  nd : NoAttr K C "days"
  nh : NoAttr K C "heads"
  nl : NoAttr K C "limits"
  nr : NoAttr K C "rules"
structure MethT (K : PySem.W.Frag) (C : Addr) (m q : Str) (st : Stmt) (ps : List Str) : Prop where
  ex : ∃ f fd, Meth K C m f ∧ Fun K m q st f fd ∧ Binds K fd ps []
structure InitT (K : PySem.W.Frag) (C : Addr) (q : Str) (st : Stmt) (ps : List Str) : Prop where
  ex : ∃ f fd, Mk K C f ∧ Fun K "__init__" q st f fd ∧ Binds K fd ps []
abbrev sYI : Stmt := inClass (top 59) 0
abbrev sYN : Stmt := inClass (top 59) 1
abbrev sYA : Stmt := inClass (top 59) 2
abbrev sYK : Stmt := inClass (top 59) 3
abbrev sYU : Stmt := inClass (top 59) 4
def spYear (C : Addr) : Sp := fun vs H Q _ => ∃ (p dx lh ll lr : Addr) (th tl tr : List Addr) (y : Yr), vs = [.ref p, .int y.days, .ref lh, .ref ll, .ref lr] ∧ H p = some (.ins C dx []) ∧ RowsAt H lh th (y.hs.map hv) ∧ RowsAt H ll tl (y.ls.map rv) ∧ RowsAt H lr tr (y.rs.map rv) ∧ y.ok ∧
  ∀ (H' : Hp) (l1 l2 l3 : Addr), H' p = some (.ins C dx (yf y.days l1 l2 l3)) → RowsAt H' l1 th (y.hs.map hv) → RowsAt H' l2 tl (y.ls.map rv) → RowsAt H' l3 tr (y.rs.map rv) → H l1 = none → H l2 = none → H l3 = none → (∀ b o, H b = some o → b ≠ p → H' b = some o) → Q .non H'
def spYN (C : Addr) : Sp := fun vs H Q _ => ∃ (p : Addr) (y : Yr), vs = [.ref p] ∧ YearAt C [] H p y ∧ y.hs.length ≤ 8 ∧ ∀ q, H q = none → Q (.ref q) (upd H q (.lst ((nms y.hs).map V.str)))
def spYA (C : Addr) : Sp := fun vs H Q _ => ∃ (p : Addr) (y : Yr) (x : Str), vs = [.ref p, .str x] ∧ YearAt C [] H p y ∧ VH y.hs ∧ x ∈ nms y.hs ∧ Q (.str (up y.hs x)) H
def spYK (C : Addr) : Sp := fun vs H Q _ => ∃ (p : Addr) (y : Yr) (x : Str), vs = [.ref p, .str x] ∧ YearAt C [] H p y ∧ VH y.hs ∧ x ∈ nms y.hs ∧ ∀ q, H q = none → Q (.ref q) (upd H q (.lst ((kn y.hs x).map V.str)))
def spYU (C : Addr) : Sp := fun vs H Q _ => ∃ (p : Addr) (y : Yr) (x : Str), vs = [.ref p, .str x] ∧ YearAt C [] H p y ∧ VH y.hs ∧ x ∈ nms y.hs ∧ ∀ q H', Same H H' → H q = none → H' q = some (.lst ((und y.hs x).map V.str)) → Q (.ref q) H'
theorem yf_no {d : Int} {l1 l2 l3 : Addr} {m : Str} (h1 : m ≠ "days") (h2 : m ≠ "heads") (h3 : m ≠ "limits") (h4 : m ≠ "rules") : (yf d l1 l2 l3).lookup m = none := by
  unfold yf
  simp only [List.lookup, beq_eq_false_iff_ne.mpr h1, beq_eq_false_iff_ne.mpr h2, beq_eq_false_iff_ne.mpr h3, beq_eq_false_iff_ne.mpr h4]
section
variable {P : Program} {w : World} {K : PySem.W.Frag} {mg : Str → Option Value} {base : Heap} {C : Addr}
abbrev nYI : List Str := ["self", "days", "heads", "limits", "rules", "names", "row"]
theorem scYI : FnScope nYI ["self", "days", "heads", "limits", "rules"] (defScope sYI) := ⟨rfl, rfl, rfl, by decide +kernel, rfl, by decide +kernel, by decide +kernel⟩
theorem c_year (B : Base K mg) (T : YearF K mg C) (Wh : Cal P w K mg base 1 "is_whole" spWhole) (Hs : Cal P w K mg base 2 "are_heads" spHeadsP) (Li : Cal P w K mg base 3 "are_limits" spLimitsP) (Ru : Cal P w K mg base 3 "are_rules" spRulesP)
    (D : InitT K C "Year.__init__" sYI ["self", "days", "heads", "limits", "rules"]) : MakT P w K mg base 4 "Year" C (spYear C) := by
  obtain ⟨tD, hD⟩ := B.mostD
  obtain ⟨f, fd, M, F, b⟩ := D.ex
  refine ⟨f, fd, _, M, F.ok scYI (fun vs H Q E h => ?_) (fun cdv A outer s H vs Q E hr h => ?_), T.mgC, b⟩
  · obtain ⟨p, dx, lh, ll, lr, th, tl, tr, y, rfl, _⟩ := h
    rfl
  · obtain ⟨p, dx, lh, ll, lr, th, tl, tr, y, rfl, hp, r1, r2, r3, ok, k⟩ := h
    have hz : sizeLine = 16777216 := by decide
    have thl : th.length = y.hs.length := by rw [r1.len, List.length_map]
    have h8 := ok.h.l8
    refine ⟨_, pss_cons (ps_if (pt_not (pt_val (pe_cl Wh hr (by decide) (by rfl) (pa_cons (pv 1) (pa_cons pe_int (pa_cons (pe_glob (v := .int 30) rfl hD ⟨_, rfl⟩) pa_nil)))))) (pss_one ps_never) pss_nil)
      (pss_cons (ps_if (pt_not (pt_val (pe_cl Hs hr (by decide) (by rfl) (pa_cons (pv 2) pa_nil)))) (pss_one ps_never) pss_nil)
      (pss_cons (ps_setLc (i := 5) (own := [("row", 6)]) (g := gName 6) (tt := tYes) (te := tOp (rIxT K) (tVar 6) (tC (.int 0))) rfl scYI.nd rfl rfl (sw_true rfl rfl rfl (by decide +kernel)) (pi_list (pv 2)) (blkOk_by (N := nYI) (sc := defScope sYI) (by decide +kernel))
        (fun _ _ _ _ _ => pg_name (i := 6) scYI.nd rfl (Or.inl rfl)) (fun _ _ _ _ _ => pts_nil) (fun _ _ _ _ _ => pe_ix ix_tup (pv 6) pe_int (fun _ _ => rfl)))
      (pss_cons (ps_if (pt_not (pt_val (pe_cl Li hr (by decide) (by rfl) (pa_cons (pv 3) (pa_cons (pv 1) (pa_cons (pv 5) pa_nil)))))) (pss_one ps_never) pss_nil)
      (pss_cons (ps_if (pt_not (pt_val (pe_cl Ru hr (by decide) (by rfl) (pa_cons (pv 4) (pa_cons (pv 1) (pa_cons (pv 5) pa_nil)))))) (pss_one ps_never) pss_nil)
      (pss_cons (ps_fld (pv 0) (pv 1) rfl)
      (pss_cons (ps_fld (pv 0) (pe_callTy call_list_of (by rfl) B.list (by decide +kernel) (pa_cons (pv 2) pa_nil)) rfl)
      (pss_cons (ps_fld (pv 0) (pe_callTy call_list_of (by rfl) B.list (by decide +kernel) (pa_cons (pv 3) pa_nil)) rfl)
      (pss_one (ps_fld (pv 0) (pe_callTy call_list_of (by rfl) B.list (by decide +kernel) (pa_cons (pv 4) pa_nil)) rfl))))))))), ?_⟩
    refine ⟨_, rfl, _, _, _, rfl, _, rfl, ?_⟩
    rw [decide_eq_true ok.d]
    refine iteF ⟨_, rfl, lh, th, y.hs, rfl, r1, ok.h, fun H1 s1 => ⟨_, rfl, iteF ?_⟩⟩
    have r1' := r1.same s1
    refine ⟨_, rfl, lh, rfl, ⟨_, SqL.of r1'.1⟩, fun D2 hD2 => lc_it (walk_list (xs := th.map V.ref)) (fun i H' => H' = upd H1 D2 (.lst (((nms y.hs).take i).map V.str))) rfl (fun i H' _ e => by rw [e]; exact SqL.of (same_new hD2 _ _ r1'.1)) ?_ ?_⟩
    · rintro i v H2 H3 hi rfl ⟨rfl, hv⟩
      obtain ⟨t, r, rfl, hr1, ht, hti⟩ := row_get r1' hv
      refine ⟨rfl, yes (iteT ⟨_, rfl, t, _, 0, .str r.1, rfl, rfl, SqT.of (same_new hD2 _ _ ht), rfl, _, upd_same, ?_, ?_⟩)⟩
      · rw [List.length_map, List.length_take]
        rw [List.length_map, thl] at hi
        omega
      · rw [upd_upd, take_more (nms_get hr1), List.map_append]
        rfl
    · rintro H2 rfl
      have el : (nms y.hs).take (th.map V.ref).length = nms y.hs := List.take_of_length_le (by unfold nms; rw [List.length_map, List.length_map, thl]; exact Nat.le_refl _)
      rw [el]
      have s2 : Same H (upd H1 D2 (.lst ((nms y.hs).map V.str))) := s1.trans (same_new hD2)
      have hn2 : upd H1 D2 (.lst ((nms y.hs).map V.str)) D2 = some (.lst ((nms y.hs).map V.str)) := upd_same
      generalize upd H1 D2 (.lst ((nms y.hs).map V.str)) = H2 at s2 hn2
      refine ⟨_, rfl, _, rfl, _, rfl, ll, D2, tl, y.days, nms y.hs, y.ls, rfl, r2.same s2, hn2, ok.l, ok.l6, fun H3 s3 => ⟨_, rfl, iteF ?_⟩⟩
      have s3' := s2.trans s3
      refine ⟨_, rfl, _, rfl, _, rfl, lr, D2, tr, y.days, nms y.hs, y.rs, rfl, r3.same s3', s3 _ _ hn2, ok.r, ok.r4, (by unfold nms; rw [List.length_map]; exact h8), ok.one, fun H4 s4 => ⟨_, rfl, iteF ?_⟩⟩
      have s5 := s3'.trans s4
      have q1 := r1.same s5
      have q2 := r2.same s5
      have q3 := r3.same s5
      have hp4 := s5 _ _ hp
      have e12 : ("days" : Str) ≠ "heads" := by decide +kernel
      have e13 : ("days" : Str) ≠ "limits" := by decide +kernel
      have e14 : ("days" : Str) ≠ "rules" := by decide +kernel
      have e23 : ("heads" : Str) ≠ "limits" := by decide +kernel
      have e24 : ("heads" : Str) ≠ "rules" := by decide +kernel
      have e34 : ("limits" : Str) ≠ "rules" := by decide +kernel
      have np : ∀ {a : Addr} {o : HO} {H : Hp}, H a = some o → (∀ C dx fs, o ≠ .ins C dx fs) → ∀ {dx fs}, H p = some (.ins C dx fs) → a ≠ p := fun e n _ _ h z => by
        subst z
        rw [e] at h
        exact n _ _ _ (Option.some.inj h)
      refine ⟨_, rfl, _, rfl, p, C, dx, _, rfl, hp4, T.cl, T.nd, (by show 0 < 1000; decide), ?_⟩
      rw [put1]
      have keepP : ∀ {H' : Hp} {o : HO}, (∀ b u, H b = some u → b ≠ p → H' b = some u) → ∀ b u, H b = some u → b ≠ p → upd H' p o b = some u := fun kk b u e hb => by rw [upd_ne hb]; exact kk b u e hb
      have k5 : ∀ b u, H b = some u → b ≠ p → upd H4 p (.ins C dx [("days", .int y.days)]) b = some u := keepP fun b u e _ => s5 b u e
      have lhp : lh ≠ p := np q1.1 (fun _ _ _ z => nomatch z) hp4
      have llp : ll ≠ p := np q2.1 (fun _ _ _ z => nomatch z) hp4
      have lrp : lr ≠ p := np q3.1 (fun _ _ _ z => nomatch z) hp4
      have hp5 : upd H4 p (.ins C dx [("days", .int y.days)]) p = some (.ins C dx [("days", .int y.days)]) := upd_same
      generalize upd H4 p (.ins C dx [("days", .int y.days)]) = H5 at k5 hp5
      refine ⟨_, rfl, lh, _, rfl, .inl (SqL.of (k5 _ _ r1.1 lhp)), fun l1 hl1 => ?_⟩
      have p1 : p ≠ l1 := ne_of_none hp5 hl1
      refine ⟨_, rfl, p, C, dx, _, rfl, (by rw [upd_ne p1]; exact hp5), T.cl, T.nh, (by show 1 < 1000; decide), ?_⟩
      rw [put2 e12]
      have n1 : H l1 = none := by
        cases z : H l1 with
        | none => rfl
        | some o => have := k5 _ _ z p1.symm; rw [hl1] at this; cases this
      have k6 : ∀ b u, H b = some u → b ≠ p → upd (upd H5 l1 (.lst (th.map V.ref))) p (.ins C dx [("days", .int y.days), ("heads", .ref l1)]) b = some u := keepP fun b u e hb => by
        rw [upd_ne (ne_of_none e n1)]; exact k5 b u e hb
      have hp6 : upd (upd H5 l1 (.lst (th.map V.ref))) p (.ins C dx [("days", .int y.days), ("heads", .ref l1)]) p = some (.ins C dx [("days", .int y.days), ("heads", .ref l1)]) := upd_same
      have g1 : upd (upd H5 l1 (.lst (th.map V.ref))) p (.ins C dx [("days", .int y.days), ("heads", .ref l1)]) l1 = some (.lst (th.map V.ref)) := by rw [upd_ne p1.symm]; exact upd_same
      generalize upd (upd H5 l1 (.lst (th.map V.ref))) p (.ins C dx [("days", .int y.days), ("heads", .ref l1)]) = H6 at k6 hp6 g1
      refine ⟨_, rfl, ll, _, rfl, .inl (SqL.of (k6 _ _ r2.1 llp)), fun l2 hl2 => ?_⟩
      have p2 : p ≠ l2 := ne_of_none hp6 hl2
      have l12 : l1 ≠ l2 := ne_of_none g1 hl2
      refine ⟨_, rfl, p, C, dx, _, rfl, (by rw [upd_ne p2]; exact hp6), T.cl, T.nl, (by show 2 < 1000; decide), ?_⟩
      rw [put3 e13 e23]
      have n2 : H l2 = none := by
        cases z : H l2 with
        | none => rfl
        | some o => have := k6 _ _ z p2.symm; rw [hl2] at this; cases this
      have k7 : ∀ b u, H b = some u → b ≠ p → upd (upd H6 l2 (.lst (tl.map V.ref))) p (.ins C dx [("days", .int y.days), ("heads", .ref l1), ("limits", .ref l2)]) b = some u := keepP fun b u e hb => by
        rw [upd_ne (ne_of_none e n2)]; exact k6 b u e hb
      have hp7 : upd (upd H6 l2 (.lst (tl.map V.ref))) p (.ins C dx [("days", .int y.days), ("heads", .ref l1), ("limits", .ref l2)]) p = some (.ins C dx [("days", .int y.days), ("heads", .ref l1), ("limits", .ref l2)]) := upd_same
      have g2 : upd (upd H6 l2 (.lst (tl.map V.ref))) p (.ins C dx [("days", .int y.days), ("heads", .ref l1), ("limits", .ref l2)]) l2 = some (.lst (tl.map V.ref)) := by rw [upd_ne p2.symm]; exact upd_same
      have g1' : upd (upd H6 l2 (.lst (tl.map V.ref))) p (.ins C dx [("days", .int y.days), ("heads", .ref l1), ("limits", .ref l2)]) l1 = some (.lst (th.map V.ref)) := by rw [upd_ne p1.symm, upd_ne l12]; exact g1
      generalize upd (upd H6 l2 (.lst (tl.map V.ref))) p (.ins C dx [("days", .int y.days), ("heads", .ref l1), ("limits", .ref l2)]) = H7 at k7 hp7 g2 g1'
      refine ⟨_, rfl, lr, _, rfl, .inl (SqL.of (k7 _ _ r3.1 lrp)), fun l3 hl3 => ?_⟩
      have p3 : p ≠ l3 := ne_of_none hp7 hl3
      refine ⟨_, rfl, p, C, dx, _, rfl, (by rw [upd_ne p3]; exact hp7), T.cl, T.nr, (by show 3 < 1000; decide), ?_⟩
      rw [put4 e14 e24 e34]
      have n3 : H l3 = none := by
        cases z : H l3 with
        | none => rfl
        | some o => have := k7 _ _ z p3.symm; rw [hl3] at this; cases this
      have k8 : ∀ b u, H b = some u → b ≠ p → upd (upd H7 l3 (.lst (tr.map V.ref))) p (.ins C dx [("days", .int y.days), ("heads", .ref l1), ("limits", .ref l2), ("rules", .ref l3)]) b = some u := keepP fun b u e hb => by
        rw [upd_ne (ne_of_none e n3)]; exact k7 b u e hb
      have tk : ∀ b r, H b = some (.tup r) → upd (upd H7 l3 (.lst (tr.map V.ref))) p (.ins C dx [("days", .int y.days), ("heads", .ref l1), ("limits", .ref l2), ("rules", .ref l3)]) b = some (.tup r) := fun b r e => k8 b _ e (np e (fun _ _ _ z => nomatch z) hp)
      refine k _ l1 l2 l3 upd_same ⟨?_, paired_mono tk r1.2⟩ ⟨?_, paired_mono tk r2.2⟩ ⟨?_, paired_mono tk r3.2⟩ n1 n2 n3 k8
      · rw [upd_ne p1.symm, upd_ne (ne_of_none g1' hl3)]; exact g1'
      · rw [upd_ne p2.symm, upd_ne (ne_of_none g2 hl3)]; exact g2
      · rw [upd_ne p3.symm]; exact upd_same
end
end KP
namespace KP
open PySem L2
section
variable {P : Program} {w : World} {K : PySem.W.Frag} {mg : Str → Option Value} {base : Heap} {C : Addr}
theorem scYN : FnScope ["self", "row"] ["self"] (defScope sYN) := ⟨rfl, rfl, rfl, by decide +kernel, rfl, by decide +kernel, by decide +kernel⟩
theorem c_yn (T : YearF K mg C) (D : MethT K C "names" "Year.names" sYN ["self"]) : MetT P w K mg base 1 C "names" (spYN C) := by
  obtain ⟨f, fd, M, F, b⟩ := D.ex
  refine ⟨f, fd, _, T.cl, M, F.ok scYN (fun vs H Q E h => ?_) (fun cdv A outer s H vs Q E hr h => ?_), b⟩
  · obtain ⟨p, y, rfl, _⟩ := h
    rfl
  · obtain ⟨p, y, rfl, hy, h8, k⟩ := h
    obtain ⟨dx, l1, l2, l3, t1, t2, t3, hp, r1, r2, r3, _⟩ := hy.ex
    have hz : sizeLine = 16777216 := by decide
    have thl : t1.length = y.hs.length := by rw [r1.len, List.length_map]
    refine ⟨_, pss_one (ps_ret (pe_lc (own := [("row", 1)]) (g := gName 1) (tt := tYes) (te := tOp (rIxT K) (tVar 1) (tC (.int 0))) rfl scYN.nd (pi_list (pe_fld (pv 0) rfl)) (blkOk_by (N := ["self", "row"]) (sc := defScope sYN) (by decide +kernel))
        (fun _ _ _ _ _ => pg_name (i := 1) scYN.nd rfl (Or.inl rfl)) (fun _ _ _ _ _ => pts_nil) (fun _ _ _ _ _ => pe_ix ix_tup (pv 1) pe_int (fun _ _ => rfl)))), ?_⟩
    refine ⟨_, rfl, p, C, dx, _, _, rfl, hp, T.cl, T.nh, rfl, l1, rfl, ⟨_, SqL.of r1.1⟩, fun D2 hD2 => lc_it (walk_list (xs := t1.map V.ref)) (fun i H' => H' = upd H D2 (.lst (((nms y.hs).take i).map V.str))) rfl (fun i H' _ e => by rw [e]; exact SqL.of (same_new hD2 _ _ r1.1)) ?_ ?_⟩
    · rintro i v H2 H3 hi rfl ⟨rfl, hv⟩
      obtain ⟨t, r, rfl, hr1, ht, hti⟩ := row_get r1 hv
      refine ⟨rfl, yes (iteT ⟨_, rfl, t, _, 0, .str r.1, rfl, rfl, SqT.of (same_new hD2 _ _ ht), rfl, _, upd_same, ?_, ?_⟩)⟩
      · rw [List.length_map, List.length_take]
        rw [List.length_map, thl] at hi
        omega
      · rw [upd_upd, take_more (nms_get hr1), List.map_append]
        rfl
    · rintro H2 rfl
      have el : (nms y.hs).take (t1.map V.ref).length = nms y.hs := List.take_of_length_le (by unfold nms; rw [List.length_map, List.length_map, thl]; exact Nat.le_refl _)
      rw [el]
      exact k D2 hD2
theorem scYA : FnScope ["self", "name", "head", "upper"] ["self", "name"] (defScope sYA) := ⟨rfl, rfl, rfl, by decide +kernel, rfl, by decide +kernel, by decide +kernel⟩
theorem c_ya (T : YearF K mg C) (D : MethT K C "above" "Year.above" sYA ["self", "name"]) : MetT P w K mg base 1 C "above" (spYA C) := by
  obtain ⟨f, fd, M, F, b⟩ := D.ex
  refine ⟨f, fd, _, T.cl, M, F.ok scYA (fun vs H Q E h => ?_) (fun cdv A outer s H vs Q E hr h => ?_), b⟩
  · obtain ⟨p, y, x, rfl, _⟩ := h
    rfl
  · obtain ⟨p, y, x, rfl, hy, Vh, hx, k⟩ := h
    obtain ⟨dx, l1, l2, l3, t1, t2, t3, hp, r1, r2, r3, _⟩ := hy.ex
    have thl : t1.length = y.hs.length := by rw [r1.len, List.length_map]
    refine ⟨_, pss_cons (ps_for PassesOwn.never rfl (pi_list (pe_fld (pv 0) rfl)) (pg_tup rfl (pgs_cons (pg_name (i := 2) scYA.nd rfl (Or.inl rfl)) (pgs_cons (pg_name (i := 3) scYA.nd rfl (Or.inl rfl)) pgs_nil)))
        (pss_one (ps_if (pt_cmpR op_eq (pv 2) (pv 1) (nomark _)) (pss_one (ps_ret (pv 3))) pss_nil))) (pss_one ps_never), ?_⟩
    refine ⟨_, rfl, p, C, dx, _, _, rfl, hp, T.cl, T.nh, rfl, l1, rfl, ⟨_, SqL.of r1.1⟩, for_list (K := K) (a := l1) (xs := t1.map V.ref) (fun i σ H' => ∃ (v2 v3 : Option V), σ = [some (.ref p), some (.str x), v2, v3] ∧ H' = H ∧ ∀ j, j < i → (nms y.hs)[j]? ≠ some x)
      ⟨none, none, rfl, rfl, fun j hj => absurd hj (Nat.not_lt_zero _)⟩ (fun i σ H' _ ⟨_, _, _, e, _⟩ => by rw [e]; exact SqL.of r1.1) ?_ ?_⟩
    · rintro i v σ H1 hi ⟨v2, v3, rfl, rfl, hj⟩
      obtain ⟨t, r, rfl, hr1, ht, hti⟩ := row_get r1 hi
      refine ⟨t, _, rfl, SqT.of ht, rfl, _, _, rfl, _, _, rfl, rfl, ?_⟩
      refine ⟨_, rfl, _, rfl, rfl, _, rfl, ite2 (fun c => ?_) (fun c => ?_)⟩
      · have e : r.1 = x := by have := of_decide_eq_true c; injection this
        have e2 := up_at Vh.nd hr1
        rw [e] at e2
        rw [e2] at k
        exact ⟨_, rfl, k⟩
      · refine ⟨_, _, rfl, rfl, fun j hji => ?_⟩
        by_cases hje : j = i
        · subst hje
          rw [nms_get hr1]
          intro z
          exact c (decide_eq_true (by rw [Option.some.inj z]))
        · exact hj j (by omega)
    · rintro σ H1 ⟨v2, v3, rfl, rfl, hj⟩
      obtain ⟨i, hi⟩ := List.mem_iff_getElem?.mp hx
      have hlt := (List.getElem?_eq_some_iff.mp hi).1
      exact absurd hi (hj i (by unfold nms at hlt; rw [List.length_map] at hlt ⊢; omega))
theorem scYK : FnScope ["self", "name", "upper", "found"] ["self", "name"] (defScope sYK) := ⟨rfl, rfl, rfl, by decide +kernel, rfl, by decide +kernel, by decide +kernel⟩
theorem c_yk (T : YearF K mg C) (Ab : MetT P w K mg base 1 C "above" (spYA C)) (D : MethT K C "knots" "Year.knots" sYK ["self", "name"]) : MetT P w K mg base 2 C "knots" (spYK C) := by
  obtain ⟨f, fd, M, F, b⟩ := D.ex
  refine ⟨f, fd, _, T.cl, M, F.ok scYK (fun vs H Q E h => ?_) (fun cdv A outer s H vs Q E hr h => ?_), b⟩
  · obtain ⟨p, y, x, rfl, _⟩ := h
    rfl
  · obtain ⟨p, y, x, rfl, hy, Vh, hx, k⟩ := h
    obtain ⟨dx, l1, l2, l3, t1, t2, t3, hp, _⟩ := hy.ex
    have hz : sizeLine = 16777216 := by decide
    have nf : (yf y.days l1 l2 l3).lookup ("above" : Str) = none := yf_no (by decide +kernel) (by decide +kernel) (by decide +kernel) (by decide +kernel)
    refine ⟨_, pss_cons (ps_set (i := 2) scYK.nd rfl (Or.inl rfl) (pe_mtT Ab hr (by decide) (pv 0) (pa_cons (pv 1) pa_nil)))
      (pss_cons (ps_set (i := 3) scYK.nd rfl (Or.inl rfl) (pe_lst (pa_cons (pv 1) pa_nil)))
      (pss_cons (ps_while PassesOwn.never (pt_cmpR op_ne (pv 2) pe_str (nomark _))
        (pss_cons (ps_expr (pe_bm PySem.F.plainAttrs_list PySem.F.slot_list_append PySem.F.type_list_append mt_append (pv 3) (pa_cons (pv 2) pa_nil)))
        (pss_one (ps_set (i := 2) scYK.nd rfl (Or.inl rfl) (pe_mtT Ab hr (by decide) (pv 0) (pa_cons (pv 2) pa_nil))))))
      (pss_one (ps_ret (pv 3))))), ?_⟩
    refine ⟨_, rfl, p, dx, _, rfl, hp, nf, _, rfl, p, y, x, rfl, hy, Vh, hx, ?_⟩
    refine ⟨_, rfl, (by show 1 ≤ sizeLine; decide), fun G hG => ?_⟩
    have hy1 : ∀ xs : List V, YearAt C [] (upd H G (.lst xs)) p y := fun xs => hy.same (same_new hG)
    have hp1 : ∀ xs : List V, (upd H G (.lst xs)) p = some (.ins C dx (yf y.days l1 l2 l3)) := fun xs => same_new hG _ _ hp
    refine while_by (fun σ H' => ∃ (u : Str) (xs : List Str), σ = [some (.ref p), some (.str x), some (.str u), some (.ref G)] ∧ H' = upd H G (.lst (xs.map V.str)) ∧ xs ++ kn y.hs u = kn y.hs x ∧ (u = "" ∨ u ∈ nms y.hs))
      (fun σ _ => match σ with | [_, _, some (.str u), _] => rk y.hs u | _ => 0) ?_ ?_ ?_
    · refine ⟨up y.hs x, [x], rfl, rfl, ?_, (up_ok Vh hx).2⟩
      rw [kn_step Vh hx]; rfl
    · rintro σ H1 ⟨u, xs, rfl, rfl, he, hu⟩
      have hl : xs.length ≤ 8 := by
        have h1 := kn_len Vh x
        rw [← he, List.length_append] at h1
        omega
      refine ⟨_, rfl, rfl, _, rfl, ite2 (fun c => ?_) (fun c => ?_)⟩
      · have une : u ≠ "" := fun z => by rw [z] at c; exact absurd c (by decide +kernel)
        have hm : u ∈ nms y.hs := by
          rcases hu with z | z
          · exact absurd z une
          · exact z
        refine ⟨_, rfl, .inl ⟨rfl, _, SqL.of upd_same⟩, _, rfl, G, _, _, rfl, rfl, upd_same, (by rw [List.length_map]; omega), ?_⟩
        rw [upd_upd]
        refine ⟨_, rfl, p, dx, _, rfl, hp1 _, nf, _, rfl, p, y, u, rfl, hy1 _, Vh, hm, ?_⟩
        refine ⟨⟨up y.hs u, xs ++ [u], rfl, by rw [List.map_append]; rfl, ?_, (up_ok Vh hm).2⟩, (up_ok Vh hm).1⟩
        rw [← he, kn_step Vh hm, List.append_assoc]
        rfl
      · have ue : u = "" := by
          by_cases z : u = ""
          · exact z
          · exfalso
            apply c
            rw [decide_eq_false (fun q : V.str u = V.str "" => z (by injection q))]
            rfl
        subst ue
        rw [kn_nil, List.append_nil] at he
        rw [he]
        exact ⟨_, rfl, k G hG⟩
    · intro σ H1 Q1 Q2 hq h
      obtain ⟨v, e, h1, b, e2, h2⟩ := h
      exact ⟨v, e, h1, b, e2, hq _ _ h2⟩
theorem scYU : FnScope ["self", "name", "head"] ["self", "name"] (defScope sYU) := ⟨rfl, rfl, rfl, by decide +kernel, rfl, by decide +kernel, by decide +kernel⟩
theorem c_yu (T : YearF K mg C) (Ab : MetT P w K mg base 1 C "above" (spYA C)) (Nm : MetT P w K mg base 1 C "names" (spYN C)) (Kn : MetT P w K mg base 2 C "knots" (spYK C)) (D : MethT K C "under" "Year.under" sYU ["self", "name"]) : MetT P w K mg base 3 C "under" (spYU C) := by
  obtain ⟨f, fd, M, F, b⟩ := D.ex
  refine ⟨f, fd, _, T.cl, M, F.ok scYU (fun vs H Q E h => ?_) (fun cdv A outer s H vs Q E hr h => ?_), b⟩
  · obtain ⟨p, y, x, rfl, _⟩ := h
    rfl
  · obtain ⟨p, y, x, rfl, hy, Vh, hx, k⟩ := h
    obtain ⟨dx, l1, l2, l3, t1, t2, t3, hp, _⟩ := hy.ex
    have hz : sizeLine = 16777216 := by decide
    have nf1 : (yf y.days l1 l2 l3).lookup ("above" : Str) = none := yf_no (by decide +kernel) (by decide +kernel) (by decide +kernel) (by decide +kernel)
    have nf2 : (yf y.days l1 l2 l3).lookup ("names" : Str) = none := yf_no (by decide +kernel) (by decide +kernel) (by decide +kernel) (by decide +kernel)
    have nf3 : (yf y.days l1 l2 l3).lookup ("knots" : Str) = none := yf_no (by decide +kernel) (by decide +kernel) (by decide +kernel) (by decide +kernel)
    refine ⟨_, pss_cons (ps_expr (pe_mtT Ab hr (by decide) (pv 0) (pa_cons (pv 1) pa_nil)))
      (pss_one (ps_ret (pe_lc (own := [("head", 2)]) (g := gName 2) (tt := tTest (tOp (rIn K false) (tVar 1) (tMeth C "knots" (spYK C) [] E0 (tVar 0) (tCons (tVar 2) tNil)))) rfl scYU.nd (pi_list (pe_mtT0 Nm hr (by decide) (pv 0))) (blkOk_by (N := ["self", "name", "head"]) (sc := defScope sYU) (by decide +kernel))
        (fun _ _ _ _ _ => pg_name (i := 2) scYU.nd rfl (Or.inl rfl)) (fun _ _ _ _ _ => pts_one (pt_cmpR op_in_seq (pv 1) (pe_mtT Kn hr (by decide) (pv 0) (pa_cons (pv 2) pa_nil)) rfl)) (fun _ _ _ _ _ => pv 2)))), ?_⟩
    refine ⟨_, rfl, p, dx, _, rfl, hp, nf1, _, rfl, p, y, x, rfl, hy, Vh, hx, ?_⟩
    refine ⟨_, rfl, p, dx, _, rfl, hp, nf2, p, y, rfl, hy, Vh.l8, fun q hq => ?_⟩
    have sq : Same H (upd H q (.lst ((nms y.hs).map V.str))) := same_new hq
    have hq1 : upd H q (.lst ((nms y.hs).map V.str)) q = some (.lst ((nms y.hs).map V.str)) := upd_same
    generalize upd H q (.lst ((nms y.hs).map V.str)) = H1 at sq hq1
    refine ⟨q, rfl, ⟨_, SqL.of hq1⟩, fun D2 hD2 => lc_it (walk_list (xs := (nms y.hs).map V.str)) (fun i H' => Same H1 H' ∧ H' D2 = some (.lst ((((nms y.hs).take i).filter fun h => decide (x ∈ kn y.hs h)).map V.str))) ⟨same_new hD2, upd_same⟩ (fun i H' _ e => SqL.of (e.1 _ _ hq1)) ?_ ?_⟩
    · rintro i v H2 H3 hi ⟨s2, d2⟩ ⟨rfl, hv⟩
      obtain ⟨z, hz2, rfl⟩ : ∃ z, (nms y.hs)[i]? = some z ∧ v = V.str z := by
        rw [List.getElem?_map] at hv
        cases e : (nms y.hs)[i]? with
        | none => rw [e] at hv; cases hv
        | some z => rw [e] at hv; exact ⟨z, rfl, (Option.some.inj hv).symm⟩
      have hzm : z ∈ nms y.hs := List.mem_of_getElem? hz2
      have hi8 : i < 8 := by
        have h8 := Vh.l8
        rw [List.length_map] at hi
        unfold nms at hi
        rw [List.length_map] at hi
        omega
      have s3 := sq.trans s2
      refine ⟨rfl, _, rfl, _, rfl, p, dx, _, rfl, s3 _ _ hp, nf3, _, rfl, p, y, z, rfl, hy.same s3, Vh, hzm, fun u hu => ?_⟩
      have sm : Same H1 (upd H3 u (.lst ((kn y.hs z).map V.str))) := s2.trans (same_new hu)
      have d3 : upd H3 u (.lst ((kn y.hs z).map V.str)) D2 = some (.lst ((((nms y.hs).take i).filter fun h => decide (x ∈ kn y.hs h)).map V.str)) := same_new hu _ _ d2
      refine ⟨u, _, rfl, .inl (SqL.of upd_same), rfl, flat_strs, _, rfl, ?_⟩
      show if (inV (.str x) ((kn y.hs z).map V.str)) = true then _ else _
      rw [inV_str]
      have et := take_more hz2
      refine ite2 (fun c => ?_) (fun c => ?_)
      · refine ⟨_, rfl, _, d3, ?_, ?_, ?_⟩
        · have h1 : (((nms y.hs).take i).filter fun h => decide (x ∈ kn y.hs h)).length ≤ ((nms y.hs).take i).length := List.length_filter_le _ _
          rw [List.length_map]
          rw [List.length_take] at h1
          omega
        · intro b o e
          rw [upd_ne (ne_of_none e hD2)]
          exact sm _ _ e
        · rw [upd_same, et, List.filter_append, List.map_append, List.filter_cons, if_pos c]
          rfl
      · refine ⟨sm, ?_⟩
        rw [d3, et, List.filter_append, List.filter_cons, if_neg c]
        simp
    · rintro H2 ⟨s2, d2⟩
      rw [List.length_map, List.take_length] at d2
      exact k D2 H2 (sq.trans s2) (sq.free hD2) d2
end
end KP
namespace KP
open PySem L2
theorem cut_take {xs : List V} {k : Int} (h : 0 ≤ k) : cutV xs none (some k) = xs.take k.toNat := by
  obtain ⟨j, rfl⟩ : ∃ j : Nat, k = (j : Int) := ⟨k.toNat, by omega⟩
  unfold cutV
  rw [HT.sIx_none, HT.sIx_nat, List.drop_zero, Nat.sub_zero, Int.toNat_natCast]
  by_cases hj : j ≤ xs.length
  · rw [Nat.min_eq_left hj]
  · rw [Nat.min_eq_right (by omega), List.take_of_length_le (Nat.le_refl _), List.take_of_length_le (by omega)]
theorem free_ofB {a q : Addr} {H H1 : Hp} (w : WellAt H1 a) (s : SameB a H H1) (h : H1 q = none) : H q = none := by
  cases e : H q with
  | none => rfl
  | some o =>
    by_cases hq : q = a
    · subst hq
      obtain ⟨x, y, z, e1⟩ := w
      rw [h] at e1; cases e1
    · have := s q o e hq
      rw [h] at this; cases this
theorem paired_B {a : Addr} {H H' : Hp} {x y z : Int} (hw : H a = some (.lst [.int x, .int y, .int z])) (s : SameB a H H') {ts : List Addr} {rows : List (List V)} (p : Paired (fun t r => H t = some (.tup r)) ts rows) : Paired (fun t r => H' t = some (.tup r)) ts rows :=
  paired_mono (fun b r e => s b _ e (ne_of e hw (fun z => nomatch z))) p
theorem RowsAt.keepB {a : Addr} {H H' : Hp} {l : Addr} {ts : List Addr} {rows : List (List V)} (h : RowsAt H l ts rows) (wl : WellAt H a) (s : SameB a H H') (hl : l ≠ a) : RowsAt H' l ts rows := by
  obtain ⟨x, y, z, hw⟩ := wl
  exact ⟨s _ _ h.1 hl, paired_B hw s h.2⟩
def spLHeads : Sp := fun vs H Q _ => ∃ a : Addr, vs = [.ref a] ∧ WellAt H a ∧ ∀ (q : Addr) (ts : List Addr) (hs : List Hd) (H' : Hp), VH hs → RowsAt H' q ts (hs.map hv) → H q = none → WellAt H' a → SameB a H H' → Q (.ref q) H'
def spLLimits : Sp := fun vs H Q _ => ∃ (a lh : Addr) (th : List Addr) (hs : List Hd) (d : Int), vs = [.ref a, .ref lh, .int d] ∧ WellAt H a ∧ RowsAt H lh th (hs.map hv) ∧ lh ≠ a ∧ VH hs ∧ 1 ≤ d ∧ d ≤ 30 ∧
  ∀ (q : Addr) (ts : List Addr) (ls : List Rw4) (H' : Hp), (∀ r ∈ ls, LimOk d (nms hs) r) → ls.length ≤ 6 → RowsAt H' q ts (ls.map rv) → H q = none → WellAt H' a → SameB a H H' → Q (.ref q) H'
section
variable {P : Program} {w : World} {K : PySem.W.Frag} {mg : Str → Option Value} {base : Heap}
end
end KP
namespace KP
open PySem L2
/-! ### entries as data -/
def okd (v : V) : Prop := (∃ x, v = .str x ∧ PyData.strOk x = true) ∨ ∃ i, v = .int i
def dat : V → PyData
  | .str x => .str x
  | .int i => .int i
  | _ => .none
theorem dp_flat {K : PySem.W.Frag} {H : Hp} : ∀ {vs : List V}, (∀ v ∈ vs, okd v) → DpAll K H vs (vs.map dat)
  | [], _ => .nil
  | v :: vs, h => by
    refine .cons ?_ (dp_flat fun u hu => h u (List.mem_cons_of_mem _ hu))
    rcases h v List.mem_cons_self with ⟨x, rfl, _⟩ | ⟨i, rfl⟩
    · exact .str x
    · exact .int i
theorem lay_flat : ∀ {vs : List V}, (∀ v ∈ vs, okd v) → PyData.canLayAll0 (vs.map dat) = true ∧ PyData.depthAll (vs.map dat) = 0
  | [], _ => ⟨rfl, rfl⟩
  | v :: vs, h => by
    obtain ⟨h1, h2⟩ := lay_flat (vs := vs) fun u hu => h u (List.mem_cons_of_mem _ hu)
    have hv : (dat v).canLay0 = true ∧ (dat v).depth = 0 := by
      rcases h v List.mem_cons_self with ⟨x, rfl, hx⟩ | ⟨i, rfl⟩
      · exact ⟨hx, rfl⟩
      · exact ⟨rfl, rfl⟩
    refine ⟨?_, ?_⟩
    · show ((dat v).canLay0 && PyData.canLayAll0 (vs.map dat)) = true
      rw [hv.1, h1]; rfl
    · show max (dat v).depth (PyData.depthAll (vs.map dat)) = 0
      rw [hv.2, h2]; rfl
theorem shaped_tup {vs : List V} (h : ∀ v ∈ vs, okd v) : SeqAt.shaped (.tuple (vs.map dat)) = true := by
  obtain ⟨h1, h2⟩ := lay_flat h
  have e1 : (PyData.tuple (vs.map dat)).canLay0 = true := h1
  have e2 : (PyData.tuple (vs.map dat)).depth ≤ 64 := by
    show PyData.depthAll (vs.map dat) + 1 ≤ 64
    rw [h2]; decide
  unfold SeqAt.shaped
  rw [e1, decide_eq_true e2]; rfl
theorem eqv_self {d : PyData} (h : SeqAt.shaped d = true) : PyData.eqv d d = true := SeqAt.eqv_refl d (SeqAt.canLay_of_shaped h)

theorem okd_W {x : Str} (h : IsW x) : okd (.str x) := .inl ⟨x, rfl, strOk_W h⟩
theorem okd_I {i : Int} : okd (.int i) := .inr ⟨i, rfl⟩
/-- a list of flat tuples, as data -/
def rowsD (rows : List (List V)) : PyData := .list (rows.map fun r => .tuple (r.map dat))
theorem dp_rowsAll {K : PySem.W.Frag} {H : Hp} : ∀ {ts : List Addr} {rows : List (List V)}, Paired (fun t r => H t = some (.tup r)) ts rows → (∀ r ∈ rows, ∀ v ∈ r, okd v) → DpAll K H (ts.map V.ref) (rows.map fun r => .tuple (r.map dat))
  | _, _, .nil, _ => .nil
  | _, _, .cons a p, h => .cons (.tup (SqT.of a) (dp_flat (h _ List.mem_cons_self))) (dp_rowsAll p fun r hr => h r (List.mem_cons_of_mem _ hr))
theorem lay_rows : ∀ {rows : List (List V)}, (∀ r ∈ rows, ∀ v ∈ r, okd v) → PyData.canLayAll0 (rows.map fun r => .tuple (r.map dat)) = true ∧ PyData.depthAll (rows.map fun r => .tuple (r.map dat)) ≤ 1
  | [], _ => ⟨rfl, Nat.zero_le _⟩
  | r :: rows, h => by
    obtain ⟨h1, h2⟩ := lay_rows (rows := rows) fun u hu => h u (List.mem_cons_of_mem _ hu)
    obtain ⟨g1, g2⟩ := lay_flat (h r List.mem_cons_self)
    refine ⟨?_, ?_⟩
    · show (PyData.canLayAll0 (r.map dat) && PyData.canLayAll0 (rows.map fun r => .tuple (r.map dat))) = true
      rw [g1, h1]; rfl
    · show max (PyData.depthAll (r.map dat) + 1) (PyData.depthAll (rows.map fun r => .tuple (r.map dat))) ≤ 1
      rw [g2]; omega
theorem shaped_rows {rows : List (List V)} (h : ∀ r ∈ rows, ∀ v ∈ r, okd v) : SeqAt.shaped (rowsD rows) = true := by
  obtain ⟨h1, h2⟩ := lay_rows h
  have e1 : (rowsD rows).canLay0 = true := h1
  have e2 : (rowsD rows).depth ≤ 64 := by
    show PyData.depthAll _ + 1 ≤ 64
    omega
  unfold SeqAt.shaped
  rw [e1, decide_eq_true e2]; rfl
theorem rows_ne {rows : List (List V)} (c : (!PyData.eqv (rowsD rows) (.list [])) = true) : 0 < rows.length := by
  cases rows with
  | nil => exact absurd c (by decide +kernel)
  | cons r rows => simp
theorem okd_rv {ns : List Str} {r : Rw4} (hw : ∀ x ∈ ns, IsW x) (h : r.1 ∈ ns) : ∀ v ∈ rv r, okd v := by
  intro v hv
  simp only [rv, List.mem_cons, List.not_mem_nil, or_false] at hv
  rcases hv with rfl | rfl | rfl | rfl
  · exact okd_W (hw _ h)
  · exact okd_I
  · exact okd_I
  · exact okd_I
theorem okd_rvs {ns : List Str} {rs : List Rw4} (hw : ∀ x ∈ ns, IsW x) (h : ∀ r ∈ rs, r.1 ∈ ns) : ∀ r ∈ rs.map rv, ∀ v ∈ r, okd v := by
  intro r hr
  obtain ⟨q, hq, rfl⟩ := List.mem_map.mp hr
  exact okd_rv hw (h q hq)
theorem pick2 {a b r : Int} (h0 : 0 ≤ r) (h1 : r < 4) : ∃ v, atI [V.int a, V.int b] (r / 3) = some (.int v) ∧ (v = a ∨ v = b) := by
  rcases (by omega : r / 3 = 0 ∨ r / 3 = 1) with e | e
  · rw [e]; exact ⟨a, rfl, .inl rfl⟩
  · rw [e]; exact ⟨b, rfl, .inr rfl⟩
section
variable {P : Program} {w : World} {K : PySem.W.Frag} {mg : Str → Option Value} {base : Heap}
end
end KP
namespace KP
open PySem L2
/-- each head's fractions: from 0 to 1, the bottom bounded -/
def FB (rs : List Rw4) : Prop := ∀ x, 0 ≤ (fr rs x).1 ∧ (fr rs x).1 ≤ (fr rs x).2 ∧ 1 ≤ (fr rs x).2 ∧ (fr rs x).2 ≤ 1000 ^ rs.length
theorem FB.nil : FB [] := fun x => by
  show 0 ≤ (0 : Int) ∧ (0 : Int) ≤ 1 ∧ (1 : Int) ≤ 1 ∧ (1 : Int) ≤ 1000 ^ 0
  omega
theorem FB.snoc {rs : List Rw4} (h : FB rs) {r : Rw4} (hw : 1 ≤ r.2.2.1 ∧ r.2.2.1 ≤ 1000) (hp : 0 ≤ r.2.1) (hone : (fr rs r.1).1 * r.2.2.1 + r.2.1 * (fr rs r.1).2 ≤ (fr rs r.1).2 * r.2.2.1) : FB (rs ++ [r]) := fun x => by
  obtain ⟨h0, h1, h2, h3⟩ := h x
  have hpow : (1000 : Int) ^ (rs ++ [r]).length = 1000 ^ rs.length * 1000 := by rw [List.length_append]; exact Int.pow_succ ..
  have hp0 : (0 : Int) ≤ 1000 ^ rs.length := by omega
  rw [fr_snoc, hpow]
  unfold frS
  by_cases e : r.1 = x
  · rw [if_pos e]
    rw [e] at hone
    have a1 : 0 ≤ (fr rs x).1 * r.2.2.1 := Int.mul_nonneg h0 (by omega)
    have a2 : 0 ≤ r.2.1 * (fr rs x).2 := Int.mul_nonneg hp (by omega)
    have a3 : 1 * 1 ≤ (fr rs x).2 * r.2.2.1 := Int.mul_le_mul h2 hw.1 (by decide) (by omega)
    have a4 : (fr rs x).2 * r.2.2.1 ≤ 1000 ^ rs.length * 1000 := Int.mul_le_mul h3 hw.2 (by omega) hp0
    exact ⟨by show 0 ≤ (fr rs x).1 * r.2.2.1 + r.2.1 * (fr rs x).2; omega, hone, by show 1 ≤ (fr rs x).2 * r.2.2.1; omega, a4⟩
  · rw [if_neg e]
    exact ⟨h0, h1, h2, by omega⟩
theorem FB.small {rs : List Rw4} (h : FB rs) (hl : rs.length ≤ 4) (x : Str) : (fr rs x).2 ≤ 1000000000000 := by
  have h3 := (h x).2.2.2
  rcases (by omega : rs.length = 0 ∨ rs.length = 1 ∨ rs.length = 2 ∨ rs.length = 3 ∨ rs.length = 4) with e | e | e | e | e <;> rw [e] at h3 <;> omega
/-- part cut down to what is left -/
theorem cut_part {t b w : Int} (ht : 0 ≤ t) (htb : t ≤ b) (hb : 1 ≤ b) (hw : 1 ≤ w) : 0 ≤ (b - t) * w / b ∧ (b - t) * w / b ≤ w ∧ t * w + (b - t) * w / b * b ≤ b * w := by
  have h1 : 0 ≤ (b - t) * w := Int.mul_nonneg (by omega) (by omega)
  have h2 : (b - t) * w / b * b ≤ (b - t) * w := Int.ediv_mul_le _ (by omega)
  have h3 : (b - t) * w = b * w - t * w := Int.sub_mul _ _ _
  refine ⟨Int.ediv_nonneg h1 (by omega), Int.ediv_le_of_le_mul (by omega) ?_, by omega⟩
  rw [h3, Int.mul_comm w b]
  have : 0 ≤ t * w := Int.mul_nonneg ht (by omega)
  omega
def SumsAt (H : Hp) (S : Addr) (n : Nat) (rs : List Rw4) : Prop := ∃ kvs : List (Key × V), H S = some (.dK kvs) ∧ kvs.length ≤ n ∧ ∀ x : Str, (valV kvs (Sum.inr x) = none ∧ fr rs x = (0, 1)) ∨ ∃ t, valV kvs (Sum.inr x) = some (.ref t) ∧ H t = some (.tup [.int (fr rs x).1, .int (fr rs x).2])
theorem putK_len {kvs : List (Key × V)} {k : Key} {v : V} : (putK kvs k v).length ≤ kvs.length + 1 := by
  unfold putK
  split
  · rw [List.length_map]; omega
  · rw [List.length_append]; exact Nat.le_refl _
theorem SumsAt.keep {H H' : Hp} {S : Addr} {n : Nat} {rs : List Rw4} (h : SumsAt H S n rs) (h1 : ∀ kvs, H S = some (.dK kvs) → H' S = some (.dK kvs)) (h2 : ∀ b r, H b = some (.tup r) → H' b = some (.tup r)) : SumsAt H' S n rs := by
  obtain ⟨kvs, e, hl, hx⟩ := h
  refine ⟨kvs, h1 _ e, hl, fun x => ?_⟩
  rcases hx x with z | ⟨t, a, b⟩
  · exact .inl z
  · exact .inr ⟨t, a, h2 _ _ b⟩
theorem SumsAt.keepB {a : Addr} {H H' : Hp} {S : Addr} {n : Nat} {rs : List Rw4} (h : SumsAt H S n rs) (w : WellAt H a) (s : SameB a H H') : SumsAt H' S n rs := by
  obtain ⟨x, y, z, hw⟩ := w
  exact h.keep (fun kvs e => s _ _ e (ne_of e hw (fun z => nomatch z))) fun b r e => s _ _ e (ne_of e hw (fun z => nomatch z))
theorem SumsAt.same {H H' : Hp} {S : Addr} {n : Nat} {rs : List Rw4} (h : SumsAt H S n rs) (s : Same H H') : SumsAt H' S n rs := h.keep (fun _ e => s _ _ e) fun _ _ e => s _ _ e
theorem SumsAt.upl {H : Hp} {S G : Addr} {n : Nat} {rs : List Rw4} {xs ys : List V} (h : SumsAt H S n rs) (hG : H G = some (.lst xs)) : SumsAt (upd H G (.lst ys)) S n rs :=
  h.keep (fun kvs e => by rw [upd_ne (ne_of e hG (fun z => nomatch z))]; exact e) fun b r e => by rw [upd_ne (ne_of e hG (fun z => nomatch z))]; exact e
def spLRules : Sp := fun vs H Q _ => ∃ (a lh : Addr) (th : List Addr) (hs : List Hd) (d : Int), vs = [.ref a, .ref lh, .int d] ∧ WellAt H a ∧ RowsAt H lh th (hs.map hv) ∧ lh ≠ a ∧ VH hs ∧ 1 ≤ d ∧ d ≤ 30 ∧
  ∀ (q : Addr) (ts : List Addr) (rs : List Rw4) (H' : Hp), (∀ r ∈ rs, RulOk d (nms hs) r) → rs.length ≤ 4 → (∀ x, (fr rs x).1 ≤ (fr rs x).2) → RowsAt H' q ts (rs.map rv) → H q = none → WellAt H' a → SameB a H H' → Q (.ref q) H'
section
variable {P : Program} {w : World} {K : PySem.W.Frag} {mg : Str → Option Value} {base : Heap}
end
end KP
namespace KP
open PySem L2
/-! ### data whose lists stand in S -/
mutual
inductive DM (S : Addr → Prop) (H : Hp) : V → PyData → Prop
  | int (i : Int) : DM S H (.int i) (.int i)
  | str (x : Str) : DM S H (.str x) (.str x)
  | lst {a : Addr} {xs : List V} {ds : List PyData} : S a → H a = some (.lst xs) → DMs S H xs ds → DM S H (.ref a) (.list ds)
  | tup {a : Addr} {xs : List V} {ds : List PyData} : H a = some (.tup xs) → DMs S H xs ds → DM S H (.ref a) (.tuple ds)
inductive DMs (S : Addr → Prop) (H : Hp) : List V → List PyData → Prop
  | nil : DMs S H [] []
  | cons {v : V} {vs : List V} {d : PyData} {ds : List PyData} : DM S H v d → DMs S H vs ds → DMs S H (v :: vs) (d :: ds)
end
def KeepS (S : Addr → Prop) (H H' : Hp) : Prop := ∀ b o, H b = some o → ((∃ xs, o = .lst xs) → S b) → H' b = some o
mutual
theorem DM.keep {S : Addr → Prop} {H H' : Hp} (k : KeepS S H H') : ∀ {v : V} {d : PyData}, DM S H v d → DM S H' v d
  | _, _, .int i => .int i
  | _, _, .str x => .str x
  | _, _, .lst s e t => .lst s (k _ _ e fun _ => s) (DMs.keep k t)
  | _, _, .tup e t => .tup (k _ _ e fun ⟨_, z⟩ => nomatch z) (DMs.keep k t)
theorem DMs.keep {S : Addr → Prop} {H H' : Hp} (k : KeepS S H H') : ∀ {v : List V} {d : List PyData}, DMs S H v d → DMs S H' v d
  | _, _, .nil => .nil
  | _, _, .cons a b => .cons (DM.keep k a) (DMs.keep k b)
end
mutual
theorem DM.mono {S S' : Addr → Prop} {H : Hp} (k : ∀ a o, H a = some o → S a → S' a) : ∀ {v : V} {d : PyData}, DM S H v d → DM S' H v d
  | _, _, .int i => .int i
  | _, _, .str x => .str x
  | _, _, .lst s e t => .lst (k _ _ e s) e (DMs.mono k t)
  | _, _, .tup e t => .tup e (DMs.mono k t)
theorem DMs.mono {S S' : Addr → Prop} {H : Hp} (k : ∀ a o, H a = some o → S a → S' a) : ∀ {v : List V} {d : List PyData}, DMs S H v d → DMs S' H v d
  | _, _, .nil => .nil
  | _, _, .cons a b => .cons (DM.mono k a) (DMs.mono k b)
end
mutual
theorem DM.dp {S : Addr → Prop} {K : PySem.W.Frag} {H : Hp} : ∀ {v : V} {d : PyData}, DM S H v d → Dp K H v d
  | _, _, .int i => .int i
  | _, _, .str x => .str x
  | _, _, .lst _ e t => .lst (SqL.of e) (DMs.dp t)
  | _, _, .tup e t => .tup (SqT.of e) (DMs.dp t)
theorem DMs.dp {S : Addr → Prop} {K : PySem.W.Frag} {H : Hp} : ∀ {v : List V} {d : List PyData}, DMs S H v d → DpAll K H v d
  | _, _, .nil => .nil
  | _, _, .cons a b => .cons (DM.dp a) (DMs.dp b)
end
theorem DM.ext {S : Addr → Prop} {H : Hp} {a : Addr} {v : V} {d : PyData} (h : DM S H v d) (ha : H a = none) : DM (fun b => S b ∧ b ≠ a) H v d := h.mono fun b o e s => ⟨s, ne_of_none e ha⟩
theorem DMs.ext {S : Addr → Prop} {H : Hp} {a : Addr} {v : List V} {d : List PyData} (h : DMs S H v d) (ha : H a = none) : DMs (fun b => S b ∧ b ≠ a) H v d := h.mono fun b o e s => ⟨s, ne_of_none e ha⟩
theorem DM.same {S : Addr → Prop} {H H' : Hp} {v : V} {d : PyData} (h : DM S H v d) (s : Same H H') : DM S H' v d := h.keep fun b o e _ => s b o e
theorem DMs.same {S : Addr → Prop} {H H' : Hp} {v : List V} {d : List PyData} (h : DMs S H v d) (s : Same H H') : DMs S H' v d := h.keep fun b o e _ => s b o e
theorem DMs.append {S : Addr → Prop} {H : Hp} : ∀ {v u : List V} {d e : List PyData}, DMs S H v d → DMs S H u e → DMs S H (v ++ u) (d ++ e)
  | _, _, _, _, .nil, q => q
  | _, _, _, _, .cons a b, q => .cons a (DMs.append b q)
theorem DMs.len {S : Addr → Prop} {H : Hp} : ∀ {v : List V} {d : List PyData}, DMs S H v d → v.length = d.length
  | _, _, .nil => rfl
  | _, _, .cons a b => congrArg (· + 1) (DMs.len b)
theorem DMs.strs {S : Addr → Prop} {H : Hp} : ∀ (xs : List Str), DMs S H (xs.map V.str) (xs.map PyData.str)
  | [] => .nil
  | x :: xs => .cons (.str x) (DMs.strs xs)
theorem DMs.flat {S : Addr → Prop} {H : Hp} : ∀ {vs : List V}, (∀ v ∈ vs, okd v) → DMs S H vs (vs.map dat)
  | [], _ => .nil
  | v :: vs, h => by
    refine .cons ?_ (DMs.flat fun u hu => h u (List.mem_cons_of_mem _ hu))
    rcases h v List.mem_cons_self with ⟨x, rfl, _⟩ | ⟨i, rfl⟩
    · exact .str x
    · exact .int i
theorem DMs.rows {S : Addr → Prop} {H : Hp} : ∀ {ts : List Addr} {rows : List (List V)}, Paired (fun t r => H t = some (.tup r)) ts rows → (∀ r ∈ rows, ∀ v ∈ r, okd v) → DMs S H (ts.map V.ref) (rows.map fun r => .tuple (r.map dat))
  | _, _, .nil, _ => .nil
  | _, _, .cons a p, h => .cons (.tup a (DMs.flat (h _ List.mem_cons_self))) (DMs.rows p fun r hr => h r (List.mem_cons_of_mem _ hr))
theorem DM.rows {S : Addr → Prop} {H : Hp} {l : Addr} {ts : List Addr} {rows : List (List V)} (h : RowsAt H l ts rows) (ok : ∀ r ∈ rows, ∀ v ∈ r, okd v) (s : S l) : DM S H (.ref l) (rowsD rows) := .lst s h.1 (DMs.rows h.2 ok)
/-! ### what a year tells, as data -/
def info (hs : List Hd) (x : Str) : PyData := .tuple [.str (up hs x), .list ((kn hs x).map PyData.str), .list ((und hs x).map PyData.str)]
def Yr.parts (y : Yr) : List PyData := [.int y.days, rowsD (y.hs.map hv), rowsD (y.ls.map rv), rowsD (y.rs.map rv)]
def Yr.due (y : Yr) : PyData := .list (y.parts ++ [.list ((nms y.hs).map PyData.str)] ++ (nms y.hs).map (info y.hs))
theorem okd_E : okd (.str "") := .inl ⟨"", rfl, by decide +kernel⟩
theorem okd_hv {hs : List Hd} (V : VH hs) : ∀ r ∈ hs.map hv, ∀ v ∈ r, okd v := by
  intro r hr
  obtain ⟨q, hq, rfl⟩ := List.mem_map.mp hr
  intro v hv
  obtain ⟨i, hi⟩ := List.mem_iff_getElem?.mp hq
  simp only [KP.hv, List.mem_cons, List.not_mem_nil, or_false] at hv
  rcases hv with rfl | rfl
  · exact okd_W (V.w _ (List.mem_of_getElem? (nms_get hi)))
  · rcases V.up i q hi with e | ⟨j, _, hj⟩
    · rw [e]; exact okd_E
    · exact okd_W (V.w _ (List.mem_of_getElem? hj))
theorem Yr.ok.hv {y : Yr} (h : y.ok) : ∀ r ∈ y.hs.map KP.hv, ∀ v ∈ r, okd v := okd_hv h.h
theorem Yr.ok.lv {y : Yr} (h : y.ok) : ∀ r ∈ y.ls.map rv, ∀ v ∈ r, okd v := okd_rvs h.h.w fun r hr => (h.l r hr).1
theorem Yr.ok.rv {y : Yr} (h : y.ok) : ∀ r ∈ y.rs.map KP.rv, ∀ v ∈ r, okd v := okd_rvs h.h.w fun r hr => (h.r r hr).1
/-- layable, and not too deep -/
def lay (n : Nat) (d : PyData) : Prop := d.canLay0 = true ∧ d.depth ≤ n
theorem lay_all {n : Nat} : ∀ {ds : List PyData}, (∀ d ∈ ds, lay n d) → PyData.canLayAll0 ds = true ∧ PyData.depthAll ds ≤ n
  | [], _ => ⟨rfl, Nat.zero_le _⟩
  | d :: ds, h => by
    obtain ⟨h1, h2⟩ := lay_all (ds := ds) fun u hu => h u (List.mem_cons_of_mem _ hu)
    obtain ⟨g1, g2⟩ := h d List.mem_cons_self
    refine ⟨?_, ?_⟩
    · show (d.canLay0 && PyData.canLayAll0 ds) = true
      rw [g1, h1]; rfl
    · show max d.depth (PyData.depthAll ds) ≤ n
      omega
theorem lay_list {n : Nat} {ds : List PyData} (h : ∀ d ∈ ds, lay n d) : lay (n + 1) (.list ds) := by
  obtain ⟨h1, h2⟩ := lay_all h
  exact ⟨h1, by show PyData.depthAll ds + 1 ≤ n + 1; omega⟩
theorem lay_tup {n : Nat} {ds : List PyData} (h : ∀ d ∈ ds, lay n d) : lay (n + 1) (.tuple ds) := by
  obtain ⟨h1, h2⟩ := lay_all h
  exact ⟨h1, by show PyData.depthAll ds + 1 ≤ n + 1; omega⟩
theorem lay_int {n : Nat} {i : Int} : lay n (.int i) := ⟨rfl, Nat.zero_le _⟩
theorem lay_str {n : Nat} {x : Str} (h : PyData.strOk x = true) : lay n (.str x) := ⟨h, Nat.zero_le _⟩
theorem lay.shaped {n : Nat} {d : PyData} (h : lay n d) (hn : n ≤ 64) : SeqAt.shaped d = true := by
  unfold SeqAt.shaped
  rw [h.1, decide_eq_true (Nat.le_trans h.2 hn)]; rfl
theorem lay.up {n m : Nat} {d : PyData} (h : lay n d) (hn : n ≤ m) : lay m d := ⟨h.1, Nat.le_trans h.2 hn⟩
theorem lay_strs {n : Nat} {xs : List Str} (h : ∀ x ∈ xs, PyData.strOk x = true) : lay (n + 1) (.list (xs.map PyData.str)) := lay_list fun d hd => by
  obtain ⟨x, hx, rfl⟩ := List.mem_map.mp hd
  exact lay_str (h x hx)
theorem lay_rowsD {rows : List (List V)} (h : ∀ r ∈ rows, ∀ v ∈ r, okd v) : lay 2 (rowsD rows) := by
  obtain ⟨h1, h2⟩ := lay_rows h
  exact ⟨h1, by show PyData.depthAll _ + 1 ≤ 2; omega⟩
theorem strOk_up {hs : List Hd} (V : VH hs) {x : Str} (h : x ∈ nms hs) : PyData.strOk (up hs x) = true := by
  rcases (up_ok V h).2 with e | e
  · rw [e]; decide +kernel
  · exact strOk_W (V.w _ e)
theorem lay_info {hs : List Hd} (V : VH hs) {x : Str} (h : x ∈ nms hs) : lay 2 (info hs x) := lay_tup fun d hd => by
  simp only [List.mem_cons, List.not_mem_nil, or_false] at hd
  rcases hd with rfl | rfl | rfl
  · exact lay_str (strOk_up V h)
  · exact lay_strs fun z hz => strOk_W (V.w _ (kn_mem V h hz))
  · exact lay_strs fun z hz => strOk_W (V.w _ (List.mem_filter.mp hz).1)
theorem lay_parts {y : Yr} (h : y.ok) : ∀ d ∈ y.parts, lay 2 d := by
  intro d hd
  simp only [Yr.parts, List.mem_cons, List.not_mem_nil, or_false] at hd
  rcases hd with rfl | rfl | rfl | rfl
  · exact lay_int
  · exact lay_rowsD h.hv
  · exact lay_rowsD h.lv
  · exact lay_rowsD h.rv
theorem lay_due {y : Yr} (h : y.ok) : lay 3 y.due := lay_list fun d hd => by
  rcases List.mem_append.mp hd with hd | hd
  · rcases List.mem_append.mp hd with hd | hd
    · exact lay_parts h d hd
    · rw [List.mem_singleton.mp hd]; exact lay_strs fun z hz => strOk_W (h.h.w _ hz)
  · obtain ⟨x, hx, rfl⟩ := List.mem_map.mp hd
    exact lay_info h.h hx
/-! ### dicts of texts -/
theorem merge_out {acc r : List (Key × V)} {k : Key} (h : ∀ kv ∈ r, kv.1 ≠ k) : valV (mergeK acc r) k = valV acc k := by
  unfold mergeK
  induction r generalizing acc with
  | nil => rfl
  | cons a r ih =>
    rw [List.foldl_cons, ih fun kv hk => h kv (List.mem_cons_of_mem _ hk), valV_put, if_neg fun e => h a List.mem_cons_self e.symm]
theorem merge_in {hs : List Hd} : ∀ {acc : List (Key × V)} {i : Nat} {r : Hd}, (nms hs).Nodup → hs[i]? = some r → valV (mergeK acc (hs.map fun r => ((Sum.inr r.1 : Key), V.str r.2))) (Sum.inr r.1) = some (.str r.2) := by
  induction hs with
  | nil => intro acc i r _ h; simp at h
  | cons a hs ih =>
    intro acc i r hn h
    have hn' := List.nodup_cons.mp (show (a.1 :: nms hs).Nodup from hn)
    show valV (mergeK (putK acc (Sum.inr a.1) (.str a.2)) (hs.map fun r => ((Sum.inr r.1 : Key), V.str r.2))) (Sum.inr r.1) = _
    cases i with
    | zero =>
      have e : a = r := Option.some.inj h
      subst e
      rw [merge_out, valV_put, if_pos rfl]
      intro kv hk
      obtain ⟨q, hq, rfl⟩ := List.mem_map.mp hk
      intro z
      have : q.1 = a.1 := by injection z
      exact hn'.1 (by rw [← this]; exact List.mem_map.mpr ⟨q, hq, rfl⟩)
    | succ i => exact ih hn'.2 h
theorem paired_map {α β γ δ : Type} {F : α → β → Prop} {G : α → γ → Prop} {f : δ → β} {g : δ → γ} (k : ∀ a d, F a (f d) → G a (g d)) : ∀ {ts : List α} {ds : List δ}, Paired F ts (ds.map f) → Paired G ts (ds.map g)
  | _, [], .nil => .nil
  | _, d :: ds, .cons a p => .cons (k _ _ a) (paired_map k p)
end KP
namespace KP
open PySem L2
/-! ### how a def of the text is known, and called -/
section
variable {P : Program} {w : World} {K : PySem.W.Frag} {mg : Str → Option Value} {base : Heap}
end
section
variable {X : Cx} {k j : Nat} {x : Str} {sp : Sp} {p pos : Pos} {e : Expr} {es : List Expr} {t : TA}
end
/-! ### texts of letters -/
/-! ### the written part: what of it the walk asks -/
abbrev sNote : Stmt := top 20
abbrev sCheck : Stmt := top 29
def spNote : Sp := fun vs H Q _ => ∃ x : Str, vs = [.str x] ∧ IsN x ∧ ∀ H', Same H H' → Q (.bl true) H'
def spCheck : Sp := fun vs H Q _ => ∃ (a : Addr) (ws : List Str) (c : Int) (n : Str), vs = [.ref a, .int c, .str n] ∧ H a = some (.lst (ws.map V.str)) ∧ (∀ x ∈ ws, IsW x) ∧ ws.length ≤ 2 ∧ 1 ≤ c ∧ c ≤ 1000000000000 ∧ IsN n ∧ ∀ H', Same H H' → Q .non H'
section
variable {P : Program} {w : World} {K : PySem.W.Frag} {mg : Str → Option Value} {base : Heap}
theorem scNote : FnScope ["value"] ["value"] (defScope sNote) := ⟨rfl, rfl, rfl, by decide +kernel, rfl, by decide +kernel, by decide +kernel⟩
theorem c_note (B : Base K mg) (W : Cal P w K mg base 1 "is_word" spWord) (D : DefT K mg "is_note" sNote ["value"]) : Cal P w K mg base 2 "is_note" spNote := by
  refine cal D scNote (fun vs H Q E h => ?_) (fun f cdv A outer s H vs Q E hr h => ?_)
  · obtain ⟨x, rfl, _⟩ := h
    rfl
  · obtain ⟨x, rfl, hx, k⟩ := h
    refine ⟨_, pss_one (ps_ret (pe_or (pe_cmpR op_eq (pv 0) pe_str (nomark _)) (pe_one (pe_cl W hr (by decide) (by rfl) (pa_cons (pv 0) pa_nil))))), ?_⟩
    refine ⟨_, rfl, rfl, _, rfl, ?_⟩
    refine ite2 (fun c => ?_) (fun c => ?_)
    · exact k _ (Same.refl _)
    · have hn : ¬ x = "" := fun e => c (by rw [e]; exact decide_eq_true rfl)
      rcases hx with e | hx
      · exact absurd e hn
      · exact ⟨_, rfl, x, rfl, hx, k⟩
theorem scCheck : FnScope ["words", "coins", "note", "word"] ["words", "coins", "note"] (defScope sCheck) := ⟨rfl, rfl, rfl, by decide +kernel, rfl, by decide +kernel, by decide +kernel⟩
theorem c_check (B : Base K mg) (Wh : Cal P w K mg base 1 "is_whole" spWhole) (W : Cal P w K mg base 1 "is_word" spWord) (N : Cal P w K mg base 2 "is_note" spNote) (D : DefT K mg "check_fields" sCheck ["words", "coins", "note"]) :
    Cal P w K mg base 3 "check_fields" spCheck := by
  obtain ⟨tC, hC⟩ := B.mostC
  refine cal D scCheck (fun vs H Q E h => ?_) (fun f cdv A outer s H vs Q E hr h => ?_)
  · obtain ⟨a, ws, c, n, rfl, _⟩ := h
    rfl
  · obtain ⟨a, ws, c, n, rfl, ha, hw, hwl, c1, c2, hn, k⟩ := h
    refine ⟨_, pss_cons (ps_if (pt_not (pt_val (pe_callB (cr_all rfl) (by rfl) B.all (by decide +kernel) (pa_cons (pe_lc (own := [("word", 3)]) (g := gName 3) (tt := tYes) rfl scCheck.nd (pi_list (pv 0)) (blkOk_by (N := ["words", "coins", "note", "word"]) (sc := defScope sCheck) (by decide +kernel))
        (fun _ _ _ _ _ => pg_name (i := 3) scCheck.nd rfl (Or.inl rfl)) (fun _ _ _ _ _ => pts_nil) (fun _ _ _ _ _ => pe_cl W hr (by decide) (by rfl) (pa_cons (pv 3) pa_nil))) pa_nil)))) (pss_one ps_never) pss_nil)
      (pss_cons (ps_if (pt_not (pt_val (pe_cl Wh hr (by decide) (by rfl) (pa_cons (pv 1) (pa_cons pe_int (pa_cons (pe_glob (v := .int 1000000000000) rfl hC ⟨_, rfl⟩) pa_nil)))))) (pss_one ps_never) pss_nil)
      (pss_one (ps_if (pt_not (pt_val (pe_cl N hr (by decide) (by rfl) (pa_cons (pv 2) pa_nil)))) (pss_one ps_never) pss_nil))), ?_⟩
    refine ⟨_, rfl, a, rfl, ⟨_, SqL.of ha⟩, fun D hD => lc_it (walk_list (xs := ws.map V.str)) (fun i H' => Same H H' ∧ H' D = some (.lst (List.replicate i (V.bl true)))) ⟨same_new hD, upd_same⟩ (fun i H' _ p => SqL.of (p.1 _ _ ha)) ?_ ?_⟩
    · rintro i v H1 H2 hi ⟨s1, d1⟩ ⟨rfl, hv⟩
      obtain ⟨x, hx, rfl⟩ : ∃ x, ws[i]? = some x ∧ v = V.str x := by
        rw [List.getElem?_map] at hv
        cases e : ws[i]? with
        | none => rw [e] at hv; cases hv
        | some x => rw [e] at hv; exact ⟨x, rfl, (Option.some.inj hv).symm⟩
      refine ⟨rfl, yes (iteT ⟨_, rfl, x, rfl, hw x (List.mem_of_getElem? hx), fun H3 s3 => ⟨_, s3 _ _ d1, ?_, ?_, ?_⟩⟩)⟩
      · rw [List.length_replicate]
        rw [List.length_map] at hi
        have e : sizeLine = 16777216 := by decide
        omega
      · intro b o e
        have hb : b ≠ D := ne_of_none e hD
        rw [upd_ne hb]
        exact s3 _ _ (s1 _ _ e)
      · rw [upd_same]
        congr 2
        exact (List.replicate_succ' (n := i) (a := V.bl true)).symm ▸ rfl
    · rintro H1 ⟨s1, d1⟩
      refine ⟨D, List.replicate (ws.map V.str).length true, rfl, SqL.of (by rw [d1, map_rep]), _, rfl, ?_⟩
      rw [all_rep]
      refine iteF ?_
      refine ⟨_, rfl, c, 1, 1000000000000, rfl, _, rfl, ?_⟩
      rw [decide_eq_true ⟨c1, c2⟩]
      refine iteF ?_
      exact ⟨_, rfl, n, rfl, hn, fun H2 s2 => ⟨_, rfl, iteF (k _ (s1.trans s2))⟩⟩
end
/-! ### entries -/
inductive En where
  | give (h : Str) (c : Int) (n : Str) | hold (h : Str) (c u : Int) (n : Str) | move (h o : Str) (c : Int) (n : Str) | spend (h : Str) (c : Int) (n : Str)
  | promise (x h : Str) (c : Int) (n : Str) | lessen (x : Str) (c : Int) (n : Str) | out (x : Str) (c : Int) (n : Str)
def Coin (c : Int) : Prop := 1 ≤ c ∧ c ≤ 1000000000000
def En.k : En → Nat
  | .give .. => 0 | .hold .. => 1 | .move .. => 2 | .spend .. => 3 | .promise .. => 4 | .lessen .. => 5 | .out .. => 6
def En.kind : En → Str
  | .give .. => "give" | .hold .. => "hold" | .move .. => "move" | .spend .. => "spend" | .promise .. => "promise" | .lessen .. => "lessen" | .out .. => "out"
def En.args : En → List V
  | .give h c n => [.str h, .int c, .str n] | .hold h c u n => [.str h, .int c, .int u, .str n] | .move h o c n => [.str h, .str o, .int c, .str n] | .spend h c n => [.str h, .int c, .str n]
  | .promise x h c n => [.str x, .str h, .int c, .str n] | .lessen x c n => [.str x, .int c, .str n] | .out x c n => [.str x, .int c, .str n]
def En.fs : En → List (Str × V)
  | .give h c n => [("head", .str h), ("coins", .int c), ("note", .str n)] | .hold h c u n => [("head", .str h), ("coins", .int c), ("until", .int u), ("note", .str n)]
  | .move h o c n => [("head", .str h), ("other", .str o), ("coins", .int c), ("note", .str n)] | .spend h c n => [("head", .str h), ("coins", .int c), ("note", .str n)]
  | .promise x h c n => [("word", .str x), ("head", .str h), ("coins", .int c), ("note", .str n)] | .lessen x c n => [("word", .str x), ("coins", .int c), ("note", .str n)] | .out x c n => [("word", .str x), ("coins", .int c), ("note", .str n)]
def En.ok : En → Prop
  | .give h c n => IsW h ∧ Coin c ∧ IsN n | .hold h c u n => IsW h ∧ Coin c ∧ (2 ≤ u ∧ u ≤ 31) ∧ IsN n | .move h o c n => IsW h ∧ IsW o ∧ h ≠ o ∧ Coin c ∧ IsN n | .spend h c n => IsW h ∧ Coin c ∧ IsN n
  | .promise x h c n => IsW x ∧ IsW h ∧ Coin c ∧ IsN n | .lessen x c n => IsW x ∧ Coin c ∧ IsN n | .out x c n => IsW x ∧ Coin c ∧ IsN n
def En.tup (e : En) : List V := .str e.kind :: e.args
/-- the entry e stands at p -/
def EntAt (C : Nat → Addr) (H : Hp) (p : Addr) (e : En) : Prop := ∃ dx, H p = some (.ins (C e.k) dx e.fs)
def spInit (C : Nat → Addr) (k : Nat) : Sp := fun vs H Q _ => ∃ (p dx : Addr) (e : En), vs = .ref p :: e.args ∧ e.k = k ∧ e.ok ∧ H p = some (.ins (C k) dx []) ∧
  ∀ H' : Hp, H' p = some (.ins (C k) dx e.fs) → (∀ b o, H b = some o → b ≠ p → H' b = some o) → Q .non H'
def spTold (C : Nat → Addr) (k : Nat) : Sp := fun vs H Q _ => ∃ (p : Addr) (e : En), vs = [.ref p] ∧ e.k = k ∧ EntAt C H p e ∧ ∀ q, H q = none → Q (.ref q) (upd H q (.tup e.tup))
theorem ne_s {a b : Str} (h : (a == b) = false) : a ≠ b := by
  intro e
  subst e
  simp at h
/-! ### how a class of the text is known -/
structure ClsT (K : PySem.W.Frag) (mg : Str → Option Value) (x qI qT : Str) (C : Addr) (sI sT : Stmt) (psI fl : List Str) : Prop where
  cl : Cls K C
  mgC : mg x = some (.ref C)
  init : ∃ f fd, Mk K C f ∧ Fun K "__init__" qI sI f fd ∧ Binds K fd psI []
  told : ∃ f fd, Meth K C "told" f ∧ Fun K "told" qT sT f fd ∧ Binds K fd ["self"] []
  nF : ∀ f ∈ fl, NoAttr K C f
section
variable {X : Cx} {k j : Nat} {x m : Str} {C : Addr} {sp : Sp} {p pos apos : Pos} {e o : Expr} {es : List Expr} {ta : TE} {t : TA}
end
section
variable {P : Program} {w : World} {K : PySem.W.Frag} {mg : Str → Option Value} {base : Heap}

abbrev sIGive : Stmt := inClass (top 31) 0
abbrev sTGive : Stmt := inClass (top 31) 1
theorem scIGive : FnScope ["self", "head", "coins", "note"] ["self", "head", "coins", "note"] (defScope sIGive) := ⟨rfl, rfl, rfl, by decide +kernel, rfl, by decide +kernel, by decide +kernel⟩
theorem scTGive : FnScope ["self"] ["self"] (defScope sTGive) := ⟨rfl, rfl, rfl, by decide +kernel, rfl, by decide +kernel, by decide +kernel⟩
theorem i_give {C : Nat → Addr} (B : Base K mg) (Wh : Cal P w K mg base 1 "is_whole" spWhole) (Ck : Cal P w K mg base 3 "check_fields" spCheck) (T : ClsT K mg "Give" "Give.__init__" "Give.told" (C 0) sIGive sTGive ["self", "head", "coins", "note"] ["head", "coins", "note"]) : MakT P w K mg base 4 "Give" (C 0) (spInit C 0) := by
  obtain ⟨f, fd, M, F, b⟩ := T.init
  obtain ⟨tLU, hLU⟩ := B.leastU
  obtain ⟨tMU, hMU⟩ := B.mostU
  refine ⟨f, fd, _, M, F.ok scIGive (fun vs H Q E h => ?_) (fun cdv A outer s H vs Q E hr h => ?_), T.mgC, b⟩
  · obtain ⟨p, dx, e, rfl, hk, _⟩ := h
    cases e <;> first | rfl | (cases hk; done)
  · obtain ⟨p, dx, e, rfl, hk, hok, hp, k⟩ := h
    cases e <;> first | (cases hk; done) | skip
    rename_i x0 x1 x2
    obtain ⟨hw1, hc, hn⟩ := hok
    refine ⟨_, pss_cons (ps_expr (pe_cl Ck hr (by decide) (by rfl) (pa_cons (pe_lst (pa_cons (pv 1) pa_nil)) (pa_cons (pv 2) (pa_cons (pv 3) pa_nil)))))
      (pss_cons (ps_fld (pv 0) (pv 1) rfl)
      (pss_cons (ps_fld (pv 0) (pv 2) rfl)
      (pss_one (ps_fld (pv 0) (pv 3) rfl)))), ?_⟩
    refine ⟨_, rfl, (by show 1 ≤ sizeLine; decide), fun l hl => ⟨_, rfl, _, rfl, l, [x0], _, _, rfl, upd_same, (by intro z hz; simp at hz; subst hz; exact hw1), (by simp), hc.1, hc.2, hn, fun H1 s1 => ?_⟩⟩
    have pl : p ≠ l := ne_of_none hp hl
    have hp1 : H1 p = some (.ins (C 0) dx []) := s1 _ _ (by rw [upd_ne pl]; exact hp)
    have e12 : ("head" : Str) ≠ "coins" := by decide +kernel
    have e13 : ("head" : Str) ≠ "note" := by decide +kernel
    have e23 : ("coins" : Str) ≠ "note" := by decide +kernel
    refine ⟨_, rfl, _, rfl, p, _, dx, _, rfl, hp1, T.cl, T.nF _ (by simp), (by show 0 < 1000; decide), _, rfl, _, rfl, p, _, dx, _, rfl, upd_same, T.cl, T.nF _ (by simp), (by show 1 < 1000; decide), _, rfl, _, rfl, p, _, dx, _, rfl, upd_same, T.cl, T.nF _ (by simp), (by rw [put1, put2 e12]; show 2 < 1000; decide), ?_⟩
    refine k _ (by rw [upd_same, put1, put2 e12, put3 e13 e23]; rfl) fun b o e hb => ?_
    rw [upd_ne hb, upd_ne hb, upd_ne hb]
    exact s1 _ _ (by rw [upd_ne (ne_of_none e hl)]; exact e)
theorem t_give {C : Nat → Addr} (T : ClsT K mg "Give" "Give.__init__" "Give.told" (C 0) sIGive sTGive ["self", "head", "coins", "note"] ["head", "coins", "note"]) : MetT P w K mg base 1 (C 0) "told" (spTold C 0) := by
  obtain ⟨f, fd, M, F, b⟩ := T.told
  refine ⟨f, fd, _, T.cl, M, F.ok scTGive (fun vs H Q E h => ?_) (fun cdv A outer s H vs Q E hr h => ?_), b⟩
  · obtain ⟨p, e, rfl, _⟩ := h
    rfl
  · obtain ⟨p, e, rfl, hk, ⟨dx, hp⟩, k⟩ := h
    cases e <;> first | (cases hk; done) | skip
    rename_i x0 x1 x2
    refine ⟨_, pss_one (ps_ret (pe_tup (pa_cons pe_str (pa_cons (pe_fld (pv 0) rfl) (pa_cons (pe_fld (pv 0) rfl) (pa_cons (pe_fld (pv 0) rfl) pa_nil)))))), ?_⟩
    refine ⟨_, rfl, p, _, dx, _, _, rfl, hp, T.cl, T.nF _ (by simp), rfl, _, rfl, p, _, dx, _, _, rfl, hp, T.cl, T.nF _ (by simp), rfl, _, rfl, p, _, dx, _, _, rfl, hp, T.cl, T.nF _ (by simp), rfl, (by show 4 ≤ sizeLine; decide), fun q hq => k q hq⟩
abbrev sIHold : Stmt := inClass (top 32) 0
abbrev sTHold : Stmt := inClass (top 32) 1
theorem scIHold : FnScope ["self", "head", "coins", "until", "note"] ["self", "head", "coins", "until", "note"] (defScope sIHold) := ⟨rfl, rfl, rfl, by decide +kernel, rfl, by decide +kernel, by decide +kernel⟩
theorem scTHold : FnScope ["self"] ["self"] (defScope sTHold) := ⟨rfl, rfl, rfl, by decide +kernel, rfl, by decide +kernel, by decide +kernel⟩
theorem i_hold {C : Nat → Addr} (B : Base K mg) (Wh : Cal P w K mg base 1 "is_whole" spWhole) (Ck : Cal P w K mg base 3 "check_fields" spCheck) (T : ClsT K mg "Hold" "Hold.__init__" "Hold.told" (C 1) sIHold sTHold ["self", "head", "coins", "until", "note"] ["head", "coins", "until", "note"]) : MakT P w K mg base 4 "Hold" (C 1) (spInit C 1) := by
  obtain ⟨f, fd, M, F, b⟩ := T.init
  obtain ⟨tLU, hLU⟩ := B.leastU
  obtain ⟨tMU, hMU⟩ := B.mostU
  refine ⟨f, fd, _, M, F.ok scIHold (fun vs H Q E h => ?_) (fun cdv A outer s H vs Q E hr h => ?_), T.mgC, b⟩
  · obtain ⟨p, dx, e, rfl, hk, _⟩ := h
    cases e <;> first | rfl | (cases hk; done)
  · obtain ⟨p, dx, e, rfl, hk, hok, hp, k⟩ := h
    cases e <;> first | (cases hk; done) | skip
    rename_i x0 x1 x2 x3
    obtain ⟨hw1, hc, hu, hn⟩ := hok
    refine ⟨_, pss_cons (ps_expr (pe_cl Ck hr (by decide) (by rfl) (pa_cons (pe_lst (pa_cons (pv 1) pa_nil)) (pa_cons (pv 2) (pa_cons (pv 4) pa_nil)))))
      (pss_cons (ps_if (pt_not (pt_val (pe_cl Wh hr (by decide) (by rfl) (pa_cons (pv 3) (pa_cons (pe_glob (v := .int 2) rfl hLU ⟨_, rfl⟩) (pa_cons (pe_glob (v := .int 31) rfl hMU ⟨_, rfl⟩) pa_nil)))))) (pss_one ps_never) pss_nil)
      (pss_cons (ps_fld (pv 0) (pv 1) rfl)
      (pss_cons (ps_fld (pv 0) (pv 2) rfl)
      (pss_cons (ps_fld (pv 0) (pv 3) rfl)
      (pss_one (ps_fld (pv 0) (pv 4) rfl)))))), ?_⟩
    refine ⟨_, rfl, (by show 1 ≤ sizeLine; decide), fun l hl => ⟨_, rfl, _, rfl, l, [x0], _, _, rfl, upd_same, (by intro z hz; simp at hz; subst hz; exact hw1), (by simp), hc.1, hc.2, hn, fun H1 s1 => ?_⟩⟩
    have pl : p ≠ l := ne_of_none hp hl
    have hp1 : H1 p = some (.ins (C 1) dx []) := s1 _ _ (by rw [upd_ne pl]; exact hp)
    refine ⟨_, rfl, _, 2, 31, rfl, _, rfl, ?_⟩
    rw [decide_eq_true hu]
    refine iteF ?_
    have e12 : ("head" : Str) ≠ "coins" := by decide +kernel
    have e13 : ("head" : Str) ≠ "until" := by decide +kernel
    have e14 : ("head" : Str) ≠ "note" := by decide +kernel
    have e23 : ("coins" : Str) ≠ "until" := by decide +kernel
    have e24 : ("coins" : Str) ≠ "note" := by decide +kernel
    have e34 : ("until" : Str) ≠ "note" := by decide +kernel
    refine ⟨_, rfl, _, rfl, p, _, dx, _, rfl, hp1, T.cl, T.nF _ (by simp), (by show 0 < 1000; decide), _, rfl, _, rfl, p, _, dx, _, rfl, upd_same, T.cl, T.nF _ (by simp), (by show 1 < 1000; decide), _, rfl, _, rfl, p, _, dx, _, rfl, upd_same, T.cl, T.nF _ (by simp), (by rw [put1, put2 e12]; show 2 < 1000; decide), _, rfl, _, rfl, p, _, dx, _, rfl, upd_same, T.cl, T.nF _ (by simp), (by rw [put1, put2 e12, put3 e13 e23]; show 3 < 1000; decide), ?_⟩
    refine k _ (by rw [upd_same, put1, put2 e12, put3 e13 e23, put4 e14 e24 e34]; rfl) fun b o e hb => ?_
    rw [upd_ne hb, upd_ne hb, upd_ne hb, upd_ne hb]
    exact s1 _ _ (by rw [upd_ne (ne_of_none e hl)]; exact e)
theorem t_hold {C : Nat → Addr} (T : ClsT K mg "Hold" "Hold.__init__" "Hold.told" (C 1) sIHold sTHold ["self", "head", "coins", "until", "note"] ["head", "coins", "until", "note"]) : MetT P w K mg base 1 (C 1) "told" (spTold C 1) := by
  obtain ⟨f, fd, M, F, b⟩ := T.told
  refine ⟨f, fd, _, T.cl, M, F.ok scTHold (fun vs H Q E h => ?_) (fun cdv A outer s H vs Q E hr h => ?_), b⟩
  · obtain ⟨p, e, rfl, _⟩ := h
    rfl
  · obtain ⟨p, e, rfl, hk, ⟨dx, hp⟩, k⟩ := h
    cases e <;> first | (cases hk; done) | skip
    rename_i x0 x1 x2 x3
    refine ⟨_, pss_one (ps_ret (pe_tup (pa_cons pe_str (pa_cons (pe_fld (pv 0) rfl) (pa_cons (pe_fld (pv 0) rfl) (pa_cons (pe_fld (pv 0) rfl) (pa_cons (pe_fld (pv 0) rfl) pa_nil))))))), ?_⟩
    refine ⟨_, rfl, p, _, dx, _, _, rfl, hp, T.cl, T.nF _ (by simp), rfl, _, rfl, p, _, dx, _, _, rfl, hp, T.cl, T.nF _ (by simp), rfl, _, rfl, p, _, dx, _, _, rfl, hp, T.cl, T.nF _ (by simp), rfl, _, rfl, p, _, dx, _, _, rfl, hp, T.cl, T.nF _ (by simp), rfl, (by show 5 ≤ sizeLine; decide), fun q hq => k q hq⟩
abbrev sIMove : Stmt := inClass (top 33) 0
abbrev sTMove : Stmt := inClass (top 33) 1
theorem scIMove : FnScope ["self", "head", "other", "coins", "note"] ["self", "head", "other", "coins", "note"] (defScope sIMove) := ⟨rfl, rfl, rfl, by decide +kernel, rfl, by decide +kernel, by decide +kernel⟩
theorem scTMove : FnScope ["self"] ["self"] (defScope sTMove) := ⟨rfl, rfl, rfl, by decide +kernel, rfl, by decide +kernel, by decide +kernel⟩
theorem i_move {C : Nat → Addr} (B : Base K mg) (Wh : Cal P w K mg base 1 "is_whole" spWhole) (Ck : Cal P w K mg base 3 "check_fields" spCheck) (T : ClsT K mg "Move" "Move.__init__" "Move.told" (C 2) sIMove sTMove ["self", "head", "other", "coins", "note"] ["head", "other", "coins", "note"]) : MakT P w K mg base 4 "Move" (C 2) (spInit C 2) := by
  obtain ⟨f, fd, M, F, b⟩ := T.init
  obtain ⟨tLU, hLU⟩ := B.leastU
  obtain ⟨tMU, hMU⟩ := B.mostU
  refine ⟨f, fd, _, M, F.ok scIMove (fun vs H Q E h => ?_) (fun cdv A outer s H vs Q E hr h => ?_), T.mgC, b⟩
  · obtain ⟨p, dx, e, rfl, hk, _⟩ := h
    cases e <;> first | rfl | (cases hk; done)
  · obtain ⟨p, dx, e, rfl, hk, hok, hp, k⟩ := h
    cases e <;> first | (cases hk; done) | skip
    rename_i x0 x1 x2 x3
    obtain ⟨hw1, hw2, hne, hc, hn⟩ := hok
    refine ⟨_, pss_cons (ps_expr (pe_cl Ck hr (by decide) (by rfl) (pa_cons (pe_lst (pa_cons (pv 1) (pa_cons (pv 2) pa_nil))) (pa_cons (pv 3) (pa_cons (pv 4) pa_nil)))))
      (pss_cons (ps_if (pt_cmpR op_eq (pv 1) (pv 2) (nomark _)) (pss_one ps_never) pss_nil)
      (pss_cons (ps_fld (pv 0) (pv 1) rfl)
      (pss_cons (ps_fld (pv 0) (pv 2) rfl)
      (pss_cons (ps_fld (pv 0) (pv 3) rfl)
      (pss_one (ps_fld (pv 0) (pv 4) rfl)))))), ?_⟩
    refine ⟨_, rfl, _, rfl, (by show 2 ≤ sizeLine; decide), fun l hl => ⟨_, rfl, _, rfl, l, [x0, x1], _, _, rfl, upd_same, (by intro z hz; simp at hz; rcases hz with rfl | rfl; exact hw1; exact hw2), (by simp), hc.1, hc.2, hn, fun H1 s1 => ?_⟩⟩
    have pl : p ≠ l := ne_of_none hp hl
    have hp1 : H1 p = some (.ins (C 2) dx []) := s1 _ _ (by rw [upd_ne pl]; exact hp)
    refine ⟨_, rfl, _, rfl, rfl, _, rfl, ?_⟩
    rw [decide_eq_false (show ¬ (V.str x0 = V.str x1) from fun z => hne (by injection z))]
    refine iteF ?_
    have e12 : ("head" : Str) ≠ "other" := by decide +kernel
    have e13 : ("head" : Str) ≠ "coins" := by decide +kernel
    have e14 : ("head" : Str) ≠ "note" := by decide +kernel
    have e23 : ("other" : Str) ≠ "coins" := by decide +kernel
    have e24 : ("other" : Str) ≠ "note" := by decide +kernel
    have e34 : ("coins" : Str) ≠ "note" := by decide +kernel
    refine ⟨_, rfl, _, rfl, p, _, dx, _, rfl, hp1, T.cl, T.nF _ (by simp), (by show 0 < 1000; decide), _, rfl, _, rfl, p, _, dx, _, rfl, upd_same, T.cl, T.nF _ (by simp), (by show 1 < 1000; decide), _, rfl, _, rfl, p, _, dx, _, rfl, upd_same, T.cl, T.nF _ (by simp), (by rw [put1, put2 e12]; show 2 < 1000; decide), _, rfl, _, rfl, p, _, dx, _, rfl, upd_same, T.cl, T.nF _ (by simp), (by rw [put1, put2 e12, put3 e13 e23]; show 3 < 1000; decide), ?_⟩
    refine k _ (by rw [upd_same, put1, put2 e12, put3 e13 e23, put4 e14 e24 e34]; rfl) fun b o e hb => ?_
    rw [upd_ne hb, upd_ne hb, upd_ne hb, upd_ne hb]
    exact s1 _ _ (by rw [upd_ne (ne_of_none e hl)]; exact e)
theorem t_move {C : Nat → Addr} (T : ClsT K mg "Move" "Move.__init__" "Move.told" (C 2) sIMove sTMove ["self", "head", "other", "coins", "note"] ["head", "other", "coins", "note"]) : MetT P w K mg base 1 (C 2) "told" (spTold C 2) := by
  obtain ⟨f, fd, M, F, b⟩ := T.told
  refine ⟨f, fd, _, T.cl, M, F.ok scTMove (fun vs H Q E h => ?_) (fun cdv A outer s H vs Q E hr h => ?_), b⟩
  · obtain ⟨p, e, rfl, _⟩ := h
    rfl
  · obtain ⟨p, e, rfl, hk, ⟨dx, hp⟩, k⟩ := h
    cases e <;> first | (cases hk; done) | skip
    rename_i x0 x1 x2 x3
    refine ⟨_, pss_one (ps_ret (pe_tup (pa_cons pe_str (pa_cons (pe_fld (pv 0) rfl) (pa_cons (pe_fld (pv 0) rfl) (pa_cons (pe_fld (pv 0) rfl) (pa_cons (pe_fld (pv 0) rfl) pa_nil))))))), ?_⟩
    refine ⟨_, rfl, p, _, dx, _, _, rfl, hp, T.cl, T.nF _ (by simp), rfl, _, rfl, p, _, dx, _, _, rfl, hp, T.cl, T.nF _ (by simp), rfl, _, rfl, p, _, dx, _, _, rfl, hp, T.cl, T.nF _ (by simp), rfl, _, rfl, p, _, dx, _, _, rfl, hp, T.cl, T.nF _ (by simp), rfl, (by show 5 ≤ sizeLine; decide), fun q hq => k q hq⟩
abbrev sIPromise : Stmt := inClass (top 34) 0
abbrev sTPromise : Stmt := inClass (top 34) 1
theorem scIPromise : FnScope ["self", "word", "head", "coins", "note"] ["self", "word", "head", "coins", "note"] (defScope sIPromise) := ⟨rfl, rfl, rfl, by decide +kernel, rfl, by decide +kernel, by decide +kernel⟩
theorem scTPromise : FnScope ["self"] ["self"] (defScope sTPromise) := ⟨rfl, rfl, rfl, by decide +kernel, rfl, by decide +kernel, by decide +kernel⟩
theorem i_promise {C : Nat → Addr} (B : Base K mg) (Wh : Cal P w K mg base 1 "is_whole" spWhole) (Ck : Cal P w K mg base 3 "check_fields" spCheck) (T : ClsT K mg "Promise" "Promise.__init__" "Promise.told" (C 4) sIPromise sTPromise ["self", "word", "head", "coins", "note"] ["word", "head", "coins", "note"]) : MakT P w K mg base 4 "Promise" (C 4) (spInit C 4) := by
  obtain ⟨f, fd, M, F, b⟩ := T.init
  obtain ⟨tLU, hLU⟩ := B.leastU
  obtain ⟨tMU, hMU⟩ := B.mostU
  refine ⟨f, fd, _, M, F.ok scIPromise (fun vs H Q E h => ?_) (fun cdv A outer s H vs Q E hr h => ?_), T.mgC, b⟩
  · obtain ⟨p, dx, e, rfl, hk, _⟩ := h
    cases e <;> first | rfl | (cases hk; done)
  · obtain ⟨p, dx, e, rfl, hk, hok, hp, k⟩ := h
    cases e <;> first | (cases hk; done) | skip
    rename_i x0 x1 x2 x3
    obtain ⟨hw1, hw2, hc, hn⟩ := hok
    refine ⟨_, pss_cons (ps_expr (pe_cl Ck hr (by decide) (by rfl) (pa_cons (pe_lst (pa_cons (pv 1) (pa_cons (pv 2) pa_nil))) (pa_cons (pv 3) (pa_cons (pv 4) pa_nil)))))
      (pss_cons (ps_fld (pv 0) (pv 1) rfl)
      (pss_cons (ps_fld (pv 0) (pv 2) rfl)
      (pss_cons (ps_fld (pv 0) (pv 3) rfl)
      (pss_one (ps_fld (pv 0) (pv 4) rfl))))), ?_⟩
    refine ⟨_, rfl, _, rfl, (by show 2 ≤ sizeLine; decide), fun l hl => ⟨_, rfl, _, rfl, l, [x0, x1], _, _, rfl, upd_same, (by intro z hz; simp at hz; rcases hz with rfl | rfl; exact hw1; exact hw2), (by simp), hc.1, hc.2, hn, fun H1 s1 => ?_⟩⟩
    have pl : p ≠ l := ne_of_none hp hl
    have hp1 : H1 p = some (.ins (C 4) dx []) := s1 _ _ (by rw [upd_ne pl]; exact hp)
    have e12 : ("word" : Str) ≠ "head" := by decide +kernel
    have e13 : ("word" : Str) ≠ "coins" := by decide +kernel
    have e14 : ("word" : Str) ≠ "note" := by decide +kernel
    have e23 : ("head" : Str) ≠ "coins" := by decide +kernel
    have e24 : ("head" : Str) ≠ "note" := by decide +kernel
    have e34 : ("coins" : Str) ≠ "note" := by decide +kernel
    refine ⟨_, rfl, _, rfl, p, _, dx, _, rfl, hp1, T.cl, T.nF _ (by simp), (by show 0 < 1000; decide), _, rfl, _, rfl, p, _, dx, _, rfl, upd_same, T.cl, T.nF _ (by simp), (by show 1 < 1000; decide), _, rfl, _, rfl, p, _, dx, _, rfl, upd_same, T.cl, T.nF _ (by simp), (by rw [put1, put2 e12]; show 2 < 1000; decide), _, rfl, _, rfl, p, _, dx, _, rfl, upd_same, T.cl, T.nF _ (by simp), (by rw [put1, put2 e12, put3 e13 e23]; show 3 < 1000; decide), ?_⟩
    refine k _ (by rw [upd_same, put1, put2 e12, put3 e13 e23, put4 e14 e24 e34]; rfl) fun b o e hb => ?_
    rw [upd_ne hb, upd_ne hb, upd_ne hb, upd_ne hb]
    exact s1 _ _ (by rw [upd_ne (ne_of_none e hl)]; exact e)
theorem t_promise {C : Nat → Addr} (T : ClsT K mg "Promise" "Promise.__init__" "Promise.told" (C 4) sIPromise sTPromise ["self", "word", "head", "coins", "note"] ["word", "head", "coins", "note"]) : MetT P w K mg base 1 (C 4) "told" (spTold C 4) := by
  obtain ⟨f, fd, M, F, b⟩ := T.told
  refine ⟨f, fd, _, T.cl, M, F.ok scTPromise (fun vs H Q E h => ?_) (fun cdv A outer s H vs Q E hr h => ?_), b⟩
  · obtain ⟨p, e, rfl, _⟩ := h
    rfl
  · obtain ⟨p, e, rfl, hk, ⟨dx, hp⟩, k⟩ := h
    cases e <;> first | (cases hk; done) | skip
    rename_i x0 x1 x2 x3
    refine ⟨_, pss_one (ps_ret (pe_tup (pa_cons pe_str (pa_cons (pe_fld (pv 0) rfl) (pa_cons (pe_fld (pv 0) rfl) (pa_cons (pe_fld (pv 0) rfl) (pa_cons (pe_fld (pv 0) rfl) pa_nil))))))), ?_⟩
    refine ⟨_, rfl, p, _, dx, _, _, rfl, hp, T.cl, T.nF _ (by simp), rfl, _, rfl, p, _, dx, _, _, rfl, hp, T.cl, T.nF _ (by simp), rfl, _, rfl, p, _, dx, _, _, rfl, hp, T.cl, T.nF _ (by simp), rfl, _, rfl, p, _, dx, _, _, rfl, hp, T.cl, T.nF _ (by simp), rfl, (by show 5 ≤ sizeLine; decide), fun q hq => k q hq⟩
end
end KP
namespace KP
open PySem L2

/-- whether the entry fits a year of these heads and days, at the date d -/
def En.fit (e : En) (ns : List Str) (days d : Int) : Bool := match e with
  | .give h _ _ => decide (h ∈ ns) | .hold h _ u _ => decide (h ∈ ns) && decide (d < u ∧ u ≤ days + 1) | .move h o _ _ => decide (h ∈ ns) && decide (o ∈ ns) | .spend h _ _ => decide (h ∈ ns)
  | .promise _ h _ _ => decide (h ∈ ns) | .lessen .. => true | .out .. => true
def spFits (C : Nat → Addr) (Cy : Addr) (k : Nat) : Sp := fun vs H Q _ => ∃ (p yp : Addr) (e : En) (y : Yr) (d : Int), vs = [.ref p, .ref yp, .int d] ∧ e.k = k ∧ EntAt C H p e ∧ YearAt Cy [] H yp y ∧ y.hs.length ≤ 8 ∧ ∀ H', Same H H' → Q (.bl (e.fit (nms y.hs) y.days d)) H'
section
variable {P : Program} {w : World} {K : PySem.W.Frag} {mg : Str → Option Value} {base : Heap} {C : Nat → Addr} {Cy : Addr}

abbrev sFGive : Stmt := inClass (top 31) 2
theorem scFGive : FnScope ["self", "year", "date"] ["self", "year", "date"] (defScope sFGive) := ⟨rfl, rfl, rfl, by decide +kernel, rfl, by decide +kernel, by decide +kernel⟩
theorem f_give (Y : YearF K mg Cy) (Nm : MetT P w K mg base 1 Cy "names" (spYN Cy)) (T : ClsT K mg "Give" "Give.__init__" "Give.told" (C 0) sIGive sTGive ["self", "head", "coins", "note"] ["head", "coins", "note"]) (D : MethT K (C 0) "fits" "Give.fits" sFGive ["self", "year", "date"]) : MetT P w K mg base 2 (C 0) "fits" (spFits C Cy 0) := by
  obtain ⟨f, fd, M, F, b⟩ := D.ex
  refine ⟨f, fd, _, T.cl, M, F.ok scFGive (fun vs H Q E h => ?_) (fun cdv A outer s H vs Q E hr h => ?_), b⟩
  · obtain ⟨p, yp, e, y, d, rfl, _⟩ := h
    rfl
  · obtain ⟨p, yp, e, y, d, rfl, hk, ⟨dx, hp⟩, hy, h8, k⟩ := h
    cases e <;> first | (cases hk; done) | skip
    rename_i x0 x1 x2
    obtain ⟨dy, l1, l2, l3, t1, t2, t3, hyp, r1, r2, r3, _⟩ := hy.ex
    have nfn : (yf y.days l1 l2 l3).lookup ("names" : Str) = none := yf_no (by decide +kernel) (by decide +kernel) (by decide +kernel) (by decide +kernel)
    refine ⟨_, pss_one (ps_ret (pe_cmpR op_in_seq (pe_fld (pv 0) rfl) (pe_mtT0 Nm hr (by decide) (pv 1)) rfl)), ?_⟩
    refine ⟨_, rfl, p, _, dx, _, _, rfl, hp, T.cl, T.nF _ (by simp), rfl, _, rfl, yp, dy, _, rfl, hyp, nfn, yp, y, rfl, hy, h8, fun q hq => ?_⟩
    refine ⟨q, _, rfl, .inl (SqL.of upd_same), rfl, flat_strs, ?_⟩
    rw [inV_str]
    exact k _ (same_new hq)
abbrev sFHold : Stmt := inClass (top 32) 2
theorem scFHold : FnScope ["self", "year", "date"] ["self", "year", "date"] (defScope sFHold) := ⟨rfl, rfl, rfl, by decide +kernel, rfl, by decide +kernel, by decide +kernel⟩
theorem f_hold (Y : YearF K mg Cy) (Nm : MetT P w K mg base 1 Cy "names" (spYN Cy)) (T : ClsT K mg "Hold" "Hold.__init__" "Hold.told" (C 1) sIHold sTHold ["self", "head", "coins", "until", "note"] ["head", "coins", "until", "note"]) (D : MethT K (C 1) "fits" "Hold.fits" sFHold ["self", "year", "date"]) : MetT P w K mg base 2 (C 1) "fits" (spFits C Cy 1) := by
  obtain ⟨f, fd, M, F, b⟩ := D.ex
  refine ⟨f, fd, _, T.cl, M, F.ok scFHold (fun vs H Q E h => ?_) (fun cdv A outer s H vs Q E hr h => ?_), b⟩
  · obtain ⟨p, yp, e, y, d, rfl, _⟩ := h
    rfl
  · obtain ⟨p, yp, e, y, d, rfl, hk, ⟨dx, hp⟩, hy, h8, k⟩ := h
    cases e <;> first | (cases hk; done) | skip
    rename_i x0 x1 x2 x3
    obtain ⟨dy, l1, l2, l3, t1, t2, t3, hyp, r1, r2, r3, _⟩ := hy.ex
    have nfn : (yf y.days l1 l2 l3).lookup ("names" : Str) = none := yf_no (by decide +kernel) (by decide +kernel) (by decide +kernel) (by decide +kernel)
    refine ⟨_, pss_one (ps_ret (pe_and (pe_cmpR op_in_seq (pe_fld (pv 0) rfl) (pe_mtT0 Nm hr (by decide) (pv 1)) rfl) (pe_one (pe_chain op_lt op_le (pv 2) (pe_fld (pv 0) rfl) (pe_op op_add (pe_fld (pv 1) rfl) pe_int))))), ?_⟩
    refine ⟨_, rfl, p, _, dx, _, _, rfl, hp, T.cl, T.nF _ (by simp), rfl, _, rfl, yp, dy, _, rfl, hyp, nfn, yp, y, rfl, hy, h8, fun q hq => ?_⟩
    refine ⟨q, _, rfl, .inl (SqL.of upd_same), rfl, flat_strs, ?_⟩
    rw [inV_str]
    have kk : Q (.bl (decide (x0 ∈ nms y.hs) && decide (d < x2 ∧ x2 ≤ y.days + 1))) _ := k _ (same_new (o := .lst ((nms y.hs).map V.str)) hq)
    have hp2 := same_new (o := .lst ((nms y.hs).map V.str)) hq _ _ hp
    have hyp2 := same_new (o := .lst ((nms y.hs).map V.str)) hq _ _ hyp
    refine ⟨_, rfl, ?_⟩
    by_cases h0 : x0 ∈ nms y.hs
    · rw [decide_eq_true h0] at kk ⊢
      refine iteT ⟨_, rfl, _, rfl, p, _, dx, _, _, rfl, hp2, T.cl, T.nF _ (by simp), rfl, _, _, rfl, rfl, _, rfl, ?_⟩
      by_cases h1 : d < x2
      · refine ifT (decide_eq_true h1) ⟨_, rfl, yp, Cy, dy, _, _, rfl, hyp2, Y.cl, Y.nd, rfl, _, _, rfl, rfl, _, _, rfl, rfl, ?_⟩
        show Q (.bl (decide (x2 ≤ y.days + 1))) _
        by_cases h2 : x2 ≤ y.days + 1
        · rw [decide_eq_true h2]
          rw [decide_eq_true ⟨h1, h2⟩] at kk
          exact kk
        · rw [decide_eq_false h2]
          rw [decide_eq_false fun z => h2 z.2] at kk
          exact kk
      · refine ifF (by rw [decide_eq_false h1]; exact Bool.false_ne_true) ?_
        rw [decide_eq_false fun z => h1 z.1] at kk
        exact kk
    · rw [decide_eq_false h0] at kk ⊢
      exact iteF kk
abbrev sFMove : Stmt := inClass (top 33) 2
theorem scFMove : FnScope ["self", "year", "date", "names"] ["self", "year", "date"] (defScope sFMove) := ⟨rfl, rfl, rfl, by decide +kernel, rfl, by decide +kernel, by decide +kernel⟩
theorem f_move (Y : YearF K mg Cy) (Nm : MetT P w K mg base 1 Cy "names" (spYN Cy)) (T : ClsT K mg "Move" "Move.__init__" "Move.told" (C 2) sIMove sTMove ["self", "head", "other", "coins", "note"] ["head", "other", "coins", "note"]) (D : MethT K (C 2) "fits" "Move.fits" sFMove ["self", "year", "date"]) : MetT P w K mg base 2 (C 2) "fits" (spFits C Cy 2) := by
  obtain ⟨f, fd, M, F, b⟩ := D.ex
  refine ⟨f, fd, _, T.cl, M, F.ok scFMove (fun vs H Q E h => ?_) (fun cdv A outer s H vs Q E hr h => ?_), b⟩
  · obtain ⟨p, yp, e, y, d, rfl, _⟩ := h
    rfl
  · obtain ⟨p, yp, e, y, d, rfl, hk, ⟨dx, hp⟩, hy, h8, k⟩ := h
    cases e <;> first | (cases hk; done) | skip
    rename_i x0 x1 x2 x3
    obtain ⟨dy, l1, l2, l3, t1, t2, t3, hyp, r1, r2, r3, _⟩ := hy.ex
    have nfn : (yf y.days l1 l2 l3).lookup ("names" : Str) = none := yf_no (by decide +kernel) (by decide +kernel) (by decide +kernel) (by decide +kernel)
    refine ⟨_, pss_cons (ps_set (i := 3) scFMove.nd rfl (Or.inl rfl) (pe_mtT0 Nm hr (by decide) (pv 1))) (pss_one (ps_ret (pe_and (pe_cmpR op_in_seq (pe_fld (pv 0) rfl) (pv 3) rfl) (pe_one (pe_cmpR op_in_seq (pe_fld (pv 0) rfl) (pv 3) rfl))))), ?_⟩
    refine ⟨_, rfl, yp, dy, _, rfl, hyp, nfn, yp, y, rfl, hy, h8, fun q hq => ?_⟩
    have hp2 := same_new (o := .lst ((nms y.hs).map V.str)) hq _ _ hp
    refine ⟨_, rfl, p, _, dx, _, _, rfl, hp2, T.cl, T.nF _ (by simp), rfl, _, rfl, q, _, rfl, .inl (SqL.of upd_same), rfl, flat_strs, ?_⟩
    rw [inV_str]
    have kk : Q (.bl (decide (x0 ∈ nms y.hs) && decide (x1 ∈ nms y.hs))) _ := k _ (same_new (o := .lst ((nms y.hs).map V.str)) hq)
    refine ⟨_, rfl, ?_⟩
    by_cases h0 : x0 ∈ nms y.hs
    · rw [decide_eq_true h0] at kk ⊢
      refine iteT ⟨_, rfl, p, _, dx, _, _, rfl, hp2, T.cl, T.nF _ (by simp), rfl, _, rfl, q, _, rfl, .inl (SqL.of upd_same), rfl, flat_strs, ?_⟩
      rw [inV_str]
      exact kk
    · rw [decide_eq_false h0] at kk ⊢
      exact iteF kk
abbrev sFPromise : Stmt := inClass (top 34) 2
theorem scFPromise : FnScope ["self", "year", "date"] ["self", "year", "date"] (defScope sFPromise) := ⟨rfl, rfl, rfl, by decide +kernel, rfl, by decide +kernel, by decide +kernel⟩
theorem f_promise (Y : YearF K mg Cy) (Nm : MetT P w K mg base 1 Cy "names" (spYN Cy)) (T : ClsT K mg "Promise" "Promise.__init__" "Promise.told" (C 4) sIPromise sTPromise ["self", "word", "head", "coins", "note"] ["word", "head", "coins", "note"]) (D : MethT K (C 4) "fits" "Promise.fits" sFPromise ["self", "year", "date"]) : MetT P w K mg base 2 (C 4) "fits" (spFits C Cy 4) := by
  obtain ⟨f, fd, M, F, b⟩ := D.ex
  refine ⟨f, fd, _, T.cl, M, F.ok scFPromise (fun vs H Q E h => ?_) (fun cdv A outer s H vs Q E hr h => ?_), b⟩
  · obtain ⟨p, yp, e, y, d, rfl, _⟩ := h
    rfl
  · obtain ⟨p, yp, e, y, d, rfl, hk, ⟨dx, hp⟩, hy, h8, k⟩ := h
    cases e <;> first | (cases hk; done) | skip
    rename_i x0 x1 x2 x3
    obtain ⟨dy, l1, l2, l3, t1, t2, t3, hyp, r1, r2, r3, _⟩ := hy.ex
    have nfn : (yf y.days l1 l2 l3).lookup ("names" : Str) = none := yf_no (by decide +kernel) (by decide +kernel) (by decide +kernel) (by decide +kernel)
    refine ⟨_, pss_one (ps_ret (pe_cmpR op_in_seq (pe_fld (pv 0) rfl) (pe_mtT0 Nm hr (by decide) (pv 1)) rfl)), ?_⟩
    refine ⟨_, rfl, p, _, dx, _, _, rfl, hp, T.cl, T.nF _ (by simp), rfl, _, rfl, yp, dy, _, rfl, hyp, nfn, yp, y, rfl, hy, h8, fun q hq => ?_⟩
    refine ⟨q, _, rfl, .inl (SqL.of upd_same), rfl, flat_strs, ?_⟩
    rw [inV_str]
    exact k _ (same_new hq)
end
end KP
namespace KD
open PySem PySem.Spec PyProof.Rows L2 PySem.SeqAt
theorem str_eq_declines_dict (b : Str) (u : Tok) (l : Addr) (es : Array DictEntry) (n : Nat) (dd : Option Addr) (sl : Array (Option Value)) :
    Meets (Builtin.«str.__eq__» ⟨[.str b u, .ref l], []⟩) (fun _ R s => s.heap.get? l = some { cls := .type "dict", dict := dd, data := .dict es n, slots := sl } ∧ R (.ok (.ret .notImplemented)) s) :=
  .of_wp fun prog w A R s h => by obtain ⟨hp, g, d, tk, os⟩ := s; obtain ⟨hl, h⟩ := h; wp_walk using wpAny_loadPart' hl, wpAny_load hl; exact ⟨_, rfl, h⟩
theorem dict_eq_declines_str (l : Addr) (es : Array DictEntry) (n : Nat) (dd : Option Addr) (sl : Array (Option Value)) (b : Str) (u : Tok) :
    Meets (Builtin.«dict.__eq__» ⟨[.ref l, .str b u], []⟩) (fun _ R s => s.heap.get? l = some { cls := .type "dict", dict := dd, data := .dict es n, slots := sl } ∧ R (.ok (.ret .notImplemented)) s) :=
  .of_wp fun prog w A R s h => by obtain ⟨hp, g, d, tk, os⟩ := s; obtain ⟨hl, h⟩ := h; have f1 := F.sub_str_dict; wp_walk using wpAny_loadPart' hl, wpAny_load hl; exact ⟨_, rfl, h⟩
theorem rc_str_dict {A : Around} {s : Shared} {l : Addr} {es : Array DictEntry} {n : Nat} {dd : Option Addr} {sl : Array (Option Value)} (b : Str) (u : Tok) (ho : s.heap.get? l = some { cls := .type "dict", dict := dd, data := .dict es n, slots := sl }) (hu : A.units < cLine) : RcAt A s (.str b u) (.ref l) false := fun prog w E Q h =>
  rc_eq_decline_or (k := false) (typeIs_str s b u) ⟨_, ho, rfl⟩ (by decide) F.sub_dict_str F.slot_str_eq F.slot_dict_eq_refl
    (fun _ hq => call_meets F.slot_str_eq (typeIs_str s b u) F.entry_str_eq (F.args_str_eq_2 _ _) (str_eq_declines_dict b u l es n dd sl) ⟨ho, hq⟩)
    (fun _ hq => call_meets F.slot_dict_eq_refl ⟨_, ho, rfl⟩ F.entry_dict_eq (F.args_dict_eq_2 _ _) (dict_eq_declines_str l es n dd sl b u) ⟨ho, hq⟩)
    (fun _ hq => wpAny_of_eq (rfl : isSame (.str b u) (.ref l) = pure false) hq) (.inr hu) h
theorem rc_dict_str {A : Around} {s : Shared} {l : Addr} {es : Array DictEntry} {n : Nat} {dd : Option Addr} {sl : Array (Option Value)} (b : Str) (u : Tok) (ho : s.heap.get? l = some { cls := .type "dict", dict := dd, data := .dict es n, slots := sl }) (hu : A.units < cLine) : RcAt A s (.ref l) (.str b u) false := fun prog w E Q h =>
  rc_eq_decline_or (k := false) ⟨_, ho, rfl⟩ (typeIs_str s b u) (by decide) F.sub_str_dict F.slot_dict_eq F.slot_str_eq_refl
    (fun _ hq => call_meets F.slot_dict_eq ⟨_, ho, rfl⟩ F.entry_dict_eq (F.args_dict_eq_2 _ _) (dict_eq_declines_str l es n dd sl b u) ⟨ho, hq⟩)
    (fun _ hq => call_meets F.slot_str_eq_refl (typeIs_str s b u) F.entry_str_eq (F.args_str_eq_2 _ _) (str_eq_declines_dict b u l es n dd sl) ⟨ho, hq⟩)
    (fun _ hq => wpAny_of_eq (rfl : isSame (.ref l) (.str b u) = pure false) hq) (.inr hu) h
/-- what may be handed in -/
inductive Th (H : Hp) : V → Prop where
  | non : Th H .non
  | bl (b : Bool) : Th H (.bl b)
  | int (i : Int) : Th H (.int i)
  | str (x : Str) (h : x.length ≤ sizeLine) : Th H (.str x)
  | lst {a : Addr} {xs : List V} (h : H a = some (.lst xs)) : Th H (.ref a)
  | tup {a : Addr} {xs : List V} (h : H a = some (.tup xs)) : Th H (.ref a)
  | dct {a : Addr} {kvs : List (Key × V)} (h : H a = some (.dK kvs)) : Th H (.ref a)
theorem Th.same {H H' : Hp} {v : V} (t : Th H v) (s : Same H H') : Th H' v := by
  cases t with
  | non => exact .non
  | bl b => exact .bl b
  | int i => exact .int i
  | str x h => exact .str x h
  | lst h => exact .lst (s _ _ h)
  | tup h => exact .tup (s _ _ h)
  | dct h => exact .dct (s _ _ h)
/-- == of a text and anything -/
def rEqX : R2 := fun x y H Q => ((∃ b, y = .str b) ∧ Th H x ∨ (∃ b, x = .str b) ∧ Th H y) ∧ Q (.bl (decide (x = y))) H
theorem op_eqX {X : Cx} (hu0 : X.A.units + 64 < cLine) : OpR X (compareOp .Eq) rEqX := by
  have hu : X.A.units < cLine := by omega
  intro pins s σ H x y v u Q I rx ry h
  obtain ⟨h, q⟩ := h
  have rf : ∀ {a : Addr} {b : Str}, decide (V.ref a = V.str b) = false := fun {a b} => decide_eq_false (fun z => nomatch z)
  have fr : ∀ {a : Addr} {b : Str}, decide (V.str b = V.ref a) = false := fun {a b} => decide_eq_false (fun z => nomatch z)
  rcases h with ⟨⟨b, rfl⟩, t⟩ | ⟨⟨b, rfl⟩, t⟩
  · cases t with
    | non => exact op_eq pins s σ H _ _ v u Q I rx ry ⟨rfl, q⟩
    | bl b => exact op_eq pins s σ H _ _ v u Q I rx ry ⟨rfl, q⟩
    | int i => exact op_eq pins s σ H _ _ v u Q I rx ry ⟨rfl, q⟩
    | str z h => exact op_eq pins s σ H _ _ v u Q I rx ry ⟨rfl, q⟩
    | @lst a xs h =>
      obtain ⟨t, rfl⟩ := (show ∃ t, u = Value.str b t from ry)
      cases (show v = Value.ref a from rx)
      obtain ⟨_, _, n, _, h1⟩ := (show ObjOk X.prog X.w H s.heap a (.lst xs) from I.hok a _ h)
      rw [rf] at q
      exact RcAt.list_str (A := X.A) b t ⟨_, h1, rfl, n, rfl⟩ hu X.prog X.w _ _ ⟨.bl false, H, I, rfl, q⟩
    | @tup a xs h =>
      obtain ⟨t, rfl⟩ := (show ∃ t, u = Value.str b t from ry)
      cases (show v = Value.ref a from rx)
      obtain ⟨its, _, ht, _⟩ := I.tuple (SqT.of h)
      rw [rf] at q
      exact RcAt.tuple_str (A := X.A) b t ht hu X.prog X.w _ _ ⟨.bl false, H, I, rfl, q⟩
    | @dct a kvs h =>
      obtain ⟨t, rfl⟩ := (show ∃ t, u = Value.str b t from ry)
      cases (show v = Value.ref a from rx)
      obtain ⟨_, _, vs, _, ob, es, ep, h1, h2, h3, _⟩ := (show ObjOk X.prog X.w H s.heap a (.dK kvs) from I.hok a _ h)
      obtain ⟨cls, dd, data, sl⟩ := ob
      obtain ⟨c1, c2, c3⟩ := h2
      simp only at c1 h3
      subst c1 h3
      rw [rf] at q
      exact rc_dict_str (A := X.A) b t h1 hu X.prog X.w _ _ ⟨.bl false, H, I, rfl, q⟩
  · cases t with
    | non => exact op_eq pins s σ H _ _ v u Q I rx ry ⟨rfl, q⟩
    | bl b => exact op_eq pins s σ H _ _ v u Q I rx ry ⟨rfl, q⟩
    | int i => exact op_eq pins s σ H _ _ v u Q I rx ry ⟨rfl, q⟩
    | str z h => exact op_eq pins s σ H _ _ v u Q I rx ry ⟨rfl, q⟩
    | @lst a xs h =>
      obtain ⟨t, rfl⟩ := (show ∃ t, v = Value.str b t from rx)
      cases (show u = Value.ref a from ry)
      obtain ⟨_, _, n, _, h1⟩ := (show ObjOk X.prog X.w H s.heap a (.lst xs) from I.hok a _ h)
      rw [fr] at q
      exact RcAt.str_list (A := X.A) b t ⟨_, h1, rfl, n, rfl⟩ hu X.prog X.w _ _ ⟨.bl false, H, I, rfl, q⟩
    | @tup a xs h =>
      obtain ⟨t, rfl⟩ := (show ∃ t, v = Value.str b t from rx)
      cases (show u = Value.ref a from ry)
      obtain ⟨its, _, ht, _⟩ := I.tuple (SqT.of h)
      rw [fr] at q
      exact RcAt.str_tuple (A := X.A) b t ht hu X.prog X.w _ _ ⟨.bl false, H, I, rfl, q⟩
    | @dct a kvs h =>
      obtain ⟨t, rfl⟩ := (show ∃ t, v = Value.str b t from rx)
      cases (show u = Value.ref a from ry)
      obtain ⟨_, _, vs, _, ob, es, ep, h1, h2, h3, _⟩ := (show ObjOk X.prog X.w H s.heap a (.dK kvs) from I.hok a _ h)
      obtain ⟨cls, dd, data, sl⟩ := ob
      obtain ⟨c1, c2, c3⟩ := h2
      simp only at c1 h3
      subst c1 h3
      rw [fr] at q
      exact rc_str_dict (A := X.A) b t h1 hu X.prog X.w _ _ ⟨.bl false, H, I, rfl, q⟩
/-- its type -/
def tyV : V → HO → Value
  | .non, _ => .type "NoneType" | .bl _, _ => .type "bool" | .int _, _ => .type "int" | .str _, _ => .type "str"
  | .ref _, .lst _ => .type "list" | .ref _, .tup _ => .type "tuple" | _, _ => .type "dict"
theorem Th.ty {K : PySem.W.Frag} {H : Hp} {v : V} (t : Th H v) : ∃ n : String, TyX K H v (.type n) ∧ n ∈ ["NoneType", "bool", "int", "str", "list", "tuple", "dict"] ∧ (n = "bool" ↔ ∃ b, v = .bl b) ∧ (n = "int" ↔ ∃ i, v = .int i) ∧ (n = "str" ↔ ∃ x, v = .str x) ∧ (n = "tuple" ↔ ∃ a xs, v = .ref a ∧ H a = some (.tup xs)) := by
  cases t with
  | non => exact ⟨_, .base .non, by decide, ⟨fun z => absurd z (by decide), fun ⟨_, z⟩ => nomatch z⟩, ⟨fun z => absurd z (by decide), fun ⟨_, z⟩ => nomatch z⟩, ⟨fun z => absurd z (by decide), fun ⟨_, z⟩ => nomatch z⟩, ⟨fun z => absurd z (by decide), fun ⟨_, _, z, _⟩ => nomatch z⟩⟩
  | bl b => exact ⟨_, .base (.bl b), by decide, ⟨fun _ => ⟨b, rfl⟩, fun _ => rfl⟩, ⟨fun z => absurd z (by decide), fun ⟨_, z⟩ => nomatch z⟩, ⟨fun z => absurd z (by decide), fun ⟨_, z⟩ => nomatch z⟩, ⟨fun z => absurd z (by decide), fun ⟨_, _, z, _⟩ => nomatch z⟩⟩
  | int i => exact ⟨_, .base (.int i), by decide, ⟨fun z => absurd z (by decide), fun ⟨_, z⟩ => nomatch z⟩, ⟨fun _ => ⟨i, rfl⟩, fun _ => rfl⟩, ⟨fun z => absurd z (by decide), fun ⟨_, z⟩ => nomatch z⟩, ⟨fun z => absurd z (by decide), fun ⟨_, _, z, _⟩ => nomatch z⟩⟩
  | str x h => exact ⟨_, .base (.str x), by decide, ⟨fun z => absurd z (by decide), fun ⟨_, z⟩ => nomatch z⟩, ⟨fun z => absurd z (by decide), fun ⟨_, z⟩ => nomatch z⟩, ⟨fun _ => ⟨x, rfl⟩, fun _ => rfl⟩, ⟨fun z => absurd z (by decide), fun ⟨_, _, z, _⟩ => nomatch z⟩⟩
  | lst h => exact ⟨_, .base (.lst h), by decide, ⟨fun z => absurd z (by decide), fun ⟨_, z⟩ => nomatch z⟩, ⟨fun z => absurd z (by decide), fun ⟨_, z⟩ => nomatch z⟩, ⟨fun z => absurd z (by decide), fun ⟨_, z⟩ => nomatch z⟩, ⟨fun z => absurd z (by decide), fun ⟨_, _, z, e⟩ => by cases z; rw [h] at e; cases e⟩⟩
  | @tup a xs h => exact ⟨_, .base (.tup h), by decide, ⟨fun z => absurd z (by decide), fun ⟨_, z⟩ => nomatch z⟩, ⟨fun z => absurd z (by decide), fun ⟨_, z⟩ => nomatch z⟩, ⟨fun z => absurd z (by decide), fun ⟨_, z⟩ => nomatch z⟩, ⟨fun _ => ⟨a, xs, rfl, h⟩, fun _ => rfl⟩⟩
  | dct h => exact ⟨_, .base (.dK h), by decide, ⟨fun z => absurd z (by decide), fun ⟨_, z⟩ => nomatch z⟩, ⟨fun z => absurd z (by decide), fun ⟨_, z⟩ => nomatch z⟩, ⟨fun z => absurd z (by decide), fun ⟨_, z⟩ => nomatch z⟩, ⟨fun z => absurd z (by decide), fun ⟨_, _, z, e⟩ => by cases z; rw [h] at e; cases e⟩⟩
end KD
namespace KD
open PySem PySem.Spec PyProof.Rows L2
section
variable {X : Cx}
def tA (t : TA) : TA := fun σ H Q => ∃ Q' : List V → Hp → Prop, t σ H Q' ∧ ∀ vs H', Q' vs H' → Q vs H'
theorem pa_up {es : List Expr} {t : TA} (h : PA X es t) : PA X es (tA t) := ⟨fun pos pins s σ H Q I ⟨Q', h1, h2⟩ => thn (h.run pos pins s σ H Q' I h1) fun us s1 ⟨vs, H1, I1, r, q⟩ => ⟨vs, H1, I1, r, h2 _ _ q⟩⟩
theorem pe_le {e : Expr} {t u : TE} (h : PE X e t) (f : ∀ σ H Q, u σ H Q → t σ H Q) : PE X e u := ⟨fun pins s σ H Q I hu => h.run pins s σ H Q I (f σ H Q hu)⟩
def tLstW (t : TA) : TE := fun σ H Q => t σ H fun xs H1 => xs.length ≤ sizeLine ∧ ∀ p H', Same H1 H' → H1 p = none → H' p = some (.lst xs) → Q (.ref p) H'
def tTupW (t : TA) : TE := fun σ H Q => t σ H fun xs H1 => xs.length ≤ sizeLine ∧ ∀ p H', Same H1 H' → H1 p = none → H' p = some (.tup xs) → Q (.ref p) H'
theorem pe_lstW {es : List Expr} {t : TA} {pos : Pos} (ha : PA X es t) : PE X (.List es pos) (tLstW t) :=
  pe_le (pe_lst (pa_up ha)) fun σ H Q h => ⟨_, h, fun vs H1 ⟨a, b⟩ => ⟨a, fun p hp => b p _ (KP.same_new hp) hp upd_same⟩⟩
theorem pe_tupW {es : List Expr} {x1 : _} {t : TA} {pos : Pos} (ha : PA X es t) : PE X (.Tuple es x1 pos) (tTupW t) :=
  pe_le (pe_tup (pa_up ha)) fun σ H Q h => ⟨_, h, fun vs H1 ⟨a, b⟩ => ⟨a, fun p hp => b p _ (KP.same_new hp) hp upd_same⟩⟩
/-- t + u, t[lo:hi]: a tuple of these items, a new one or one that was there -/
def rCatW (K : PySem.W.Frag) : R2 := fun x y H Q => ∃ a b xs ys, x = .ref a ∧ y = .ref b ∧ H a = some (.tup xs) ∧ H b = some (.tup ys) ∧ xs.length + ys.length ≤ sizeLine ∧ ∀ p H', Same H H' → H' p = some (.tup (xs ++ ys)) → Q (.ref p) H'
theorem op_catW : OpR X (binaryOp .Add) (rCatW X.K) := by
  intro pins s σ H x y v u Q I rx ry h
  obtain ⟨a, b, xs, ys, rfl, rfl, ha, hb, hz, q⟩ := h
  refine op_catA pins s σ H _ _ v u Q I rx ry ⟨a, b, xs, ys, rfl, rfl, SqT.of ha, SqT.of hb, hz, fun e => ?_, fun _ e => ?_, fun _ _ p hp => ?_⟩
  · subst e
    exact q b H (Same.refl _) hb
  · subst e
    exact q a H (Same.refl _) (by rw [List.append_nil]; exact ha)
  · exact q p _ (KP.same_new hp) upd_same
def rSlW (K : PySem.W.Frag) : V → Option Int → Option Int → Hp → VK → Prop := fun x lo hi H Q => ∃ a xs, x = .ref a ∧ H a = some (.tup xs) ∧ ∀ p H', Same H H' → H' p = some (.tup (cutV xs lo hi)) → Q (.ref p) H'
theorem sl_tupW : SlR X (rSlW X.K) := by
  intro pins s σ H x v vl vu lo hi sl Q I rx hs pl pu h
  obtain ⟨a, xs, rfl, ha, q⟩ := h
  refine sl_tupA pins s σ H _ v vl vu lo hi sl Q I rx hs pl pu ⟨a, xs, rfl, SqT.of ha, fun e => ?_, fun _ p hp => q p _ (KP.same_new hp) upd_same⟩
  refine q a H (Same.refl _) ?_
  unfold cutV
  rw [e.1, e.2, List.drop_zero, Nat.sub_zero, List.take_length]
  exact ha
/-- l + m of lists -/
def rCatLW : R2 := fun x y H Q => ∃ a b xs ys, x = .ref a ∧ y = .ref b ∧ H a = some (.lst xs) ∧ H b = some (.lst ys) ∧ xs.length + ys.length ≤ sizeLine ∧ ∀ p H', Same H H' → H p = none → H' p = some (.lst (xs ++ ys)) → Q (.ref p) H'
theorem op_catLW : OpR X (binaryOp .Add) rCatLW := by
  intro pins s σ H x y v u Q I rx ry h
  obtain ⟨a, b, xs, ys, rfl, rfl, ha, hb, hz, q⟩ := h
  exact op_cat pins s σ H _ _ v u Q I rx ry ⟨a, b, xs, ys, rfl, rfl, ha, hb, hz, fun p hp => q p _ (KP.same_new hp) hp upd_same⟩
def rSlLW (K : PySem.W.Frag) : V → Option Int → Option Int → Hp → VK → Prop := fun x lo hi H Q => ∃ a xs, x = .ref a ∧ SqL K H a xs ∧ ∀ p H', Same H H' → H p = none → H' p = some (.lst (cutV xs lo hi)) → Q (.ref p) H'
theorem sl_listW : SlR X (rSlLW X.K) := by
  intro pins s σ H x v vl vu lo hi sl Q I rx hs pl pu h
  obtain ⟨a, xs, rfl, ha, q⟩ := h
  exact sl_list pins s σ H _ v vl vu lo hi sl Q I rx hs pl pu ⟨a, xs, rfl, ha, fun p hp => q p _ (KP.same_new hp) hp upd_same⟩
/-- list(x) -/
def rListW (K : PySem.W.Frag) : List V → Hp → VK → Prop := fun xs H Q => ∃ p ys, xs = [.ref p] ∧ (SqL K H p ys ∨ SqT K H p ys) ∧ ∀ l H', Same H H' → H l = none → H' l = some (.lst ys) → Q (.ref l) H'
theorem call_listW : CallR X (.type "list") (rListW X.K) := by
  intro pins s σ H xs us Q I r h
  obtain ⟨p, ys, rfl, hy, q⟩ := h
  exact call_list_of pins s σ H _ us Q I r ⟨p, ys, rfl, hy, fun l hl => q l _ (KP.same_new hl) hl upd_same⟩
/-- tuple(x) of a list -/
def rTupleW (K : PySem.W.Frag) : List V → Hp → VK → Prop := fun xs H Q => ∃ p ys, xs = [.ref p] ∧ SqL K H p ys ∧ ∀ l H', Same H H' → H l = none → H' l = some (.tup ys) → Q (.ref l) H'
theorem call_tupleW : CallR X (.type "tuple") (rTupleW X.K) := by
  intro pins s σ H xs us Q I r h
  obtain ⟨p, ys, rfl, hy, q⟩ := h
  exact call_tuple_of pins s σ H _ us Q I r ⟨p, ys, rfl, .inl ⟨hy, fun l hl => q l _ (KP.same_new hl) hl upd_same⟩⟩
/-- str(x) of an int or a truth: some text -/
def rStrX : List V → Hp → VK → Prop := fun xs H Q => ((∃ i, xs = [.int i] ∧ i.natAbs.log2 < 1920) ∨ ∃ b, xs = [.bl b]) ∧ ∀ z : Str, z.length ≤ sizeLine → Q (.str z) H
theorem call_strX : CallR X (.type "str") rStrX := by
  intro pins s σ H xs us Q I r h
  obtain ⟨⟨i, rfl, hz⟩ | ⟨b, rfl⟩, q⟩ := h
  · obtain ⟨u, rfl, t, rfl⟩ := vals1 r
    exact PySem.P.str_of_int hz ⟨.str _, H, I.tok _, ⟨_, rfl⟩, q _ (int_text_fits hz)⟩
  · obtain ⟨u, rfl, r1⟩ := vals1 r
    cases (show u = Value.bool b from r1)
    exact PySem.P.str_of_bool ⟨.str _, H, I.tok _, ⟨_, rfl⟩, q _ (by cases b <;> decide)⟩
end
end KD
namespace KD
open PySem PySem.Spec PyProof.Rows L2 PySem.SeqAt
/-- a thing that is no dict -/
inductive Ti (H : Hp) : V → Prop where
  | non : Ti H .non
  | bl (b : Bool) : Ti H (.bl b)
  | int (i : Int) : Ti H (.int i)
  | str (x : Str) (h : x.length ≤ sizeLine) : Ti H (.str x)
  | lst {a : Addr} {xs : List V} (h : H a = some (.lst xs)) : Ti H (.ref a)
  | tup {a : Addr} {xs : List V} (h : H a = some (.tup xs)) : Ti H (.ref a)
theorem Ti.th {H : Hp} {v : V} (t : Ti H v) : Th H v := by
  cases t with
  | non => exact .non
  | bl b => exact .bl b
  | int i => exact .int i
  | str x h => exact .str x h
  | lst h => exact .lst h
  | tup h => exact .tup h
theorem Ti.same {H H' : Hp} {v : V} (t : Ti H v) (s : Same H H') : Ti H' v := by
  cases t with
  | non => exact .non
  | bl b => exact .bl b
  | int i => exact .int i
  | str x h => exact .str x h
  | lst h => exact .lst (s _ _ h)
  | tup h => exact .tup (s _ _ h)
/-- x != a text -/
def rNeX : R2 := fun x y H Q => (∃ b, y = .str b) ∧ Ti H x ∧ Q (.bl (!decide (x = y))) H
theorem op_neX {X : Cx} (hu0 : X.A.units + 64 < cLine) : OpR X (compareOp .NotEq) rNeX := by
  have hu : X.A.units < cLine := by omega
  intro pins s σ H x y v u Q I rx ry h
  obtain ⟨⟨b, rfl⟩, t, q⟩ := h
  have rf : ∀ {a : Addr} {b : Str}, decide (V.ref a = V.str b) = false := fun {a b} => decide_eq_false (fun z => nomatch z)
  cases t with
  | non => exact op_ne pins s σ H _ _ v u Q I rx ry ⟨rfl, q⟩
  | bl b => exact op_ne pins s σ H _ _ v u Q I rx ry ⟨rfl, q⟩
  | int i => exact op_ne pins s σ H _ _ v u Q I rx ry ⟨rfl, q⟩
  | str z h => exact op_ne pins s σ H _ _ v u Q I rx ry ⟨rfl, q⟩
  | @lst a xs h =>
    obtain ⟨t, rfl⟩ := (show ∃ t, u = Value.str b t from ry)
    cases (show v = Value.ref a from rx)
    obtain ⟨_, _, n, _, h1⟩ := (show ObjOk X.prog X.w H s.heap a (.lst xs) from I.hok a _ h)
    rw [rf] at q
    exact RcNeAt.list_str (A := X.A) b t ⟨_, h1, rfl, n, rfl⟩ hu X.prog X.w _ _ ⟨.bl true, H, I, rfl, q⟩
  | @tup a xs h =>
    obtain ⟨t, rfl⟩ := (show ∃ t, u = Value.str b t from ry)
    cases (show v = Value.ref a from rx)
    obtain ⟨its, _, ht, _⟩ := I.tuple (SqT.of h)
    rw [rf] at q
    exact RcNeAt.tuple_str (A := X.A) b t ht hu X.prog X.w _ _ ⟨.bl true, H, I, rfl, q⟩
/-- x in, not in a list of texts -/
def rInX (K : PySem.W.Frag) (neg : Bool) : R2 := fun x y H Q => ∃ (p : Addr) (zs : List Str), y = .ref p ∧ H p = some (.lst (zs.map V.str)) ∧ Ti H x ∧ Q (.bl (if neg then !decide (x ∈ zs.map V.str) else decide (x ∈ zs.map V.str))) H
theorem inV_any {x : V} (f : flatV x = true) : ∀ {zs : List Str}, inV x (zs.map V.str) = decide (x ∈ zs.map V.str)
  | [] => rfl
  | z :: zs => by
    have ih := inV_any f (zs := zs)
    unfold inV at ih ⊢
    rw [List.map_cons, List.any_cons, ih]
    by_cases e : x = V.str z
    · subst e
      have : eqV (V.str z) (V.str z) = true := by simp [eqV]
      rw [this, Bool.true_or, decide_eq_true (by simp)]
    · have : eqV (V.str z) x = false := by
        cases x with
        | str y => simp [eqV]; exact fun q => e (by rw [q])
        | _ => rfl
      rw [this, Bool.false_or]
      by_cases m : x ∈ zs.map V.str
      · rw [decide_eq_true m, decide_eq_true (List.mem_cons_of_mem _ m)]
      · rw [decide_eq_false m, decide_eq_false (fun q => by rcases List.mem_cons.mp q with q | q; exact e q; exact m q)]
theorem ref_notin {a : Addr} {zs : List Str} : decide (V.ref a ∈ zs.map V.str) = false := decide_eq_false fun m => by
  obtain ⟨z, _, e⟩ := List.mem_map.mp m
  cases e
theorem in_no {X : Cx} {A : Around} (hu : A.units < cLine) {pins : List (Addr × Obj)} {s : Shared} {σ : L2.St} {H : Hp} {a : Addr} {zs : List Str} {its : List Value} (I : Inv X pins σ H s) (t : Ti H (.ref a)) (r : Vals (zs.map V.str) its) : ∀ w ∈ its.toArray, EqAt A s w (.ref a) false := by
  intro w hw
  have hw' : w ∈ its := by simpa using hw
  have key : ∀ {ys : List V} {us : List Value}, Vals ys us → (∀ y ∈ ys, ∃ z, y = V.str z) → ∀ w ∈ us, ∃ z tk, w = Value.str z tk := by
    intro ys us r
    induction r with
    | nil => intro _ w h; cases h
    | cons r1 rr ih =>
      intro hy w h
      rcases List.mem_cons.mp h with rfl | h
      · rename_i y0 ys0 us0
        obtain ⟨z, e0⟩ := hy y0 List.mem_cons_self
        subst e0
        obtain ⟨tk, e⟩ := r1
        exact ⟨z, tk, e⟩
      · exact ih (fun y h => hy y (List.mem_cons_of_mem _ h)) w h
  obtain ⟨z, tk, rfl⟩ := key r (fun y hy => by obtain ⟨z, _, rfl⟩ := List.mem_map.mp hy; exact ⟨z, rfl⟩) w hw'
  cases t with
  | @lst _ xs h =>
    obtain ⟨_, _, n, _, h1⟩ := (show ObjOk X.prog X.w H s.heap a (.lst xs) from I.hok a _ h)
    exact EqAt.str_list z tk ⟨_, h1, rfl, n, rfl⟩ hu
  | @tup _ xs h =>
    obtain ⟨its, _, ht, _⟩ := I.tuple (SqT.of h)
    exact EqAt.str_tuple z tk ht hu
theorem any_false {l : List Value} : l.toArray.any (fun _ => false) = false := by simp
theorem op_inX {X : Cx} (hu0 : X.A.units + 64 < cLine) : OpR X (compareOp .In) (rInX X.K false) := by
  intro pins s σ H x y v u Q I rx ry h
  obtain ⟨p, zs, rfl, hp, t, q⟩ := h
  have flat : flatV x = true → wpAny (model X.prog X.w) X.A (compareOp .In v u) (EP X pins σ Q) X.xe s := fun f => op_in_seq pins s σ H x (.ref p) v u Q I rx ry ⟨p, zs.map V.str, rfl, .inl (SqL.of hp), f, KP.flat_strs, by rw [inV_any f]; exact q⟩
  have ref : ∀ a, x = .ref a → wpAny (model X.prog X.w) X.A (compareOp .In v u) (EP X pins σ Q) X.xe s := fun a e => by
    subst e
    cases ry
    cases (show v = Value.ref a from rx)
    obtain ⟨its, r, pl, hz⟩ := I.list (SqL.of hp)
    rw [ref_notin] at q
    exact SeqAt.in_listAt (fun _ => false) pl.isList (in_no (show X.A.in1.units < cLine by have : X.A.in1.units ≤ X.A.units + 1 := Nat.le_refl _; omega) I t r) ⟨.bl _, H, I, rfl, by rw [any_false]; exact q⟩
  cases x with
  | ref a => exact ref a rfl
  | non => exact flat rfl
  | bl b => exact flat rfl
  | int i => exact flat rfl
  | str z => exact flat rfl
  | _ => cases t
theorem op_notInX {X : Cx} (hu0 : X.A.units + 64 < cLine) : OpR X (compareOp .NotIn) (rInX X.K true) := by
  intro pins s σ H x y v u Q I rx ry h
  obtain ⟨p, zs, rfl, hp, t, q⟩ := h
  have flat : flatV x = true → wpAny (model X.prog X.w) X.A (compareOp .NotIn v u) (EP X pins σ Q) X.xe s := fun f => op_notIn_seq pins s σ H x (.ref p) v u Q I rx ry ⟨p, zs.map V.str, rfl, .inl (SqL.of hp), f, KP.flat_strs, by rw [inV_any f]; exact q⟩
  have ref : ∀ a, x = .ref a → wpAny (model X.prog X.w) X.A (compareOp .NotIn v u) (EP X pins σ Q) X.xe s := fun a e => by
    subst e
    cases ry
    cases (show v = Value.ref a from rx)
    obtain ⟨its, r, pl, hz⟩ := I.list (SqL.of hp)
    rw [ref_notin] at q
    exact SeqAt.notIn_listAt (fun _ => false) pl.isList (in_no (show X.A.in1.units < cLine by have : X.A.in1.units ≤ X.A.units + 1 := Nat.le_refl _; omega) I t r) ⟨.bl _, H, I, rfl, by rw [any_false]; exact q⟩
  cases x with
  | ref a => exact ref a rfl
  | non => exact flat rfl
  | bl b => exact flat rfl
  | int i => exact flat rfl
  | str z => exact flat rfl
  | _ => cases t
end KD
namespace KP
open PySem L2 KD
def isBl : V → Bool
  | .bl _ => true | _ => false
def isIn : V → Bool
  | .int _ => true | _ => false
def isSt : V → Bool
  | .str _ => true | _ => false
def isTp (H : Hp) : V → Bool
  | .ref a => match H a with
    | some (.tup _) => true
    | _ => false
  | _ => false
section
variable {K : PySem.W.Frag} {H : Hp} {v : V}
theorem th_bool (t : Th H v) : ∃ u, TyX K H v u ∧ PySem.W.kitOne K u (.type "bool") = some (isBl v) := by
  cases t with
  | non => exact ⟨_, .base .non, by first | exact kit_ty (r := true) (by decide +kernel) | exact kit_ty (r := false) (by decide +kernel)⟩
  | bl b => exact ⟨_, .base (.bl b), by first | exact kit_ty (r := true) (by decide +kernel) | exact kit_ty (r := false) (by decide +kernel)⟩
  | int i => exact ⟨_, .base (.int i), by first | exact kit_ty (r := true) (by decide +kernel) | exact kit_ty (r := false) (by decide +kernel)⟩
  | str x h => exact ⟨_, .base (.str x), by first | exact kit_ty (r := true) (by decide +kernel) | exact kit_ty (r := false) (by decide +kernel)⟩
  | lst h => exact ⟨_, .base (.lst h), by first | exact kit_ty (r := true) (by decide +kernel) | exact kit_ty (r := false) (by decide +kernel)⟩
  | tup h => exact ⟨_, .base (.tup h), by first | exact kit_ty (r := true) (by decide +kernel) | exact kit_ty (r := false) (by decide +kernel)⟩
  | dct h => exact ⟨_, .base (.dK h), by first | exact kit_ty (r := true) (by decide +kernel) | exact kit_ty (r := false) (by decide +kernel)⟩
theorem th_int (t : Th H v) : ∃ u, TyX K H v u ∧ PySem.W.kitOne K u (.type "int") = some (isBl v || isIn v) := by
  cases t with
  | non => exact ⟨_, .base .non, by first | exact kit_ty (r := true) (by decide +kernel) | exact kit_ty (r := false) (by decide +kernel)⟩
  | bl b => exact ⟨_, .base (.bl b), by first | exact kit_ty (r := true) (by decide +kernel) | exact kit_ty (r := false) (by decide +kernel)⟩
  | int i => exact ⟨_, .base (.int i), by first | exact kit_ty (r := true) (by decide +kernel) | exact kit_ty (r := false) (by decide +kernel)⟩
  | str x h => exact ⟨_, .base (.str x), by first | exact kit_ty (r := true) (by decide +kernel) | exact kit_ty (r := false) (by decide +kernel)⟩
  | lst h => exact ⟨_, .base (.lst h), by first | exact kit_ty (r := true) (by decide +kernel) | exact kit_ty (r := false) (by decide +kernel)⟩
  | tup h => exact ⟨_, .base (.tup h), by first | exact kit_ty (r := true) (by decide +kernel) | exact kit_ty (r := false) (by decide +kernel)⟩
  | dct h => exact ⟨_, .base (.dK h), by first | exact kit_ty (r := true) (by decide +kernel) | exact kit_ty (r := false) (by decide +kernel)⟩
theorem th_str (t : Th H v) : ∃ u, TyX K H v u ∧ PySem.W.kitOne K u (.type "str") = some (isSt v) := by
  cases t with
  | non => exact ⟨_, .base .non, by first | exact kit_ty (r := true) (by decide +kernel) | exact kit_ty (r := false) (by decide +kernel)⟩
  | bl b => exact ⟨_, .base (.bl b), by first | exact kit_ty (r := true) (by decide +kernel) | exact kit_ty (r := false) (by decide +kernel)⟩
  | int i => exact ⟨_, .base (.int i), by first | exact kit_ty (r := true) (by decide +kernel) | exact kit_ty (r := false) (by decide +kernel)⟩
  | str x h => exact ⟨_, .base (.str x), by first | exact kit_ty (r := true) (by decide +kernel) | exact kit_ty (r := false) (by decide +kernel)⟩
  | lst h => exact ⟨_, .base (.lst h), by first | exact kit_ty (r := true) (by decide +kernel) | exact kit_ty (r := false) (by decide +kernel)⟩
  | tup h => exact ⟨_, .base (.tup h), by first | exact kit_ty (r := true) (by decide +kernel) | exact kit_ty (r := false) (by decide +kernel)⟩
  | dct h => exact ⟨_, .base (.dK h), by first | exact kit_ty (r := true) (by decide +kernel) | exact kit_ty (r := false) (by decide +kernel)⟩
theorem th_tup (t : Th H v) : ∃ u, TyX K H v u ∧ PySem.W.kitOne K u (.type "tuple") = some (isTp H v) := by
  cases t with
  | non => exact ⟨_, .base .non, by first | exact kit_ty (r := true) (by decide +kernel) | exact kit_ty (r := false) (by decide +kernel)⟩
  | bl b => exact ⟨_, .base (.bl b), by first | exact kit_ty (r := true) (by decide +kernel) | exact kit_ty (r := false) (by decide +kernel)⟩
  | int i => exact ⟨_, .base (.int i), by first | exact kit_ty (r := true) (by decide +kernel) | exact kit_ty (r := false) (by decide +kernel)⟩
  | str x h => exact ⟨_, .base (.str x), by first | exact kit_ty (r := true) (by decide +kernel) | exact kit_ty (r := false) (by decide +kernel)⟩
  | lst h => exact ⟨_, .base (.lst h), by simp only [isTp, h]; first | exact kit_ty (r := true) (by decide +kernel) | exact kit_ty (r := false) (by decide +kernel)⟩
  | tup h => exact ⟨_, .base (.tup h), by simp only [isTp, h]; first | exact kit_ty (r := true) (by decide +kernel) | exact kit_ty (r := false) (by decide +kernel)⟩
  | dct h => exact ⟨_, .base (.dK h), by simp only [isTp, h]; first | exact kit_ty (r := true) (by decide +kernel) | exact kit_ty (r := false) (by decide +kernel)⟩
end
def wholeV (lo hi : Int) : V → Bool
  | .int v => decide (lo ≤ v ∧ v ≤ hi) | _ => false
def wordV : V → Bool
  | .str x => wordB x | _ => false
def spWholeV : Sp := fun vs H Q _ => ∃ (v : V) (lo hi : Int), vs = [v, .int lo, .int hi] ∧ Th H v ∧ Q (.bl (wholeV lo hi v)) H
def spWordV : Sp := fun vs H Q _ => ∃ v : V, vs = [v] ∧ Th H v ∧ ∀ H', Same H H' → Q (.bl (wordV v)) H'
section
variable {P : Program} {w : World} {K : PySem.W.Frag} {mg : Str → Option Value} {base : Heap}
theorem c_wholeV (B : Base K mg) (D : DefT K mg "is_whole" sWhole ["value", "least", "most"]) : Cal P w K mg base 1 "is_whole" spWholeV := by
  refine cal D scWhole (fun vs H Q E h => ?_) (fun f cdv A outer s H vs Q E hr h => ?_)
  · obtain ⟨v, lo, hi, rfl, _⟩ := h
    rfl
  · obtain ⟨v, lo, hi, rfl, t, k⟩ := h
    refine ⟨_, pss_cons (ps_if (PW.pt (pw_or (pt_val (pe_callB call_isi (by rfl) B.isi (by decide +kernel) (pa_cons (pv 0) (pa_cons (pe_bltn (v := .ty "bool") (by rfl) B.bool (by decide +kernel) rfl) pa_nil))))
        (pw_or1 (pt_not (pt_val (pe_callB call_isi (by rfl) B.isi (by decide +kernel) (pa_cons (pv 0) (pa_cons (pe_bltn (v := .ty "int") (by rfl) B.int (by decide +kernel) rfl) pa_nil)))))))) (pss_one (ps_ret pe_bl)) pss_nil)
      (pss_one (ps_ret (pe_chain op_le op_le (pv 1) (pv 0) (pv 2)))), ?_⟩
    obtain ⟨u, tu, ku⟩ := th_bool (K := K) t
    obtain ⟨u2, tu2, ku2⟩ := th_int (K := K) t
    refine ⟨_, rfl, _, _, _, _, _, rfl, .ty _, tu, ku, _, rfl, ?_⟩
    cases hb : isBl v with
    | true =>
      refine iteT ?_
      have e : wholeV lo hi v = false := by cases v <;> first | rfl | exact absurd hb (by simp [isBl])
      rw [e] at k
      exact k
    | false =>
      refine iteF ⟨_, rfl, _, _, _, _, _, rfl, .ty _, tu2, ku2, _, rfl, ?_⟩
      rw [hb, Bool.false_or]
      cases hi2 : isIn v with
      | false =>
        refine iteT ?_
        have e : wholeV lo hi v = false := by cases v <;> first | rfl | exact absurd hi2 (by simp [isIn])
        rw [e] at k
        exact k
      | true =>
        obtain ⟨i, rfl⟩ : ∃ i, v = .int i := by cases v <;> first | exact ⟨_, rfl⟩ | exact absurd hi2 (by simp [isIn])
        refine iteF ⟨_, rfl, _, rfl, _, _, rfl, rfl, _, rfl, ?_⟩
        have k' : Q (.bl (decide (lo ≤ i ∧ i ≤ hi))) H := k
        by_cases h1 : lo ≤ i
        · rw [if_pos (decide_eq_true h1)]
          refine ⟨_, rfl, _, _, rfl, rfl, ?_⟩
          by_cases h2 : i ≤ hi
          · show Q (.bl (decide (i ≤ hi))) H
            rw [decide_eq_true h2]
            rw [decide_eq_true ⟨h1, h2⟩] at k'
            exact k'
          · show Q (.bl (decide (i ≤ hi))) H
            rw [decide_eq_false h2]
            rw [decide_eq_false fun z => h2 z.2] at k'
            exact k'
        · rw [if_neg (by rw [decide_eq_false h1]; exact Bool.false_ne_true)]
          rw [decide_eq_false fun z => h1 z.1] at k'
          exact k'
theorem all_map_id {bs : List Bool} : bs.all id = bs.all fun b => b := rfl
theorem c_wordV (B : Base K mg) (D : DefT K mg "is_word" sWord ["value"]) : Cal P w K mg base 1 "is_word" spWordV := by
  obtain ⟨tL, hL⟩ := B.letters
  obtain ⟨tM, hM⟩ := B.mostL
  refine cal D scWord (fun vs H Q E h => ?_) (fun f cdv A outer s H vs Q E hr h => ?_)
  · obtain ⟨x, rfl, _⟩ := h
    rfl
  · obtain ⟨v, rfl, t, k⟩ := h
    refine ⟨_, pss_cons (ps_if (PW.pt (pw_or (pt_not (pt_val (pe_callB call_isi (by rfl) B.isi (by decide +kernel) (pa_cons (pv 0) (pa_cons (pe_bltn (v := .ty "str") (by rfl) B.str (by decide +kernel) rfl) pa_nil)))))
        (pw_or1 (pt_not (pt_chain op_le op_le pe_int (pe_callB call_len_str (by rfl) B.len (by decide +kernel) (pa_cons (pv 0) pa_nil)) (pe_glob (v := .int 8) rfl hM ⟨_, rfl⟩)))))) (pss_one (ps_ret pe_bl)) pss_nil)
      (pss_one (ps_ret (pe_callB (cr_all rfl) (by rfl) B.all (by decide +kernel) (pa_cons (pe_lc (own := [("sign", 1)]) (g := gName 1) (tt := tYes) rfl scWord.nd (pi_str (pv 0)) (blkOk_by (N := ["value", "sign"]) (sc := defScope sWord) (by decide +kernel))
        (fun _ _ _ _ _ => pg_name (i := 1) scWord.nd rfl (Or.inl rfl)) (fun _ _ _ _ _ => pts_nil) (fun _ _ _ _ _ => pe_cmpR op_in_sign (pv 1) (pe_glob (v := .str letters) rfl hL ⟨_, rfl⟩) rfl)) pa_nil)))), ?_⟩
    obtain ⟨u, tu, ku⟩ := th_str (K := K) t
    refine ⟨_, rfl, _, _, _, _, _, rfl, .ty _, tu, ku, _, rfl, ?_⟩
    cases hb : isSt v with
    | false =>
      refine iteT ?_
      have e : wordV v = false := by cases v <;> first | rfl | exact absurd hb (by simp [isSt])
      have k' := k H (Same.refl _)
      rw [e] at k'
      exact k'
    | true =>
      obtain ⟨x, rfl⟩ : ∃ x, v = .str x := by cases v <;> first | exact ⟨_, rfl⟩ | exact absurd hb (by simp [isSt])
      have hs : x.length ≤ sizeLine := by cases t with | str _ h => exact h
      refine iteF ?_
      refine ⟨_, rfl, _, rfl, hs, _, _, rfl, rfl, _, rfl, ?_⟩
      have kF : wordB x = false → Q (.bl false) H := fun e => by
        have k' := k H (Same.refl _)
        rw [show wordV (.str x) = false from e] at k'
        exact k'
      by_cases h1 : 1 ≤ x.length
      · rw [if_pos (decide_eq_true (show (1 : Int) ≤ ((x.length : Nat) : Int) by omega))]
        refine ⟨_, _, rfl, rfl, _, rfl, ?_⟩
        by_cases h8 : x.length ≤ 8
        · have e8 : decide (((x.length : Nat) : Int) ≤ 8) = true := decide_eq_true (by omega)
          rw [e8]
          refine iteF ?_
          refine ⟨_, rfl, x, rfl, fun D hD => lc_it walk_str (fun i H' => H' = upd H D (.lst (((x.cps.toList.take i).map fun c => decide (c ∈ letters.cps.toList)).map V.bl))) rfl (fun _ _ _ _ => trivial) ?_ ?_⟩
          · rintro i v H1 H2 hi rfl ⟨rfl, c, hc, rfl⟩
            refine ⟨rfl, yes (iteT ⟨_, rfl, c, letters, rfl, rfl, _, upd_same, ?_, ?_⟩)⟩
            · have : x.cps.size ≤ 8 := h8
              have e : sizeLine = 16777216 := by decide
              have : ((x.cps.toList.take i).map fun c => decide (c ∈ letters.cps.toList)).length ≤ 8 := by
                rw [List.length_map, List.length_take, Array.length_toList]
                omega
              rw [List.length_map]
              omega
            · have hc' : x.cps.toList[i]? = some c := by simpa using hc
              rw [upd_upd, take_more hc', List.map_append, List.map_append]
              rfl
          · rintro H1 rfl
            refine ⟨D, (x.cps.toList.take x.cps.size).map fun c => decide (c ∈ letters.cps.toList), rfl, SqL.of upd_same, ?_⟩
            have k' := k _ (same_new (o := .lst (((x.cps.toList.take x.cps.size).map fun c => decide (c ∈ letters.cps.toList)).map V.bl)) hD)
            have e : wordV (.str x) = ((x.cps.toList.take x.cps.size).map fun c => decide (c ∈ letters.cps.toList)).all id := by
              show wordB x = _
              unfold wordB
              rw [decide_eq_true h1, decide_eq_true h8, Bool.and_true, Bool.and_true, List.take_of_length_le (by simp), List.all_map]
              rfl
            rw [e] at k'
            exact k'
        · have e8 : decide (((x.length : Nat) : Int) ≤ 8) = false := decide_eq_false (by omega)
          rw [e8]
          exact iteT (kF (by unfold wordB; rw [decide_eq_false h8, Bool.and_false]))
      · rw [if_neg (by rw [decide_eq_false (show ¬ (1 : Int) ≤ ((x.length : Nat) : Int) by omega)]; exact Bool.false_ne_true)]
        refine ⟨_, rfl, ?_⟩
        refine iteT ?_
        exact kF (by unfold wordB; rw [decide_eq_false h1, Bool.and_false, Bool.false_and])
end
/-! ### what is refused with NoYear -/
structure ErrF (K : PySem.W.Frag) (mg : Str → Option Value) (x : Str) (Cn : Addr) : Prop where
  g : mg x = some (.ref Cn)
  x : PySem.W.excIn K Cn [.type "ValueError", .type "Exception", .type "BaseException", .type "object"] "ValueError.__new__" = true
  k : PySem.W.keepIn K (.ref Cn) = true
  b : PySem.W.subIn K (.ref Cn) (.type "BaseException") = some true
  t : PySem.W.typeIn K (.ref Cn) = some (.type "type")
/-- a def that may raise -/
structure CalX (P : Program) (w : World) (K : PySem.W.Frag) (mg : Str → Option Value) (base : Heap) (k : Nat) (x : Str) (sp : Sp) : Prop where
  ex : ∃ f fd ps, FnOk P w K mg base (L2.CX P w) k f fd ps sp ∧ mg x = some (.ref f) ∧ PySem.W.keepIn K (.ref f) = true ∧ Binds K fd ps []
/-- a class whose making may raise -/
structure MakX (P : Program) (w : World) (K : PySem.W.Frag) (mg : Str → Option Value) (base : Heap) (k : Nat) (x : Str) (C : Addr) (sp : Sp) : Prop where
  ex : ∃ f fd ps, Mk K C f ∧ FnOk P w K mg base (L2.CX P w) k f fd ps sp ∧ mg x = some (.ref C) ∧ Binds K fd ps []
section
variable {X : Cx} {k j : Nat} {x : Str} {C : Addr} {sp : Sp} {p pos : Pos} {e : Expr} {es : List Expr} {t : TA} {E : L2.St → XK} {E1 : XK}
theorem pe_clX (c : CalX X.prog X.w X.K X.mg X.base k x sp) (hr : Room j X.A) (hk : k ≤ j) (hx : ∀ σ, PassesAt (L2.CX X.prog X.w) X σ (E σ)) (hg : Gl X x) (ha : PA X (e :: es) t)
    (hdb : (x == ("__debug__" : Str)) = false := by decide) (he : starEach (e :: es) X.env = (false, eval e X.env) :: starEach es X.env := by rfl) (hpl : (backTo pos (starEach es X.env)).any (·.1) = false := by rfl) :
    PE X (.Call (.Name x p) (e :: es) [] pos) (tCallS sp E t) := by
  obtain ⟨f, fd, ps, F, m, kp, b⟩ := c.ex
  exact pe_callS F (hr.mono hk) hg m kp b hx ha hdb he hpl
theorem pe_mkX (c : MakX X.prog X.w X.K X.mg X.base k x C sp) (hr : Room j X.A) (hk : k + 1 ≤ j) (hx : Passes (L2.CX X.prog X.w) X E1) (hg : Gl X x) (ha : PA X (e :: es) t)
    (hdb : (x == ("__debug__" : Str)) = false := by decide) (he : starEach (e :: es) X.env = (false, eval e X.env) :: starEach es X.env := by rfl) (hpl : (backTo pos (starEach es X.env)).any (·.1) = false := by rfl) :
    PE X (.Call (.Name x p) (e :: es) [] pos) (tMake C sp [] E1 t) := by
  obtain ⟨f, fd, ps, M, F, m, b⟩ := c.ex
  exact pe_make M F (hr.mono hk) hg m b .nil hx ha hdb he hpl
end
end KP
/-! the statement match over a tuple: cases whose first part is a written text and whose other parts are names -/
namespace KM
open PySem PySem.Spec PyProof.Rows L2
/-- the patterns ps, each a bare name of ns in turn -/
structure Caps (env : Env) (ps : List Pattern) (ns : List Str) : Prop where
  run : ∀ {M : Model} {A : Around} {E : Value → Shared → Prop} (us : List Value) (s : Shared) (Q : Option (List (Str × Value)) → Shared → Prop), us.length = ns.length → Q (some (ns.zip us)) s → wpAny M A (matchEach ps env us) Q E s
theorem caps_nil {env : Env} : Caps env [] [] := ⟨fun us s Q hl h => by
  cases us with
  | nil => exact wpAny_matchEach_nil h
  | cons u r => exact absurd hl (by simp)⟩
theorem caps_cons {env : Env} {n : Str} {pos : Pos} {ps : List Pattern} {ns : List Str} (c : Caps env ps ns) : Caps env (.MatchAs none (some n) pos :: ps) (n :: ns) := ⟨fun us s Q hl h => by
  cases us with
  | nil => exact absurd hl (by simp)
  | cons u r =>
    refine wpAny_matchEach_cons (wpAny_matchPattern_Capture ?_)
    refine c.run r s _ (by simpa using hl) ?_
    exact h⟩
/-- the slots js take the values vs in turn -/
def setAll : L2.St → List Nat → List V → L2.St
  | σ, j :: js, v :: vs => setAll (σ.set j (some v)) js vs
  | σ, _, _ => σ
structure Stor (X : Cx) (ns : List Str) (js : List Nat) : Prop where
  run : ∀ {M : Model} {A : Around} {E : Value → Shared → Prop} (pins : List (Addr × Obj)) (s : Shared) (σ : L2.St) (H : Hp) (vs : List V) (us : List Value) (Q : Unit → Shared → Prop), Inv X pins σ H s → Vals vs us → us.length = ns.length →
    (∀ s', Inv X pins (setAll σ js vs) H s' → Q () s') → wpAny M A (assignInOrder ((ns.zip us).map fun (n, _) => bindName X.env n) ((ns.zip us).map (·.2))) Q E s
theorem stores_nil {X : Cx} : Stor X [] [] := ⟨fun pins s σ H vs us Q I r hl h => by
  cases r with
  | nil => exact wpAny_assignInOrder_none (h s I)
  | cons r t => exact absurd hl (by simp)⟩
theorem stores_cons {X : Cx} {i : Nat} {x : Str} {ns : List Str} {js : List Nat} (hN : X.N.Nodup) (c : Stor X ns js) (hi : X.N[i]? = some x) (hx : Loc X.env.scope x)
    (hf : X.fn x = true ∨ X.env.scope.names.lookup x = some .local := by first | exact .inl rfl | exact .inr rfl | assumption) : Stor X (x :: ns) (i :: js) := ⟨fun pins s σ H vs us Q I r hl h => by
  cases r with
  | nil => exact absurd hl (by simp)
  | cons r t =>
    refine wpAny_assignInOrder_more (wpAny_bindName (store_ok I hN hi hx r (fun s' I' => ?_) hf))
    exact c.run pins s' _ H _ _ Q I' t (by simpa using hl) h⟩
/-- the cases, of a subject's value -/
structure PM (X : Cx) (cs : List MatchCase) (t : V → TS) : Prop where
  run : ∀ (first : Bool) (pins : List (Addr × Obj)) (s : Shared) (σ : L2.St) (H : Hp) (D : Ends) (v : V) (u : Value), Inv X pins σ H s → RelV v u → t v D σ H → wpAny (model X.prog X.w) X.A (matchCases cs X.env u first) (SP X pins D) X.xe s
def mNil : V → TS := fun _ D σ H => D.nx σ H
theorem pm_nil {X : Cx} : PM X [] mNil := ⟨fun _ _ s σ H _ _ _ I _ h => wpAny_matchCases_nil ⟨σ, H, I, h⟩⟩
/-- case ("k", a, b, ..): n names, r the rule of == -/
def mCase (K : PySem.W.Frag) (r : R2) (k : Str) (n : Nat) (js : List Nat) (tb : TS) (rest : V → TS) : V → TS := fun v D σ H => ∃ a xs, v = .ref a ∧ SqT K H a xs ∧
  ((xs.length ≠ n + 1 ∧ rest v D σ H) ∨ (xs.length = n + 1 ∧ ∃ y ys, xs = y :: ys ∧ r y (.str k) H fun z H1 => ∃ b, z = .bl b ∧ if b = true then tb D (setAll σ js ys) H1 else rest v D σ H1))
theorem pm_case {X : Cx} {r : R2} {k : Str} {j : Nat} {p1 p2 p3 : Pos} {ps : List Pattern} {ns : List Str} {js : List Nat} {n : Nat} {body : List Stmt} {cs : List MatchCase} {tb : TS} {rest : V → TS}
    (hc : X.calm = true) (ho : OpR X (compareOp .Eq) r) (hp : Caps X.env ps ns) (hs : Stor X ns js) (hb : PSs X body tb) (hr : PM X cs rest) (hn : ns.length = n := by rfl) (hpn : ps.length = n := by rfl)
    (hstar : (Pattern.MatchValue (.Constant (.str k) j p1) p2 :: ps).findIdx? (·.isStar) = none := by rfl)
    (hwild : ((Pattern.MatchValue (.Constant (.str k) j p1) p2 :: ps).all fun p => p.isWildcard || (p.isStar && p.names.isEmpty)) = false := by rfl) :
    PM X (⟨.MatchSequence (.MatchValue (.Constant (.str k) j p1) p2 :: ps) p3, none, body⟩ :: cs) (mCase X.K r k n js tb rest) := by
  refine ⟨fun first pins s σ H D v u I rv h => ?_⟩
  obtain ⟨a, xs, rfl, hq, h⟩ := h
  cases rv
  obtain ⟨its, rx, ht, hz⟩ := I.tuple hq
  have hsz : its.toArray.size = xs.length := by simp [rx.length]
  have hfit : ((its.toArray.size : Nat) : Int) < 2 ^ 63 := by
    have : xs.length ≤ sizeLine := hz
    have e : sizeLine = 16777216 := by decide
    omega
  refine wpAny_matchCases_cons ?_
  rcases h with ⟨hne, h⟩ | ⟨hlen, y, ys, rfl, h⟩
  · refine matchSeq_tuple_miss ht hfit (by rw [hsz, List.length_cons, hpn]; exact hne) ?_ hstar hwild
    exact hr.run false pins _ σ H D (.ref a) (.ref a) (I.tok _) rfl h
  · refine matchSeq_tuple_hit ht hfit (by rw [hsz, hlen]; show n + 1 = ps.length + 1; rw [hpn]) ?_ hstar hwild
    have I1 : Inv X pins σ H { s with toks := s.toks + 1 + 1 } := I.tok _
    have hl2 : (Pattern.MatchValue (.Constant (.str k) j p1) p2 :: ps).length = its.toArray.size := by rw [hsz, hlen]; show ps.length + 1 = n + 1; rw [hpn]
    rw [hl2]
    refine unpackItems_tuple (I.ok.hd hc) (show IsTup ({ s with toks := s.toks + 1 + 1 } : Shared).heap a its.toArray from ht) fun h' hx' => ?_
    have I2 := I1.kept (h' := h') (t' := s.toks + 1 + 1) fun b o e => hx' b o (Nat.ne_of_lt (Heap.lt_size e)) e
    cases rx with
    | @cons _ u0 _ us r0 rr =>
    show wpAny _ _ (matchEach _ _ (u0 :: us)) _ _ _
    refine wpAny_matchEach_cons (wpAny_matchPattern_Value (Calls.Constant_str ?_))
    have I3 := I2.tok (s.toks + 1 + 1 + 1)
    refine thn (ho pins _ σ H y (.str k) u0 _ _ I3 r0 ⟨_, rfl⟩ h) fun c s3 ⟨z, H1, I4, rz, q⟩ => ?_
    obtain ⟨b, rfl, q⟩ := q
    cases rz
    refine wpAny_truthy_bool ?_
    cases b with
    | false =>
      rw [if_neg Bool.false_ne_true]
      exact hr.run false pins _ σ H1 D (.ref a) (.ref a) I4 rfl q
    | true =>
      rw [if_pos rfl]
      have hul : us.length = ns.length := by
        have h1 := rr.length
        have h2 : ys.length = n := by simpa using hlen
        omega
      refine hp.run us _ _ hul ?_
      refine hs.run pins _ σ H1 ys us _ I4 rr hul fun s5 I5 => ?_
      exact hb.run pins s5 _ H1 D I5 q
def tMatch (te : TE) (t : V → TS) : TS := fun D σ H => te σ H fun v H1 => t v D σ H1
theorem ps_match {X : Cx} {e : Expr} {cs : List MatchCase} {pos : Pos} {te : TE} {t : V → TS} (he : PE X e te) (hm : PM X cs t) : PS X (.Match e cs pos) (tMatch te t) := by
  refine ⟨fun pins s σ H D I h => ?_⟩
  refine wpAny_Match (thn (he.run pins s σ H _ I h) fun v s1 ⟨x, H1, I1, r1, q1⟩ => ?_)
  exact hm.run true pins s1 σ H1 D x v I1 r1 q1
end KM
/-! unpacking with a star; match over a list -/
namespace KT
open PySem PySem.Spec PyProof.Rows L2 KM
section
variable {X : Cx} {pins : List (Addr × Obj)} {σ : L2.St} {H : Hp} {s : Shared}
theorem vals_take : ∀ {xs : List V} {us : List Value} (n : Nat), Vals xs us → Vals (xs.take n) (us.take n)
  | _, _, 0, _ => .nil
  | _, _, n + 1, .nil => .nil
  | _, _, n + 1, .cons a r => .cons a (vals_take n r)
theorem vals_drop : ∀ {xs : List V} {us : List Value} (n : Nat), Vals xs us → Vals (xs.drop n) (us.drop n)
  | _, _, 0, r => r
  | _, _, n + 1, .nil => .nil
  | _, _, n + 1, .cons a r => vals_drop n r
theorem vals_app : ∀ {xs ys : List V} {us ws : List Value}, Vals xs us → Vals ys ws → Vals (xs ++ ys) (us ++ ws)
  | _, _, _, _, .nil, r => r
  | _, _, _, _, .cons a q, r => .cons a (vals_app q r)
/-- a list taken apart around a star -/
theorem unpackStar {a : Addr} {xs : List V} {n i : Nat} {R : List Value → Shared → Prop} (hc : X.calm = true) (I : Inv X pins σ H s) (hq : SqL X.K H a xs) (hi : i < n) (hn : n ≤ xs.length + 1)
    (h : ∀ D us s', H D = none → Inv X pins σ (upd H D (.lst ((xs.drop i).take (xs.length + 1 - n)))) s' → Vals (xs.take i ++ [.ref D] ++ (xs.drop i).drop (xs.length + 1 - n)) us → R us s') :
    wpAny (model X.prog X.w) X.A (unpackItems (.ref a) n (some i)) R X.xe s := by
  obtain ⟨its, rv, pl, hz⟩ := I.list hq
  have hl : s.heap.IsList a its.toArray := by
    obtain ⟨o, m, e, c, d, q⟩ := pl
    exact ⟨o, e, c, m, q⟩
  have hlen : xs.length = its.length := rv.length
  have hh := I.ok.hd hc
  have hsz : its.toArray.size = its.length := by simp
  have hlt : a ≠ s.heap.objs.size := by obtain ⟨o, ho, _⟩ := hl; exact Nat.ne_of_lt (Heap.lt_size ho)
  unfold unpackItems
  refine wpAny_bind ?_
  unfold notIterableAtAll
  refine wpAny_bind (wpAny_specialOf hl.typeIs slot_list_iter.lookup ?_)
  refine wpAny_pure ?_
  simp only [Bool.false_eq_true, if_false]
  refine wpAny_bind (wpAny_holding (wpAny_pyIter_list hl ?_))
  refine wpAny_bind (wpAny_holding (PySem.W.kun_draw hlt i 0 _ _ ⟨_, Heap.get?_push_size _ rfl, rfl, rfl⟩ (hl.push _) (by omega) fun h₁ hit₁ hs₁ => ?_))
  have hl₁ : h₁.IsList a its.toArray := (hl.push _).extBut hs₁.extBut hlt
  rw [Nat.zero_add] at hit₁
  have hit₁' := hit₁
  obtain ⟨oi, hoi, _⟩ := hit₁'
  have hl₁' := hl₁
  obtain ⟨ol, hol, _⟩ := hl₁'
  rw [List.drop_zero]
  have hfl : (its.take i).length = i := by rw [List.length_take]; omega
  show wpAny _ _ (if (its.take i).length < i then _ else _) _ _ _
  rw [if_neg (by rw [hfl]; omega)]
  refine wpAny_bind (wpAny_holding (PySem.W.kun_collect (s := { s with heap := h₁ }) (T := "list_iterator") (.inr (.inr (.inl rfl))) (Walks.list (A := X.A.in1) hh s.heap.objs.size a hlt its.toArray) (fun j u st => st.1.typeIs) (k := i) (by omega) ⟨hit₁, hl₁⟩ (Heap.lt_size hoi) (Heap.lt_size hol) (fun h₂ tk hk => ?_) (by omega)))
  have hrl : (its.drop i).length = its.length - i := List.length_drop ..
  have hmid : (its.drop i).length - (n - 1 - i) = its.length + 1 - n := by rw [hrl]; omega
  show wpAny _ _ (if (its.drop i).length < n - 1 - i then _ else _) _ _ _
  rw [if_neg (by rw [hrl]; omega)]
  show wpAny _ _ (newList ((its.drop i).take ((its.drop i).length - (n - 1 - i))) >>= fun d => pure (its.take i ++ [d] ++ (its.drop i).drop ((its.drop i).length - (n - 1 - i)))) _ _ _
  rw [hmid]
  have he : ∀ b o, s.heap.get? b = some o → h₂.get? b = some o := fun b o e => hk b o (Nat.ne_of_lt (Heap.lt_size e)) (hs₁.extBut b o (Nat.ne_of_lt (Heap.lt_size e)) (Heap.get?_push_of_some _ e))
  have I2 : Inv X pins σ H { s with heap := h₂, toks := tk } := I.kept he
  have hf : H h₂.objs.size = none := I2.hok.fresh (Nat.le_refl _)
  have hlm : ((its.drop i).take (its.length + 1 - n)).length ≤ sizeLine := by
    rw [List.length_take, hrl]
    omega
  refine wpAny_bind (wpAny_newList (s := { s with heap := h₂, toks := tk }) (wpAny_pure ?_) hlm)
  refine h h₂.objs.size _ _ hf (I2.laid (t' := tk) (fun b u e => Heap.get?_push_of_some _ e) (Nat.le_refl _) ?_) ?_
  · refine ⟨?_, _, 0, ?_, Heap.get?_push_size _ rfl⟩
    · rw [List.length_take, List.length_drop]
      omega
    · rw [hlen]
      exact vals_take _ (vals_drop _ rv)
  · rw [hlen]
    exact vals_app (vals_app (vals_take _ rv) (.cons rfl .nil)) (vals_drop _ (vals_drop _ rv))
end
section
variable {X : Cx} {pos : Pos}
/-- (.., *a, ..) = a list: n targets, the star's at i -/
def gStar (K : PySem.W.Frag) (n i : Nat) (t : TGs) : TG := fun v σ H Q => ∃ a xs, v = .ref a ∧ SqL K H a xs ∧ n ≤ xs.length + 1 ∧ ∀ D, H D = none → t (xs.take i ++ [.ref D] ++ (xs.drop i).drop (xs.length + 1 - n)) σ (upd H D (.lst ((xs.drop i).take (xs.length + 1 - n)))) Q
theorem pg_star {es : List Expr} {k : Nat} {t : TGs} {n i : Nat} (hc : X.calm = true) (h : PGs X es t)
    (hn : (assignEach es X.env).length = n := by rfl) (hst : (assignEach es X.env).findIdx? (·.1) = some i := by rfl) (hi : i < n := by decide) : PG X (.Tuple es k pos) (gStar X.K n i t) := by
  refine ⟨fun pins s σ H v u Q I r hw => ?_⟩
  obtain ⟨a, xs, e1, hq, hl, hw⟩ := hw
  subst e1
  cases r
  rw [PyProof.Rows.assign_Tuple]
  refine wpAny_bind (wpAny_standAt ?_)
  unfold unpack
  rw [hn, hst]
  refine wpAny_bind (wpAny_holding (unpackStar hc I hq hi hl fun D us s' hD I' r' => ?_))
  exact h.run pins _ σ _ _ _ Q I' r' (hw D hD)
/-- a starred target among others -/
theorem pgs_star {e : Expr} {p : Pos} {es : List Expr} {t : TG} {u : TGs} (h1 : PG X e t) (h2 : PGs X es u) : PGs X (.Starred e p :: es) (gCons t u) := by
  refine ⟨fun pins s σ H vs us Q I r h => ?_⟩
  obtain ⟨v, vr, e1, h⟩ := h
  subst e1
  cases r with
  | cons r rr =>
    show wpAny _ _ (assignInOrder (assign e X.env :: (assignEach es X.env).map (·.2)) _) _ _ _
    refine assignInOrder_cons (thn (h1.run pins s σ H _ _ _ I r h) fun _ s1 ⟨σ1, H1, I1, q1⟩ => ?_)
    exact h2.run pins s1 σ1 H1 _ _ Q I1 rr q1
end
/-! ### match over a list of texts -/
/-- the patterns ps over as many values: whether they hit, what the names ns get -/
structure PEach (X : Cx) (ps : List Pattern) (ns : List Str) (ok : List V → Prop) (hit : List V → Bool) (get : List V → List V) : Prop where
  len : ∀ vs, vs.length = ps.length → (get vs).length = ns.length
  run : ∀ (pins : List (Addr × Obj)) (s : Shared) (σ : L2.St) (H : Hp) (vs : List V) (us : List Value) (R : Option (List (Str × Value)) → Shared → Prop), Inv X pins σ H s → Vals vs us → vs.length = ps.length → ok vs →
    (hit vs = true → ∀ s' ws, Inv X pins σ H s' → Vals (get vs) ws → R (some (ns.zip ws)) s') → (hit vs = false → ∀ s', Inv X pins σ H s' → R none s') → wpAny (model X.prog X.w) X.A (matchEach ps X.env us) R X.xe s
section
variable {X : Cx}
theorem each_nil : PEach X [] [] (fun _ => True) (fun _ => true) (fun _ => []) := ⟨fun _ _ => rfl, fun pins s σ H vs us R I r hl _ h1 _ => by
  cases r with
  | nil => exact wpAny_matchEach_nil (h1 rfl s [] I .nil)
  | cons a q => exact absurd hl (by simp)⟩
def okLit (ok : List V → Prop) : List V → Prop
  | v :: vs => (∃ x, v = .str x) ∧ ok vs
  | [] => True
def hitLit (k : Str) (hit : List V → Bool) : List V → Bool
  | v :: vs => decide (v = .str k) && hit vs
  | [] => true
def tlF (g : List V → List V) : List V → List V
  | _ :: vs => g vs
  | [] => []
def hitCap (hit : List V → Bool) : List V → Bool
  | _ :: vs => hit vs
  | [] => true
def okCap (ok : List V → Prop) : List V → Prop
  | _ :: vs => ok vs
  | [] => True
def getCap (g : List V → List V) : List V → List V
  | v :: vs => v :: g vs
  | [] => []
theorem each_lit {k : Str} {j : Nat} {p1 p2 : Pos} {ps : List Pattern} {ns : List Str} {ok : List V → Prop} {hit : List V → Bool} {get : List V → List V} (c : PEach X ps ns ok hit get) :
    PEach X (.MatchValue (.Constant (.str k) j p1) p2 :: ps) ns (okLit ok) (hitLit k hit) (tlF get) := ⟨fun vs hl => by
  cases vs with
  | nil => exact absurd hl (by simp)
  | cons v vs => exact c.len vs (by simpa using hl), fun pins s σ H vs us R I r hl ho h1 h0 => by
  cases r with
  | nil => exact absurd hl (by simp)
  | @cons v u vs us rv rr =>
    obtain ⟨⟨x, rfl⟩, ho⟩ := ho
    refine wpAny_matchEach_cons (wpAny_matchPattern_Value (Calls.Constant_str ?_))
    refine thn (op_eq pins _ σ H (.str x) (.str k) u _ (fun z H1 => z = .bl (decide (V.str x = V.str k)) ∧ H1 = H) (I.tok _) rv ⟨_, rfl⟩ ⟨rfl, rfl, rfl⟩) fun c' s3 ⟨z, H1, I4, rz, e1, e2⟩ => ?_
    subst e1 e2
    cases rz
    refine wpAny_truthy_bool ?_
    by_cases e : V.str x = V.str k
    · rw [decide_eq_true e, if_pos rfl]
      have eh : hitLit k hit (.str x :: vs) = hit vs := by show (decide (V.str x = V.str k) && hit vs) = _; rw [decide_eq_true e, Bool.true_and]
      rw [eh] at h1 h0
      refine c.run pins s3 σ H1 vs us _ I4 rr (by simpa using hl) ho (fun hh s' ws I' r' => ?_) (fun hh s' I' => ?_)
      · exact h1 hh s' ws I' r'
      · exact h0 hh s' I'
    · rw [decide_eq_false e, if_neg Bool.false_ne_true]
      exact h0 (by show (decide (V.str x = V.str k) && hit vs) = false; rw [decide_eq_false e, Bool.false_and]) s3 I4⟩
theorem each_cap {n : Str} {p : Pos} {ps : List Pattern} {ns : List Str} {ok : List V → Prop} {hit : List V → Bool} {get : List V → List V} (c : PEach X ps ns ok hit get) :
    PEach X (.MatchAs none (some n) p :: ps) (n :: ns) (okCap ok) (hitCap hit) (getCap get) := ⟨fun vs hl => by
  cases vs with
  | nil => exact absurd hl (by simp)
  | cons v vs => exact congrArg (· + 1) (c.len vs (by simpa using hl)), fun pins s σ H vs us R I r hl ho h1 h0 => by
  cases r with
  | nil => exact absurd hl (by simp)
  | @cons v u vs us rv rr =>
    refine wpAny_matchEach_cons (wpAny_matchPattern_Capture ?_)
    refine c.run pins s σ H vs us _ I rr (by simpa using hl) ho (fun hh s' ws I' r' => ?_) (fun hh s' I' => ?_)
    · exact h1 hh s' (u :: ws) I' (.cons rv r')
    · exact h0 hh s' I'⟩
theorem each_any {p : Pos} {ps : List Pattern} {ns : List Str} {ok : List V → Prop} {hit : List V → Bool} {get : List V → List V} (c : PEach X ps ns ok hit get) :
    PEach X (.MatchAs none none p :: ps) ns (okCap ok) (hitCap hit) (tlF get) := ⟨fun vs hl => by
  cases vs with
  | nil => exact absurd hl (by simp)
  | cons v vs => exact c.len vs (by simpa using hl), fun pins s σ H vs us R I r hl ho h1 h0 => by
  cases r with
  | nil => exact absurd hl (by simp)
  | @cons v u vs us rv rr =>
    refine wpAny_matchEach_cons (wpAny_matchPattern_Capture ?_)
    refine c.run pins s σ H vs us _ I rr (by simpa using hl) ho (fun hh s' ws I' r' => ?_) (fun hh s' I' => ?_)
    · exact h1 hh s' ws I' r'
    · exact h0 hh s' I'⟩
theorem each_star {n : Str} {p : Pos} {ps : List Pattern} {ns : List Str} {ok : List V → Prop} {hit : List V → Bool} {get : List V → List V} (c : PEach X ps ns ok hit get) :
    PEach X (.MatchStar (some n) p :: ps) (n :: ns) (okCap ok) (hitCap hit) (getCap get) := ⟨fun vs hl => by
  cases vs with
  | nil => exact absurd hl (by simp)
  | cons v vs => exact congrArg (· + 1) (c.len vs (by simpa using hl)), fun pins s σ H vs us R I r hl ho h1 h0 => by
  cases r with
  | nil => exact absurd hl (by simp)
  | @cons v u vs us rv rr =>
    show wpAny _ _ (do
      match ← holding [u] (matchEach ps X.env us) with
      | none => pure none
      | some bs => pure (some (((some n).map (·, u)).toList ++ bs))) _ _ _
    refine wpAny_bind (wpAny_holding ?_)
    refine c.run pins s σ H vs us _ I rr (by simpa using hl) ho (fun hh s' ws I' r' => ?_) (fun hh s' I' => ?_)
    · exact wpAny_pure (h1 hh s' (u :: ws) I' (.cons rv r'))
    · exact wpAny_pure (h0 hh s' I')⟩
/-- case [..] without a star -/
def mSeq (K : PySem.W.Frag) (n : Nat) (ok : List V → Prop) (hit : List V → Bool) (get : List V → List V) (js : List Nat) (tb : TS) (rest : V → TS) : V → TS := fun v D σ H => ∃ a xs, v = .ref a ∧ SqL K H a xs ∧
  ((xs.length ≠ n ∧ rest v D σ H) ∨ (xs.length = n ∧ ok xs ∧ ((hit xs = true ∧ tb D (setAll σ js (get xs)) H) ∨ (hit xs = false ∧ rest v D σ H))))
theorem pm_seq {p3 : Pos} {ps : List Pattern} {ns : List Str} {js : List Nat} {n : Nat} {body : List Stmt} {cs : List MatchCase} {tb : TS} {rest : V → TS} {ok : List V → Prop} {hit : List V → Bool} {get : List V → List V}
    (hc : X.calm = true) (c : PEach X ps ns ok hit get) (hs : Stor X ns js) (hb : PSs X body tb) (hr : PM X cs rest) (hpn : ps.length = n := by rfl)
    (hstar : ps.findIdx? (·.isStar) = none := by rfl) (hwild : (ps.all fun p => p.isWildcard || (p.isStar && p.names.isEmpty)) = false := by rfl) :
    PM X (⟨.MatchSequence ps p3, none, body⟩ :: cs) (mSeq X.K n ok hit get js tb rest) := by
  refine ⟨fun first pins s σ H D v u I rv h => ?_⟩
  obtain ⟨a, xs, rfl, hq, h⟩ := h
  cases rv
  obtain ⟨its, rx, pl, hz⟩ := I.list hq
  have hl : s.heap.IsList a its.toArray := by
    obtain ⟨o, m, e, c, d, q⟩ := pl
    exact ⟨o, e, c, m, q⟩
  have hsz : its.toArray.size = xs.length := by simp [rx.length]
  have hfit : ((its.toArray.size : Nat) : Int) < 2 ^ 63 := by
    have e : sizeLine = 16777216 := by decide
    omega
  refine wpAny_matchCases_cons ?_
  rcases h with ⟨hne, h⟩ | ⟨hlen, hok, h⟩
  · refine matchSeq_list_miss hl hfit (by rw [hsz, hpn]; exact hne) ?_ hstar hwild
    exact hr.run false pins _ σ H D (.ref a) (.ref a) (I.tok _) rfl h
  · refine matchSeq_list_hit hl hfit (by rw [hsz, hlen, hpn]) ?_ hstar hwild
    have I1 : Inv X pins σ H { s with toks := s.toks + 1 + 1 } := I.tok _
    have hl2 : ps.length = its.toArray.size := by rw [hsz, hlen, hpn]
    rw [hl2]
    refine PySem.W.kun_itemsOf (I.ok.hd hc) (show ({ s with toks := s.toks + 1 + 1 } : Shared).heap.IsList a its.toArray from hl) fun h' hx' => ?_
    have I2 := I1.kept (h' := h') (t' := s.toks + 1 + 1) fun b o e => hx' b o (Nat.ne_of_lt (Heap.lt_size e)) e
    refine c.run pins _ σ H xs _ _ I2 (by simpa using rx) (by rw [hlen, hpn]) hok (fun hh s' ws I' r' => ?_) (fun hh s' I' => ?_)
    · rcases h with ⟨_, h⟩ | ⟨h0, _⟩
      · refine hs.run pins s' σ H (get xs) ws _ I' r' ?_ fun s5 I5 => ?_
        · have := r'.length
          rw [c.len xs (by rw [hlen, hpn])] at this
          exact this.symm
        · exact hb.run pins s5 _ H D I5 h
      · rw [hh] at h0
        cases h0
    · rcases h with ⟨h1, _⟩ | ⟨_, h⟩
      · rw [hh] at h1
        cases h1
      · exact hr.run false pins _ σ H D (.ref a) (.ref a) I' rfl h
/-- case [.., *a, ..], the star at i -/
def mStar (K : PySem.W.Frag) (n i : Nat) (ok : List V → Prop) (hit : List V → Bool) (get : List V → List V) (js : List Nat) (tb : TS) (rest : V → TS) : V → TS := fun v D σ H => ∃ a xs, v = .ref a ∧ SqL K H a xs ∧
  ((xs.length + 1 < n ∧ rest v D σ H) ∨ (n ≤ xs.length + 1 ∧ ∀ L, H L = none → ∀ ys, ys = xs.take i ++ [.ref L] ++ (xs.drop i).drop (xs.length + 1 - n) → ok ys ∧
    ((hit ys = true ∧ tb D (setAll σ js (get ys)) (upd H L (.lst ((xs.drop i).take (xs.length + 1 - n))))) ∨ (hit ys = false ∧ rest v D σ (upd H L (.lst ((xs.drop i).take (xs.length + 1 - n))))))))
theorem pm_star {p3 : Pos} {ps : List Pattern} {ns : List Str} {js : List Nat} {n i : Nat} {body : List Stmt} {cs : List MatchCase} {tb : TS} {rest : V → TS} {ok : List V → Prop} {hit : List V → Bool} {get : List V → List V}
    (hc : X.calm = true) (c : PEach X ps ns ok hit get) (hs : Stor X ns js) (hb : PSs X body tb) (hr : PM X cs rest) (hpn : ps.length = n := by rfl)
    (hstar : ps.findIdx? (·.isStar) = some i := by rfl) (hwild : (ps.all fun p => p.isWildcard || (p.isStar && p.names.isEmpty)) = false := by rfl) (hnm : ((ps[i]?.elim [] (·.names)).isEmpty) = false := by rfl) (h2 : 1 < n := by decide) (hin : i < n := by decide) :
    PM X (⟨.MatchSequence ps p3, none, body⟩ :: cs) (mStar X.K n i ok hit get js tb rest) := by
  refine ⟨fun first pins s σ H D v u I rv h => ?_⟩
  obtain ⟨a, xs, rfl, hq, h⟩ := h
  cases rv
  obtain ⟨its, rx, pl, hz⟩ := I.list hq
  have hl : s.heap.IsList a its.toArray := by
    obtain ⟨o, m, e, c, d, q⟩ := pl
    exact ⟨o, e, c, m, q⟩
  have hsz : its.toArray.size = xs.length := by simp [rx.length]
  have hfit : ((its.toArray.size : Nat) : Int) < 2 ^ 63 := by
    have e : sizeLine = 16777216 := by decide
    omega
  refine wpAny_matchCases_cons ?_
  rw [arm_matchPattern_MatchSequence]
  refine wpAny_bind (wpAny_standAt ?_)
  refine wpAny_bind (wpAny_collectionFlag hl.typeIs flag_seq_list ?_)
  simp only [hstar, hwild, hpn, hnm, Bool.not_true, Bool.false_eq_true, if_false, if_true, gt_iff_lt, h2]
  refine wpAny_bind (pyLen_list hl hfit ?_)
  have I1 : Inv X pins σ H { s with toks := s.toks + 1 + 1 } := I.tok _
  rcases h with ⟨hlt, h⟩ | ⟨hge, h⟩
  · rw [if_pos (show ((its.toArray.size : Nat) : Int) < (n : Int) - 1 by rw [hsz]; omega)]
    refine wpAny_pure ?_
    exact hr.run false pins _ σ H D (.ref a) (.ref a) I1 rfl h
  · rw [if_neg (show ¬ ((its.toArray.size : Nat) : Int) < (n : Int) - 1 by rw [hsz]; omega)]
    refine wpAny_bind (unpackStar hc I1 hq hin hge fun L us s' hL I' r' => ?_)
    obtain ⟨hok, h⟩ := h L hL _ rfl
    have ln : (xs.take i ++ [V.ref L] ++ (xs.drop i).drop (xs.length + 1 - n)).length = ps.length := by
      rw [List.length_append, List.length_append, List.length_take, List.length_drop, List.length_drop, List.length_singleton, hpn]
      omega
    refine c.run pins _ σ _ _ _ _ I' r' ln hok (fun hh s' ws I' r' => ?_) (fun hh s' I' => ?_)
    · rcases h with ⟨_, h⟩ | ⟨h0, _⟩
      · refine hs.run pins s' σ _ _ ws _ I' r' ?_ fun s5 I5 => ?_
        · have := r'.length
          rw [c.len _ ln] at this
          exact this.symm
        · exact hb.run pins s5 _ _ D I5 h
      · rw [hh] at h0
        cases h0
    · rcases h with ⟨h1, _⟩ | ⟨_, h⟩
      · rw [hh] at h1
        cases h1
      · exact hr.run false pins _ σ _ D (.ref a) (.ref a) I' rfl h
/-- case _ -/
theorem pm_wild {p : Pos} {body : List Stmt} {cs : List MatchCase} {tb : TS} (hb : PSs X body tb) : PM X (⟨.MatchAs none none p, none, body⟩ :: cs) (fun _ => tb) := by
  refine ⟨fun first pins s σ H D v u I rv h => ?_⟩
  refine wpAny_matchCases_cons (wpAny_matchPattern_Capture ?_)
  refine wpAny_assignInOrder_none ?_
  exact hb.run pins s σ H D I h
end
/-- f'..' -/
def tFs (ts : List TE) : TE := fun σ H Q => tJs ts Str.empty σ H fun out H1 => Q (.str out) H1
theorem pe_fs {X : Cx} {v1 v2 : Expr} {rest : List Expr} {ts : List TE} {pos : Pos} (h : PJ X (v1 :: v2 :: rest) ts) : PE X (.JoinedStr (v1 :: v2 :: rest) pos) (tFs ts) := pe_joined h
/-- a comprehension within another one that takes nothing from outside -/
theorem blkOk_in {N : List Str} {sc scope : Scope} {own : List (Str × Nat)} (h : blkC N { kind := .function, names := [], isGenerator := false, isCoroutine := false } scope own = true) : BlkOk N sc scope own := by
  obtain ⟨h1, h2, h3, h4, h5⟩ := blkOk_by h
  refine ⟨h1, h2, h3, fun y hy e => ?_, h5⟩
  rcases h4 y hy e with z | z <;> cases z
end KT
/-! sorted(xs, key=f), f a def of the program whose promise gives tuples of ints -/
namespace KQ
open PySem PySem.Spec PyProof.Rows L2 PySem.W
section
variable {X : Cx} {pins : List (Addr × Obj)} {σ : L2.St} {H : Hp} {s : Shared} {E : Value → Shared → Prop}
/-- inside two built-ins -/
def two (X : Cx) (E : Value → Shared → Prop) : Cx := { X with A := X.A.in1.in1, xe := E }
theorem two_ok (o : X.Ok) : (two X E).Ok := ⟨o.mod, o.kind, o.glob, o.blt, o.above, o.inj, o.has, o.cab, o.hd, o.frames, o.stk, o.exf, o.bs, o.bsz, o.noex, o.exfs, o.funs, o.frf⟩
theorem of_two_ok (o : (two X E).Ok) : X.Ok := ⟨o.mod, o.kind, o.glob, o.blt, o.above, o.inj, o.has, o.cab, o.hd, o.frames, o.stk, o.exf, o.bs, o.bsz, o.noex, o.exfs, o.funs, o.frf⟩
theorem two_inv (I : Inv X pins σ H s) : Inv (two X E) pins σ H s := ⟨two_ok I.ok, I.os, I.bare, I.base, I.loc, I.cell, I.free, I.freeC, I.pin, I.hok, I.len⟩
theorem of_two (I : Inv (two X E) pins σ H s) : Inv X pins σ H s := ⟨of_two_ok I.ok, I.os, I.bare, I.base, I.loc, I.cell, I.free, I.freeC, I.pin, I.hok, I.len⟩
end
/-- a key as data -/
def kd (ns : List Int) : PyData := .tuple (ns.map PyData.int)
/-- the order by keys -/
def leK {B : Type} (key : B → List Int) : B → B → Bool := dataLe false fun b => kd (key b)
def rSortF {B : Type} (K : PySem.W.Frag) (f : Addr) (sp : Sp) (key : B → List Int) : List V → List V → Hp → VK → Prop := fun vs zs H Q =>
  ∃ (a : Addr) (xs : List V) (bs : List B), vs = [.ref a] ∧ zs = [.ref f] ∧ SqL K H a xs ∧ (∀ b ∈ bs, key b ≠ []) ∧
    Paired (fun x b => ∀ H' : Hp, Same H H' → sp [x] H' (fun v H2 => ∃ t, v = .ref t ∧ Same H' H2 ∧ H2 t = some (.tup ((key b).map V.int))) E0) xs bs ∧
    ∀ (ys : List V) (p : Addr) (H' : Hp), Same H H' → H p = none → H' p = some (.lst ys) → Paired (fun x b => (x, b) ∈ xs.zip bs) ys (bs.mergeSort (leK key)) → Q (.ref p) H'
theorem alike_ints : ∀ (a b : List Int), alikeAll (a.map PyData.int) (b.map PyData.int) = true
  | [], _ => by unfold alikeAll; rfl
  | _ :: _, [] => by unfold alikeAll; rfl
  | x :: a, y :: b => by
    show alikeAll (PyData.int x :: a.map PyData.int) (PyData.int y :: b.map PyData.int) = true
    unfold alikeAll
    rw [alike_ints a b]
    unfold alike
    rfl
theorem alike_kd (a b : List Int) : alike (kd a) (kd b) = true := by
  unfold kd alike
  exact alike_ints a b
theorem reads_ints {h : Heap} : ∀ {ns : List Int} {vs : List Value}, Vals (ns.map V.int) vs → ReadsAll h vs (ns.map PyData.int) []
  | [], _, .nil => .nil
  | n :: ns, _, .cons r rs => by
    obtain ⟨t, rfl⟩ := r
    exact .cons (as := []) (bs := []) (.int _ _) (reads_ints rs)
theorem reads_kd {P : Program} {w : World} {H : Hp} {h : Heap} (ok : HOk P w H h) {t : Addr} {ns : List Int} (e : H t = some (.tup (ns.map V.int))) : Reads h (.ref t) (kd ns) [] := by
  obtain ⟨_, its, r, o, ho, hc, n, hd⟩ := ok t _ e
  exact .tuple ho hc hd (by rw [List.toList_toArray]; exact reads_ints r)
theorem freed_none (h : Heap) (a : Addr) : (h.update a fun o => { o with data := .freed }).get? a = none := by
  cases hg : (h.update a fun o => { o with data := .freed }).get? a with
  | none => rfl
  | some o =>
    have q := (Heap.get?_eq_some _ _ _).1 hg
    rw [Heap.objs_update_self] at q
    obtain ⟨q1, q2⟩ := q
    cases ho : h.objs[a]? with
    | none => rw [ho] at q1; simp at q1
    | some u =>
      rw [ho] at q1
      have e := Option.some.inj q1
      rw [← e] at q2
      simp [Obj.alive] at q2
theorem freed_ne (h : Heap) {a b : Addr} (hb : b ≠ a) : (h.update a fun o => { o with data := .freed }).get? b = h.get? b := Heap.get?_update_ne _ _ _ _ hb
theorem each_vals {B : Type} {xs : List V} {bs : List B} : ∀ {out : List Value} {cs : List B}, EachIs (fun v b => ∃ x, RelV x v ∧ (x, b) ∈ xs.zip bs) out cs → ∃ ys, Vals ys out ∧ Paired (fun x b => (x, b) ∈ xs.zip bs) ys cs
  | _, _, .nil => ⟨[], .nil, .nil⟩
  | _, _, .cons ⟨x, r, m⟩ h => by
    obtain ⟨ys, v, p⟩ := each_vals h
    exact ⟨x :: ys, .cons r v, .cons m p⟩
theorem vals_back : ∀ {xs : List V} {us : List Value} {i : Nat} {u : Value}, Vals xs us → us[i]? = some u → ∃ x, xs[i]? = some x ∧ RelV x u
  | _, _, _, _, .nil, e => by simp at e
  | _, _, 0, _, .cons r _, e => by simp at e; subst e; exact ⟨_, rfl, r⟩
  | _, _, i + 1, _, .cons _ rs, e => vals_back (i := i) rs (by simpa using e)
theorem depth_kd (ns : List Int) : (kd ns).depth ≤ 2 := by
  have h : ∀ l : List Int, PyData.depthAll (l.map PyData.int) ≤ 1 := by
    intro l
    induction l with
    | nil => simp [PyData.depthAll]
    | cons x r ih =>
      rw [List.map_cons]
      unfold PyData.depthAll PyData.depth
      omega
  unfold kd PyData.depth
  have := h ns
  omega
end KQ
namespace KQ
open PySem PySem.Spec PyProof.Rows L2 PySem.W
/-- sorted(xs, key=f) -/
theorem cr_sortedF {X : Cx} {B : Type} {k : Nat} {f : Addr} {fd : FuncData} {ps : List Str} {sp : Sp} {key : B → List Int} (F : FnOk X.prog X.w X.K X.mg X.base CX0 k f fd ps sp) (hb : Binds X.K fd ps []) (hr : Room (k + 2) X.A) :
    CallRK X (.builtin "sorted") [Str.ofString "key"] (rSortF X.K f sp key) := by
  intro pins s σ H vs zs us ws Q I r rz h
  obtain ⟨a, xs, bs, rfl, rfl, hs, hne, hp, q⟩ := h
  obtain rfl := Vals.ref1 r
  obtain ⟨w1, rfl, e1⟩ := vals1 rz
  obtain rfl : w1 = Value.ref f := e1
  obtain ⟨its, rv, hl, hz⟩ := I.list hs
  have hlen : its.length = xs.length := rv.length.symm
  have hbl : bs.length = xs.length := (Paired.length hp).symm
  have hzi : its.length ≤ sizeLine := by rw [hlen]; exact hz
  have hr2 : Room k X.A.in1.in1 := (hr.in1).in1
  refine sorted_of_sort hl.isList hzi (ksk_s1 _ _) (fun _ => ksk_l1 _ _) fun E' => ?_
  show wpAny (model X.prog X.w) X.A.in1.in1 (ksk_tree (s.heap.objs.size + 1) (.ref f) false) _ _ _
  have ho := copyHeap_at s.heap its
  generalize ea : s.heap.objs.size + 1 = a2 at ho ⊢
  have ha2 : s.heap.objs.size ≤ a2 := by omega
  obtain ⟨e1, ho1⟩ : ∃ e1, ((copyHeap s.heap its).update a2 (Obj.mapSeq fun _ => (#[] : Array Value))).get? a2 = some (seqObj "list" #[] e1) := ⟨_, get?_update_seq ho fun _ => #[]⟩
  have ha : a2 < (copyHeap s.heap its).objs.size := Heap.lt_size ho
  have hkS : (((copyHeap s.heap its).update a2 (Obj.mapSeq fun _ => (#[] : Array Value))).push (seqObj "tuple" its.toArray 0)).objs.size = (copyHeap s.heap its).objs.size + 1 := by rw [size_push', Heap.size_update]
  unfold ksk_tree
  refine wpAny_bind (listItems_at ho rfl ?_)
  refine wpAny_bind (listUpdate_at ho rfl ?_ (by rw [List.size_toArray]; exact hzi) (Nat.zero_le _))
  refine wpAny_bind (seqEpoch_at ho1 rfl ?_)
  refine wpAny_bind (wpAny_newTuple ?_ (by show its.length ≤ _; exact hzi))
  refine wpAny_bind (wpAny_newList ?_ (Nat.zero_le _))
  refine wpAny_holding ?_
  have nk0 := Heap.get?_push_size (((copyHeap s.heap its).update a2 (Obj.mapSeq fun _ => (#[] : Array Value))).push (seqObj "tuple" its.toArray 0)) (o := seqObj "list" #[] 0) rfl
  have na0 : (sortingHeap (copyHeap s.heap its) a2 its).get? a2 = some (seqObj "list" #[] e1) := Heap.get?_push_of_some _ (Heap.get?_push_of_some _ ho1)
  have old : ∀ b o, s.heap.get? b = some o → (sortingHeap (copyHeap s.heap its) a2 its).get? b = some o := fun b o e => by
    rw [← ea]
    exact sorting_copy_old e
  generalize ek : (((copyHeap s.heap its).update a2 (Obj.mapSeq fun _ => (#[] : Array Value))).push (seqObj "tuple" its.toArray 0)).objs.size = kS at nk0 ⊢
  have hka : kS ≠ a2 := by omega
  have hk2 : s.heap.objs.size ≤ kS := by omega
  have I0 : Inv X pins σ H { s with heap := sortingHeap (copyHeap s.heap its) a2 its } := I.kept (t' := s.toks) old
  have fpk : ∀ {H' : Hp}, H' kS = none → FpOk (two X fun _ _ => False) pins H' kS := fun n => (two_inv I).fpOk hk2 n
  have fpa : ∀ {H' : Hp}, H' a2 = none → FpOk (two X fun _ _ => False) pins H' a2 := fun n => (two_inv I).fpOk ha2 n
  have pinOk : ∀ {H' : Hp} {s' : Shared} {kA : Array Value} {e : Nat}, Inv (two X fun _ _ => False) pins σ H' s' → H' kS = none → H' a2 = none → s'.heap.get? kS = some (seqObj "list" kA e) → s'.heap.get? a2 = some (seqObj "list" #[] e1) →
      Inv (two X fun _ _ => False) ((kS, seqObj "list" kA e) :: (a2, seqObj "list" #[] e1) :: pins) σ H' s' := fun {H' s' kA e} I' n1 n2 g1 g2 => I'.pins_of fun p hp => by
    rcases List.mem_cons.mp hp with rfl | hp
    · obtain ⟨f0, f1, f2, _⟩ := fpk n1
      exact ⟨g1, f0, f1, f2, fun v z => nomatch z⟩
    · rcases List.mem_cons.mp hp with rfl | hp
      · obtain ⟨f0, f1, f2, _⟩ := fpa n2
        exact ⟨g2, f0, f1, f2, fun v z => nomatch z⟩
      · exact I'.pin p (List.mem_append_right _ hp)
  unfold ksk_rest
  refine wpAny_bind (wpAny_rule ?_)
  first
    | rw [List.forIn_toArray]
    | (rw [← Array.forIn_toList]; simp only [List.toList_toArray])
    | rw [← Array.forIn_toList]
  refine wpAny_bind (ksk_fold (fun i s' => ∃ (H' : Hp) (kA : Array Value) (e : Nat), Inv (two X fun _ _ => False) ((kS, seqObj "list" kA e) :: (a2, seqObj "list" #[] e1) :: pins) σ H' s' ∧ Same H H' ∧
      EachIs (fun v b => ∃ t, v = Value.ref t ∧ H' t = some (.tup ((key b).map V.int))) kA.toList (bs.take i)) its 0 _
    ⟨H, #[], 0, pinOk (two_inv I0) (I.hok.fresh hk2) (I.hok.fresh ha2) nk0 na0, Same.refl _, by rw [List.take_zero]; exact EachIs.nil⟩ ?step ?done)
  case step =>
    rintro j x s' hx ⟨H', kA, e, I', sm, hk⟩
    simp only [Nat.zero_add] at hk ⊢
    have hj : j < its.length := (List.getElem?_eq_some_iff.mp hx).1
    obtain ⟨xv, hxv, rx⟩ := vals_back rv hx
    obtain ⟨b, hbj, hsp⟩ := L2.paired_get hp hxv
    have hz : kA.size ≤ its.length := by
      have h1 := hk.length
      rw [Array.length_toList, List.length_take] at h1
      omega
    have g1 : s'.heap.get? kS = some (seqObj "list" kA e) := (I'.pin (kS, seqObj "list" kA e) (List.mem_append_right _ (List.mem_cons_self ..))).1
    refine wpAny_bind (wpAny_attempt (wpAny_mono (run_fn (X := two X fun _ _ => False) (us := [x]) (vs := [xv]) F hr2 hb .nil pass0 I' (.cons rx .nil) (hsp H' sm)) (fun v s'' he => ?_) fun _ _ hF => hF.elim))
    obtain ⟨v', H2, I2, rel, ⟨t, rfl, sm2, ht⟩⟩ := he
    obtain rfl : v = Value.ref t := rel
    obtain ⟨nk2, nkH, _⟩ := I2.pin (kS, seqObj "list" kA e) (List.mem_append_right _ (List.mem_cons_self ..))
    obtain ⟨na2, naH, _⟩ := I2.pin (a2, seqObj "list" #[] e1) (List.mem_append_right _ (List.mem_cons_of_mem _ (List.mem_cons_self ..)))
    have nk2 : s''.heap.get? kS = some (seqObj "list" kA e) := nk2
    have na2 : s''.heap.get? a2 = some (seqObj "list" #[] e1) := na2
    have nkH : H2 kS = none := nkH
    have naH : H2 a2 = none := naH
    have s1 := Heap.SameBut.update s''.heap kS (Obj.mapSeq (·.push (Value.ref t)))
    obtain ⟨c2, hc2⟩ : ∃ c2, (s''.heap.update kS (Obj.mapSeq (·.push (Value.ref t)))).get? kS = some (seqObj "list" (kA.push (Value.ref t)) c2) := ⟨_, get?_update_seq nk2 (·.push (Value.ref t))⟩
    have et : bs.take (j + 1) = bs.take j ++ [b] := by rw [List.take_add_one, hbj]; simp
    have ea' : (kA.push (Value.ref t)).toList = kA.toList ++ [Value.ref t] := by simp
    refine wpAny_bind (listUpdate_at nk2 rfl ?_ (Nat.le_trans hz hzi) (Nat.le_trans (Nat.le_of_eq (Array.size_push ..)) (Nat.succ_le_succ (Nat.le_trans hz hzi))))
    have I3 : Inv (two X fun _ _ => False) pins σ H2 s'' := I2.pins_of fun p hp => I2.pin p (List.mem_append_right _ (List.mem_cons_of_mem _ (List.mem_cons_of_mem _ hp)))
    have I4 := I3.turnedL (t' := s''.toks) (h' := s''.heap.update kS (Obj.mapSeq (·.push (Value.ref t)))) (ch := [kS]) (fun b o hb e => (s1.2 b (fun z => hb (by simp [z]))).trans e) (fun b hb => by
      rw [List.mem_singleton.mp hb]
      exact fpk nkH)
    refine wpAny_pure ⟨rfl, H2, kA.push (.ref t), c2, pinOk I4 nkH naH hc2 ((s1.2 a2 hka.symm).trans na2), sm.trans sm2, ?_⟩
    rw [ea', et]
    refine each_snoc ⟨t, rfl, ht⟩ (hk.mono fun u d ⟨t', e1, e2⟩ => ⟨t', e1, sm2 _ _ e2⟩)
  case done =>
    rintro s' ⟨H', kA, e, I', sm, hk⟩
    simp only [Nat.zero_add] at hk
    rw [List.take_of_length_le (by omega)] at hk
    obtain ⟨nk, nkH, _⟩ := I'.pin (kS, seqObj "list" kA e) (List.mem_append_right _ (List.mem_cons_self ..))
    obtain ⟨na, naH, _⟩ := I'.pin (a2, seqObj "list" #[] e1) (List.mem_append_right _ (List.mem_cons_of_mem _ (List.mem_cons_self ..)))
    have nk : s'.heap.get? kS = some (seqObj "list" kA e) := nk
    have na : s'.heap.get? a2 = some (seqObj "list" #[] e1) := na
    have nkH : H' kS = none := nkH
    have naH : H' a2 = none := naH
    have hk' : EachIs (fun v d => ∃ as, Reads s'.heap v d as) kA.toList (bs.map fun b => kd (key b)) := by
      have : ∀ {l : List Value} {cs : List B}, EachIs (fun v b => ∃ t, v = Value.ref t ∧ H' t = some (.tup ((key b).map V.int))) l cs → EachIs (fun v d => ∃ as, Reads s'.heap v d as) l (cs.map fun b => kd (key b)) := by
        intro l cs h
        induction h with
        | nil => exact .nil
        | cons r _ ih =>
          obtain ⟨t, rfl, ht⟩ := r
          exact .cons ⟨[], reads_kd I'.hok ht⟩ ih
      exact this hk
    have hsz : kA.size = its.length := by
      have h1 := hk.length
      rw [Array.length_toList] at h1
      omega
    have hal : AllAlike (bs.map fun b => kd (key b)) := fun d hd d' hd' => by
      obtain ⟨b, _, rfl⟩ := List.mem_map.mp hd
      obtain ⟨b', _, rfl⟩ := List.mem_map.mp hd'
      exact alike_kd _ _
    have hsk : Sortable (bs.map fun b => kd (key b)) := .inl fun d hd => by
      obtain ⟨b, hb, rfl⟩ := List.mem_map.mp hd
      cases ek : key b with
      | nil => exact absurd ek (hne b hb)
      | cons n r => exact ⟨_, _, by show kd (n :: r) = _; rfl⟩
    have hu : ∀ d, d ∈ (bs.map fun b => kd (key b)) → X.A.in1.in1.units + d.depth < cLine := fun d hd => by
      obtain ⟨b, _, rfl⟩ := List.mem_map.mp hd
      have h1 := depth_kd (key b)
      have h2 := hr2.un
      omega
    refine wpAny_bind (listItems_at nk rfl ?_)
    refine keyH_end (κ := dataKind s'.heap (bs.map fun b => kd (key b))) (h₁ := s'.heap.update kS fun o => { o with data := .freed }) (fun b o _ e => ?_) (freed_none _ _) nk na hka (SortsAt.data (s := s') hk' hal hsk hu) hsz hzi fun h' tk c kp hD => ⟨rfl, ?_⟩
    · by_cases z : b = kS
      · rw [z, freed_none] at e
        cases e
      · rw [freed_ne _ z] at e
        exact e
    have ko : KeyedOut false (bs.map fun b => kd (key b)) its (sortVals (dataKind s'.heap (bs.map fun b => kd (key b))) false kA.toList its) := ⟨s'.heap, kA.toList, hal, rfl, hk'⟩
    have eR : EachIs (fun v b => ∃ x, RelV x v ∧ (x, b) ∈ xs.zip bs) its bs := EachIs.of_zip (by omega) fun p hp => by
      obtain ⟨i, hi⟩ := List.mem_iff_getElem?.mp hp
      rw [List.getElem?_zip_eq_some] at hi
      obtain ⟨x, hx, rx⟩ := vals_back rv hi.1
      exact ⟨x, rx, List.mem_of_getElem? (i := i) (by rw [List.getElem?_zip_eq_some]; exact ⟨hx, hi.2⟩)⟩
    obtain ⟨ys, hv, pr⟩ := each_vals (keyedOut_each (fun b => kd (key b)) ko eR)
    generalize sortVals (dataKind s'.heap (bs.map fun b => kd (key b))) false kA.toList its = out at hD hv ko
    have ol : out.length = its.length := ko.length (by rw [List.length_map]; omega)
    have I3 : Inv (two X fun _ _ => False) pins σ H' s' := I'.pins_of fun p hp => I'.pin p (List.mem_append_right _ (List.mem_cons_of_mem _ (List.mem_cons_of_mem _ hp)))
    have I4 := I3.turnedL (t' := tk) (h' := h') (ch := [kS, a2]) (fun b o hb e => by
      have z1 : b ≠ kS := fun z => hb (by simp [z])
      have z2 : b ≠ a2 := fun z => hb (by simp [z])
      exact kp b o z2 (by rw [freed_ne _ z1]; exact e)) (fun b hb => by
      simp only [List.mem_cons, List.not_mem_nil, or_false] at hb
      rcases hb with rfl | rfl
      · exact fpk nkH
      · exact fpa naH)
    have I5 := I4.take (h' := h') (t' := tk) (it := a2) (o := .lst ys) (fun b o _ e => e) (fpa naH) ⟨by rw [hv.length, ol]; exact hzi, out, c, hv, hD⟩
    refine ⟨.ref a2, _, of_two I5, rfl, q ys a2 _ (fun b o e => by
      have e' := sm b o e
      rw [upd_ne (fun z => by rw [z, naH] at e'; cases e')]
      exact e') ?_ upd_same pr⟩
    exact I.hok.fresh ha2
end KQ
namespace KQ
open PySem PySem.Spec PyProof.Rows L2
/-- d.get(k, x), d a written dict with text keys -/
def tGetK (K : PySem.W.Frag) (d : Addr) (td ty tx : TE) : TE := fun σ H Q => td σ H fun x H1 => x = .ref d ∧ ty σ H1 fun y H2 => tx σ H2 fun z H3 =>
  ∃ (k : Str) (r : Option Value) (v : V), y = .str k ∧ PySem.W.nsIn K d k = some r ∧ (match r with | none => v = z | some u => RelV v u) ∧ Q v H3
theorem pe_getK {X : Cx} {o e f : Expr} {apos cpos : Pos} {td ty tx : TE} {d : Addr} {es : Array DictEntry} {n : Nat} (D : KDict X.K X.w d es n) (ho : PE X o td) (he : PE X e ty) (hf : PE X f tx) (m : M2 X o "get" apos e f cpos) :
    PE X (.Call (.Attribute o "get" apos) [e, f] [] cpos) (tGetK X.K d td ty tx) := by
  refine ⟨fun pins s σ H Q I h => ?_⟩
  refine wpAny_Call_method m.base m.few m.line PySem.F.plainAttrs_dict PySem.F.slot_dict_get PySem.F.type_dict_get (thn (ho.run pins s σ H _ I h) fun u s1 ⟨x, H1, I1, rx, ex, q1⟩ => ?_)
  subst ex
  obtain rfl : u = Value.ref d := rx
  refine ⟨kd_type D I1, fun b q => ?_, ?_⟩
  · cases q
    exact ⟨_, I1.kIn _ _ D.at_, rfl⟩
  rw [m.trees]
  refine Calls.callWith_builtin rfl (Calls.evalArgs_plain (Calls.spliced_cons (thn (he.run pins s1 σ H1 _ I1 q1) fun iv s2 ⟨y, H2, I2, ry, q2⟩ =>
    Calls.spliced_cons (thn (hf.run pins s2 σ H2 _ I2 q2) fun fv s3 ⟨z, H3, I3, rz, k, r, v, ey, en, hv, q3⟩ => Calls.spliced_nil ?_))))
  subst ey
  obtain ⟨t, rfl⟩ := (show ∃ t, iv = Value.str k t from ry)
  refine call_meetsIn PySem.F.slot_dict_get (kd_type D I3) PySem.F.entry_dict_get (PySem.F.args_dict_get_3 _ _ _) (meets_dict_get_default (strKind X.prog X.w) d (PySem.strKind_is X.prog X.w k t) D.low fv) ⟨_, PySem.W.mapOf_K (prog := X.prog) I3.kIn D.at_ D.lit, ?_⟩
  rw [PySem.W.find_K D.at_ en]
  refine ⟨v, H3, I3.tok _, ?_, q3⟩
  cases r with
  | none => rw [hv]; exact rz
  | some u => exact hv
end KQ
namespace KQ
open PySem PySem.Spec PyProof.Rows L2
/-- xs[i], by values: i from 0 on -/
def rGetL (K : PySem.W.Frag) : V → V → Hp → VK → Prop := fun x y H Q => ∃ (p : Addr) (xs : List V) (i : Nat) (v : V), x = .ref p ∧ y = .int (i : Int) ∧ SqL K H p xs ∧ xs[i]? = some v ∧ Q v H
theorem get_list {X : Cx} : PGet X (rGetL X.K) := by
  intro pins s σ H o i ov iv Q I r1 r2 h
  obtain ⟨p, xs, k, v, rfl, rfl, hq, hv, q⟩ := h
  cases r1
  obtain ⟨t, rfl⟩ := r2
  obtain ⟨its, r, pl, hz⟩ := I.list hq
  obtain ⟨w, ew, rw'⟩ := r.get hv
  have hl := r.length
  have hn := line63
  have hk := (List.getElem?_eq_some_iff.mp hv).1
  exact wpAny_getItem_list pl.isList (by omega) (by omega) (by simpa using ew) ⟨v, H, I, rw', q⟩
end KQ
/-! zip of five lists -/
namespace KZ
open PySem PySem.Spec PyProof.Rows L2
abbrev Tup5 (h : Heap) (T : Addr) (a b c d e : Value) : Prop := h.get? T = some { cls := .type "tuple", data := .seq #[a, b, c, d, e] }
section
variable {prog : Program} {w : World} {A : Around} {E : Value → Shared → Prop} {s : Shared}
theorem upd5 {T : Addr} {a b c d e x : Value} {k : Nat} {Q : Unit → Shared → Prop} (hT : Tup5 s.heap T a b c d e)
    (h : ∀ h', h'.get? T = some { cls := .type "tuple", data := .seq ((#[a, b, c, d, e] : Array Value).setIfInBounds k x) } → Heap.SameBut T s.heap h' → Q () { s with heap := h' }) :
    wpAny (model prog w) A (updateSeq T (·.setIfInBounds k x)) Q E s := by
  refine wpAny_updateSeq hT rfl (h _ ?_ (Heap.SameBut.update ..))
  rw [Heap.get?_update_self _ hT rfl]
  simp [Obj.mapSeq]
set_option maxHeartbeats 2000000 in
theorem next5 {N l0 l1 l2 l3 l4 : Nat} {k : Nat} {xs0 xs1 xs2 xs3 xs4 : Array Value} {x0 x1 x2 x3 x4 : Value} {a0 a1 a2 a3 a4 : Value} {Q : Value → Shared → Prop} (hl0 : l0 < N) (hl1 : l1 < N) (hl2 : l2 < N) (hl3 : l3 < N) (hl4 : l4 < N)
    (hz : IsZip s.heap (N + 7) (N + 5) (N + 6) .none) (hTI : Tup5 s.heap (N + 5) (.ref N) (.ref (N + 1)) (.ref (N + 2)) (.ref (N + 3)) (.ref (N + 4))) (hTO : Tup5 s.heap (N + 6) a0 a1 a2 a3 a4) (h0 : s.heap.IsListIter N l0 k) (q0 : s.heap.IsList l0 xs0) (h1 : s.heap.IsListIter (N + 1) l1 k) (q1 : s.heap.IsList l1 xs1) (h2 : s.heap.IsListIter (N + 2) l2 k) (q2 : s.heap.IsList l2 xs2) (h3 : s.heap.IsListIter (N + 3) l3 k) (q3 : s.heap.IsList l3 xs3) (h4 : s.heap.IsListIter (N + 4) l4 k) (q4 : s.heap.IsList l4 xs4) (e0 : xs0[k]? = some x0) (e1 : xs1[k]? = some x1) (e2 : xs2[k]? = some x2) (e3 : xs3[k]? = some x3) (e4 : xs4[k]? = some x4)
    (hQ : ∀ h', IsZip h' (N + 7) (N + 5) (N + 6) (rawInt s.heap.objs.size) → Tup5 h' (N + 6) x0 x1 x2 x3 x4 → h'.IsListIter N l0 (k + 1) → h'.IsListIter (N + 1) l1 (k + 1) → h'.IsListIter (N + 2) l2 (k + 1) → h'.IsListIter (N + 3) l3 (k + 1) → h'.IsListIter (N + 4) l4 (k + 1) → Tup5 h' s.heap.objs.size x0 x1 x2 x3 x4 → h'.objs.size = s.heap.objs.size + 1 →
      (∀ c o, c ≠ (N + 7) → c ≠ (N + 6) → c ≠ N → c ≠ (N + 1) → c ≠ (N + 2) → c ≠ (N + 3) → c ≠ (N + 4) → s.heap.get? c = some o → h'.get? c = some o) → Q (.ref s.heap.objs.size) { s with heap := h' }) :
    wpAny (model prog w) A (Builtin.«zip.__next__» ⟨[.ref (N + 7)], []⟩) (fun fin s' => ∃ v, fin = .done (.ret v) ∧ Q v s') E s := by
  have d0 : (N : Nat) ≠ (N + 7) := by omega
  have d1 : (l0 : Nat) ≠ (N + 7) := by omega
  have d2 : ((N + 6) : Nat) ≠ (N + 7) := by omega
  have d3 : ((N + 6) : Nat) ≠ N := by omega
  have d4 : ((N + 1) : Nat) ≠ (N + 7) := by omega
  have d5 : ((N + 1) : Nat) ≠ N := by omega
  have d6 : ((N + 1) : Nat) ≠ (N + 6) := by omega
  have d7 : (l1 : Nat) ≠ (N + 7) := by omega
  have d8 : (l1 : Nat) ≠ N := by omega
  have d9 : (l1 : Nat) ≠ (N + 6) := by omega
  have d10 : ((N + 6) : Nat) ≠ (N + 1) := by omega
  have d11 : ((N + 2) : Nat) ≠ (N + 7) := by omega
  have d12 : ((N + 2) : Nat) ≠ N := by omega
  have d13 : ((N + 2) : Nat) ≠ (N + 6) := by omega
  have d14 : ((N + 2) : Nat) ≠ (N + 1) := by omega
  have d15 : (l2 : Nat) ≠ (N + 7) := by omega
  have d16 : (l2 : Nat) ≠ N := by omega
  have d17 : (l2 : Nat) ≠ (N + 6) := by omega
  have d18 : (l2 : Nat) ≠ (N + 1) := by omega
  have d19 : ((N + 6) : Nat) ≠ (N + 2) := by omega
  have d20 : ((N + 3) : Nat) ≠ (N + 7) := by omega
  have d21 : ((N + 3) : Nat) ≠ N := by omega
  have d22 : ((N + 3) : Nat) ≠ (N + 6) := by omega
  have d23 : ((N + 3) : Nat) ≠ (N + 1) := by omega
  have d24 : ((N + 3) : Nat) ≠ (N + 2) := by omega
  have d25 : (l3 : Nat) ≠ (N + 7) := by omega
  have d26 : (l3 : Nat) ≠ N := by omega
  have d27 : (l3 : Nat) ≠ (N + 6) := by omega
  have d28 : (l3 : Nat) ≠ (N + 1) := by omega
  have d29 : (l3 : Nat) ≠ (N + 2) := by omega
  have d30 : ((N + 6) : Nat) ≠ (N + 3) := by omega
  have d31 : ((N + 4) : Nat) ≠ (N + 7) := by omega
  have d32 : ((N + 4) : Nat) ≠ N := by omega
  have d33 : ((N + 4) : Nat) ≠ (N + 6) := by omega
  have d34 : ((N + 4) : Nat) ≠ (N + 1) := by omega
  have d35 : ((N + 4) : Nat) ≠ (N + 2) := by omega
  have d36 : ((N + 4) : Nat) ≠ (N + 3) := by omega
  have d37 : (l4 : Nat) ≠ (N + 7) := by omega
  have d38 : (l4 : Nat) ≠ N := by omega
  have d39 : (l4 : Nat) ≠ (N + 6) := by omega
  have d40 : (l4 : Nat) ≠ (N + 1) := by omega
  have d41 : (l4 : Nat) ≠ (N + 2) := by omega
  have d42 : (l4 : Nat) ≠ (N + 3) := by omega
  have d43 : ((N + 6) : Nat) ≠ (N + 4) := by omega
  have d44 : ((N + 7) : Nat) ≠ N := by omega
  have d45 : ((N + 7) : Nat) ≠ (N + 6) := by omega
  have d46 : ((N + 7) : Nat) ≠ (N + 1) := by omega
  have d47 : ((N + 7) : Nat) ≠ (N + 2) := by omega
  have d48 : ((N + 7) : Nat) ≠ (N + 3) := by omega
  have d49 : ((N + 7) : Nat) ≠ (N + 4) := by omega
  have d50 : (N : Nat) ≠ (N + 6) := by omega
  have d51 : (N : Nat) ≠ (N + 1) := by omega
  have d52 : (N : Nat) ≠ (N + 2) := by omega
  have d53 : (N : Nat) ≠ (N + 3) := by omega
  have d54 : (N : Nat) ≠ (N + 4) := by omega
  have d55 : ((N + 1) : Nat) ≠ (N + 2) := by omega
  have d56 : ((N + 1) : Nat) ≠ (N + 3) := by omega
  have d57 : ((N + 1) : Nat) ≠ (N + 4) := by omega
  have d58 : ((N + 2) : Nat) ≠ (N + 3) := by omega
  have d59 : ((N + 2) : Nat) ≠ (N + 4) := by omega
  have d60 : ((N + 3) : Nat) ≠ (N + 4) := by omega
  show wpAny _ _ (field (.ref (N + 7)) 2 >>= _) _ _ _
  refine wpAny_bind (wpAny_field hz rfl (x := .bool false) rfl ?_)
  show wpAny _ _ (field (.ref (N + 7)) 3 >>= _) _ _ _
  refine wpAny_bind (wpAny_field hz rfl (x := .ref (N + 5)) rfl ?_)
  refine wpAny_bind (wpAny_seqItems hTI rfl ?_)
  show wpAny _ _ (Builtin.SmallTypes.ownedTupleIsFree (.ref (N + 7)) >>= _) _ _ _
  refine wpAny_bind ?_
  unfold Builtin.SmallTypes.ownedTupleIsFree
  refine wpAny_bind (wpAny_field hz rfl (x := .none) rfl (wpAny_pure ?_))
  simp only [if_true]
  refine wpAny_bind (wpAny_rule ?_)
  refine wpAny_bind (wpAny_field hz rfl (x := .ref (N + 6)) rfl ?_)
  refine wpAny_bind (wpAny_setField_rec hz (by simp) fun g1 hz1 sb1 => ?_)
  replace hz1 : IsZip g1 (N + 7) (N + 5) (N + 6) .ellipsis := hz1
  refine wpAny_bind ?_
  simp only [List.zipIdx_cons, List.zipIdx_nil, List.forIn_cons, List.forIn_nil]
  refine wpAny_bind (wpAny_bind (wpAny_onRaise ?_))
  show wpAny _ _ (Builtin.SmallTypes.nextOf (.ref N) >>= _) _ _ _
  refine wpAny_bind (wpAny_nextOf_list_item (h0.extBut sb1.extBut d0) (q0.extBut sb1.extBut d1) e0 fun g2 it0 sb2 => wpAny_pure ?_)
  have P0 : Tup5 g2 (N + 6) a0 a1 a2 a3 a4 := (sb2.extBut _ _ d3 (sb1.extBut _ _ d2 hTO))
  refine wpAny_bind (wpAny_seqItems P0 rfl ?_)
  refine wpAny_bind (upd5 P0 fun g3 T0 sb3 => ?_)
  replace T0 : Tup5 g3 (N + 6) x0 a1 a2 a3 a4 := T0
  refine wpAny_bind (wpAny_letGo (wpAny_pure ?_))
  refine wpAny_bind (wpAny_bind (wpAny_onRaise ?_))
  show wpAny _ _ (Builtin.SmallTypes.nextOf (.ref (N + 1)) >>= _) _ _ _
  refine wpAny_bind (wpAny_nextOf_list_item (((h1.extBut sb1.extBut d4).extBut sb2.extBut d5).extBut sb3.extBut d6) (((q1.extBut sb1.extBut d7).extBut sb2.extBut d8).extBut sb3.extBut d9) e1 fun g4 it1 sb4 => wpAny_pure ?_)
  have P1 : Tup5 g4 (N + 6) x0 a1 a2 a3 a4 := (sb4.extBut _ _ d10 T0)
  refine wpAny_bind (wpAny_seqItems P1 rfl ?_)
  refine wpAny_bind (upd5 P1 fun g5 T1 sb5 => ?_)
  replace T1 : Tup5 g5 (N + 6) x0 x1 a2 a3 a4 := T1
  refine wpAny_bind (wpAny_letGo (wpAny_pure ?_))
  refine wpAny_bind (wpAny_bind (wpAny_onRaise ?_))
  show wpAny _ _ (Builtin.SmallTypes.nextOf (.ref (N + 2)) >>= _) _ _ _
  refine wpAny_bind (wpAny_nextOf_list_item (((((h2.extBut sb1.extBut d11).extBut sb2.extBut d12).extBut sb3.extBut d13).extBut sb4.extBut d14).extBut sb5.extBut d13) (((((q2.extBut sb1.extBut d15).extBut sb2.extBut d16).extBut sb3.extBut d17).extBut sb4.extBut d18).extBut sb5.extBut d17) e2 fun g6 it2 sb6 => wpAny_pure ?_)
  have P2 : Tup5 g6 (N + 6) x0 x1 a2 a3 a4 := (sb6.extBut _ _ d19 T1)
  refine wpAny_bind (wpAny_seqItems P2 rfl ?_)
  refine wpAny_bind (upd5 P2 fun g7 T2 sb7 => ?_)
  replace T2 : Tup5 g7 (N + 6) x0 x1 x2 a3 a4 := T2
  refine wpAny_bind (wpAny_letGo (wpAny_pure ?_))
  refine wpAny_bind (wpAny_bind (wpAny_onRaise ?_))
  show wpAny _ _ (Builtin.SmallTypes.nextOf (.ref (N + 3)) >>= _) _ _ _
  refine wpAny_bind (wpAny_nextOf_list_item (((((((h3.extBut sb1.extBut d20).extBut sb2.extBut d21).extBut sb3.extBut d22).extBut sb4.extBut d23).extBut sb5.extBut d22).extBut sb6.extBut d24).extBut sb7.extBut d22) (((((((q3.extBut sb1.extBut d25).extBut sb2.extBut d26).extBut sb3.extBut d27).extBut sb4.extBut d28).extBut sb5.extBut d27).extBut sb6.extBut d29).extBut sb7.extBut d27) e3 fun g8 it3 sb8 => wpAny_pure ?_)
  have P3 : Tup5 g8 (N + 6) x0 x1 x2 a3 a4 := (sb8.extBut _ _ d30 T2)
  refine wpAny_bind (wpAny_seqItems P3 rfl ?_)
  refine wpAny_bind (upd5 P3 fun g9 T3 sb9 => ?_)
  replace T3 : Tup5 g9 (N + 6) x0 x1 x2 x3 a4 := T3
  refine wpAny_bind (wpAny_letGo (wpAny_pure ?_))
  refine wpAny_bind (wpAny_bind (wpAny_onRaise ?_))
  show wpAny _ _ (Builtin.SmallTypes.nextOf (.ref (N + 4)) >>= _) _ _ _
  refine wpAny_bind (wpAny_nextOf_list_item (((((((((h4.extBut sb1.extBut d31).extBut sb2.extBut d32).extBut sb3.extBut d33).extBut sb4.extBut d34).extBut sb5.extBut d33).extBut sb6.extBut d35).extBut sb7.extBut d33).extBut sb8.extBut d36).extBut sb9.extBut d33) (((((((((q4.extBut sb1.extBut d37).extBut sb2.extBut d38).extBut sb3.extBut d39).extBut sb4.extBut d40).extBut sb5.extBut d39).extBut sb6.extBut d41).extBut sb7.extBut d39).extBut sb8.extBut d42).extBut sb9.extBut d39) e4 fun g10 it4 sb10 => wpAny_pure ?_)
  have P4 : Tup5 g10 (N + 6) x0 x1 x2 x3 a4 := (sb10.extBut _ _ d43 T3)
  refine wpAny_bind (wpAny_seqItems P4 rfl ?_)
  refine wpAny_bind (upd5 P4 fun g11 T4 sb11 => ?_)
  replace T4 : Tup5 g11 (N + 6) x0 x1 x2 x3 x4 := T4
  refine wpAny_bind (wpAny_letGo (wpAny_pure (wpAny_pure ?_)))
  refine wpAny_bind (wpAny_seqItems T4 rfl ?_)
  refine wpAny_bind (wpAny_newTuple ?_)
  have hsz : g11.objs.size = s.heap.objs.size := by rw [sb11.1, sb10.1, sb9.1, sb8.1, sb7.1, sb6.1, sb5.1, sb4.1, sb3.1, sb2.1, sb1.1]
  rw [← hsz] at hQ
  have hzL : IsZip g11 (N + 7) (N + 5) (N + 6) .ellipsis := (sb11.extBut _ _ d45 (sb10.extBut _ _ d49 (sb9.extBut _ _ d45 (sb8.extBut _ _ d48 (sb7.extBut _ _ d45 (sb6.extBut _ _ d47 (sb5.extBut _ _ d45 (sb4.extBut _ _ d46 (sb3.extBut _ _ d45 (sb2.extBut _ _ d44 hz1))))))))))
  have hk : ∀ c o, c ≠ (N + 7) → c ≠ (N + 6) → c ≠ N → c ≠ (N + 1) → c ≠ (N + 2) → c ≠ (N + 3) → c ≠ (N + 4) → s.heap.get? c = some o → g11.get? c = some o := fun c o c0 c1 c2 c3 c4 c5 c6 e =>
    (sb11.extBut _ _ c1 (sb10.extBut _ _ c6 (sb9.extBut _ _ c1 (sb8.extBut _ _ c5 (sb7.extBut _ _ c1 (sb6.extBut _ _ c4 (sb5.extBut _ _ c1 (sb4.extBut _ _ c3 (sb3.extBut _ _ c1 (sb2.extBut _ _ c2 (sb1.extBut _ _ c0 e)))))))))))
  have f0 : g11.IsListIter N l0 (k + 1) := (((((((((it0.extBut sb3.extBut d50).extBut sb4.extBut d51).extBut sb5.extBut d50).extBut sb6.extBut d52).extBut sb7.extBut d50).extBut sb8.extBut d53).extBut sb9.extBut d50).extBut sb10.extBut d54).extBut sb11.extBut d50)
  have f1 : g11.IsListIter (N + 1) l1 (k + 1) := (((((((it1.extBut sb5.extBut d6).extBut sb6.extBut d55).extBut sb7.extBut d6).extBut sb8.extBut d56).extBut sb9.extBut d6).extBut sb10.extBut d57).extBut sb11.extBut d6)
  have f2 : g11.IsListIter (N + 2) l2 (k + 1) := (((((it2.extBut sb7.extBut d13).extBut sb8.extBut d58).extBut sb9.extBut d13).extBut sb10.extBut d59).extBut sb11.extBut d13)
  have f3 : g11.IsListIter (N + 3) l3 (k + 1) := (((it3.extBut sb9.extBut d22).extBut sb10.extBut d60).extBut sb11.extBut d22)
  have f4 : g11.IsListIter (N + 4) l4 (k + 1) := (it4.extBut sb11.extBut d33)
  have hzlt : (N + 7) < g11.objs.size := Heap.lt_size hzL
  show wpAny _ _ (Builtin.SmallTypes.ownedTupleHandOut (.ref (N + 7)) (.ref g11.objs.size) >>= _) _ _ _
  refine wpAny_bind ?_
  unfold Builtin.SmallTypes.ownedTupleHandOut
  have hzM : IsZip (g11.push { cls := .type "tuple", data := .seq #[x0, x1, x2, x3, x4] }) (N + 7) (N + 5) (N + 6) .ellipsis := Heap.get?_push_of_some _ hzL
  refine wpAny_bind (wpAny_setField_rec hzM (by simp) fun h7 hz7 hs7 => ?_)
  replace hz7 : IsZip h7 (N + 7) (N + 5) (N + 6) (rawInt g11.objs.size) := hz7
  refine wpAny_setField_rec hz7 (by simp) fun h8 hz8 hs8 => ?_
  replace hz8 : IsZip h8 (N + 7) (N + 5) (N + 6) (rawInt g11.objs.size) := hz8
  have up : ∀ c o, c ≠ (N + 7) → g11.get? c = some o → h8.get? c = some o := fun c o c1 e => hs8.extBut _ _ c1 (hs7.extBut _ _ c1 (Heap.get?_push_of_some _ e))
  have hT8 : Tup5 h8 g11.objs.size x0 x1 x2 x3 x4 := hs8.extBut _ _ (Nat.ne_of_gt hzlt) (hs7.extBut _ _ (Nat.ne_of_gt hzlt) (Heap.get?_push_size _ rfl))
  have hS8 : h8.objs.size = g11.objs.size + 1 := by rw [hs8.1, hs7.1, Heap.size_push]
  refine wpAny_pure ⟨_, rfl, ?_⟩
  exact hQ h8 hz8 (up _ _ d2 T4) (f0.at fun o e => up _ o d0 e) (f1.at fun o e => up _ o d4 e) (f2.at fun o e => up _ o d11 e) (f3.at fun o e => up _ o d20 e) (f4.at fun o e => up _ o d31 e) hT8 hS8 fun c o c0 c1 c2 c3 c4 c5 c6 e => up c o c0 (hk c o c0 c1 c2 c3 c4 c5 c6 e)
set_option maxHeartbeats 2000000 in
theorem end5 {N l0 l1 l2 l3 l4 : Nat} {k : Nat} {xs0 xs1 xs2 xs3 xs4 : Array Value} {a0 a1 a2 a3 a4 : Value} {Q : Fin → Shared → Prop} (hh : A.handled = none) (hl0 : l0 < N) (hl1 : l1 < N) (hl2 : l2 < N) (hl3 : l3 < N) (hl4 : l4 < N)
    (hz : IsZip s.heap (N + 7) (N + 5) (N + 6) .none) (hTI : Tup5 s.heap (N + 5) (.ref N) (.ref (N + 1)) (.ref (N + 2)) (.ref (N + 3)) (.ref (N + 4))) (hTO : Tup5 s.heap (N + 6) a0 a1 a2 a3 a4) (h0 : s.heap.IsListIter N l0 k) (q0 : s.heap.IsList l0 xs0) (h1 : s.heap.IsListIter (N + 1) l1 k) (q1 : s.heap.IsList l1 xs1) (h2 : s.heap.IsListIter (N + 2) l2 k) (q2 : s.heap.IsList l2 xs2) (h3 : s.heap.IsListIter (N + 3) l3 k) (q3 : s.heap.IsList l3 xs3) (h4 : s.heap.IsListIter (N + 4) l4 k) (q4 : s.heap.IsList l4 xs4) (e0 : xs0[k]? = none)
    (hE : ∀ h' e, (∀ c o, c ≠ (N + 7) → c ≠ N → s.heap.get? c = some o → h'.get? c = some o) → (∃ o, h'.get? e = some o ∧ o.cls = .type "StopIteration") → E (.ref e) { s with heap := h' }) :
    wpAny (model prog w) A (Builtin.«zip.__next__» ⟨[.ref (N + 7)], []⟩) Q E s := by
  have d0 : (N : Nat) ≠ (N + 7) := by omega
  have d1 : (l0 : Nat) ≠ (N + 7) := by omega
  have d2 : ((N + 6) : Nat) ≠ (N + 7) := by omega
  have d3 : ((N + 6) : Nat) ≠ N := by omega
  have d4 : ((N + 1) : Nat) ≠ (N + 7) := by omega
  have d5 : ((N + 1) : Nat) ≠ N := by omega
  have d6 : ((N + 1) : Nat) ≠ (N + 6) := by omega
  have d7 : (l1 : Nat) ≠ (N + 7) := by omega
  have d8 : (l1 : Nat) ≠ N := by omega
  have d9 : (l1 : Nat) ≠ (N + 6) := by omega
  have d10 : ((N + 6) : Nat) ≠ (N + 1) := by omega
  have d11 : ((N + 2) : Nat) ≠ (N + 7) := by omega
  have d12 : ((N + 2) : Nat) ≠ N := by omega
  have d13 : ((N + 2) : Nat) ≠ (N + 6) := by omega
  have d14 : ((N + 2) : Nat) ≠ (N + 1) := by omega
  have d15 : (l2 : Nat) ≠ (N + 7) := by omega
  have d16 : (l2 : Nat) ≠ N := by omega
  have d17 : (l2 : Nat) ≠ (N + 6) := by omega
  have d18 : (l2 : Nat) ≠ (N + 1) := by omega
  have d19 : ((N + 6) : Nat) ≠ (N + 2) := by omega
  have d20 : ((N + 3) : Nat) ≠ (N + 7) := by omega
  have d21 : ((N + 3) : Nat) ≠ N := by omega
  have d22 : ((N + 3) : Nat) ≠ (N + 6) := by omega
  have d23 : ((N + 3) : Nat) ≠ (N + 1) := by omega
  have d24 : ((N + 3) : Nat) ≠ (N + 2) := by omega
  have d25 : (l3 : Nat) ≠ (N + 7) := by omega
  have d26 : (l3 : Nat) ≠ N := by omega
  have d27 : (l3 : Nat) ≠ (N + 6) := by omega
  have d28 : (l3 : Nat) ≠ (N + 1) := by omega
  have d29 : (l3 : Nat) ≠ (N + 2) := by omega
  have d30 : ((N + 6) : Nat) ≠ (N + 3) := by omega
  have d31 : ((N + 4) : Nat) ≠ (N + 7) := by omega
  have d32 : ((N + 4) : Nat) ≠ N := by omega
  have d33 : ((N + 4) : Nat) ≠ (N + 6) := by omega
  have d34 : ((N + 4) : Nat) ≠ (N + 1) := by omega
  have d35 : ((N + 4) : Nat) ≠ (N + 2) := by omega
  have d36 : ((N + 4) : Nat) ≠ (N + 3) := by omega
  have d37 : (l4 : Nat) ≠ (N + 7) := by omega
  have d38 : (l4 : Nat) ≠ N := by omega
  have d39 : (l4 : Nat) ≠ (N + 6) := by omega
  have d40 : (l4 : Nat) ≠ (N + 1) := by omega
  have d41 : (l4 : Nat) ≠ (N + 2) := by omega
  have d42 : (l4 : Nat) ≠ (N + 3) := by omega
  have d43 : ((N + 6) : Nat) ≠ (N + 4) := by omega
  have d44 : ((N + 7) : Nat) ≠ N := by omega
  have d45 : ((N + 7) : Nat) ≠ (N + 6) := by omega
  have d46 : ((N + 7) : Nat) ≠ (N + 1) := by omega
  have d47 : ((N + 7) : Nat) ≠ (N + 2) := by omega
  have d48 : ((N + 7) : Nat) ≠ (N + 3) := by omega
  have d49 : ((N + 7) : Nat) ≠ (N + 4) := by omega
  have d50 : (N : Nat) ≠ (N + 6) := by omega
  have d51 : (N : Nat) ≠ (N + 1) := by omega
  have d52 : (N : Nat) ≠ (N + 2) := by omega
  have d53 : (N : Nat) ≠ (N + 3) := by omega
  have d54 : (N : Nat) ≠ (N + 4) := by omega
  have d55 : ((N + 1) : Nat) ≠ (N + 2) := by omega
  have d56 : ((N + 1) : Nat) ≠ (N + 3) := by omega
  have d57 : ((N + 1) : Nat) ≠ (N + 4) := by omega
  have d58 : ((N + 2) : Nat) ≠ (N + 3) := by omega
  have d59 : ((N + 2) : Nat) ≠ (N + 4) := by omega
  have d60 : ((N + 3) : Nat) ≠ (N + 4) := by omega
  show wpAny _ _ (field (.ref (N + 7)) 2 >>= _) _ _ _
  refine wpAny_bind (wpAny_field hz rfl (x := .bool false) rfl ?_)
  show wpAny _ _ (field (.ref (N + 7)) 3 >>= _) _ _ _
  refine wpAny_bind (wpAny_field hz rfl (x := .ref (N + 5)) rfl ?_)
  refine wpAny_bind (wpAny_seqItems hTI rfl ?_)
  show wpAny _ _ (Builtin.SmallTypes.ownedTupleIsFree (.ref (N + 7)) >>= _) _ _ _
  refine wpAny_bind ?_
  unfold Builtin.SmallTypes.ownedTupleIsFree
  refine wpAny_bind (wpAny_field hz rfl (x := .none) rfl (wpAny_pure ?_))
  simp only [if_true]
  refine wpAny_bind (wpAny_rule ?_)
  refine wpAny_bind (wpAny_field hz rfl (x := .ref (N + 6)) rfl ?_)
  refine wpAny_bind (wpAny_setField_rec hz (by simp) fun g1 hz1 sb1 => ?_)
  replace hz1 : IsZip g1 (N + 7) (N + 5) (N + 6) .ellipsis := hz1
  refine wpAny_bind ?_
  simp only [List.zipIdx_cons, List.zipIdx_nil, List.forIn_cons, List.forIn_nil]
  refine wpAny_bind (wpAny_bind (wpAny_onRaise ?_))
  show wpAny _ _ (Builtin.SmallTypes.nextOf (.ref N) >>= _) _ _ _
  refine wpAny_bind (wpAny_nextOf_list_end hh (h0.extBut sb1.extBut d0) (q0.extBut sb1.extBut d1) e0 fun g2 e sb2 he => ?_)
  obtain ⟨oe, hoe, hce⟩ := he
  have hz2 : IsZip g2 (N + 7) (N + 5) (N + 6) .ellipsis := sb2 _ _ (show (N + 7) ≠ N by omega) hz1
  have hez : e ≠ (N + 7) := fun x => by subst x; rw [hz2] at hoe; cases hoe; simp at hce
  exact wpAny_setField_rec hz2 (by simp) fun g3 _ sb3 => hE g3 e (fun c o c0 c2 x => sb3.extBut _ _ c0 (sb2 _ _ c2 (sb1.extBut _ _ c0 x))) ⟨oe, sb3.extBut _ _ hez hoe, hce⟩
end
end KZ
namespace KZ
open PySem PySem.Spec PyProof.Rows L2
abbrev li (l : Addr) : Obj := { cls := .type "list_iterator", data := .fields #[.ref l, .int 0 0] }
abbrev zT (h : Heap) (l0 l1 l2 l3 l4 : Addr) : Heap := (((((h.push (li l0)).push (li l1)).push (li l2)).push (li l3)).push (li l4)).push { cls := .type "tuple", data := .seq #[.ref h.objs.size, .ref (h.push (li l0)).objs.size, .ref ((h.push (li l0)).push (li l1)).objs.size, .ref (((h.push (li l0)).push (li l1)).push (li l2)).objs.size, .ref ((((h.push (li l0)).push (li l1)).push (li l2)).push (li l3)).objs.size] }
abbrev zO (h : Heap) (l0 l1 l2 l3 l4 : Addr) : Heap := (zT h l0 l1 l2 l3 l4).push { cls := .type "tuple", data := .seq #[.none, .none, .none, .none, .none] }
abbrev zZ (h : Heap) (l0 l1 l2 l3 l4 : Addr) : Heap := (zO h l0 l1 l2 l3 l4).push { cls := .type "zip", data := .fields #[.none, .bool false, .bool false, .ref (((((h.push (li l0)).push (li l1)).push (li l2)).push (li l3)).push (li l4)).objs.size, .ref (zT h l0 l1 l2 l3 l4).objs.size] }
theorem typeCall5 (a b c d e : Value) : checkTypeCall "zip" ⟨[a, b, c, d, e], []⟩ = pure () := by kernel_rfl
theorem newCall5 (a b c d e : Value) : checkBuiltinCall "zip.__new__" ⟨[.type "zip", a, b, c, d, e], []⟩ = pure () := by kernel_rfl
theorem init5 (obj a b c d e : Value) : argsOk "object.__init__" ⟨[obj, a, b, c, d, e], []⟩ := by unfold argsOk; kernel_rfl
set_option maxHeartbeats 8000000 in
theorem meets5 (l0 l1 l2 l3 l4 : Addr) (xs0 xs1 xs2 xs3 xs4 : Array Value) :
    Meets (Builtin.«zip.__new__» ⟨[.type "zip", .ref l0, .ref l1, .ref l2, .ref l3, .ref l4], []⟩) (fun _ R s => (s.heap.IsList l0 xs0 ∧ s.heap.IsList l1 xs1 ∧ s.heap.IsList l2 xs2 ∧ s.heap.IsList l3 xs3 ∧ s.heap.IsList l4 xs4) ∧
      R (.ok (.ret (.ref (zO s.heap l0 l1 l2 l3 l4).objs.size))) { s with heap := zZ s.heap l0 l1 l2 l3 l4 }) :=
  .of_wp fun prog w A R s h => by
    obtain ⟨hp, g, d, tk, os⟩ := s; obtain ⟨⟨h0, h1, h2, h3, h4⟩, h⟩ := h
    have hsub := sub_zip
    have L0 : Heap.IsList (Shared.heap ⟨hp, g, d, tk, os⟩) l0 xs0 := h0
    have L1 : Heap.IsList (Shared.heap ⟨(hp.push (li l0)), g, d, tk, os⟩) l1 xs1 := (Heap.IsList.push h1 _)
    have L2 : Heap.IsList (Shared.heap ⟨((hp.push (li l0)).push (li l1)), g, d, tk, os⟩) l2 xs2 := (Heap.IsList.push (Heap.IsList.push h2 _) _)
    have L3 : Heap.IsList (Shared.heap ⟨(((hp.push (li l0)).push (li l1)).push (li l2)), g, d, tk, os⟩) l3 xs3 := (Heap.IsList.push (Heap.IsList.push (Heap.IsList.push h3 _) _) _)
    have L4 : Heap.IsList (Shared.heap ⟨((((hp.push (li l0)).push (li l1)).push (li l2)).push (li l3)), g, d, tk, os⟩) l4 xs4 := (Heap.IsList.push (Heap.IsList.push (Heap.IsList.push (Heap.IsList.push h4 _) _) _) _)
    wp_walk using wpAny_pyIter_list L0, wpAny_pyIter_list L1, wpAny_pyIter_list L2, wpAny_pyIter_list L3, wpAny_pyIter_list L4
    exact ⟨_, rfl, h⟩
section
variable {prog : Program} {w : World} {A : Around} {E : Value → Shared → Prop} {s : Shared}
theorem call5 {l0 l1 l2 l3 l4 : Addr} {xs0 xs1 xs2 xs3 xs4 : Array Value} {Q : Value → Shared → Prop} (q0 : s.heap.IsList l0 xs0) (q1 : s.heap.IsList l1 xs1) (q2 : s.heap.IsList l2 xs2) (q3 : s.heap.IsList l3 xs3) (q4 : s.heap.IsList l4 xs4)
    (h : ∀ h', IsZip h' (s.heap.objs.size + 7) (s.heap.objs.size + 5) (s.heap.objs.size + 6) .none → Tup5 h' (s.heap.objs.size + 5) (.ref (s.heap.objs.size)) (.ref (s.heap.objs.size + 1)) (.ref (s.heap.objs.size + 2)) (.ref (s.heap.objs.size + 3)) (.ref (s.heap.objs.size + 4)) → Tup5 h' (s.heap.objs.size + 6) .none .none .none .none .none → h'.IsListIter (s.heap.objs.size) l0 0 → h'.IsListIter (s.heap.objs.size + 1) l1 0 → h'.IsListIter (s.heap.objs.size + 2) l2 0 → h'.IsListIter (s.heap.objs.size + 3) l3 0 → h'.IsListIter (s.heap.objs.size + 4) l4 0 → h'.objs.size = s.heap.objs.size + 8 →
      (∀ c o, s.heap.get? c = some o → h'.get? c = some o) → Q (.ref (s.heap.objs.size + 7)) { s with heap := h' }) :
    wpAny (model prog w) A (call (.type "zip") [.ref l0, .ref l1, .ref l2, .ref l3, .ref l4]) Q E s := by
  refine callType_new F.called_zip (by decide) (typeCall5 _ _ _ _ _) (newCall5 _ _ _ _ _) (fun obj => init5 obj _ _ _ _ _) F.entry_zip_new
    (meets5 l0 l1 l2 l3 l4 xs0 xs1 xs2 xs3 xs4) ⟨⟨q0, q1, q2, q3, q4⟩, ?_⟩
  have z1 : (s.heap.push (li l0)).objs.size = s.heap.objs.size + 1 := by rw [Heap.size_push]
  have z2 : ((s.heap.push (li l0)).push (li l1)).objs.size = s.heap.objs.size + 2 := by rw [Heap.size_push, z1]
  have z3 : (((s.heap.push (li l0)).push (li l1)).push (li l2)).objs.size = s.heap.objs.size + 3 := by rw [Heap.size_push, z2]
  have z4 : ((((s.heap.push (li l0)).push (li l1)).push (li l2)).push (li l3)).objs.size = s.heap.objs.size + 4 := by rw [Heap.size_push, z3]
  have z5 : (((((s.heap.push (li l0)).push (li l1)).push (li l2)).push (li l3)).push (li l4)).objs.size = s.heap.objs.size + 5 := by rw [Heap.size_push, z4]
  have z6 : (zT s.heap l0 l1 l2 l3 l4).objs.size = s.heap.objs.size + 6 := by rw [Heap.size_push, z5]
  have z7 : (zO s.heap l0 l1 l2 l3 l4).objs.size = s.heap.objs.size + 7 := by rw [Heap.size_push, z6]
  have z8 : (zZ s.heap l0 l1 l2 l3 l4).objs.size = s.heap.objs.size + 8 := by rw [Heap.size_push, z7]
  have gZ : (zZ s.heap l0 l1 l2 l3 l4).get? (zO s.heap l0 l1 l2 l3 l4).objs.size = some _ := (Heap.get?_push_size _ rfl)
  have gO : (zZ s.heap l0 l1 l2 l3 l4).get? (zT s.heap l0 l1 l2 l3 l4).objs.size = some _ := (Heap.get?_push_of_some _ (Heap.get?_push_size _ rfl))
  have gT : (zZ s.heap l0 l1 l2 l3 l4).get? (((((s.heap.push (li l0)).push (li l1)).push (li l2)).push (li l3)).push (li l4)).objs.size = some _ := (Heap.get?_push_of_some _ (Heap.get?_push_of_some _ (Heap.get?_push_size _ rfl)))
  have g0 : (zZ s.heap l0 l1 l2 l3 l4).get? s.heap.objs.size = some (li l0) := (Heap.get?_push_of_some _ (Heap.get?_push_of_some _ (Heap.get?_push_of_some _ (Heap.get?_push_of_some _ (Heap.get?_push_of_some _ (Heap.get?_push_of_some _ (Heap.get?_push_of_some _ (Heap.get?_push_size _ rfl))))))))
  have g1 : (zZ s.heap l0 l1 l2 l3 l4).get? (s.heap.push (li l0)).objs.size = some (li l1) := (Heap.get?_push_of_some _ (Heap.get?_push_of_some _ (Heap.get?_push_of_some _ (Heap.get?_push_of_some _ (Heap.get?_push_of_some _ (Heap.get?_push_of_some _ (Heap.get?_push_size _ rfl)))))))
  have g2 : (zZ s.heap l0 l1 l2 l3 l4).get? ((s.heap.push (li l0)).push (li l1)).objs.size = some (li l2) := (Heap.get?_push_of_some _ (Heap.get?_push_of_some _ (Heap.get?_push_of_some _ (Heap.get?_push_of_some _ (Heap.get?_push_of_some _ (Heap.get?_push_size _ rfl))))))
  have g3 : (zZ s.heap l0 l1 l2 l3 l4).get? (((s.heap.push (li l0)).push (li l1)).push (li l2)).objs.size = some (li l3) := (Heap.get?_push_of_some _ (Heap.get?_push_of_some _ (Heap.get?_push_of_some _ (Heap.get?_push_of_some _ (Heap.get?_push_size _ rfl)))))
  have g4 : (zZ s.heap l0 l1 l2 l3 l4).get? ((((s.heap.push (li l0)).push (li l1)).push (li l2)).push (li l3)).objs.size = some (li l4) := (Heap.get?_push_of_some _ (Heap.get?_push_of_some _ (Heap.get?_push_of_some _ (Heap.get?_push_size _ rfl))))
  rw [z5, z6, z7] at gZ
  rw [z6] at gO
  rw [z1, z2, z3, z4, z5] at gT
  rw [z1] at g1
  rw [z2] at g2
  rw [z3] at g3
  rw [z4] at g4
  show _ ∧ _
  rw [z7]
  exact ⟨⟨_, gZ, rfl⟩, h _ gZ gT gO ⟨_, g0, rfl, rfl⟩ ⟨_, g1, rfl, rfl⟩ ⟨_, g2, rfl, rfl⟩ ⟨_, g3, rfl, rfl⟩ ⟨_, g4, rfl, rfl⟩ z8 fun c o e => (Heap.get?_push_of_some _ (Heap.get?_push_of_some _ (Heap.get?_push_of_some _ (Heap.get?_push_of_some _ (Heap.get?_push_of_some _ (Heap.get?_push_of_some _ (Heap.get?_push_of_some _ (Heap.get?_push_of_some _ (e)))))))))⟩
end
section
variable {prog : Program} {w : World} {A : Around} {E : Value → Shared → Prop} {s : Shared}
theorem py_next5 {N l0 l1 l2 l3 l4 : Nat} {k : Nat} {xs0 xs1 xs2 xs3 xs4 : Array Value} {x0 x1 x2 x3 x4 : Value} {a0 a1 a2 a3 a4 : Value} {Q : Option Value → Shared → Prop} (hl0 : l0 < N) (hl1 : l1 < N) (hl2 : l2 < N) (hl3 : l3 < N) (hl4 : l4 < N)
    (hz : IsZip s.heap (N + 7) (N + 5) (N + 6) .none) (hTI : Tup5 s.heap (N + 5) (.ref N) (.ref (N + 1)) (.ref (N + 2)) (.ref (N + 3)) (.ref (N + 4))) (hTO : Tup5 s.heap (N + 6) a0 a1 a2 a3 a4) (h0 : s.heap.IsListIter N l0 k) (q0 : s.heap.IsList l0 xs0) (h1 : s.heap.IsListIter (N + 1) l1 k) (q1 : s.heap.IsList l1 xs1) (h2 : s.heap.IsListIter (N + 2) l2 k) (q2 : s.heap.IsList l2 xs2) (h3 : s.heap.IsListIter (N + 3) l3 k) (q3 : s.heap.IsList l3 xs3) (h4 : s.heap.IsListIter (N + 4) l4 k) (q4 : s.heap.IsList l4 xs4) (e0 : xs0[k]? = some x0) (e1 : xs1[k]? = some x1) (e2 : xs2[k]? = some x2) (e3 : xs3[k]? = some x3) (e4 : xs4[k]? = some x4)
    (hQ : ∀ h', IsZip h' (N + 7) (N + 5) (N + 6) (rawInt s.heap.objs.size) → Tup5 h' (N + 6) x0 x1 x2 x3 x4 → h'.IsListIter N l0 (k + 1) → h'.IsListIter (N + 1) l1 (k + 1) → h'.IsListIter (N + 2) l2 (k + 1) → h'.IsListIter (N + 3) l3 (k + 1) → h'.IsListIter (N + 4) l4 (k + 1) → Tup5 h' s.heap.objs.size x0 x1 x2 x3 x4 → h'.objs.size = s.heap.objs.size + 1 →
      (∀ c o, c ≠ (N + 7) → c ≠ (N + 6) → c ≠ N → c ≠ (N + 1) → c ≠ (N + 2) → c ≠ (N + 3) → c ≠ (N + 4) → s.heap.get? c = some o → h'.get? c = some o) → Q (some (.ref s.heap.objs.size)) { s with heap := h' }) :
    wpAny (model prog w) A (pyNext (.ref (N + 7))) Q E s := by
  have hT : s.TypeIs (.ref (N + 7)) "zip" := ⟨_, hz, rfl⟩
  unfold pyNext
  exact wpAny_bind (wpAny_attempt (wpAny_callSpecial?_slot (name := Str.ofString "__next__") hT F.slot_zip_next
    (wpAny_call_entry F.slot_zip_next hT F.entry_zip_next
      (next5 hl0 hl1 hl2 hl3 hl4 hz hTI hTO h0 q0 h1 q1 h2 q2 h3 q3 h4 q4 e0 e1 e2 e3 e4 fun h' b1 b2 i0 i1 i2 i3 i4 b3 b4 b5 => wpAny_pure (hQ h' b1 b2 i0 i1 i2 i3 i4 b3 b4 b5)) (F.args_zip_next_1 _))))
theorem py_end5 {N l0 l1 l2 l3 l4 : Nat} {k : Nat} {xs0 xs1 xs2 xs3 xs4 : Array Value} {a0 a1 a2 a3 a4 : Value} {Q : Option Value → Shared → Prop} (hh : A.handled = none) (hl0 : l0 < N) (hl1 : l1 < N) (hl2 : l2 < N) (hl3 : l3 < N) (hl4 : l4 < N)
    (hz : IsZip s.heap (N + 7) (N + 5) (N + 6) .none) (hTI : Tup5 s.heap (N + 5) (.ref N) (.ref (N + 1)) (.ref (N + 2)) (.ref (N + 3)) (.ref (N + 4))) (hTO : Tup5 s.heap (N + 6) a0 a1 a2 a3 a4) (h0 : s.heap.IsListIter N l0 k) (q0 : s.heap.IsList l0 xs0) (h1 : s.heap.IsListIter (N + 1) l1 k) (q1 : s.heap.IsList l1 xs1) (h2 : s.heap.IsListIter (N + 2) l2 k) (q2 : s.heap.IsList l2 xs2) (h3 : s.heap.IsListIter (N + 3) l3 k) (q3 : s.heap.IsList l3 xs3) (h4 : s.heap.IsListIter (N + 4) l4 k) (q4 : s.heap.IsList l4 xs4) (e0 : xs0[k]? = none)
    (hQ : ∀ h', (∀ c o, c ≠ (N + 7) → c ≠ N → s.heap.get? c = some o → h'.get? c = some o) → Q none { s with heap := h' }) : wpAny (model prog w) A (pyNext (.ref (N + 7))) Q E s := by
  have hT : s.TypeIs (.ref (N + 7)) "zip" := ⟨_, hz, rfl⟩
  unfold pyNext
  refine wpAny_bind (wpAny_attempt (wpAny_callSpecial?_slot (name := Str.ofString "__next__") hT F.slot_zip_next
    (wpAny_call_entry F.slot_zip_next hT F.entry_zip_next (end5 hh hl0 hl1 hl2 hl3 hl4 hz hTI hTO h0 q0 h1 q1 h2 q2 h3 q3 h4 q4 e0 fun h' e hk he => ?_) (F.args_zip_next_1 _))))
  obtain ⟨o, ho, hc⟩ := he
  refine wpAny_bind (wpAny_isInstance (T := "StopIteration") (b := true) ⟨o, ho, hc⟩ isSubtype_stop ?_)
  exact wpAny_pure (hQ _ hk)
end
/-- five lists of one length, the items in new tuples -/
def It5 (K : PySem.W.Frag) (l0 l1 l2 l3 l4 : Addr) : It :=
  ⟨fun i H => ∃ (ys0 ys1 ys2 ys3 ys4 : List V) (x0 x1 x2 x3 x4 : V), SqL K H l0 ys0 ∧ SqL K H l1 ys1 ∧ SqL K H l2 ys2 ∧ SqL K H l3 ys3 ∧ SqL K H l4 ys4 ∧ ys0[i]? = some x0 ∧ ys1[i]? = some x1 ∧ ys2[i]? = some x2 ∧ ys3[i]? = some x3 ∧ ys4[i]? = some x4,
    fun i H v H' => ∃ T x0 x1 x2 x3 x4, v = .ref T ∧ H T = none ∧ H' = upd H T (.tup [x0, x1, x2, x3, x4]) ∧ (∀ ys, SqL K H l0 ys → ys[i]? = some x0) ∧ (∀ ys, SqL K H l1 ys → ys[i]? = some x1) ∧ (∀ ys, SqL K H l2 ys → ys[i]? = some x2) ∧ (∀ ys, SqL K H l3 ys → ys[i]? = some x3) ∧ (∀ ys, SqL K H l4 ys → ys[i]? = some x4),
    fun i H => ∃ ys0 ys1 ys2 ys3 ys4 : List V, SqL K H l0 ys0 ∧ SqL K H l1 ys1 ∧ SqL K H l2 ys2 ∧ SqL K H l3 ys3 ∧ SqL K H l4 ys4 ∧ ys0.length ≤ i⟩
set_option maxHeartbeats 2000000 in
theorem turn5 {P : Program} {w : World} {K : PySem.W.Frag} {elts : List Expr} {kk : Nat} {tpos : Pos} {N l0 l1 l2 l3 l4 : Nat} (hl0 : l0 < N) (hl1 : l1 < N) (hl2 : l2 < N) (hl3 : l3 < N) (hl4 : l4 < N) :
    Turn P w K (.Tuple elts kk tpos) (It5 K l0 l1 l2 l3 l4) [(N + 7), (N + 5), (N + 6), N, (N + 1), (N + 2), (N + 3), (N + 4)] (N + 7) (fun i h => IsZip h (N + 7) (N + 5) (N + 6) .none ∧ Tup5 h (N + 5) (.ref N) (.ref (N + 1)) (.ref (N + 2)) (.ref (N + 3)) (.ref (N + 4)) ∧ (∃ a b c d e, Tup5 h (N + 6) a b c d e) ∧ h.IsListIter N l0 i ∧ h.IsListIter (N + 1) l1 i ∧ h.IsListIter (N + 2) l2 i ∧ h.IsListIter (N + 3) l3 i ∧ h.IsListIter (N + 4) l4 i) where
  mem := by simp
  obj := fun i h st c hc => by
    obtain ⟨hz, hTI, ⟨a, b, c', d, e, hTO⟩, ⟨o0, e0, _, d0⟩, ⟨o1, e1, _, d1⟩, ⟨o2, e2, _, d2⟩, ⟨o3, e3, _, d3⟩, ⟨o4, e4, _, d4⟩⟩ := st
    have e' : c = (N + 7) ∨ c = (N + 5) ∨ c = (N + 6) ∨ c = N ∨ c = (N + 1) ∨ c = (N + 2) ∨ c = (N + 3) ∨ c = (N + 4) := by simpa using hc
    rcases e' with q | q | q | q | q | q | q | q
    · rw [q]; exact ⟨_, hz, fun v q => nomatch q⟩
    · rw [q]; exact ⟨_, hTI, fun v q => nomatch q⟩
    · rw [q]; exact ⟨_, hTO, fun v q => nomatch q⟩
    · rw [q]; exact ⟨o0, e0, fun v q => by rw [d0] at q; cases q⟩
    · rw [q]; exact ⟨o1, e1, fun v q => by rw [d1] at q; cases q⟩
    · rw [q]; exact ⟨o2, e2, fun v q => by rw [d2] at q; cases q⟩
    · rw [q]; exact ⟨o3, e3, fun v q => by rw [d3] at q; cases q⟩
    · rw [q]; exact ⟨o4, e4, fun v q => by rw [d4] at q; cases q⟩
  keep := fun i h h' st k => by
    obtain ⟨hz, hTI, ⟨a, b, c, d, e, hTO⟩, h0, h1, h2, h3, h4⟩ := st
    exact ⟨k _ (by simp) _ hz, k _ (by simp) _ hTI, ⟨a, b, c, d, e, k _ (by simp) _ hTO⟩, h0.at fun o q => k _ (by simp) o q, h1.at fun o q => k _ (by simp) o q, h2.at fun o q => k _ (by simp) o q, h3.at fun o q => k _ (by simp) o q, h4.at fun o q => k _ (by simp) o q⟩
  item := by
    intro X hP hw hK hc i pins s σ H E I hf st hg
    subst hP hw hK
    obtain ⟨hz, hTI, ⟨a0, b0, c0, d0, e0, hTO⟩, h0, h1, h2, h3, h4⟩ := st
    obtain ⟨ys0, ys1, ys2, ys3, ys4, x0, x1, x2, x3, x4, s0, s1, s2, s3, s4, y0, y1, y2, y3, y4⟩ := hg
    obtain ⟨t0, r0, p0, _⟩ := I.list s0
    obtain ⟨u0, g0, w0⟩ := r0.get y0
    obtain ⟨t1, r1, p1, _⟩ := I.list s1
    obtain ⟨u1, g1, w1⟩ := r1.get y1
    obtain ⟨t2, r2, p2, _⟩ := I.list s2
    obtain ⟨u2, g2, w2⟩ := r2.get y2
    obtain ⟨t3, r3, p3, _⟩ := I.list s3
    obtain ⟨u3, g3, w3⟩ := r3.get y3
    obtain ⟨t4, r4, p4, _⟩ := I.list s4
    obtain ⟨u4, g4, w4⟩ := r4.get y4
    have hzl : (N + 7) < s.heap.objs.size := Heap.lt_size hz
    refine py_next5 hl0 hl1 hl2 hl3 hl4 hz hTI hTO h0 p0.isList h1 p1.isList h2 p2.isList h3 p3.isList h4 p4.isList (x0 := u0) (x1 := u1) (x2 := u2) (x3 := u3) (x4 := u4) (by simpa using g0) (by simpa using g1) (by simpa using g2) (by simpa using g3) (by simpa using g4) fun h' z' TO' i0 i1 i2 i3 i4 hT hsz hk => ?_
    refine ⟨_, rfl, wpAny_letOwnedTupleGo_zip (s := { s with heap := h' }) z' fun h'' z'' sb => ?_⟩
    have hT2 : h''.get? s.heap.objs.size = some { cls := .type "tuple", data := .seq #[u0, u1, u2, u3, u4] } := (sb.2 _ (Nat.ne_of_gt hzl)).trans hT
    have new : ObjOk X.prog X.w (upd H s.heap.objs.size (.tup [x0, x1, x2, x3, x4])) h'' s.heap.objs.size (.tup [x0, x1, x2, x3, x4]) :=
      ⟨by show 5 ≤ sizeLine; decide, [u0, u1, u2, u3, u4], .cons w0 (.cons w1 (.cons w2 (.cons w3 (.cons w4 .nil)))), ⟨_, hT2, rfl, _, rfl⟩⟩
    have I1 : Inv X pins σ (upd H s.heap.objs.size (.tup [x0, x1, x2, x3, x4])) { s with heap := h'' } :=
      I.turnedNew (t' := s.toks) (ch := [(N + 7), (N + 5), (N + 6), N, (N + 1), (N + 2), (N + 3), (N + 4)]) (fun c o hb q => (sb.2 c (fun q' => hb (by simp [q']))).trans (hk c o (fun q' => hb (by simp [q'])) (fun q' => hb (by simp [q'])) (fun q' => hb (by simp [q'])) (fun q' => hb (by simp [q'])) (fun q' => hb (by simp [q'])) (fun q' => hb (by simp [q'])) (fun q' => hb (by simp [q'])) q)) hf (Nat.le_refl _) new
    refine ⟨.ref s.heap.objs.size, _, I1, rfl, ⟨_, x0, x1, x2, x3, x4, rfl, I.hok.fresh (Nat.le_refl _), rfl, fun l hl => by rw [I.list_inj hl s0]; exact y0, fun l hl => by rw [I.list_inj hl s1]; exact y1, fun l hl => by rw [I.list_inj hl s2]; exact y2, fun l hl => by rw [I.list_inj hl s3]; exact y3, fun l hl => by rw [I.list_inj hl s4]; exact y4⟩, ⟨z'', ?_, ⟨u0, u1, u2, u3, u4, ?_⟩, ?i0, ?i1, ?i2, ?i3, ?i4⟩, fun c hcm => ?_⟩
    · exact (sb.2 _ (show (N + 5) ≠ (N + 7) by omega)).trans (hk _ _ (show (N + 5) ≠ (N + 7) by omega) (show (N + 5) ≠ (N + 6) by omega) (show (N + 5) ≠ N by omega) (show (N + 5) ≠ (N + 1) by omega) (show (N + 5) ≠ (N + 2) by omega) (show (N + 5) ≠ (N + 3) by omega) (show (N + 5) ≠ (N + 4) by omega) hTI)
    · exact (sb.2 _ (show (N + 6) ≠ (N + 7) by omega)).trans TO'
    · exact i0.at fun o q => (sb.2 _ (show N ≠ (N + 7) by omega)).trans q
    · exact i1.at fun o q => (sb.2 _ (show (N + 1) ≠ (N + 7) by omega)).trans q
    · exact i2.at fun o q => (sb.2 _ (show (N + 2) ≠ (N + 7) by omega)).trans q
    · exact i3.at fun o q => (sb.2 _ (show (N + 3) ≠ (N + 7) by omega)).trans q
    · exact i4.at fun o q => (sb.2 _ (show (N + 4) ≠ (N + 7) by omega)).trans q
    · have hlt : c < s.heap.objs.size := by
        have e' : c = (N + 7) ∨ c = (N + 5) ∨ c = (N + 6) ∨ c = N ∨ c = (N + 1) ∨ c = (N + 2) ∨ c = (N + 3) ∨ c = (N + 4) := by simpa using hcm
        have e2 : Nat.le c (N + 7) := by
          rcases e' with q | q | q | q | q | q | q | q
          · rw [q]; exact (show ((N + 7) : Nat) ≤ N + 7 by omega)
          · rw [q]; exact (show ((N + 5) : Nat) ≤ N + 7 by omega)
          · rw [q]; exact (show ((N + 6) : Nat) ≤ N + 7 by omega)
          · rw [q]; exact (show (N : Nat) ≤ N + 7 by omega)
          · rw [q]; exact (show ((N + 1) : Nat) ≤ N + 7 by omega)
          · rw [q]; exact (show ((N + 2) : Nat) ≤ N + 7 by omega)
          · rw [q]; exact (show ((N + 3) : Nat) ≤ N + 7 by omega)
          · rw [q]; exact (show ((N + 4) : Nat) ≤ N + 7 by omega)
        exact Nat.lt_of_le_of_lt e2 hzl
      rw [upd_ne (Nat.ne_of_lt hlt)]
      exact (hf c hcm).1
  done := by
    intro X hP hw hK hc i pins s σ H E I hf st hg
    subst hP hw hK
    obtain ⟨hz, hTI, ⟨a0, b0, c0, d0, e0, hTO⟩, h0, h1, h2, h3, h4⟩ := st
    obtain ⟨ys0, ys1, ys2, ys3, ys4, s0, s1, s2, s3, s4, hend⟩ := hg
    obtain ⟨t0, r0, p0, _⟩ := I.list s0
    obtain ⟨t1, r1, p1, _⟩ := I.list s1
    obtain ⟨t2, r2, p2, _⟩ := I.list s2
    obtain ⟨t3, r3, p3, _⟩ := I.list s3
    obtain ⟨t4, r4, p4, _⟩ := I.list s4
    have l1 := r0.length
    have he : t0.toArray[i]? = none := by simp; omega
    exact py_end5 (I.ok.hd hc) hl0 hl1 hl2 hl3 hl4 hz hTI hTO h0 p0.isList h1 p1.isList h2 p2.isList h3 p3.isList h4 p4.isList he fun h' hk => ⟨rfl, I.turnedL (t' := s.toks) (ch := [(N + 7), (N + 5), (N + 6), N, (N + 1), (N + 2), (N + 3), (N + 4)]) (fun c o hb q =>
      hk c o (fun q' => hb (by simp [q'])) (fun q' => hb (by simp [q'])) q) hf⟩
  self := fun A i s Q E st h => wpAny_pyIter_zip st.1 h
def iZip5 (K : PySem.W.Frag) (ta : TA) : TI := fun σ H R => ta σ H fun vs H1 => ∃ l0 l1 l2 l3 l4 ys0 ys1 ys2 ys3 ys4, vs = [.ref l0, .ref l1, .ref l2, .ref l3, .ref l4] ∧ SqL K H1 l0 ys0 ∧ SqL K H1 l1 ys1 ∧ SqL K H1 l2 ys2 ∧ SqL K H1 l3 ys3 ∧ SqL K H1 l4 ys4 ∧ R (It5 K l0 l1 l2 l3 l4) H1
theorem pi_zip5 {X : Cx} {e0 e1 e2 e3 e4 : Expr} {ta : TA} {p pos tpos : Pos} {elts : List Expr} {kk : Nat} (hg : Gl X "zip") (hm : X.mg "zip" = none) (ha : PA X [e0, e1, e2, e3, e4] ta)
    (hs : starEach [e0, e1, e2, e3, e4] X.env = (false, eval e0 X.env) :: starEach [e1, e2, e3, e4] X.env := by rfl) (hpl : (backTo pos (starEach [e1, e2, e3, e4] X.env)).any (·.1) = false := by rfl) :
    PI X (.Tuple elts kk tpos) (.Call (.Name "zip" p) [e0, e1, e2, e3, e4] [] pos) (iZip5 X.K ta) := by
  refine ⟨fun pins s σ H R I h => ?_⟩
  refine Call_ (ld_blt I hg hm PyProof.Rows.boot_zip (PyProof.Rows.callWith_type1 (thn (ha.run pos pins s σ H _ I h) fun us s1 ⟨vs, H1, I1, r1, q1⟩ => ?_) hs hpl))
  obtain ⟨l0, l1, l2, l3, l4, ys0, ys1, ys2, ys3, ys4, ex, sq0, sq1, sq2, sq3, sq4, q⟩ := q1
  subst ex
  obtain ⟨v0, r1', rfl, rr0, r1⟩ : ∃ v0 r1', us = v0 :: r1' ∧ RelV (.ref l0) v0 ∧ Vals [.ref l1, .ref l2, .ref l3, .ref l4] r1' := by cases r1 with | cons a b => exact ⟨_, _, rfl, a, b⟩
  obtain ⟨v1, r2', rfl, rr1, r1⟩ : ∃ v0 r2', r1' = v0 :: r2' ∧ RelV (.ref l1) v0 ∧ Vals [.ref l2, .ref l3, .ref l4] r2' := by cases r1 with | cons a b => exact ⟨_, _, rfl, a, b⟩
  obtain ⟨v2, r3', rfl, rr2, r1⟩ : ∃ v0 r3', r2' = v0 :: r3' ∧ RelV (.ref l2) v0 ∧ Vals [.ref l3, .ref l4] r3' := by cases r1 with | cons a b => exact ⟨_, _, rfl, a, b⟩
  obtain ⟨v3, r4', rfl, rr3, r1⟩ : ∃ v0 r4', r3' = v0 :: r4' ∧ RelV (.ref l3) v0 ∧ Vals [.ref l4] r4' := by cases r1 with | cons a b => exact ⟨_, _, rfl, a, b⟩
  obtain ⟨v4, r5', rfl, rr4, r1⟩ : ∃ v0 r5', r4' = v0 :: r5' ∧ RelV (.ref l4) v0 ∧ Vals [] r5' := by cases r1 with | cons a b => exact ⟨_, _, rfl, a, b⟩
  cases r1
  obtain rfl : v0 = Value.ref l0 := rr0
  obtain ⟨t0, w0, p0, _⟩ := I1.list sq0
  have b0 : l0 < s1.heap.objs.size := p0.lt
  obtain rfl : v1 = Value.ref l1 := rr1
  obtain ⟨t1, w1, p1, _⟩ := I1.list sq1
  have b1 : l1 < s1.heap.objs.size := p1.lt
  obtain rfl : v2 = Value.ref l2 := rr2
  obtain ⟨t2, w2, p2, _⟩ := I1.list sq2
  have b2 : l2 < s1.heap.objs.size := p2.lt
  obtain rfl : v3 = Value.ref l3 := rr3
  obtain ⟨t3, w3, p3, _⟩ := I1.list sq3
  have b3 : l3 < s1.heap.objs.size := p3.lt
  obtain rfl : v4 = Value.ref l4 := rr4
  obtain ⟨t4, w4, p4, _⟩ := I1.list sq4
  have b4 : l4 < s1.heap.objs.size := p4.lt
  refine call5 p0.isList p1.isList p2.isList p3.isList p4.isList fun h' hz hTI hTO i0 i1 i2 i3 i4 hsz hk => wpAny_pyIter_zip hz ?_
  have I2 : Inv X pins σ H1 { s1 with heap := h' } := I1.kept (t' := s1.toks) hk
  refine ⟨s1.heap.objs.size + 7, [s1.heap.objs.size + 7, s1.heap.objs.size + 5, s1.heap.objs.size + 6, s1.heap.objs.size, s1.heap.objs.size + 1, s1.heap.objs.size + 2, s1.heap.objs.size + 3, s1.heap.objs.size + 4], _, _, H1, rfl, I2, turn5 b0 b1 b2 b3 b4, ⟨hz, hTI, ⟨_, _, _, _, _, hTO⟩, i0, i1, i2, i3, i4⟩, fun c hcm => ?_, q⟩
  have hle : s1.heap.objs.size ≤ c := by
    have e' : c = s1.heap.objs.size + 7 ∨ c = s1.heap.objs.size + 5 ∨ c = s1.heap.objs.size + 6 ∨ c = s1.heap.objs.size ∨ c = s1.heap.objs.size + 1 ∨ c = s1.heap.objs.size + 2 ∨ c = s1.heap.objs.size + 3 ∨ c = s1.heap.objs.size + 4 := by simpa using hcm
    rcases e' with q | q | q | q | q | q | q | q
    · rw [q]; exact (show (s1.heap.objs.size : Nat) ≤ s1.heap.objs.size + 7 by omega)
    · rw [q]; exact (show (s1.heap.objs.size : Nat) ≤ s1.heap.objs.size + 5 by omega)
    · rw [q]; exact (show (s1.heap.objs.size : Nat) ≤ s1.heap.objs.size + 6 by omega)
    · rw [q]; exact (show (s1.heap.objs.size : Nat) ≤ s1.heap.objs.size by omega)
    · rw [q]; exact (show (s1.heap.objs.size : Nat) ≤ s1.heap.objs.size + 1 by omega)
    · rw [q]; exact (show (s1.heap.objs.size : Nat) ≤ s1.heap.objs.size + 2 by omega)
    · rw [q]; exact (show (s1.heap.objs.size : Nat) ≤ s1.heap.objs.size + 3 by omega)
    · rw [q]; exact (show (s1.heap.objs.size : Nat) ≤ s1.heap.objs.size + 4 by omega)
  exact I1.fpOk hle (I1.hok.fresh hle)
/-- a new tuple of the i-th ones -/
theorem walk_zip5 {K : PySem.W.Frag} {l0 l1 l2 l3 l4 : Addr} {ys0 ys1 ys2 ys3 ys4 : List V} {n : Nat} (n0 : ys0.length = n) (n1 : ys1.length = n) (n2 : ys2.length = n) (n3 : ys3.length = n) (n4 : ys4.length = n) : Walk (It5 K l0 l1 l2 l3 l4) n (fun H => SqL K H l0 ys0 ∧ SqL K H l1 ys1 ∧ SqL K H l2 ys2 ∧ SqL K H l3 ys3 ∧ SqL K H l4 ys4)
    (fun i H v H' => ∃ T x0 x1 x2 x3 x4, v = .ref T ∧ H T = none ∧ H' = upd H T (.tup [x0, x1, x2, x3, x4]) ∧ ys0[i]? = some x0 ∧ ys1[i]? = some x1 ∧ ys2[i]? = some x2 ∧ ys3[i]? = some x3 ∧ ys4[i]? = some x4) := by
  refine ⟨fun i _ hi q => ?_, fun _ q => ⟨ys0, ys1, ys2, ys3, ys4, q.1, q.2.1, q.2.2.1, q.2.2.2.1, q.2.2.2.2, Nat.le_of_eq n0⟩, fun i H v H' _ q y => ?_⟩
  · obtain ⟨q0, q1, q2, q3, q4⟩ := q
    exact ⟨ys0, ys1, ys2, ys3, ys4, ys0[i], ys1[i], ys2[i], ys3[i], ys4[i], q0, q1, q2, q3, q4, by simp [show i < ys0.length by omega], by simp [show i < ys1.length by omega], by simp [show i < ys2.length by omega], by simp [show i < ys3.length by omega], by simp [show i < ys4.length by omega]⟩
  · obtain ⟨q0, q1, q2, q3, q4⟩ := q
    obtain ⟨T, x0, x1, x2, x3, x4, h1, h2, h3, y0, y1, y2, y3, y4⟩ := y
    exact ⟨T, x0, x1, x2, x3, x4, h1, h2, h3, y0 ys0 q0, y1 ys1 q1, y2 ys2 q2, y3 ys3 q3, y4 ys4 q4⟩
end KZ
namespace KP
open PySem L2
/-! ### what a tally counts, purely -/
/-- one list of changes by days: of a sum of a head, of a limit, of a promise's word -/
inductive Cell where
  | ch (n h : Str) | lm (k : Nat) | wd (x : Str)
deriving DecidableEq
structure TSt where
  fa : List (Int × Int)
  pr : List (Str × Str × Int)
  tk : List (Int × Str × Int)
  v : Cell → Int → Int
def TSt.zero : TSt := ⟨[], [], [], fun _ _ => 0⟩
def addV (v : Cell → Int → Int) (c : Cell) (d x : Int) : Cell → Int → Int := fun c' d' => if c' = c ∧ d' = d then v c' d' + x else v c' d'
def TSt.add (s : TSt) (c : Cell) (d x : Int) : TSt := { s with v := addV s.v c d x }
def SUMS : List Str := ["given", "moved", "spent", "promised", "held", "left"]
/-- a row: its number, its date, its entry -/
abbrev R3 := Int × Int × En
def TSt.ws (s : TSt) : List Str := s.pr.map (·.1)
def TSt.hd (s : TSt) (x : Str) : Str := ((s.pr.find? fun q => decide (q.1 = x)).map (·.2.1)).getD ""
def TSt.at_ (s : TSt) (x : Str) : Int := ((s.pr.find? fun q => decide (q.1 = x)).map (·.2.2)).getD 0
def TSt.fault (s : TSt) (n d : Int) : TSt := { s with fa := s.fa ++ [(d, n)] }
/-- f 0 + .. + f (n - 1) -/
def psN (f : Int → Int) (n : Nat) : Int := ((List.range n).map fun i : Nat => f (i : Int)).sum
section
variable (y : Yr)
def counting (h : Str) (d : Int) : List Nat := (List.range y.ls.length).filter fun k => match y.ls[k]? with
  | some r => decide (r.1 ∈ kn y.hs h) && decide (r.2.1 ≤ d ∧ d ≤ r.2.2.1)
  | none => false
def TSt.take (s : TSt) (n d : Int) (h : Str) (c : Int) : TSt := (counting y h d).foldl (fun s k => s.add (.lm k) d c) { s with tk := s.tk ++ [(n, h, c)] }
def TSt.hold (s : TSt) (d u : Int) (h : Str) (c : Int) : TSt := if d < u then (s.add (.ch "held" h) d c).add (.ch "held" h) u (-c) else s
def TSt.give (s : TSt) (d : Int) (h : Str) (c : Int) : TSt := y.rs.foldl (fun s r => if r.1 = h then s.hold d r.2.2.2 h (c * r.2.1 / r.2.2.1) else s) (s.add (.ch "given" h) d c)
def TSt.more (s : TSt) (d : Int) (x : Str) (c : Int) : TSt := (s.add (.wd x) d c).add (.ch "promised" (s.hd x)) d c
/-- what the word's promise has left, as far as gone through -/
def TSt.has (s : TSt) (x : Str) : Int := psN (s.v (.wd x)) (y.days.toNat + 2)
def TSt.promise (s : TSt) (n d : Int) (x h : Str) (c : Int) : TSt := if x ∈ s.ws then s.fault n d else
  (TSt.more { s with pr := s.pr ++ [(x, h, d)], v := fun c' d' => if c' = .wd x then 0 else s.v c' d' } d x c).take y n d h c
def TSt.lessen (s : TSt) (n d : Int) (x : Str) (c : Int) : TSt := if x ∉ s.ws ∨ c > s.has y x then s.fault n d else (s.more d x (-c)).take y n d (s.hd x) (-c)
def TSt.pay (s : TSt) (n d : Int) (x : Str) (c : Int) : TSt := if x ∉ s.ws then s.fault n d else
  (((s.more d x (-(if s.has y x < c then s.has y x else c))).add (.ch "spent" (s.hd x)) d c)).take y n d (s.hd x) (c - (if s.has y x < c then s.has y x else c))
def TSt.step (s : TSt) (r : R3) : TSt := match r.2.2 with
  | .give h c _ => s.give y r.2.1 h c
  | .hold h c u _ => s.hold r.2.1 u h c
  | .move h o c _ => (s.add (.ch "moved" h) r.2.1 (-c)).add (.ch "moved" o) r.2.1 c
  | .spend h c _ => (s.add (.ch "spent" h) r.2.1 c).take y r.1 r.2.1 h c
  | .promise x h c _ => s.promise y r.1 r.2.1 x h c
  | .lessen x c _ => s.lessen y r.1 r.2.1 x c
  | .out x c _ => s.pay y r.1 r.2.1 x c
def run (rows : List R3) : TSt := rows.foldl (TSt.step y) TSt.zero
end
def turnE : En → Int
  | .promise .. => 0 | .lessen .. => 1 | .out .. => 2 | _ => 3
def keyR (r : R3) : List Int := [r.2.1, turnE r.2.2, r.1]
/-- as rows are gone through -/
def gone (rows : List R3) : List R3 := rows.mergeSort (KQ.leK keyR)
/-! ### a tally in the heap, as it is filled -/
def chL (days : Int) (f : Int → Int) : List V := (List.range (days.toNat + 2)).map fun i : Nat => V.int (f (i : Int))
def live (y : Yr) (s : TSt) : Cell → Prop
  | .ch n h => n ∈ SUMS ∧ h ∈ nms y.hs
  | .lm k => k < y.ls.length
  | .wd x => x ∈ s.ws
structure TAd where
  (dx yp rw fl dp dw dt dc ll : Addr)
  dn : Str → Addr
  ad : Cell → Addr
  tp : Str → Addr
  tt : Int → Addr
  rts : List Addr
  fts : List Addr
def tFs (a : TAd) : List (Str × V) := [("year", .ref a.yp), ("rows", .ref a.rw), ("faults", .ref a.fl), ("promises", .ref a.dp), ("word_changes", .ref a.dw), ("takes", .ref a.dt), ("changes", .ref a.dc), ("limit_changes", .ref a.ll)]
/-- a row's tuple -/
def RowT (H : Hp) (t : Addr) (r : R3) : Prop := ∃ u, H t = some (.tup [.int r.1, .int r.2.1, .ref u]) ∧ H u = some (.tup r.2.2.tup)
structure TalB (C Cy : Addr) (a : TAd) (F0 F H : Hp) (p : Addr) (y : Yr) (rows : List R3) (s : TSt) : Prop where
  ins : H p = some (.ins C a.dx (tFs a))
  sub : Same F0 F
  keep : Same F H
  ok : y.ok
  yr : YearAt Cy [] F0 a.yp y
  rws : H a.rw = some (.lst (a.rts.map V.ref))
  rwt : Paired (RowT F0) a.rts rows
  fl : H a.fl = some (.lst (a.fts.map V.ref))
  flt : Paired (fun t (q : Int × Int) => H t = some (.tup [.int q.1, .int q.2])) a.fts s.fa
  dp : H a.dp = some (.dK (s.pr.map fun q => (.inr q.1, .ref (a.tp q.1))))
  dpt : ∀ q ∈ s.pr, H (a.tp q.1) = some (.tup [.str q.2.1, .int q.2.2])
  dw : H a.dw = some (.dK (s.pr.map fun q => (.inr q.1, .ref (a.ad (.wd q.1)))))
  dt : H a.dt = some (.dK (s.tk.map fun q => (.inl q.1, .ref (a.tt q.1))))
  dtt : ∀ q ∈ s.tk, H (a.tt q.1) = some (.tup [.str q.2.1, .int q.2.2])
  dc : H a.dc = some (.dK (SUMS.map fun n => (.inr n, .ref (a.dn n))))
  dn : ∀ n ∈ SUMS, H (a.dn n) = some (.dK ((nms y.hs).map fun h => (.inr h, .ref (a.ad (.ch n h)))))
  ll : H a.ll = some (.lst (((List.range y.ls.length).map fun k => a.ad (.lm k)).map V.ref))
  cell : ∀ c, live y s c → H (a.ad c) = some (.lst (chL y.days (s.v c)))
  inj : ∀ c c', live y s c → live y s c' → a.ad c = a.ad c' → c = c'
  nF : F p = none ∧ F a.fl = none ∧ F a.dp = none ∧ F a.dw = none ∧ F a.dt = none ∧ ∀ c, live y s c → F (a.ad c) = none
  ap : [a.dp, a.dw, a.dt].Nodup ∧ a.dc ∉ [a.dp, a.dw, a.dt] ∧ ∀ n ∈ SUMS, a.dn n ∉ [a.dp, a.dw, a.dt]
  ndw : s.ws.Nodup
  hds : ∀ q ∈ s.pr, q.2.1 ∈ nms y.hs
  ndt : (s.tk.map (·.1)).Nodup
  sz : s.pr.length + s.tk.length + s.fa.length ≤ 1000
  apl : a.rw ≠ a.fl ∧ a.ll ≠ a.fl
def TalW (C Cy : Addr) (F0 F H : Hp) (p : Addr) (y : Yr) (rows : List R3) (s : TSt) : Prop := ∃ a, TalB C Cy a F0 F H p y rows s
theorem chL_len {days : Int} {f : Int → Int} : (chL days f).length = days.toNat + 2 := by unfold chL; rw [List.length_map, List.length_range]
theorem chL_get {days d : Int} {f : Int → Int} (h0 : 0 ≤ d) (h1 : d ≤ days + 1) : (chL days f)[d.toNat]? = some (V.int (f d)) := by
  unfold chL
  rw [List.getElem?_map, List.getElem?_range (by omega)]
  show some (V.int (f (d.toNat : Int))) = _
  rw [show ((d.toNat : Nat) : Int) = d by omega]
theorem chL_set {days d x : Int} {v : Cell → Int → Int} {c : Cell} (h0 : 0 ≤ d) (h1 : d ≤ days + 1) : (chL days (v c)).set d.toNat (V.int (v c d + x)) = chL days (addV v c d x c) := by
  refine List.ext_getElem? fun i => ?_
  unfold chL addV
  rw [List.getElem?_set, List.getElem?_map, List.getElem?_map]
  by_cases hi : i < days.toNat + 2
  · rw [List.getElem?_range hi, List.length_map, List.length_range]
    by_cases e : d.toNat = i
    · have e2 : ((i : Nat) : Int) = d := by omega
      simp only [e, if_pos, hi, Option.map_some, e2]
      simp
    · have e2 : ¬ ((i : Nat) : Int) = d := by omega
      simp [e, e2]
  · rw [List.getElem?_eq_none (by rw [List.length_range]; omega)]
    simp
    omega
theorem chL_ne_refs {days : Int} {f : Int → Int} {xs : List Addr} : chL days f ≠ xs.map V.ref := fun e => by
  unfold chL at e
  have e0 := congrArg (fun l => l[0]?) e
  simp only [List.getElem?_map] at e0
  rw [List.getElem?_range (by omega)] at e0
  cases h : xs[0]? with
  | none => rw [h] at e0; simp at e0
  | some a => rw [h] at e0; simp at e0
theorem add_ws {s : TSt} {c : Cell} {d x : Int} : (s.add c d x).ws = s.ws := rfl
theorem live_add {y : Yr} {s : TSt} {c c' : Cell} {d x : Int} : live y (s.add c d x) c' ↔ live y s c' := by cases c' <;> exact Iff.rfl
theorem addV_ne {v : Cell → Int → Int} {c c' : Cell} {d x : Int} (h : c' ≠ c) : addV v c d x c' = v c' := funext fun d' => by
  unfold addV
  rw [if_neg (fun z => h z.1)]
/-- one list of changes written -/
theorem TalB.wr {C Cy : Addr} {a : TAd} {F0 F H : Hp} {p : Addr} {y : Yr} {rows : List R3} {s : TSt} (T : TalB C Cy a F0 F H p y rows s) {c : Cell} {d x : Int} (hc : live y s c) :
    TalB C Cy a F0 F (upd H (a.ad c) (.lst (chL y.days ((s.add c d x).v c)))) p y rows (s.add c d x) := by
  have hcell := T.cell c hc
  have ne : ∀ {b : Addr} {o : HO}, H b = some o → (∀ f, o ≠ .lst (chL y.days f)) → b ≠ a.ad c := fun e h z => by
    rw [z, hcell] at e
    exact h _ (Option.some.inj e).symm
  have k : ∀ {b : Addr} {o : HO}, H b = some o → (∀ f, o ≠ .lst (chL y.days f)) → upd H (a.ad c) (.lst (chL y.days ((s.add c d x).v c))) b = some o := fun e h => by
    rw [upd_ne (ne e h)]
    exact e
  have kr : ∀ {b : Addr} {xs : List Addr}, H b = some (.lst (xs.map V.ref)) → upd H (a.ad c) (.lst (chL y.days ((s.add c d x).v c))) b = some (.lst (xs.map V.ref)) := fun e => k e fun f z => by
    injection z with z
    exact chL_ne_refs z.symm
  refine ⟨k T.ins (fun f z => nomatch z), T.sub, fun b o e => ?_, T.ok, T.yr, kr T.rws, T.rwt, kr T.fl, L2.Paired.mapP T.flt fun t q e => k e (fun f z => nomatch z), k T.dp (fun f z => nomatch z), fun q hq => k (T.dpt q hq) (fun f z => nomatch z), k T.dw (fun f z => nomatch z), k T.dt (fun f z => nomatch z), fun q hq => k (T.dtt q hq) (fun f z => nomatch z), k T.dc (fun f z => nomatch z), fun n hn => k (T.dn n hn) (fun f z => nomatch z), kr T.ll, ?_, fun c1 c2 h1 h2 => T.inj c1 c2 (live_add.mp h1) (live_add.mp h2), ?_, T.ap, T.ndw, T.hds, T.ndt, T.sz, T.apl⟩
  · rw [upd_ne (fun z => by rw [z, T.nF.2.2.2.2.2 c hc] at e; cases e)]
    exact T.keep b o e
  · intro c' h'
    by_cases e : c' = c
    · rw [e, upd_same]
    · have l' := live_add.mp h'
      rw [upd_ne (fun z => e (T.inj c' c l' hc z)), T.cell c' l']
      show some (HO.lst (chL y.days (s.v c'))) = some (HO.lst (chL y.days (addV s.v c d x c')))
      rw [addV_ne e]
  · obtain ⟨n1, n2, n3, n4, n5, n6⟩ := T.nF
    exact ⟨n1, n2, n3, n4, n5, fun c' h' => n6 c' (live_add.mp h')⟩
section
variable {C Cy : Addr} {a : TAd} {F0 F H H' : Hp} {p : Addr} {y : Yr} {rows : List R3} {s : TSt}
theorem TalB.same (T : TalB C Cy a F0 F H p y rows s) (m : Same H H') : TalB C Cy a F0 F H' p y rows s :=
  ⟨m _ _ T.ins, T.sub, T.keep.trans m, T.ok, T.yr, m _ _ T.rws, T.rwt, m _ _ T.fl, L2.Paired.mapP T.flt fun _ _ e => m _ _ e, m _ _ T.dp, fun q h => m _ _ (T.dpt q h), m _ _ T.dw, m _ _ T.dt, fun q h => m _ _ (T.dtt q h), m _ _ T.dc, fun n h => m _ _ (T.dn n h), m _ _ T.ll, fun c h => m _ _ (T.cell c h), T.inj, T.nF, T.ap, T.ndw, T.hds, T.ndt, T.sz, T.apl⟩
/-- an object more that stays -/
theorem TalB.frame (T : TalB C Cy a F0 F H p y rows s) {L : Addr} {o : HO} (n : H L = none) (e : H' L = some o) (m : Same H H') : TalB C Cy a F0 (upd F L o) H' p y rows s := by
  have T' := T.same m
  have nL : ∀ {b : Addr} {u : HO}, H b = some u → b ≠ L := fun e z => by rw [z, n] at e; cases e
  have FL : F L = none := by
    cases q : F L with
    | none => rfl
    | some u => have := T.keep _ _ q; rw [n] at this; cases this
  have sF : Same F (upd F L o) := fun b u e => by
    rw [upd_ne (fun z => by rw [z, FL] at e; cases e)]
    exact e
  obtain ⟨n1, n2, n3, n4, n5, n6⟩ := T.nF
  refine ⟨T'.ins, T.sub.trans sF, fun b u h => ?_, T.ok, T.yr, T'.rws, T.rwt, T'.fl, T'.flt, T'.dp, T'.dpt, T'.dw, T'.dt, T'.dtt, T'.dc, T'.dn, T'.ll, T'.cell, T.inj, ⟨?_, ?_, ?_, ?_, ?_, fun c h => ?_⟩, T.ap, T.ndw, T.hds, T.ndt, T.sz, T.apl⟩
  · by_cases z : b = L
    · rw [z, upd_same] at h
      rw [z, e]
      exact h
    · rw [upd_ne z] at h
      exact T'.keep b u h
  · rw [upd_ne (nL T.ins)]; exact n1
  · rw [upd_ne (nL T.fl)]; exact n2
  · rw [upd_ne (nL T.dp)]; exact n3
  · rw [upd_ne (nL T.dw)]; exact n4
  · rw [upd_ne (nL T.dt)]; exact n5
  · rw [upd_ne (nL (T.cell c h))]; exact n6 c h
/-- less that stays -/
theorem TalB.less {F1 : Hp} (T : TalB C Cy a F0 F H p y rows s) (h0 : Same F0 F1) (h1 : Same F1 F) : TalB C Cy a F0 F1 H p y rows s := by
  have nn : ∀ {b : Addr}, F b = none → F1 b = none := fun {b} n => by
    cases q : F1 b with
    | none => rfl
    | some u => rw [h1 _ _ q] at n; cases n
  obtain ⟨n1, n2, n3, n4, n5, n6⟩ := T.nF
  exact ⟨T.ins, h0, h1.trans T.keep, T.ok, T.yr, T.rws, T.rwt, T.fl, T.flt, T.dp, T.dpt, T.dw, T.dt, T.dtt, T.dc, T.dn, T.ll, T.cell, T.inj, ⟨nn n1, nn n2, nn n3, nn n4, nn n5, fun c h => nn (n6 c h)⟩, T.ap, T.ndw, T.hds, T.ndt, T.sz, T.apl⟩
theorem upd_F (T : TalB C Cy a F0 F H p y rows s) {L : Addr} {o : HO} (n : H L = none) : Same F (upd F L o) := fun b u e => by
  have : b ≠ L := fun z => by
    have := T.keep _ _ e
    rw [z, n] at this
    cases this
  rw [upd_ne this]
  exact e
/-- a row's number, its head and what limits count -/
theorem TalB.put_take (T : TalB C Cy a F0 F H p y rows s) {n c : Int} {h : Str} {t : Addr} (ht : H t = some (.tup [.str h, .int c])) (hn : n ∉ s.tk.map (·.1)) (sz : s.pr.length + (s.tk.length + 1) + s.fa.length ≤ 1000) :
    TalB C Cy { a with tt := fun m => if m = n then t else a.tt m } F0 F (upd H a.dt (.dK (putK (s.tk.map fun q => ((Sum.inl q.1 : Key), V.ref (a.tt q.1))) (.inl n) (.ref t)))) p y rows { s with tk := s.tk ++ [(n, h, c)] } := by
  have nt : ∀ {b : Addr} {o : HO}, H b = some o → (∀ kvs, o ≠ .dK kvs) → upd H a.dt (.dK (putK (s.tk.map fun q => ((Sum.inl q.1 : Key), V.ref (a.tt q.1))) (.inl n) (.ref t))) b = some o := fun {b o} e hne => by
    rw [upd_ne (fun z => by rw [z, T.dt] at e; exact hne _ (Option.some.inj e).symm)]
    exact e
  have nd : ∀ {b : Addr} {o : HO}, H b = some o → b ≠ a.dt → upd H a.dt (.dK (putK (s.tk.map fun q => ((Sum.inl q.1 : Key), V.ref (a.tt q.1))) (.inl n) (.ref t))) b = some o := fun e z => by
    rw [upd_ne z]
    exact e
  obtain ⟨n1, n2, n3, n4, n5, n6⟩ := T.nF
  obtain ⟨a1, a2, a3⟩ := T.ap
  simp only [List.nodup_cons, List.mem_cons, List.not_mem_nil, or_false, not_or, not_false_eq_true, List.nodup_nil, and_true] at a1 a2 a3
  have tt : ∀ q ∈ s.tk, (if q.1 = n then t else a.tt q.1) = a.tt q.1 := fun q hq => if_neg fun z => hn (List.mem_map.mpr ⟨q, hq, z⟩)
  refine ⟨nt T.ins (fun _ z => nomatch z), T.sub, fun b o e => ?_, T.ok, T.yr, nt T.rws (fun _ z => nomatch z), T.rwt, nt T.fl (fun _ z => nomatch z), L2.Paired.mapP T.flt fun _ _ e => nt e (fun _ z => nomatch z), nd T.dp a1.1.2, fun q hq => nt (T.dpt q hq) (fun _ z => nomatch z), nd T.dw a1.2, ?_, ?_, nd T.dc a2.2.2, fun n hn => nd (T.dn n hn) (a3 n hn).2.2, nt T.ll (fun _ z => nomatch z), fun c' h' => nt (T.cell c' (by cases c' <;> exact h')) (fun _ z => nomatch z), fun c1 c2 l1 l2 => T.inj c1 c2 (by cases c1 <;> exact l1) (by cases c2 <;> exact l2), ⟨n1, n2, n3, n4, n5, fun c' h' => n6 c' (by cases c' <;> exact h')⟩, T.ap, T.ndw, T.hds, ?_, ?_, T.apl⟩
  · rw [upd_ne (fun z => by rw [z, n5] at e; cases e)]
    exact T.keep b o e
  · show upd H a.dt _ a.dt = _
    rw [upd_same]
    congr 2
    show putK _ _ _ = (s.tk ++ [(n, h, c)]).map fun q => ((Sum.inl q.1 : Key), V.ref (if q.1 = n then t else a.tt q.1))
    rw [List.map_append]
    have e1 : (s.tk.map fun q => ((Sum.inl q.1 : Key), V.ref (if q.1 = n then t else a.tt q.1))) = s.tk.map fun q => ((Sum.inl q.1 : Key), V.ref (a.tt q.1)) := List.map_congr_left fun q hq => by rw [tt q hq]
    rw [e1]
    unfold putK
    rw [if_neg]
    · show _ = _ ++ [((Sum.inl n : Key), V.ref (if n = n then t else a.tt n))]
      rw [if_pos rfl]
    · intro z
      obtain ⟨q, hq, e⟩ := List.any_eq_true.mp z
      obtain ⟨r, hr, rfl⟩ := List.mem_map.mp hq
      have e := of_decide_eq_true e
      injection e with e
      exact hn (List.mem_map.mpr ⟨r, hr, e⟩)
  · intro q hq
    rcases List.mem_append.mp hq with hq | hq
    · show upd H a.dt _ (if q.1 = n then t else a.tt q.1) = _
      rw [tt q hq]
      exact nt (T.dtt q hq) (fun _ z => nomatch z)
    · rw [List.mem_singleton.mp hq]
      show upd H a.dt _ (if n = n then t else a.tt n) = _
      rw [if_pos rfl]
      exact nt ht (fun _ z => nomatch z)
  · show ((s.tk ++ [(n, h, c)]).map (·.1)).Nodup
    rw [List.map_append, List.nodup_append]
    refine ⟨T.ndt, by simp, fun x hx z hz => ?_⟩
    rw [List.map_singleton, List.mem_singleton] at hz
    rw [hz]
    intro e
    have e : x = n := e
    rw [e] at hx
    exact hn hx
  · show s.pr.length + (s.tk ++ [(n, h, c)]).length + s.fa.length ≤ 1000
    rw [List.length_append]
    exact sz
end
end KP
/-! a head by facts: the top is run once in the kernel, nothing of it is written out -/
namespace KH
open PySem PySem.Spec PyProof.Rows L2 He
/-- a list in hand before it is used -/
def fcL {α β : Type} (l : List α) (k : List α → β) : β := match l with
  | [] => k []
  | x :: r => fcL r fun r' => k (x :: r')
theorem fcL_eq {α β : Type} : ∀ (l : List α) (k : List α → β), fcL l k = k l
  | [], _ => rfl
  | x :: r, k => by
    show fcL r (fun r' => k (x :: r')) = _
    rw [fcL_eq r]
abbrev Xf : Type := PySem.W.Frag → Bool
def defB (K : PySem.W.Frag) (d : FnD) : Bool := (Fa.code d.at_ d.qual).ok K && (PySem.W.keepIn K (.ref (fAd K d.at_)) && (match d.at_.2 with
  | none => eqO (PySem.W.nsIn K mainGlobals d.at_.1) (some (some (.ref (fAd K d.at_))))
  | some m => eqO (PySem.W.findIn K (.ref (ga K d.at_.1)) m) (some (some (.ref (fAd K d.at_)))) && PySem.W.isFn K (.ref (fAd K d.at_))))
abbrev AlX : Type := Bool × List FnV
def obsX (fa : List Fa) (xs : List Xf) (fn : List FnD) (K : PySem.W.Frag) : AlX := ((fa.all fun f => f.ok K) && ((xs.all fun f => f K) && fn.all fun d => defB K d), fn.map fun d => fnObs K d.at_)
def valX (fn : List FnD) : AlX := (true, fn.map FnD.val)
def SaysX (fa : List Fa) (xs : List Xf) (fn : List FnD) (K : PySem.W.Frag) : Prop := obsX fa xs fn K = valX fn
def obsXG (as : List Addr) (fa : List Fa) (xs : List Xf) (fn : List FnD) (g : Addr → Option Obj) : AlX := fcL (frG g as) (obsX fa xs fn)
def hookX (as : List Addr) (fa : List Fa) (xs : List Xf) (fn : List FnD) : PySem.W.Hook where
  α := AlX
  obs := fun s => obsXG as fa xs fn s.heap.get?
  val := fun _ => valX fn
  says := fun _ h => ∃ K : PySem.W.Frag, K.In h ∧ SaysX fa xs fn K
  of := fun _ _ e => ⟨_, frG_in, (fcL_eq _ (obsX fa xs fn)).symm.trans e⟩
  keeps := fun _ _ _ ⟨K, hK, c⟩ k => ⟨K, PySem.W.Frag.In.keeps hK k, c⟩
theorem obsXG_eq {as : List Addr} {fa : List Fa} {xs : List Xf} {fn : List FnD} {g : Addr → Option Obj} {s : Shared} (h : ∀ a, g a = s.heap.get? a) : obsXG as fa xs fn g = (hookX as fa xs fn).obs s := by
  have e : g = s.heap.get? := funext h
  rw [e] <;> rfl
section
variable {fa : List Fa} {xs : List Xf} {fn : List FnD} {K : PySem.W.Frag} {h : Heap} {mg : Str → Option Value}
theorem SaysX.all (c : SaysX fa xs fn K) : ((fa.all fun f => f.ok K) && ((xs.all fun f => f K) && fn.all fun d => defB K d)) = true := congrArg (fun z : AlX => z.1) c
theorem SaysX.fact (c : SaysX fa xs fn K) (i : Nat) {f : Fa} (h : fa[i]? = some f) : f.ok K = true := List.all_eq_true.mp (ba c.all).1 f (List.mem_of_getElem? h)
theorem SaysX.xf (c : SaysX fa xs fn K) (i : Nat) {f : Xf} (h : xs[i]? = some f) : f K = true := List.all_eq_true.mp (ba (ba c.all).2).1 f (List.mem_of_getElem? h)
theorem SaysX.de (c : SaysX fa xs fn K) (i : Nat) {d : FnD} (h : fn[i]? = some d) : defB K d = true := List.all_eq_true.mp (ba (ba c.all).2).2 d (List.mem_of_getElem? h)
theorem SaysX.def_ (c : SaysX fa xs fn K) (i : Nat) {d : FnD} (h : fn[i]? = some d) :
    ∃ oc od osl kV doc pm an cdv ct, K.lookup (fAd K d.at_) = some ⟨oc, od, .func (PySem.W.fnOf d.name d.qual d.params d.body d.scope .none kV doc pm an cdv ct), osl⟩ ∧ PySem.W.codeIn K cdv d.qual = true := by
  have e : fn.map (fun d => fnObs K d.at_) = fn.map FnD.val := congrArg (fun z : AlX => z.2) c
  have e2 : (fn.map fun d => fnObs K d.at_)[i]? = (fn.map FnD.val)[i]? := by rw [e]
  rw [List.getElem?_map, List.getElem?_map, h] at e2
  exact fn_ok (Option.some.inj e2) (ba (c.de i h)).1
theorem SaysX.keep (c : SaysX fa xs fn K) (i : Nat) {d : FnD} (h : fn[i]? = some d) : PySem.W.keepIn K (.ref (fAd K d.at_)) = true := (ba (ba (c.de i h)).2).1
def mkD (x : Str) (st : Stmt) : FnD := ⟨(x, none), x, x, defArgs st, defBody st, defScope st⟩
def mkM (C m q : Str) (st : Stmt) : FnD := ⟨(C, some m), m, q, defArgs st, defBody st, defScope st⟩
theorem SaysX.glo (c : SaysX fa xs fn K) (i : Nat) {x : Str} {st : Stmt} (h : fn[i]? = some (mkD x st)) : PySem.W.nsIn K mainGlobals x = some (some (.ref (ga K x))) := eqO_ok (ba (ba (c.de i h)).2).2
theorem SaysX.met (c : SaysX fa xs fn K) (i : Nat) {C m q : Str} {st : Stmt} (h : fn[i]? = some (mkM C m q st)) : PySem.W.findIn K (.ref (ga K C)) m = some (some (.ref (ma K (ga K C) m))) ∧ PySem.W.isFn K (.ref (ma K (ga K C) m)) = true := by
  obtain ⟨h1, h2⟩ := ba (ba (ba (c.de i h)).2).2
  exact ⟨eqO_ok h1, h2⟩
/-- a def of the top -/
theorem SaysX.fun_ (c : SaysX fa xs fn K) (i : Nat) {x : Str} {st : Stmt} (h : fn[i]? = some (mkD x st)) : ∃ kV dc pm an cd ct, Fun K x x st (ga K x) (PySem.W.fnOf x x (defArgs st) (defBody st) (defScope st) .none kV dc pm an cd ct) := by
  obtain ⟨oc, od, osl, kV, doc, pm, an, cdv, ct, l, cd⟩ := c.def_ i h
  exact ⟨kV, doc, pm, an, cdv, ct, fun_mk l cd (c.keep i h)⟩
theorem SaysX.funM (c : SaysX fa xs fn K) (i : Nat) {C m q : Str} {st : Stmt} (h : fn[i]? = some (mkM C m q st)) : ∃ kV dc pm an cd ct, Fun K m q st (ma K (ga K C) m) (PySem.W.fnOf m q (defArgs st) (defBody st) (defScope st) .none kV dc pm an cd ct) := by
  obtain ⟨oc, od, osl, kV, doc, pm, an, cdv, ct, l, cd⟩ := c.def_ i h
  exact ⟨kV, doc, pm, an, cdv, ct, fun_mk l cd (c.keep i h)⟩
theorem yes {a : Bool} (h : a = true) : a = true := h
/-- facts of one's own: an equation that can be decided -/
theorem SaysX.eq {α : Type} [DecidableEq α] (c : SaysX fa xs fn K) (i : Nat) {f g : PySem.W.Frag → α} (h : xs[i]? = some fun K => decide (f K = g K)) : f K = g K := of_decide_eq_true (c.xf i h)
end
end KH
/-! a head by facts, with tables -/
namespace KH
open PySem PySem.Spec PyProof.Rows L2 He
abbrev AlXT : Type := AlX × List (Option (List (Option (Str × Int))))
def obsXT (fa : List Fa) (xs : List Xf) (fn : List FnD) (ts : List Tab) (K : PySem.W.Frag) : AlXT := (obsX fa xs fn K, ts.map fun t => dicW K (t.1 K))
def valXT (fn : List FnD) (ts : List Tab) (w : World) : AlXT := (valX fn, ts.map fun t => some (keysIn w.params t.2))
def SaysXT (fa : List Fa) (xs : List Xf) (fn : List FnD) (ts : List Tab) (w : World) (K : PySem.W.Frag) : Prop := obsXT fa xs fn ts K = valXT fn ts w
def obsXTG (as : List Addr) (fa : List Fa) (xs : List Xf) (fn : List FnD) (ts : List Tab) (g : Addr → Option Obj) : AlXT := fcL (frG g as) (obsXT fa xs fn ts)
def hookXT (as : List Addr) (fa : List Fa) (xs : List Xf) (fn : List FnD) (ts : List Tab) : PySem.W.Hook where
  α := AlXT
  obs := fun s => obsXTG as fa xs fn ts s.heap.get?
  val := fun w => valXT fn ts w
  says := fun w h => ∃ K : PySem.W.Frag, K.In h ∧ SaysXT fa xs fn ts w K
  of := fun _ _ e => ⟨_, frG_in, (fcL_eq _ (obsXT fa xs fn ts)).symm.trans e⟩
  keeps := fun _ _ _ ⟨K, hK, c⟩ k => ⟨K, PySem.W.Frag.In.keeps hK k, c⟩
theorem obsXTG_eq {as : List Addr} {fa : List Fa} {xs : List Xf} {fn : List FnD} {ts : List Tab} {g : Addr → Option Obj} {s : Shared} (h : ∀ a, g a = s.heap.get? a) : obsXTG as fa xs fn ts g = (hookXT as fa xs fn ts).obs s := by
  have e : g = s.heap.get? := funext h
  rw [e] <;> rfl
section
variable {fa : List Fa} {xs : List Xf} {fn : List FnD} {ts : List Tab} {w : World} {K : PySem.W.Frag}
theorem SaysXT.x (c : SaysXT fa xs fn ts w K) : SaysX fa xs fn K := congrArg (fun z : AlXT => z.1) c
theorem SaysXT.tab (c : SaysXT fa xs fn ts w K) (i : Nat) {t : Tab} (h : ts[i]? = some t := by rfl) : ∃ es n, KDict K w (t.1 K) es n := by
  have e : ts.map (fun t => dicW K (t.1 K)) = ts.map fun t => some (keysIn w.params t.2) := congrArg (fun z : AlXT => z.2) c
  have e2 : (ts.map fun t => dicW K (t.1 K))[i]? = (ts.map fun t => some (keysIn w.params t.2))[i]? := by rw [e]
  rw [List.getElem?_map, List.getElem?_map, h] at e2
  exact dicW_ok (Option.some.inj e2)
end
/-- a number in a table of the top -/
def nsI (K : PySem.W.Frag) (x k : Str) (i : Int) : Bool := match PySem.W.nsIn K (ga K x) k with
  | some (some (.int j _)) => decide (j = i)
  | _ => false
theorem nsI_ok {K : PySem.W.Frag} {x k : Str} {i : Int} (h : nsI K x k i = true) : ∃ t, PySem.W.nsIn K (ga K x) k = some (some (.int i t)) := by
  unfold nsI at h
  split at h
  · rename_i j t e
    rw [of_decide_eq_true h] at e
    exact ⟨t, e⟩
  · cases h
/-- a tuple of texts of the top -/
def strO : Value → Option Str
  | .str x _ => some x
  | _ => none
def tupS (K : PySem.W.Frag) (x : Str) (zs : List Str) : Bool := match K.lookup (ga K x) with
  | some ⟨.type c, _, .seq its _, _⟩ => decide (c = "tuple") && (decide (its.toList.map strO = zs.map some) && decide (its.size ≤ 100))
  | _ => false
theorem vals_strs : ∀ {zs : List Str} {us : List Value}, us.map strO = zs.map some → Vals (zs.map V.str) us
  | [], [], _ => .nil
  | [], u :: us, h => by simp at h
  | z :: zs, [], h => by simp at h
  | z :: zs, u :: us, h => by
    rw [List.map_cons, List.map_cons] at h
    injection h with h1 h2
    refine .cons ?_ (vals_strs h2)
    cases u with
    | str y t =>
      have : some y = some z := h1
      injection this with this
      rw [this]
      exact ⟨t, rfl⟩
    | _ => cases h1
theorem tupS_ok {K : PySem.W.Frag} {x : Str} {zs : List Str} (h : tupS K x zs = true) (H : Hp) : SqT K H (ga K x) (zs.map V.str) := by
  unfold tupS at h
  split at h
  · rename_i c od its n osl e
    rw [Bool.and_eq_true, Bool.and_eq_true] at h
    obtain ⟨h1, h2, h3⟩ := h
    refine .inr ⟨_, its, n, e, ?_, rfl, ?_, vals_strs (of_decide_eq_true h2)⟩
    · show Value.type c = .type "tuple"
      rw [of_decide_eq_true h1]
    · have := of_decide_eq_true h3
      rw [sizeLine_eq]
      omega
  · cases h
end KH
/-! a head by facts in parts: the top is run once for each part, so that no run holds all of them -/
namespace KH
open PySem PySem.Spec PyProof.Rows L2 He
theorem obs_join {as : List Addr} {fa : List Fa} {xs : List Xf} {f1 f2 : List FnD} {ts : List Tab} {g : Addr → Option Obj} {w : World} (h1 : obsXTG as fa xs [] ts g = valXT [] ts w) (h2 : obsXTG as [] [] f1 [] g = valXT f1 [] w) (h3 : obsXTG as [] [] f2 [] g = valXT f2 [] w) : obsXTG as fa xs (f1 ++ f2) ts g = valXT (f1 ++ f2) ts w := by
  unfold obsXTG at h1 h2 h3 ⊢
  rw [fcL_eq] at h1 h2 h3 ⊢
  generalize frG g as = K at h1 h2 h3 ⊢
  have a1 : ((fa.all fun f => f.ok K) && ((xs.all fun f => f K) && ([] : List FnD).all fun d => defB K d)) = true := congrArg (fun z : AlXT => z.1.1) h1
  have t1 : ts.map (fun t => dicW K (t.1 K)) = ts.map fun t => some (keysIn w.params t.2) := congrArg (fun z : AlXT => z.2) h1
  have a2 : (([] : List Fa).all (fun f => f.ok K) && (([] : List Xf).all (fun f => f K) && f1.all fun d => defB K d)) = true := congrArg (fun z : AlXT => z.1.1) h2
  have b2 : f1.map (fun d => fnObs K d.at_) = f1.map FnD.val := congrArg (fun z : AlXT => z.1.2) h2
  have a3 : (([] : List Fa).all (fun f => f.ok K) && (([] : List Xf).all (fun f => f K) && f2.all fun d => defB K d)) = true := congrArg (fun z : AlXT => z.1.1) h3
  have b3 : f2.map (fun d => fnObs K d.at_) = f2.map FnD.val := congrArg (fun z : AlXT => z.1.2) h3
  show (((fa.all fun f => f.ok K) && ((xs.all fun f => f K) && (f1 ++ f2).all fun d => defB K d), (f1 ++ f2).map fun d => fnObs K d.at_), ts.map fun t => dicW K (t.1 K)) = ((true, (f1 ++ f2).map FnD.val), ts.map fun t => some (keysIn w.params t.2))
  rw [t1, List.map_append, List.map_append, b2, b3, List.all_append]
  have c1 := (Bool.and_eq_true_iff.mp a1).1
  have c2 := (Bool.and_eq_true_iff.mp (Bool.and_eq_true_iff.mp a1).2).1
  have c3 : (f1.all fun d => defB K d) = true := (Bool.and_eq_true_iff.mp (Bool.and_eq_true_iff.mp a2).2).2
  have c4 : (f2.all fun d => defB K d) = true := (Bool.and_eq_true_iff.mp (Bool.and_eq_true_iff.mp a3).2).2
  rw [c1, c2, c3, c4]
  rfl
theorem obs_two {as : List Addr} {f1 f2 : List FnD} {g : Addr → Option Obj} {w : World} (h2 : obsXTG as [] [] f1 [] g = valXT f1 [] w) (h3 : obsXTG as [] [] f2 [] g = valXT f2 [] w) : obsXTG as [] [] (f1 ++ f2) [] g = valXT (f1 ++ f2) [] w := by
  refine obs_join ?_ h2 h3
  unfold obsXTG
  rw [fcL_eq]
  rfl
theorem run_join {S A B C D : Type} (R : Option S) {f : S → A} {g : S → B} {o1 o2 o3 : S → C} {o : S → D} {a : A} {b : B} {v1 v2 v3 : C} {v : D} (hj : ∀ s, o1 s = v1 → o2 s = v2 → o3 s = v3 → o s = v) (e1 : R.map (fun s => (f s, g s, o1 s)) = some (a, b, v1)) (e2 : R.map (fun s => (f s, g s, o2 s)) = some (a, b, v2)) (e3 : R.map (fun s => (f s, g s, o3 s)) = some (a, b, v3)) : R.map (fun s => (f s, g s, o s)) = some (a, b, v) := by
  cases R with
  | none => cases e1
  | some s =>
    have e1 : (f s, g s, o1 s) = (a, b, v1) := Option.some.inj e1
    have e2 : (f s, g s, o2 s) = (a, b, v2) := Option.some.inj e2
    have e3 : (f s, g s, o3 s) = (a, b, v3) := Option.some.inj e3
    have p1 : f s = a := congrArg (fun z : A × B × C => z.1) e1
    have p2 : g s = b := congrArg (fun z : A × B × C => z.2.1) e1
    have q1 : o1 s = v1 := congrArg (fun z : A × B × C => z.2.2) e1
    have q2 : o2 s = v2 := congrArg (fun z : A × B × C => z.2.2) e2
    have q3 : o3 s = v3 := congrArg (fun z : A × B × C => z.2.2) e3
    show some (f s, g s, o s) = some (a, b, v)
    rw [p1, p2, hj s q1 q2 q3]
end KH
set_option maxHeartbeats 0
namespace KP
open PySem PySem.Spec PyProof.Rows L2
def hFa : List He.Fa := ([.free "isinstance",
  .free "bool",
  .free "int",
  .free "str",
  .free "tuple",
  .free "len",
  .free "all",
  .free "range",
  .str "LETTERS" letters,
  .int "MOST_LETTERS" 8,
  .free "list",
  .free "dict",
  .int "MOST_DAYS" 30,
  .int "MOST_HEADS" 8,
  .int "MOST_LIMITS" 6,
  .int "MOST_RULES" 4,
  .int "MOST_LIMIT" 1000000000000000,
  .int "MOST_WHOLE" 1000,
  .int "MOST_COINS" 1000000000000,
  .int "LEAST_UNTIL" 2,
  .int "MOST_UNTIL" 31,
  .free "max",
  .free "min",
  .free "sum",
  .free "zip",
  .free "enumerate",
  .free "sorted",
  .cls "Year",
  .glo "Year",
  .noat "Year" "days"] : List He.Fa) ++ ([.noat "Year" "heads",
  .noat "Year" "limits",
  .noat "Year" "rules",
  .cls "Tally",
  .glo "Tally",
  .noat "Tally" "year",
  .noat "Tally" "rows",
  .noat "Tally" "faults",
  .noat "Tally" "promises",
  .noat "Tally" "word_changes",
  .noat "Tally" "takes",
  .noat "Tally" "changes",
  .noat "Tally" "limit_changes",
  .noat "Tally" "day_takes",
  .noat "Tally" "sums_by_head",
  .cls "Dated",
  .glo "Dated",
  .noat "Dated" "tally",
  .noat "Dated" "first_breach",
  .glo "TURNS",
  .int "LAST_TURN" 3,
  .glo "SUMS",
  .glo "Entry",
  .int "MOST_ROWS" 40,
  .cls "Give",
  .cls "Hold",
  .cls "Move",
  .cls "Promise",
  .glo "Give",
  .noat "Give" "head"] : List He.Fa) ++ ([.noat "Give" "coins",
  .noat "Give" "note",
  .glo "Hold",
  .noat "Hold" "head",
  .noat "Hold" "coins",
  .noat "Hold" "until",
  .noat "Hold" "note",
  .glo "Move",
  .noat "Move" "head",
  .noat "Move" "other",
  .noat "Move" "coins",
  .noat "Move" "note",
  .glo "Promise",
  .noat "Promise" "word",
  .noat "Promise" "head",
  .noat "Promise" "coins",
  .noat "Promise" "note",
  .glo "NoYear",
  .glo "NoHead",
  .glo "NoEntry",
  .glo "NoDay",
  .glo "NoNumber",
  .glo "NoPromise",
  .glo "Taken",
  .glo "Full",
  .glo "NoText",
  .glo "NoRow",
  .glo "Passed",
  .glo "Leaned",
  .free "ValueError"] : List He.Fa) ++ ([.glo "PurseError",
  .exc "NoDay",
  .exc "NoNumber",
  .exc "NoPromise",
  .exc "NoEntry"] : List He.Fa)
def hXs : List KH.Xf := ([fun K => He.eqO (PySem.W.nsIn K (He.ga K "TURNS") "give") (some none),
  fun K => He.eqO (PySem.W.nsIn K (He.ga K "TURNS") "hold") (some none),
  fun K => He.eqO (PySem.W.nsIn K (He.ga K "TURNS") "move") (some none),
  fun K => He.eqO (PySem.W.nsIn K (He.ga K "TURNS") "spend") (some none),
  fun K => KH.nsI K "TURNS" "promise" 0,
  fun K => KH.nsI K "TURNS" "lessen" 1,
  fun K => KH.nsI K "TURNS" "out" 2,
  fun K => KH.tupS K "SUMS" SUMS,
  fun K => decide (PySem.W.findIn K (.ref (He.ga K "Give")) "__class__" = some (some (.builtin "object.__class__"))),
  fun K => decide (PySem.W.specialIn K (.builtin "object.__class__") "__get__" = some (some (.builtin "getset_descriptor.__get__"))),
  fun K => decide (PySem.W.takesIn K (.builtin "object.__class__") = some true),
  fun K => decide (PySem.W.mroIn K (He.ga K "Give") (.type "object") = some true),
  fun K => decide (PySem.W.kitOne K (.ref (He.ga K "Give")) (.ref (He.ga K "Entry")) = some true),
  fun K => decide (PySem.W.findIn K (.ref (He.ga K "Hold")) "__class__" = some (some (.builtin "object.__class__"))),
  fun K => decide (PySem.W.mroIn K (He.ga K "Hold") (.type "object") = some true),
  fun K => decide (PySem.W.kitOne K (.ref (He.ga K "Hold")) (.ref (He.ga K "Entry")) = some true),
  fun K => decide (PySem.W.findIn K (.ref (He.ga K "Move")) "__class__" = some (some (.builtin "object.__class__"))),
  fun K => decide (PySem.W.mroIn K (He.ga K "Move") (.type "object") = some true),
  fun K => decide (PySem.W.kitOne K (.ref (He.ga K "Move")) (.ref (He.ga K "Entry")) = some true),
  fun K => decide (PySem.W.findIn K (.ref (He.ga K "Promise")) "__class__" = some (some (.builtin "object.__class__"))),
  fun K => decide (PySem.W.mroIn K (He.ga K "Promise") (.type "object") = some true),
  fun K => decide (PySem.W.kitOne K (.ref (He.ga K "Promise")) (.ref (He.ga K "Entry")) = some true),
  fun K => PySem.W.makesIn K (He.ga K "Give") && PySem.W.keepIn K (.ref (He.ga K "Give")),
  fun K => PySem.W.makesIn K (He.ga K "Hold") && PySem.W.keepIn K (.ref (He.ga K "Hold")),
  fun K => PySem.W.makesIn K (He.ga K "Move") && PySem.W.keepIn K (.ref (He.ga K "Move")),
  fun K => PySem.W.makesIn K (He.ga K "Promise") && PySem.W.keepIn K (.ref (He.ga K "Promise")),
  fun K => decide (PySem.W.kitOne K (.ref (He.ga K "NoEntry")) (.ref (He.ga K "NoYear")) = some false),
  fun K => decide (PySem.W.kitOne K (.ref (He.ga K "NoEntry")) (.ref (He.ga K "NoHead")) = some false),
  fun K => decide (PySem.W.kitOne K (.ref (He.ga K "NoEntry")) (.ref (He.ga K "NoEntry")) = some true),
  fun K => decide (PySem.W.kitOne K (.ref (He.ga K "NoEntry")) (.ref (He.ga K "NoDay")) = some false)] : List KH.Xf) ++ ([fun K => decide (PySem.W.kitOne K (.ref (He.ga K "NoEntry")) (.ref (He.ga K "NoNumber")) = some false),
  fun K => decide (PySem.W.kitOne K (.ref (He.ga K "NoEntry")) (.ref (He.ga K "NoPromise")) = some false),
  fun K => decide (PySem.W.kitOne K (.ref (He.ga K "NoEntry")) (.ref (He.ga K "Taken")) = some false),
  fun K => decide (PySem.W.kitOne K (.ref (He.ga K "NoEntry")) (.ref (He.ga K "Full")) = some false),
  fun K => decide (PySem.W.kitOne K (.ref (He.ga K "NoEntry")) (.ref (He.ga K "NoText")) = some false),
  fun K => decide (PySem.W.kitOne K (.ref (He.ga K "NoEntry")) (.ref (He.ga K "NoRow")) = some false),
  fun K => decide (PySem.W.kitOne K (.ref (He.ga K "NoEntry")) (.ref (He.ga K "Passed")) = some false),
  fun K => decide (PySem.W.kitOne K (.ref (He.ga K "NoEntry")) (.ref (He.ga K "Leaned")) = some false),
  fun K => decide (PySem.W.kitOne K (.ref (He.ga K "NoEntry")) (.type "ValueError") = some true),
  fun K => decide (PySem.W.findIn K (.ref (He.ga K "NoEntry")) "__getattribute__" = some (some (.builtin "BaseException.__getattribute__"))),
  fun K => decide (PySem.W.findIn K (.ref (He.ga K "NoEntry")) "__getattr__" = some none),
  fun K => decide (PySem.W.subIn K (.ref (He.ga K "NoEntry")) (.type "BaseException") = some true),
  fun K => PySem.W.hasDictIn K (He.ga K "NoEntry"),
  fun K => decide (PySem.W.findIn K (.ref (He.ga K "NoEntry")) "__class__" = some (some (.builtin "object.__class__"))),
  fun K => decide (PySem.W.mroIn K (He.ga K "NoEntry") (.type "object") = some true),
  fun K => decide (PySem.W.exmOne K (.ref (He.ga K "NoEntry")) (.ref (He.ga K "PurseError")) = some true),
  fun K => decide (PySem.W.kitOne K (.ref (He.ga K "Give")) (.type "bool") = some false),
  fun K => decide (PySem.W.kitOne K (.ref (He.ga K "Give")) (.type "int") = some false),
  fun K => decide (PySem.W.kitOne K (.ref (He.ga K "Give")) (.type "tuple") = some false),
  fun K => decide (PySem.W.kitOne K (.type "str") (.ref (He.ga K "Entry")) = some false),
  fun K => decide (PySem.W.kitOne K (.type "NoneType") (.ref (He.ga K "Entry")) = some false),
  fun K => decide (PySem.W.kitOne K (.type "int") (.ref (He.ga K "Entry")) = some false),
  fun K => decide (PySem.W.kitOne K (.type "bool") (.ref (He.ga K "Entry")) = some false),
  fun K => decide (PySem.W.kitOne K (.type "tuple") (.ref (He.ga K "Entry")) = some false),
  fun K => PySem.W.makesIn K (He.ga K "Year") && PySem.W.keepIn K (.ref (He.ga K "Year")),
  fun K => PySem.W.makesIn K (He.ga K "Tally") && PySem.W.keepIn K (.ref (He.ga K "Tally")),
  fun K => PySem.W.makesIn K (He.ga K "Dated") && PySem.W.keepIn K (.ref (He.ga K "Dated"))] : List KH.Xf)
def hFnB : List He.FnD := ([KH.mkM "Year" "names" "Year.names" (inClass (top 59) 1),
  KH.mkM "Give" "__init__" "Give.__init__" (inClass (top 31) 0),
  KH.mkM "Give" "told" "Give.told" (inClass (top 31) 1),
  KH.mkM "Give" "fits" "Give.fits" (inClass (top 31) 2),
  KH.mkM "Hold" "__init__" "Hold.__init__" (inClass (top 32) 0),
  KH.mkM "Hold" "told" "Hold.told" (inClass (top 32) 1),
  KH.mkM "Hold" "fits" "Hold.fits" (inClass (top 32) 2),
  KH.mkM "Move" "__init__" "Move.__init__" (inClass (top 33) 0),
  KH.mkM "Move" "told" "Move.told" (inClass (top 33) 1),
  KH.mkM "Move" "fits" "Move.fits" (inClass (top 33) 2),
  KH.mkM "Promise" "__init__" "Promise.__init__" (inClass (top 34) 0),
  KH.mkM "Promise" "told" "Promise.told" (inClass (top 34) 1),
  KH.mkM "Promise" "fits" "Promise.fits" (inClass (top 34) 2),
  KH.mkD "_law_well" (top 63),
  KH.mkD "_law_cell_at" (top 61),
  KH.mkD "_law_mixed" (top 62),
  KH.mkD "_law_draw" (top 64),
  KH.mkD "_law_names" (top 65),
  KH.mkD "_law_heads" (top 67),
  KH.mkD "is_whole" (top 18),
  KH.mkD "is_word" (top 19),
  KH.mkD "is_note" (top 20),
  KH.mkD "check_fields" (top 29),
  KH.mkD "_law_row" (top 68),
  KH.mkD "_law_none" (top 69),
  KH.mkD "is_list" (top 21),
  KH.mkD "is_row" (top 22),
  KH.mkD "are_heads" (top 53),
  KH.mkD "is_limit" (top 54),
  KH.mkD "are_limits" (top 57)] : List He.FnD) ++ ([KH.mkD "is_rule" (top 55),
  KH.mkD "is_at_most_one" (top 56),
  KH.mkD "are_rules" (top 58),
  KH.mkM "Year" "__init__" "Year.__init__" (inClass (top 59) 0),
  KH.mkD "told_fitting" (top 42),
  KH.mkD "numbered" (top 43),
  KH.mkD "day_sums" (top 41),
  KH.mkM "Tally" "no_changes" "Tally.no_changes" (inClass (top 44) 1),
  KH.mkD "turn" (top 40),
  KH.mkM "Tally" "gone_through" "Tally.gone_through" (inClass (top 44) 2),
  KH.mkM "Tally" "change" "Tally.change" (inClass (top 44) 4),
  KH.mkM "Tally" "hold" "Tally.hold" (inClass (top 44) 5),
  KH.mkM "Tally" "give" "Tally.give" (inClass (top 44) 6),
  KH.mkM "Year" "above" "Year.above" (inClass (top 59) 2),
  KH.mkM "Year" "knots" "Year.knots" (inClass (top 59) 3),
  KH.mkM "Tally" "counting" "Tally.counting" (inClass (top 44) 12),
  KH.mkM "Tally" "take" "Tally.take" (inClass (top 44) 11),
  KH.mkM "Tally" "promise_more" "Tally.promise_more" (inClass (top 44) 8),
  KH.mkM "Tally" "promise" "Tally.promise" (inClass (top 44) 7),
  KH.mkM "Tally" "lessen" "Tally.lessen" (inClass (top 44) 9),
  KH.mkM "Tally" "pay_out" "Tally.pay_out" (inClass (top 44) 10),
  KH.mkM "Tally" "go_through" "Tally.go_through" (inClass (top 44) 3),
  KH.mkM "Tally" "sums_of" "Tally.sums_of" (inClass (top 44) 13),
  KH.mkM "Tally" "__init__" "Tally.__init__" (inClass (top 44) 0),
  KH.mkM "Tally" "sum_at" "Tally.sum_at" (inClass (top 44) 14),
  KH.mkM "Tally" "taken_at" "Tally.taken_at" (inClass (top 44) 15),
  KH.mkM "Tally" "passes" "Tally.passes" (inClass (top 44) 16),
  KH.mkM "Tally" "places" "Tally.places" (inClass (top 44) 17),
  KH.mkM "Tally" "breach" "Tally.breach" (inClass (top 44) 18),
  KH.mkM "Dated" "__init__" "Dated.__init__" (inClass (top 45) 0)] : List He.FnD)
def hFnC : List He.FnD := ([KH.mkM "Dated" "breach" "Dated.breach" (inClass (top 45) 1),
  KH.mkD "_law_kinds" (top 66),
  KH.mkD "_law_refused" (top 70),
  KH.mkD "numbered" (top 43),
  KH.mkD "law" (top 71)] : List He.FnD)
def hFn : List He.FnD := hFnB ++ hFnC
def hAs : List Addr := ([2,
  3,
  15,
  17,
  18,
  20,
  21,
  22,
  29,
  30,
  31,
  32,
  35,
  42,
  43,
  44,
  47,
  54,
  55,
  56,
  59,
  66,
  67,
  68,
  71,
  78,
  79,
  80,
  83,
  90,
  91,
  92,
  95,
  102,
  103,
  104,
  107,
  114,
  115,
  116] : List Addr) ++ ([119,
  126,
  127,
  128,
  131,
  138,
  139,
  140,
  143,
  150,
  151,
  152,
  155,
  162,
  164,
  165,
  167,
  168,
  169,
  170,
  171,
  174,
  181,
  183,
  184,
  186,
  187,
  188,
  189,
  190,
  193,
  195,
  196,
  198,
  199,
  200,
  203,
  204,
  205,
  207] : List Addr) ++ ([208,
  210,
  211,
  212,
  214,
  215,
  217,
  218,
  219,
  221,
  222,
  224,
  225,
  226,
  228,
  229,
  231,
  232,
  233,
  235,
  236,
  238,
  239,
  240,
  243,
  244,
  252,
  254,
  255,
  257,
  258,
  259,
  261,
  262,
  264,
  265,
  266,
  267,
  268,
  269] : List Addr) ++ ([270,
  273,
  280,
  282,
  283,
  285,
  286,
  287,
  289,
  290,
  292,
  293,
  294,
  296,
  297,
  299,
  300,
  301,
  302,
  303,
  306,
  313,
  315,
  316,
  318,
  319,
  320,
  322,
  323,
  325,
  326,
  327,
  329,
  330,
  332,
  333,
  334,
  335,
  336,
  339] : List Addr) ++ ([346,
  348,
  349,
  351,
  352,
  353,
  355,
  356,
  358,
  359,
  360,
  362,
  363,
  365,
  366,
  367,
  368,
  369,
  372,
  379,
  381,
  382,
  384,
  385,
  386,
  388,
  389,
  391,
  392,
  393,
  395,
  396,
  398,
  399,
  400,
  401,
  402,
  405,
  406,
  407] : List Addr) ++ ([409,
  410,
  412,
  413,
  414,
  416,
  417,
  419,
  420,
  421,
  423,
  424,
  426,
  427,
  428,
  430,
  431,
  433,
  434,
  442,
  445,
  446,
  447,
  449,
  450,
  452,
  453,
  454,
  456,
  457,
  459,
  460,
  461,
  464,
  465,
  466,
  468,
  469,
  471,
  472] : List Addr) ++ ([473,
  475,
  476,
  478,
  479,
  480,
  482,
  483,
  485,
  486,
  487,
  489,
  490,
  492,
  493,
  494,
  496,
  497,
  499,
  500,
  501,
  503,
  504,
  506,
  507,
  508,
  510,
  511,
  513,
  514,
  515,
  517,
  518,
  520,
  521,
  522,
  525,
  526,
  527,
  530] : List Addr) ++ ([531,
  532,
  534,
  535,
  537,
  538,
  539,
  541,
  542,
  544,
  545,
  546,
  548,
  549,
  551,
  552,
  553,
  556,
  557,
  558,
  560,
  561,
  563,
  564,
  565,
  567,
  568,
  570,
  571,
  572,
  574,
  575,
  577,
  578,
  579,
  580,
  581,
  582,
  583,
  593] : List Addr) ++ ([595,
  596,
  598,
  599,
  600,
  602,
  603,
  605,
  606,
  607,
  609,
  610,
  612,
  613,
  614,
  616,
  617,
  619,
  620,
  621,
  623,
  624,
  626,
  627,
  628,
  630,
  631,
  633,
  634,
  635,
  637,
  638,
  640,
  641,
  642,
  644,
  645,
  647,
  648,
  649] : List Addr) ++ ([651,
  652,
  654,
  655,
  656,
  658,
  659,
  661,
  662,
  663,
  665,
  666,
  668,
  669,
  670,
  672,
  673,
  675,
  676,
  677,
  678,
  679,
  680,
  681,
  684,
  686,
  687,
  689,
  690,
  691,
  693,
  694,
  696,
  697,
  698,
  700,
  701,
  703,
  704,
  705] : List Addr) ++ ([707,
  708,
  710,
  711,
  712,
  715,
  716,
  717,
  720,
  721,
  729,
  732,
  733,
  734,
  737,
  738,
  739,
  741,
  742,
  744,
  745,
  746,
  748,
  749,
  751,
  752,
  753,
  756,
  757,
  758,
  759,
  760,
  761,
  762,
  765,
  767,
  768,
  770,
  771,
  772] : List Addr) ++ ([774,
  775,
  777,
  778,
  779,
  781,
  782,
  784,
  785,
  786,
  788,
  789,
  791,
  792,
  793,
  796,
  797,
  798,
  801,
  802,
  803,
  806,
  807,
  808,
  810,
  811,
  813,
  814,
  815,
  817,
  818,
  820,
  821,
  822,
  824,
  825,
  827,
  828,
  829,
  832] : List Addr) ++ ([833] : List Addr)
def hTs : List He.Tab := ([((fun K => He.ga K "TURNS"), ["promise", "lessen", "out"])] : List He.Tab)
def hNm : List Str := (["_wall",
  "__name__",
  "PurseError",
  "NoYear",
  "NoHead",
  "NoEntry",
  "NoDay",
  "NoNumber",
  "NoPromise",
  "Taken",
  "Full",
  "NoText",
  "NoRow",
  "Passed",
  "Leaned",
  "__name__",
  "LETTERS",
  "MOST_LETTERS",
  "is_whole",
  "is_word",
  "is_note",
  "is_list",
  "is_row",
  "check_head",
  "check_day",
  "__name__",
  "MOST_COINS",
  "LEAST_UNTIL",
  "MOST_UNTIL",
  "check_fields"] : List Str) ++ (["Entry",
  "Give",
  "Hold",
  "Move",
  "Promise",
  "__name__",
  "MOST_ROWS",
  "SUMS",
  "TURNS",
  "LAST_TURN",
  "turn",
  "day_sums",
  "told_fitting",
  "numbered",
  "Tally",
  "Dated",
  "__name__",
  "MOST_DAYS",
  "MOST_HEADS",
  "MOST_LIMITS",
  "MOST_RULES",
  "MOST_LIMIT",
  "MOST_WHOLE",
  "are_heads",
  "is_limit",
  "is_rule",
  "is_at_most_one",
  "are_limits",
  "are_rules",
  "Year"] : List Str) ++ (["__name__",
  "_law_cell_at",
  "_law_mixed",
  "_law_well",
  "_law_draw",
  "_law_names",
  "_law_kinds",
  "_law_heads",
  "_law_row",
  "_law_none",
  "_law_refused"] : List Str)
abbrev hR : PySem.W.OpenRow := PySem.W.OpenLaw.row PySem.Challenge.rw_knotpurse_k21_rows_that_are_none
abbrev hK : PySem.W.Hook := KH.hookXT hAs hFa hXs hFn hTs
def hOb (s : PySem.W.SharedT) : KH.AlXT := KH.obsXTG hAs hFa hXs hFn hTs (HandSHeadRun.getT s)
theorem hOb_eq (s : PySem.W.SharedT) : hOb s = hK.obs s.abs := KH.obsXTG_eq (HandSHeadRun.getT_eq s)
abbrev hK1 : PySem.W.Hook := KH.hookXT hAs hFa hXs [] hTs
def hOb1 (s : PySem.W.SharedT) : KH.AlXT := KH.obsXTG hAs hFa hXs [] hTs (HandSHeadRun.getT s)
abbrev hK2 : PySem.W.Hook := KH.hookXT hAs [] [] hFnB []
def hOb2 (s : PySem.W.SharedT) : KH.AlXT := KH.obsXTG hAs [] [] hFnB [] (HandSHeadRun.getT s)
abbrev hK3 : PySem.W.Hook := KH.hookXT hAs [] [] hFnC []
def hOb3 (s : PySem.W.SharedT) : KH.AlXT := KH.obsXTG hAs [] [] hFnC [] (HandSHeadRun.getT s)
theorem hJn {w : World} (h1 : HandSHeadRun.RunEq hR (PySem.W.view hR.prog [71]) hK1 hOb1 40000 hNm w) (h2 : HandSHeadRun.RunEq hR (PySem.W.view hR.prog [71]) hK2 hOb2 40000 hNm w) (h3 : HandSHeadRun.RunEq hR (PySem.W.view hR.prog [71]) hK3 hOb3 40000 hNm w) : HandSHeadRun.RunEq hR (PySem.W.view hR.prog [71]) hK hOb 40000 hNm w := fun os => KH.run_join _ (fun _ q1 q2 q3 => KH.obs_join q1 q2 q3) (h1 os) (h2 os) (h3 os)
theorem hRunF1 (w : World) : HandSHeadRun.RunEq hR (PySem.W.view hR.prog [71]) hK1 hOb1 40000 hNm (w.withFollow "special-get-raises" false) := by
  intro os
  kernel_rfl
theorem hRunF2 (w : World) : HandSHeadRun.RunEq hR (PySem.W.view hR.prog [71]) hK2 hOb2 40000 hNm (w.withFollow "special-get-raises" false) := by
  intro os
  kernel_rfl
theorem hRunF3 (w : World) : HandSHeadRun.RunEq hR (PySem.W.view hR.prog [71]) hK3 hOb3 40000 hNm (w.withFollow "special-get-raises" false) := by
  intro os
  kernel_rfl
theorem hRunF (w : World) : HandSHeadRun.RunEq hR (PySem.W.view hR.prog [71]) hK hOb 40000 hNm (w.withFollow "special-get-raises" false) := hJn (hRunF1 w) (hRunF2 w) (hRunF3 w)
theorem hRunT1 (w : World) : HandSHeadRun.RunEq hR (PySem.W.view hR.prog [71]) hK1 hOb1 40000 hNm (w.withFollow "special-get-raises" true) := by
  intro os
  kernel_rfl
theorem hRunT2 (w : World) : HandSHeadRun.RunEq hR (PySem.W.view hR.prog [71]) hK2 hOb2 40000 hNm (w.withFollow "special-get-raises" true) := by
  intro os
  kernel_rfl
theorem hRunT3 (w : World) : HandSHeadRun.RunEq hR (PySem.W.view hR.prog [71]) hK3 hOb3 40000 hNm (w.withFollow "special-get-raises" true) := by
  intro os
  kernel_rfl
theorem hRunT (w : World) : HandSHeadRun.RunEq hR (PySem.W.view hR.prog [71]) hK hOb 40000 hNm (w.withFollow "special-get-raises" true) := hJn (hRunT1 w) (hRunT2 w) (hRunT3 w)
theorem hRun (w : World) : HandSHeadRun.RunEq hR (PySem.W.view hR.prog [71]) hK hOb 40000 hNm w := PySem.W.byRow2 "special-get-raises" (P := fun w => HandSHeadRun.RunEq hR (PySem.W.view hR.prog [71]) hK hOb 40000 hNm w) hRunF hRunT w
end KP
namespace KP
open PySem L2 KD KM KT
/-- more of what the walk asks of the top -/
structure Base2 (K : PySem.W.Frag) (mg : Str → Option Value) : Prop where
  sum : mg "sum" = none
  min : mg "min" = none
  zip : mg "zip" = none
  enumerate : mg "enumerate" = none
  sorted : mg "sorted" = none
def tKeys : List Str := ["year", "rows", "faults", "promises", "word_changes", "takes", "changes", "limit_changes", "day_takes", "sums_by_head"]
structure TalF (K : PySem.W.Frag) (mg : Str → Option Value) (C : Addr) : Prop where
  cl : Cls K C
  mgC : mg "Tally" = some (.ref C)
  na : ∀ f ∈ tKeys, NoAttr K C f
theorem same_none {H H' : Hp} {a : Addr} (s : Same H H') (h : H' a = none) : H a = none := by
  cases e : H a with
  | none => rfl
  | some o => rw [s _ _ e] at h; cases h
theorem ixN_pos {n : Nat} {i : Int} (h0 : 0 ≤ i) (h1 : i < n) : ixN n i = some i.toNat := by
  unfold ixN
  rw [if_pos h0, if_pos h1]
theorem look_no {fs : List (Str × V)} {m : Str} : ∀ (_ : m ∉ fs.map (·.1)), fs.lookup m = none := by
  induction fs with
  | nil => intro _; rfl
  | cons q r ih =>
    intro h
    rw [List.map_cons, List.mem_cons, not_or] at h
    obtain ⟨k, v⟩ := q
    have e : (m == k) = false := by
      cases z : (m == k) with
      | false => rfl
      | true => exact absurd (eq_of_beq z) h.1
    rw [List.lookup_cons, e]
    exact ih h.2
theorem tF_no {a : TAd} {m : Str} (h : m ∉ tKeys) : (tFs a).lookup m = none := look_no fun z => h (by
  have e : (tFs a).map (·.1) = tKeys.take 8 := rfl
  rw [e] at z
  exact List.mem_of_mem_take z)
section
variable {P : Program} {w : World} {K : PySem.W.Frag} {mg : Str → Option Value} {base : Heap}
theorem met {C : Addr} {m q : Str} {st : Stmt} {N ps : List Str} {k : Nat} {sp : Sp} (c : Cls K C) (D : MethT K C m q st ps) (S : FnScope N ps (defScope st)) (len : ∀ vs H Q E, sp vs H Q E → vs.length = ps.length)
    (hbody : ∀ (f : Addr) (cdv : Value) (A : Around) (outer : List Env) (s : Shared) (H : Hp) (vs : List V) (Q : VK) (E : XK), Room k (A.deeper (PyProof.Rows.envOfC q (defScope st) s.heap.objs.size f cdv)) → sp vs H Q E →
      ∃ t, PSs (cxOf CX0 P w K mg base N q (defScope st) f cdv A outer s H E).nox (defBody st) t ∧ t { nx := fun _ H' => Q .non H', rt := Q } (start N vs) H) : MetT P w K mg base (k + 1) C m sp := by
  obtain ⟨f, fd, M, F, b⟩ := D.ex
  exact ⟨f, fd, ps, c, M, F.ok S len (hbody f), b⟩
end
/-! ### dicts by keys -/
theorem valV_r {β : Type} {l : List β} {g : β → Str} {F : Str → V} {k : Str} : k ∈ l.map g → valV (l.map fun q => ((Sum.inr (g q) : Key), F (g q))) (.inr k) = some (F k) := by
  induction l with
  | nil => intro h; simp at h
  | cons x r ih =>
    intro h
    rw [List.map_cons]
    by_cases e : g x = k
    · rw [valV_pos (by show (Sum.inr (g x) : Key) = .inr k; rw [e])]
      show some (F (g x)) = _
      rw [e]
    · rw [valV_neg (fun z => e (by injection z))]
      rw [List.map_cons, List.mem_cons] at h
      exact ih (h.resolve_left (fun z => e z.symm))
theorem valV_r0 {β : Type} {l : List β} {g : β → Str} {F : Str → V} {k : Str} : k ∉ l.map g → valV (l.map fun q => ((Sum.inr (g q) : Key), F (g q))) (.inr k) = none := by
  induction l with
  | nil => intro _; rfl
  | cons x r ih =>
    intro h
    rw [List.map_cons, List.mem_cons, not_or] at h
    rw [List.map_cons, valV_neg (fun z => h.1 (by injection z with z; exact z.symm))]
    exact ih h.2
theorem dget_r {H : Hp} {b : Addr} {l : List Str} {F : Str → V} {k : Str} (e : H b = some (.dK (l.map fun n => ((Sum.inr n : Key), F n)))) (h : k ∈ l) : DGet H b (.str k) (some (F k)) := by
  have := DGet.k (k := .inr k) e
  rw [show valV (l.map fun n => ((Sum.inr n : Key), F n)) (.inr k) = some (F k) from valV_r (g := id) (by rw [List.map_id]; exact h)] at this
  exact this
theorem putK_new {kvs : List (Key × V)} {k : Key} {v : V} (h : k ∉ kvs.map (·.1)) : putK kvs k v = kvs ++ [(k, v)] := by
  unfold putK
  rw [if_neg]
  intro z
  obtain ⟨q, hq, e⟩ := List.any_eq_true.mp z
  exact h (List.mem_map.mpr ⟨q, hq, of_decide_eq_true e⟩)
theorem yf_days {d : Int} {l1 l2 l3 : Addr} : (yf d l1 l2 l3).lookup ("days" : Str) = some (.int d) := rfl
def spTN (C Cy : Addr) : Sp := fun vs H Q _ => ∃ (p dx yp : Addr) (fs : List (Str × V)) (y : Yr), vs = [.ref p] ∧ H p = some (.ins C dx fs) ∧ fs.lookup ("year" : Str) = some (.ref yp) ∧ YearAt Cy [] H yp y ∧ y.ok ∧
  ∀ q H', Same H H' → H q = none → H' q = some (.lst (chL y.days fun _ => 0)) → Q (.ref q) H'
def spTC (C Cy : Addr) : Sp := fun vs H Q _ => ∃ (p : Addr) (n h : Str) (d x : Int) (F0 F : Hp) (y : Yr) (rows : List R3) (s : TSt), vs = [.ref p, .str n, .int d, .str h, .int x] ∧ TalW C Cy F0 F H p y rows s ∧ n ∈ SUMS ∧ h ∈ nms y.hs ∧ 0 ≤ d ∧ d ≤ y.days + 1 ∧
  ∀ H', TalW C Cy F0 F H' p y rows (s.add (.ch n h) d x) → Q .non H'
def spTH (C Cy : Addr) : Sp := fun vs H Q _ => ∃ (p : Addr) (h : Str) (d u x : Int) (F0 F : Hp) (y : Yr) (rows : List R3) (s : TSt), vs = [.ref p, .int d, .int u, .str h, .int x] ∧ TalW C Cy F0 F H p y rows s ∧ h ∈ nms y.hs ∧ 0 ≤ d ∧ d ≤ y.days + 1 ∧ 0 ≤ u ∧ u ≤ y.days + 1 ∧
  ∀ H', TalW C Cy F0 F H' p y rows (s.hold d u h x) → Q .non H'
abbrev sTN : Stmt := inClass (top 44) 1
abbrev nTN : List Str := ["self"]
theorem scTN : FnScope nTN ["self"] (defScope sTN) := ⟨rfl, rfl, rfl, by decide +kernel, rfl, by decide +kernel, by decide +kernel⟩
abbrev sTC : Stmt := inClass (top 44) 4
abbrev nTC : List Str := ["self", "name", "date", "head", "coins", "changes"]
theorem scTC : FnScope nTC ["self", "name", "date", "head", "coins"] (defScope sTC) := ⟨rfl, rfl, rfl, by decide +kernel, rfl, by decide +kernel, by decide +kernel⟩
abbrev sTH : Stmt := inClass (top 44) 5
abbrev nTH : List Str := ["self", "date", "until", "head", "coins"]
theorem scTH : FnScope nTH ["self", "date", "until", "head", "coins"] (defScope sTH) := ⟨rfl, rfl, rfl, by decide +kernel, rfl, by decide +kernel, by decide +kernel⟩
section
variable {P : Program} {w : World} {K : PySem.W.Frag} {mg : Str → Option Value} {base : Heap} {C Cy : Addr}
theorem rep_zero (n : Nat) : (List.replicate n [V.int 0]).flatten = (List.range n).map fun _ => V.int 0 := by
  induction n with
  | zero => rfl
  | succ n ih =>
    rw [List.replicate_succ', List.flatten_append, ih, List.range_succ, List.map_append]
    rfl
theorem c_tn (T : YearF K mg Cy) (TF : TalF K mg C) (D : MethT K C "no_changes" "Tally.no_changes" sTN ["self"]) : MetT P w K mg base 1 C "no_changes" (spTN C Cy) := by
  refine met TF.cl D scTN (fun vs H Q E h => ?_) (fun f cdv A outer s H vs Q E hr h => ?_)
  · obtain ⟨p, dx, yp, fs, y, rfl, _⟩ := h
    rfl
  · obtain ⟨p, dx, yp, fs, y, rfl, hp, hl, hy, ok, k⟩ := h
    have dd := ok.d
    have hz : sizeLine = 16777216 := by decide
    obtain ⟨dy, l1, l2, l3, t1, t2, t3, hyp, _⟩ := hy.ex
    refine ⟨_, (pss_one (ps_ret (pe_op op_rep (pe_lstW (pa_cons pe_int pa_nil)) (pe_op op_add (pe_fld (pe_fld (pv 0) rfl) rfl) pe_int)))), ?_⟩
    refine ⟨(by show 1 ≤ sizeLine; omega), fun q1 H1 s1 n1 h1 => ?_⟩
    refine ⟨_, rfl, p, C, dx, fs, .ref yp, rfl, s1 _ _ hp, TF.cl, TF.na _ (by simp [tKeys]), hl, yp, Cy, dy, _, .int y.days, rfl, s1 _ _ hyp, T.cl, T.nd, rfl, _, _, rfl, rfl, ?_⟩
    refine ⟨q1, _, _, rfl, rfl, h1, (by omega), (by omega), (by show 1 * _ ≤ _; omega), fun q nq => ?_⟩
    refine k q _ (s1.trans (same_new nq)) (same_none s1 nq) ?_
    rw [upd_same, rep_zero]
    unfold chL
    rw [show (y.days + 2).toNat = y.days.toNat + 2 by omega]
theorem c_tc (TF : TalF K mg C) (D : MethT K C "change" "Tally.change" sTC ["self", "name", "date", "head", "coins"]) : MetT P w K mg base 1 C "change" (spTC C Cy) := by
  refine met TF.cl D scTC (fun vs H Q E h => ?_) (fun f cdv A outer s H vs Q E hr h => ?_)
  · obtain ⟨p, n, h, d, x, F0, F, y, rows, st, rfl, _⟩ := h
    rfl
  · obtain ⟨p, n, h, d, x, F0, F, y, rows, st, rfl, ⟨a, T⟩, hn, hh, d0, d1, k⟩ := h
    have dd := T.ok.d
    have lv : live y st (.ch n h) := ⟨hn, hh⟩
    refine ⟨_, (pss_cons (ps_set (i := 5) scTC.nd rfl (by first | exact Or.inl rfl | exact Or.inr rfl) (pe_dget (hu_of hr) (pe_dget (hu_of hr) (pe_fld (pv 0) rfl) (pv 1) (fun _ _ => rfl)) (pv 3) (fun _ _ => rfl)))
        (pss_one (ps_augS (pv 5) (pv 2) KQ.get_list (pv 4) ip_add set_list))), ?_⟩
    refine ⟨_, rfl, p, C, a.dx, _, _, rfl, T.ins, TF.cl, TF.na _ (by simp [tKeys]), rfl, _, rfl, a.dc, .ref (a.dn n), rfl, ?_, _, rfl, a.dn n, .ref (a.ad (.ch n h)), rfl, ?_, ?_⟩
    · exact dget_r T.dc hn
    · exact dget_r (F := fun h => V.ref (a.ad (.ch n h))) (T.dn n hn) hh
    have hc := T.cell _ lv
    refine ⟨_, rfl, _, rfl, a.ad (.ch n h), _, d.toNat, _, rfl, (by rw [show ((d.toNat : Nat) : Int) = d by omega]), SqL.of hc, chL_get d0 d1, _, rfl, _, _, rfl, rfl, a.ad (.ch n h), _, d, d.toNat, rfl, rfl, hc, ?_, ?_⟩
    · rw [chL_len]
      exact ixN_pos d0 (by omega)
    · rw [chL_set d0 d1]
      exact k _ ⟨a, T.wr lv⟩
theorem c_th (TF : TalF K mg C) (Ch : MetT P w K mg base 1 C "change" (spTC C Cy)) (D : MethT K C "hold" "Tally.hold" sTH ["self", "date", "until", "head", "coins"]) : MetT P w K mg base 2 C "hold" (spTH C Cy) := by
  refine met TF.cl D scTH (fun vs H Q E h => ?_) (fun f cdv A outer s H vs Q E hr h => ?_)
  · obtain ⟨p, h, d, u, x, F0, F, y, rows, st, rfl, _⟩ := h
    rfl
  · obtain ⟨p, h, d, u, x, F0, F, y, rows, st, rfl, T, hh, d0, d1, u0, u1, k⟩ := h
    refine ⟨_, (pss_one (ps_if (pt_cmpR op_lt (pv 1) (pv 2) (nomark _)) (pss_cons (ps_expr (pe_mtT Ch hr (by decide) (pv 0) (pa_cons pe_str (pa_cons (pv 1) (pa_cons (pv 3) (pa_cons (pv 4) pa_nil))))))
        (pss_one (ps_expr (pe_mtT Ch hr (by decide) (pv 0) (pa_cons pe_str (pa_cons (pv 2) (pa_cons (pv 3) (pa_cons (pe_un un_neg (pv 4)) pa_nil)))))))) pss_nil)), ?_⟩
    refine ⟨_, rfl, _, rfl, _, _, rfl, rfl, _, rfl, ?_⟩
    have T0 := T
    obtain ⟨a, B⟩ := T
    unfold TSt.hold at k
    by_cases hd : d < u
    · rw [if_pos hd] at k
      rw [decide_eq_true hd]
      refine iteT ⟨_, rfl, p, a.dx, _, rfl, B.ins, tF_no (by decide +kernel), _, rfl, _, rfl, _, rfl, p, "held", h, d, x, F0, F, y, rows, st, rfl, T0, (by decide +kernel), hh, d0, d1, fun H1 T1 => ?_⟩
      have T1' := T1
      obtain ⟨a1, B1⟩ := T1
      refine ⟨_, rfl, p, a1.dx, _, rfl, B1.ins, tF_no (by decide +kernel), _, rfl, _, rfl, _, rfl, _, rfl, p, "held", h, u, -x, F0, F, y, rows, _, rfl, T1', (by decide +kernel), hh, u0, u1, fun H2 T2 => k _ T2⟩
    · rw [if_neg hd] at k
      rw [decide_eq_false hd]
      exact iteF (k _ T0)
end
end KP
namespace KP
open PySem L2 KD KM KT
def spTK (C Cy : Addr) : Sp := fun vs H Q _ => ∃ (p : Addr) (h : Str) (d : Int) (F0 F : Hp) (y : Yr) (rows : List R3) (s : TSt), vs = [.ref p, .str h, .int d] ∧ TalW C Cy F0 F H p y rows s ∧ h ∈ nms y.hs ∧
  ∀ q H', Same H H' → H q = none → H' q = some (.lst ((counting y h d).map fun k : Nat => V.int (k : Int))) → Q (.ref q) H'
def spTT (C Cy : Addr) : Sp := fun vs H Q _ => ∃ (p : Addr) (n : Int) (h : Str) (d x : Int) (F0 F : Hp) (y : Yr) (rows : List R3) (s : TSt), vs = [.ref p, .int n, .int d, .str h, .int x] ∧ TalW C Cy F0 F H p y rows s ∧ h ∈ nms y.hs ∧ 0 ≤ d ∧ d ≤ y.days + 1 ∧ n ∉ s.tk.map (·.1) ∧ s.pr.length + s.tk.length + s.fa.length < 1000 ∧
  ∀ H', TalW C Cy F0 F H' p y rows (s.take y n d h x) → Q .non H'
def spTG (C Cy : Addr) : Sp := fun vs H Q _ => ∃ (p : Addr) (h : Str) (d x : Int) (F0 F : Hp) (y : Yr) (rows : List R3) (s : TSt), vs = [.ref p, .int d, .str h, .int x] ∧ TalW C Cy F0 F H p y rows s ∧ h ∈ nms y.hs ∧ 0 ≤ d ∧ d ≤ y.days + 1 ∧ 0 ≤ x ∧ x ≤ 1000000000000 ∧
  ∀ H', TalW C Cy F0 F H' p y rows (s.give y d h x) → Q .non H'
abbrev sTK : Stmt := inClass (top 44) 12
abbrev nTK : List Str := ["self", "head", "date", "knots", "limits", "k", "at", "first", "last", "most"]
theorem scTK : FnScope nTK ["self", "head", "date"] (defScope sTK) := ⟨rfl, rfl, rfl, by decide +kernel, rfl, by decide +kernel, by decide +kernel⟩
abbrev sTT : Stmt := inClass (top 44) 11
abbrev nTT : List Str := ["self", "number", "date", "head", "coins", "k", "changes"]
theorem scTT : FnScope nTT ["self", "number", "date", "head", "coins"] (defScope sTT) := ⟨rfl, rfl, rfl, by decide +kernel, rfl, by decide +kernel, by decide +kernel⟩
abbrev sTG : Stmt := inClass (top 44) 6
abbrev nTG : List Str := ["self", "date", "head", "coins", "ruled", "part", "whole", "until"]
theorem scTG : FnScope nTG ["self", "date", "head", "coins"] (defScope sTG) := ⟨rfl, rfl, rfl, by decide +kernel, rfl, by decide +kernel, by decide +kernel⟩
section
variable {P : Program} {w : World} {K : PySem.W.Frag} {mg : Str → Option Value} {base : Heap} {C Cy : Addr}
def cntB (y : Yr) (h : Str) (d : Int) (k : Nat) : Bool := match y.ls[k]? with
  | some r => decide (r.1 ∈ kn y.hs h) && decide (r.2.1 ≤ d ∧ d ≤ r.2.2.1)
  | none => false
theorem cnt_eq {y : Yr} {h : Str} {d : Int} : counting y h d = (List.range y.ls.length).filter (cntB y h d) := rfl
set_option maxHeartbeats 1000000 in
theorem c_tk (B2 : Base2 K mg) (Y : YearF K mg Cy) (TF : TalF K mg C) (Kn : MetT P w K mg base 2 Cy "knots" (spYK Cy)) (D : MethT K C "counting" "Tally.counting" sTK ["self", "head", "date"]) : MetT P w K mg base 3 C "counting" (spTK C Cy) := by
  refine met TF.cl D scTK (fun vs H Q E h => ?_) (fun f cdv A outer s H vs Q E hr h => ?_)
  · obtain ⟨p, h, d, F0, F, y, rows, st, rfl, _⟩ := h
    rfl
  · obtain ⟨p, h, d, F0, F, y, rows, st, rfl, ⟨a, T⟩, hh, k⟩ := h
    have hz : sizeLine = 16777216 := by decide
    have hy : YearAt Cy [] H a.yp y := T.yr.same (T.sub.trans T.keep)
    have l6 := T.ok.l6
    obtain ⟨dy, l1, l2, l3, t1, t2, t3, hyp, r1, r2, r3, _⟩ := hy.ex
    have nfk : (yf y.days l1 l2 l3).lookup ("knots" : Str) = none := yf_no (by decide +kernel) (by decide +kernel) (by decide +kernel) (by decide +kernel)
    refine ⟨_, (pss_cons (ps_set (i := 3) scTK.nd rfl (by first | exact Or.inl rfl | exact Or.inr rfl) (pe_mtT Kn hr (by decide) (pe_fld (pv 0) rfl) (pa_cons (pv 1) pa_nil)))
        (C8.pss_cut (ps_set (i := 4) scTK.nd rfl (by first | exact Or.inl rfl | exact Or.inr rfl) (pe_fld (pe_fld (pv 0) rfl) rfl))
        (pss_one (ps_ret (pe_lc (own := [("k", 5), ("at", 6), ("first", 7), ("last", 8), ("most", 9)]) (g := (gTup K 2 (gCons (gName 5) (gCons (gTup K 4 (gCons (gName 6) (gCons (gName 7) (gCons (gName 8) (gCons (gName 9) gNil))))) gNil)))) rfl scTK.nd (pi_enum (by rfl) B2.enumerate (pa_cons (pv 4) pa_nil)) (blkOk_by (N := nTK) (sc := defScope sTK) (by decide +kernel)) (fun _ _ _ _ _ => (pg_tup rfl (pgs_cons (pg_name (i := 5) scTK.nd rfl (by first | exact Or.inl rfl | exact Or.inr rfl)) (pgs_cons (pg_tup rfl (pgs_cons (pg_name (i := 6) scTK.nd rfl (by first | exact Or.inl rfl | exact Or.inr rfl)) (pgs_cons (pg_name (i := 7) scTK.nd rfl (by first | exact Or.inl rfl | exact Or.inr rfl)) (pgs_cons (pg_name (i := 8) scTK.nd rfl (by first | exact Or.inl rfl | exact Or.inr rfl)) (pgs_cons (pg_name (i := 9) scTK.nd rfl (by first | exact Or.inl rfl | exact Or.inr rfl)) pgs_nil))))) pgs_nil)))) (fun _ _ _ _ _ => pts_one (PW.pt (pw_and (pt_cmpR (show OpR _ _ (rIn K false) from op_in_seq) (pv 6) (pv 3) rfl) (pw_and1 (pt_chain op_le op_le (pv 7) (pv 2) (pv 8)))))) (fun _ _ _ _ _ => (pv 5))))))), ?_⟩
    refine ⟨_, rfl, p, C, a.dx, _, _, rfl, T.ins, TF.cl, TF.na _ (by simp [tKeys]), rfl, a.yp, dy, _, rfl, hyp, nfk, _, rfl, a.yp, y, h, rfl, hy, T.ok.h, hh, fun q nq => ?_⟩
    have s1 : Same H (upd H q (.lst ((kn y.hs h).map V.str))) := same_new nq
    have hq : upd H q (.lst ((kn y.hs h).map V.str)) q = some (.lst ((kn y.hs h).map V.str)) := upd_same
    generalize upd H q (.lst ((kn y.hs h).map V.str)) = H1 at s1 hq
    refine ⟨fun σ' H' => σ' = [some (.ref p), some (.str h), some (.int d), some (.ref q), some (.ref l2), none, none, none, none, none] ∧ H' = H1, ?_, ?_⟩
    · exact ⟨_, rfl, p, C, a.dx, _, _, rfl, s1 _ _ T.ins, TF.cl, TF.na _ (by simp [tKeys]), rfl, a.yp, Cy, dy, _, .ref l2, rfl, s1 _ _ hyp, Y.cl, Y.nl, rfl, rfl, rfl⟩
    rintro _ Hx ⟨rfl, eH⟩
    rw [eH]
    clear eH Hx
    have R2 := r2.same s1
    have tl2 : t2.length = y.ls.length := by rw [r2.len, List.length_map]
    refine ⟨_, rfl, l2, _, rfl, SqL.of R2.1, fun D1 hD1 => lc_it walk_enum (fun i H' => Same H1 H' ∧ H' D1 = some (.lst ((((List.range i).filter (cntB y h d)).map fun k : Nat => V.int (k : Int))))) ⟨same_new hD1, upd_same⟩ (fun i H' _ e => SqL.of (e.1 _ _ R2.1)) ?_ ?_⟩
    · rintro i v H4 H5 hi ⟨s4, d4⟩ ⟨Tt, x, z, rfl, nT, rfl, ex, ez⟩
      cases ex
      have hi' : i < y.ls.length := by rw [List.length_map, tl2] at hi; exact hi
      obtain ⟨t, r, rfl, hr1, ht, hti⟩ := row_get R2 ez
      have sT : Same H4 (upd H4 Tt (.tup [.int (i : Nat), .ref t])) := same_new nT
      have hT5 : upd H4 Tt (.tup [.int (i : Nat), .ref t]) Tt = some (.tup [.int (i : Nat), .ref t]) := upd_same
      generalize upd H4 Tt (.tup [.int (i : Nat), .ref t]) = H5 at sT hT5
      refine ⟨Tt, _, rfl, SqT.of hT5, rfl, _, _, rfl, _, _, rfl, ?_⟩
      refine ⟨t, _, rfl, SqT.of (sT _ _ (s4 _ _ ht)), rfl, _, _, rfl, _, _, rfl, _, _, rfl, _, _, rfl, rfl, rfl, ?_⟩
      refine ⟨rfl, ?_⟩
      have D5 : H5 D1 = _ := sT _ _ d4
      have fs : ∀ b : Bool, cntB y h d i = b → (if b = true then tVar 5 [some (V.ref p), some (V.str h), some (V.int d), some (V.ref q), some (V.ref l2), some (V.int (i : Nat)), some (V.str r.1), some (V.int r.2.1), some (V.int r.2.2.1), some (V.int r.2.2.2)] H5 (fun y_1 H4 => ∃ acc, H4 D1 = some (HO.lst acc) ∧ acc.length < sizeLine ∧ Same H1 (upd H4 D1 (HO.lst (acc ++ [y_1]))) ∧ upd H4 D1 (HO.lst (acc ++ [y_1])) D1 = some (HO.lst (List.map (fun k : Nat => V.int (k : Int)) (List.filter (cntB y h d) (List.range (i + 1)))))) else
          Same H1 H5 ∧ H5 D1 = some (HO.lst (List.map (fun k : Nat => V.int (k : Int)) (List.filter (cntB y h d) (List.range (i + 1)))))) := by
        intro b eb
        rw [List.range_succ, List.filter_append]
        cases b with
        | true =>
          refine iteT ⟨_, rfl, _, D5, ?_, fun b o e => ?_, ?_⟩
          · rw [List.length_map]
            have := List.length_filter_le (cntB y h d) (List.range i)
            rw [List.length_range] at this
            omega
          · rw [upd_ne (ne_of_none e hD1)]
            exact sT _ _ (s4 _ _ e)
          · rw [upd_same, List.filter_cons_of_pos eb, List.map_append]
            rfl
        | false =>
          refine iteF ⟨s4.trans sT, ?_⟩
          rw [D5, List.filter_cons_of_neg (by rw [eb]; simp), List.map_append]
          simp
      refine ⟨_, rfl, _, rfl, q, _, rfl, .inl (SqL.of (sT _ _ (s4 _ _ hq))), rfl, flat_strs, _, rfl, ?_⟩
      rw [inV_str]
      have ec : cntB y h d i = (decide (r.1 ∈ kn y.hs h) && decide (r.2.1 ≤ d ∧ d ≤ r.2.2.1)) := by
        unfold cntB
        rw [hr1]
      by_cases e1 : r.1 ∈ kn y.hs h
      · rw [decide_eq_true e1] at ec ⊢
        refine iteT ⟨_, rfl, _, rfl, _, _, rfl, rfl, _, rfl, ?_⟩
        by_cases e2 : r.2.1 ≤ d
        · rw [if_pos (decide_eq_true e2)]
          refine ⟨_, rfl, _, _, rfl, rfl, _, rfl, ?_⟩
          exact fs _ (by rw [ec]; simp [e2])
        · rw [if_neg (fun z => e2 (of_decide_eq_true z))]
          exact ⟨_, rfl, fs _ (by rw [ec]; simp [e2])⟩
      · rw [decide_eq_false e1] at ec ⊢
        exact iteF (fs _ (by rw [ec]; rfl))
    · rintro H4 ⟨s4, d4⟩
      refine k D1 H4 (s1.trans s4) (same_none s1 hD1) ?_
      rw [d4, List.length_map, tl2, ← cnt_eq]
end
end KP
namespace KP
open PySem L2 KD KM KT
section
variable {P : Program} {w : World} {K : PySem.W.Frag} {mg : Str → Option Value} {base : Heap} {C Cy : Addr}
set_option maxHeartbeats 1000000 in
theorem c_tt (TF : TalF K mg C) (Ct : MetT P w K mg base 3 C "counting" (spTK C Cy)) (D : MethT K C "take" "Tally.take" sTT ["self", "number", "date", "head", "coins"]) : MetT P w K mg base 4 C "take" (spTT C Cy) := by
  refine met TF.cl D scTT (fun vs H Q E h => ?_) (fun f cdv A outer s H vs Q E hr h => ?_)
  · obtain ⟨p, n, h, d, x, F0, F, y, rows, st, rfl, _⟩ := h
    rfl
  · obtain ⟨p, n, h, d, x, F0, F, y, rows, st, rfl, ⟨a, T⟩, hh, d0, d1, hn, sz, k⟩ := h
    have hz : sizeLine = 16777216 := by decide
    have l6 := T.ok.l6
    have dd := T.ok.d
    refine ⟨_, (pss_cons (ps_dput (hu_of hr) (pe_fld (pv 0) rfl) (pv 1) (pe_tupW (pa_cons (pv 3) (pa_cons (pv 4) pa_nil))) rfl)
        (pss_one (ps_for PassesOwn.never rfl (pi_list (pe_mtT Ct hr (by decide) (pv 0) (pa_cons (pv 3) (pa_cons (pv 2) pa_nil)))) (pg_name (i := 5) scTT.nd rfl (by first | exact Or.inl rfl | exact Or.inr rfl)) (pss_cons (ps_set (i := 6) scTT.nd rfl (by first | exact Or.inl rfl | exact Or.inr rfl) (pe_ix ix_list (pe_fld (pv 0) rfl) (pv 5) (fun _ _ => rfl)))
        (pss_one (ps_augS (pv 6) (pv 2) KQ.get_list (pv 4) ip_add set_list)))))), ?_⟩
    refine ⟨_, rfl, _, rfl, (by show 2 ≤ sizeLine; omega), fun t H1 s1 nt ht => ?_⟩
    have T1 := T.same s1
    refine ⟨_, rfl, p, C, a.dx, _, _, rfl, T1.ins, TF.cl, TF.na _ (by simp [tKeys]), rfl, _, rfl, a.dt, _, rfl, DPut.k (k := .inl n) T1.dt (by rw [List.length_map]; omega), ?_⟩
    have T2 := T1.put_take (n := n) (c := x) (h := h) ht hn (by omega)
    generalize upd H1 a.dt _ = H2 at T2 ⊢
    generalize ea : ({ a with tt := fun m => if m = n then t else a.tt m } : TAd) = a2 at T2
    refine ⟨_, rfl, p, a2.dx, _, rfl, T2.ins, tF_no (by decide +kernel), _, rfl, _, rfl, p, h, d, F0, F, y, rows, _, rfl, ⟨a2, T2⟩, hh, fun L H3 s3 nL hL => ?_⟩
    have T3 := T2.frame nL hL s3
    have uF := upd_F T2 (o := HO.lst ((counting y h d).map fun k : Nat => V.int (k : Int))) nL
    refine ⟨L, rfl, ⟨_, SqL.of hL⟩, for_list (K := K) (a := L) (xs := (counting y h d).map fun k : Nat => V.int (k : Int)) (fun i σ H' => ∃ v5 v6, σ = [some (.ref p), some (.int n), some (.int d), some (.str h), some (.int x), v5, v6] ∧
        TalW C Cy F0 (upd F L (.lst ((counting y h d).map fun k : Nat => V.int (k : Int)))) H' p y rows (((counting y h d).take i).foldl (fun s k => s.add (.lm k) d x) { st with tk := st.tk ++ [(n, h, x)] }))
      ⟨_, _, rfl, a2, T3⟩ (fun i σ H' _ ⟨_, _, _, a', z⟩ => SqL.of (z.keep _ _ upd_same)) ?_ ?_⟩
    · rintro i v σ H4 hi ⟨v5, v6, rfl, a4, T4⟩
      rw [List.getElem?_map] at hi
      cases ei : (counting y h d)[i]? with
      | none => rw [ei] at hi; cases hi
      | some kk =>
        rw [ei] at hi
        obtain rfl := Option.some.inj hi
        have hk : kk < y.ls.length := by
          have := List.mem_of_getElem? ei
          rw [cnt_eq, List.mem_filter, List.mem_range] at this
          exact this.1
        have lv : live y (((counting y h d).take i).foldl (fun s k => s.add (.lm k) d x) { st with tk := st.tk ++ [(n, h, x)] }) (.lm kk) := hk
        have hc := T4.cell _ lv
        refine ⟨_, rfl, p, C, a4.dx, _, _, rfl, T4.ins, TF.cl, TF.na _ (by simp [tKeys]), rfl, _, rfl, a4.ll, _, _, .ref (a4.ad (.lm kk)), rfl, rfl, SqL.of T4.ll, atI_nat (by rw [List.getElem?_map, List.getElem?_map, List.getElem?_range hk]; rfl), ?_⟩
        refine ⟨_, rfl, _, rfl, a4.ad (.lm kk), _, d.toNat, _, rfl, (by rw [show ((d.toNat : Nat) : Int) = d by omega]), SqL.of hc, chL_get d0 d1, _, rfl, _, _, rfl, rfl, a4.ad (.lm kk), _, d, d.toNat, rfl, rfl, hc, ?_, ?_⟩
        · rw [chL_len]
          exact ixN_pos d0 (by omega)
        · rw [chL_set d0 d1]
          refine ⟨_, _, rfl, a4, ?_⟩
          rw [List.take_add_one, ei]
          show TalB C Cy a4 F0 _ _ p y rows (((counting y h d).take i ++ [kk]).foldl _ _)
          rw [List.foldl_append]
          exact T4.wr (c := .lm kk) (d := d) (x := x) lv
    · rintro σ H4 ⟨v5, v6, rfl, a4, T4⟩
      rw [List.length_map, List.take_length] at T4
      exact k _ ⟨a4, T4.less T2.sub uF⟩
set_option maxHeartbeats 1000000 in
theorem c_tg (Y : YearF K mg Cy) (TF : TalF K mg C) (Ch : MetT P w K mg base 1 C "change" (spTC C Cy)) (Ho : MetT P w K mg base 2 C "hold" (spTH C Cy)) (D : MethT K C "give" "Tally.give" sTG ["self", "date", "head", "coins"]) : MetT P w K mg base 3 C "give" (spTG C Cy) := by
  refine met TF.cl D scTG (fun vs H Q E h => ?_) (fun f cdv A outer s H vs Q E hr h => ?_)
  · obtain ⟨p, h, d, x, F0, F, y, rows, st, rfl, _⟩ := h
    rfl
  · obtain ⟨p, h, d, x, F0, F, y, rows, st, rfl, T0, hh, d0, d1, x0, x1, k⟩ := h
    have hz : sizeLine = 16777216 := by decide
    have T := T0
    obtain ⟨a, T⟩ := T
    have dd := T.ok.d
    refine ⟨_, (pss_cons (ps_expr (pe_mtT Ch hr (by decide) (pv 0) (pa_cons pe_str (pa_cons (pv 1) (pa_cons (pv 2) (pa_cons (pv 3) pa_nil))))))
        (pss_one (ps_for PassesOwn.never rfl (pi_list (pe_fld (pe_fld (pv 0) rfl) rfl)) (pg_tup rfl (pgs_cons (pg_name (i := 4) scTG.nd rfl (by first | exact Or.inl rfl | exact Or.inr rfl)) (pgs_cons (pg_name (i := 5) scTG.nd rfl (by first | exact Or.inl rfl | exact Or.inr rfl)) (pgs_cons (pg_name (i := 6) scTG.nd rfl (by first | exact Or.inl rfl | exact Or.inr rfl)) (pgs_cons (pg_name (i := 7) scTG.nd rfl (by first | exact Or.inl rfl | exact Or.inr rfl)) pgs_nil))))) (pss_one (ps_if (pt_cmpR op_eq (pv 4) (pv 2) (nomark _)) (pss_one (ps_expr (pe_mtT Ho hr (by decide) (pv 0) (pa_cons (pv 1) (pa_cons (pv 7) (pa_cons (pv 2) (pa_cons (pe_op op_fdiv (pe_op op_mul (pv 3) (pv 5)) (pv 6)) pa_nil))))))) pss_nil))))), ?_⟩
    refine ⟨_, rfl, p, a.dx, _, rfl, T.ins, tF_no (by decide +kernel), _, rfl, _, rfl, _, rfl, p, "given", h, d, x, F0, F, y, rows, st, rfl, T0, (by decide +kernel), hh, d0, d1, fun H1 ⟨a1, T1⟩ => ?_⟩
    have ok := T1.ok
    have hy : YearAt Cy [] F a1.yp y := T1.yr.same T1.sub
    obtain ⟨dy, l1, l2, l3, t1, t2, t3, hyp, r1, r2, r3, _⟩ := hy.ex
    have tl3 : t3.length = y.rs.length := by rw [r3.len, List.length_map]
    refine ⟨_, rfl, p, C, a1.dx, _, _, rfl, T1.ins, TF.cl, TF.na _ (by simp [tKeys]), rfl, a1.yp, Cy, dy, _, .ref l3, rfl, T1.keep _ _ hyp, Y.cl, Y.nr, rfl, l3, rfl, ⟨_, SqL.of (T1.keep _ _ r3.1)⟩, for_list (K := K) (a := l3) (xs := t3.map V.ref) (fun i σ H' => ∃ v4 v5 v6 v7, σ = [some (.ref p), some (.int d), some (.str h), some (.int x), v4, v5, v6, v7] ∧
        TalW C Cy F0 F H' p y rows ((y.rs.take i).foldl (fun s r => if r.1 = h then s.hold d r.2.2.2 h (x * r.2.1 / r.2.2.1) else s) (st.add (.ch "given" h) d x)))
      ⟨_, _, _, _, rfl, a1, T1⟩ (fun i σ H' _ ⟨_, _, _, _, _, a', z⟩ => SqL.of (z.keep _ _ r3.1)) ?_ ?_⟩
    · rintro i v σ H4 hi ⟨v4, v5, v6, v7, rfl, a4, T4⟩
      obtain ⟨t, r, rfl, hr1, ht, hti⟩ := row_get r3 hi
      have T40 : TalW C Cy F0 F H4 p y rows _ := ⟨a4, T4⟩
      obtain ⟨m1, m2, m3, m4⟩ := ok.r r (List.mem_of_getElem? hr1)
      have e1 : y.rs.take (i + 1) = y.rs.take i ++ [r] := by rw [List.take_add_one, hr1]; rfl
      refine ⟨t, _, rfl, SqT.of (T4.keep _ _ ht), rfl, _, _, rfl, _, _, rfl, _, _, rfl, _, _, rfl, rfl, ?_⟩
      refine ⟨_, rfl, _, rfl, rfl, _, rfl, ?_⟩
      by_cases er : r.1 = h
      · rw [decide_eq_true (by rw [er])]
        refine iteT ⟨_, rfl, p, a4.dx, _, rfl, T4.ins, tF_no (by decide +kernel), _, rfl, _, rfl, _, rfl, _, rfl, _, rfl, _, _, rfl, rfl, ?_, _, rfl, _, _, rfl, rfl, ⟨by omega, by omega⟩, p, h, d, r.2.2.2, x * r.2.1 / r.2.2.1, F0, F, y, rows, _, rfl, T40, hh, d0, d1, by omega, by omega, fun H5 T5 => ⟨_, _, _, _, rfl, ?_⟩⟩
        · exact .inl ⟨by show -(18446744073709551616 : Int) < x; omega, by show x < (18446744073709551616 : Int); omega⟩
        · rw [e1, List.foldl_append]
          show TalW C Cy F0 F H5 p y rows (if r.1 = h then _ else _)
          rw [if_pos er]
          exact T5
      · rw [decide_eq_false (fun z => er (by injection z))]
        refine iteF ⟨_, _, _, _, rfl, ?_⟩
        rw [e1, List.foldl_append]
        show TalW C Cy F0 F H4 p y rows (if r.1 = h then _ else _)
        rw [if_neg er]
        exact T40
    · rintro σ H4 ⟨v4, v5, v6, v7, rfl, T4⟩
      rw [List.length_map, tl3, List.take_length] at T4
      exact k _ T4
end
end KP
namespace KP
open PySem L2 KD KM KT
section
variable {C Cy : Addr} {a : TAd} {F0 F H H1 H2 H3 : Hp} {p : Addr} {y : Yr} {rows : List R3} {s : TSt}
theorem refs_ne_ch {days : Int} {f : Int → Int} {xs : List Addr} : xs.map V.ref ≠ chL days f := fun e => chL_ne_refs e.symm
/-- a fault more -/
theorem TalB.put_fault (T : TalB C Cy a F0 F H p y rows s) {n d : Int} {t : Addr} (ht : H t = some (.tup [.int d, .int n])) (sz : s.pr.length + s.tk.length + (s.fa.length + 1) ≤ 1000) :
    TalB C Cy { a with fts := a.fts ++ [t] } F0 F (upd H a.fl (.lst (a.fts.map V.ref ++ [.ref t]))) p y rows (s.fault n d) := by
  have nt : ∀ {b : Addr} {o : HO}, H b = some o → (∀ xs : List Addr, o ≠ .lst (xs.map V.ref)) → upd H a.fl (.lst (a.fts.map V.ref ++ [.ref t])) b = some o := fun {b o} e hne => by
    rw [upd_ne (fun z => by rw [z, T.fl] at e; exact hne _ (Option.some.inj e).symm)]
    exact e
  have nd : ∀ {b : Addr} {o : HO}, H b = some o → b ≠ a.fl → upd H a.fl (.lst (a.fts.map V.ref ++ [.ref t])) b = some o := fun e z => by
    rw [upd_ne z]
    exact e
  obtain ⟨n1, n2, n3, n4, n5, n6⟩ := T.nF
  refine ⟨nt T.ins (fun _ z => nomatch z), T.sub, fun b o e => ?_, T.ok, T.yr, nd T.rws T.apl.1, T.rwt, ?_, ?_, nt T.dp (fun _ z => nomatch z), fun q hq => nt (T.dpt q hq) (fun _ z => nomatch z), nt T.dw (fun _ z => nomatch z), nt T.dt (fun _ z => nomatch z), fun q hq => nt (T.dtt q hq) (fun _ z => nomatch z), nt T.dc (fun _ z => nomatch z), fun n hn => nt (T.dn n hn) (fun _ z => nomatch z), nd T.ll T.apl.2,
    fun c h => nt (T.cell c (by cases c <;> exact h)) (fun xs z => by injection z with z; exact chL_ne_refs z), fun c1 c2 h1 h2 => T.inj c1 c2 (by cases c1 <;> exact h1) (by cases c2 <;> exact h2), ⟨n1, n2, n3, n4, n5, fun c h => n6 c (by cases c <;> exact h)⟩, T.ap, T.ndw, T.hds, T.ndt, ?_, T.apl⟩
  · rw [upd_ne (fun z => by rw [z, n2] at e; cases e)]
    exact T.keep b o e
  · show upd H a.fl _ a.fl = some (.lst ((a.fts ++ [t]).map V.ref))
    rw [upd_same, List.map_append]
    rfl
  · show Paired _ (a.fts ++ [t]) (s.fa ++ [(d, n)])
    exact Paired.snoc (L2.Paired.mapP T.flt fun _ _ e => nt e (fun _ z => nomatch z)) (nt ht (fun _ z => nomatch z))
  · show s.pr.length + s.tk.length + (s.fa ++ [(d, n)]).length ≤ 1000
    rw [List.length_append]
    exact sz
/-- a promise more -/
def TSt.word (s : TSt) (x h : Str) (d : Int) : TSt := { s with pr := s.pr ++ [(x, h, d)], v := fun c' d' => if c' = .wd x then 0 else s.v c' d' }
def TAd.word (a : TAd) (x : Str) (t L : Addr) : TAd := { a with tp := fun z => if z = x then t else a.tp z, ad := fun c => if c = .wd x then L else a.ad c }
theorem putK_r {β : Type} {l : List β} {g : β → Str} {F : Str → V} {k : Str} {v : V} (h : k ∉ l.map g) : putK (l.map fun q => ((Sum.inr (g q) : Key), F (g q))) (.inr k) v = (l.map fun q => ((Sum.inr (g q) : Key), F (g q))) ++ [(.inr k, v)] := putK_new fun z => by
  rw [List.map_map] at z
  obtain ⟨q, hq, e⟩ := List.mem_map.mp z
  have e : (Sum.inr (g q) : Key) = .inr k := e
  injection e with e
  exact h (List.mem_map.mpr ⟨q, hq, e⟩)
theorem TalB.put_word (T : TalB C Cy a F0 F H1 p y rows s) {x h : Str} {d : Int} {t L : Addr} (ht : H1 t = some (.tup [.str h, .int d])) (hx : x ∉ s.ws) (hh : h ∈ nms y.hs) (sz : s.pr.length + 1 + s.tk.length + s.fa.length ≤ 1000)
    (e2 : H2 = upd H1 a.dp (.dK (putK (s.pr.map fun q => ((Sum.inr q.1 : Key), V.ref (a.tp q.1))) (.inr x) (.ref t)))) (s3 : Same H2 H3) (nL : H2 L = none) (hL : H3 L = some (.lst (chL y.days fun _ => 0))) :
    TalB C Cy (a.word x t L) F0 F (upd H3 a.dw (.dK (putK (s.pr.map fun q => ((Sum.inr q.1 : Key), V.ref (a.ad (.wd q.1)))) (.inr x) (.ref L)))) p y rows (s.word x h d) := by
  obtain ⟨n1, n2, n3, n4, n5, n6⟩ := T.nF
  obtain ⟨a1, a2, a3⟩ := T.ap
  simp only [List.nodup_cons, List.mem_cons, List.not_mem_nil, or_false, not_or, not_false_eq_true, List.nodup_nil, and_true] at a1 a2 a3
  generalize eO : (HO.dK (putK (s.pr.map fun q => ((Sum.inr q.1 : Key), V.ref (a.ad (.wd q.1)))) (.inr x) (.ref L))) = O
  have nd : ∀ {b : Addr} {o : HO}, H1 b = some o → b ≠ a.dp → b ≠ a.dw → upd H3 a.dw O b = some o := fun {b o} e z1 z2 => by
    rw [upd_ne z2]
    refine s3 _ _ ?_
    rw [e2, upd_ne z1]
    exact e
  have nt : ∀ {b : Addr} {o : HO}, H1 b = some o → (∀ kvs, o ≠ .dK kvs) → upd H3 a.dw O b = some o := fun {b o} e hne => nd e (fun z => by rw [z, T.dp] at e; exact hne _ (Option.some.inj e).symm) (fun z => by rw [z, T.dw] at e; exact hne _ (Option.some.inj e).symm)
  have L1 : H1 L = none := by
    by_cases z : L = a.dp
    · rw [e2, z, upd_same] at nL
      cases nL
    · rw [e2, upd_ne z] at nL
      exact nL
  have FL : F L = none := by
    cases q : F L with
    | none => rfl
    | some u => have := T.keep _ _ q; rw [L1] at this; cases this
  have Ldw : L ≠ a.dw := fun z => by rw [z, T.dw] at L1; cases L1
  have nLc : ∀ c, live y s c → a.ad c ≠ L := fun c hc z => by
    have := T.cell c hc
    rw [z, L1] at this
    cases this
  have lv : ∀ c, live y (s.word x h d) c → c = .wd x ∨ (c ≠ .wd x ∧ live y s c) := fun c hc => by
    by_cases z : c = .wd x
    · exact .inl z
    · refine .inr ⟨z, ?_⟩
      cases c with
      | ch n h' => exact hc
      | lm k => exact hc
      | wd w =>
        have hc : w ∈ (s.pr ++ [(x, h, d)]).map (·.1) := hc
        rw [List.map_append, List.mem_append] at hc
        rcases hc with hc | hc
        · exact hc
        · rw [List.map_singleton, List.mem_singleton] at hc
          exact absurd (by rw [hc]) z
  have adx : (a.word x t L).ad (.wd x) = L := if_pos rfl
  have adn : ∀ {c}, c ≠ .wd x → (a.word x t L).ad c = a.ad c := fun z => if_neg z
  have nex : ∀ q ∈ s.pr, q.1 ≠ x := fun q hq z => hx (List.mem_map.mpr ⟨q, hq, z⟩)
  have adw : ∀ q ∈ s.pr, (a.word x t L).ad (.wd q.1) = a.ad (.wd q.1) := fun q hq => adn fun z => nex q hq (by injection z)
  have tpq : ∀ q ∈ s.pr, (a.word x t L).tp q.1 = a.tp q.1 := fun q hq => if_neg (nex q hq)
  refine ⟨nt T.ins (fun _ z => nomatch z), T.sub, fun b o e => ?_, T.ok, T.yr, nt T.rws (fun _ z => nomatch z), T.rwt, nt T.fl (fun _ z => nomatch z), L2.Paired.mapP T.flt fun _ _ e => nt e (fun _ z => nomatch z), ?_, ?_, ?_, nd T.dt (fun z => a1.1.2 z.symm) (fun z => a1.2 z.symm), fun q hq => nt (T.dtt q hq) (fun _ z => nomatch z), nd T.dc a2.1 a2.2.1, fun n hn => ?_, ?_, fun c hc => ?_, fun c1 c2 h1 h2 e => ?_, ⟨n1, n2, n3, n4, n5, fun c hc => ?_⟩, T.ap, ?_, ?_, T.ndt, ?_, T.apl⟩
  · exact nd (T.keep b o e) (fun z => by rw [z, n3] at e; cases e) (fun z => by rw [z, n4] at e; cases e)
  · show upd H3 a.dw O a.dp = _
    rw [upd_ne (fun z => a1.1.1 z)]
    have : H2 a.dp = some (.dK (putK (s.pr.map fun q => ((Sum.inr q.1 : Key), V.ref (a.tp q.1))) (.inr x) (.ref t))) := by rw [e2, upd_same]
    rw [s3 _ _ this, putK_r (g := fun q : Str × Str × Int => q.1) (F := fun z => V.ref (a.tp z)) hx]
    show _ = some (HO.dK ((s.pr ++ [(x, h, d)]).map fun q => ((Sum.inr q.1 : Key), V.ref ((a.word x t L).tp q.1))))
    rw [List.map_append]
    congr 3
    · exact List.map_congr_left fun q hq => by rw [tpq q hq]
    · show [((Sum.inr x : Key), V.ref t)] = [((Sum.inr x : Key), V.ref (if x = x then t else a.tp x))]
      rw [if_pos rfl]
  · intro q hq
    rcases List.mem_append.mp hq with hq | hq
    · rw [tpq q hq]
      exact nt (T.dpt q hq) (fun _ z => nomatch z)
    · rw [List.mem_singleton.mp hq]
      show upd H3 a.dw O (if x = x then t else a.tp x) = _
      rw [if_pos rfl]
      exact nt ht (fun _ z => nomatch z)
  · show upd H3 a.dw O a.dw = _
    rw [upd_same, ← eO, putK_r (g := fun q : Str × Str × Int => q.1) (F := fun z => V.ref (a.ad (.wd z))) hx]
    show _ = some (HO.dK ((s.pr ++ [(x, h, d)]).map fun q => ((Sum.inr q.1 : Key), V.ref ((a.word x t L).ad (.wd q.1)))))
    rw [List.map_append]
    congr 3
    · exact List.map_congr_left fun q hq => by rw [adw q hq]
    · show [((Sum.inr x : Key), V.ref L)] = [((Sum.inr x : Key), V.ref ((a.word x t L).ad (.wd x)))]
      rw [adx]
  · have e1 : ((nms y.hs).map fun h => ((Sum.inr h : Key), V.ref ((a.word x t L).ad (.ch n h)))) = (nms y.hs).map fun h => ((Sum.inr h : Key), V.ref (a.ad (.ch n h))) := List.map_congr_left fun q _ => by rw [adn (c := .ch n q) (fun z => nomatch z)]
    rw [e1]
    exact nd (T.dn n hn) (a3 n hn).1 (a3 n hn).2.1
  · have e1 : ((List.range y.ls.length).map fun k => (a.word x t L).ad (.lm k)) = (List.range y.ls.length).map fun k => a.ad (.lm k) := List.map_congr_left fun q _ => adn (c := .lm q) (fun z => nomatch z)
    rw [e1]
    exact nt T.ll (fun _ z => nomatch z)
  · rcases lv c hc with rfl | ⟨z, hc'⟩
    · rw [adx, upd_ne Ldw, hL]
      show _ = some (HO.lst (chL y.days fun d' => if Cell.wd x = .wd x then 0 else s.v (.wd x) d'))
      simp
    · rw [adn z]
      have e1 : (s.word x h d).v c = s.v c := funext fun d' => if_neg z
      rw [e1]
      exact nt (T.cell c hc') (fun _ z => nomatch z)
  · rcases lv c1 h1 with rfl | ⟨z1, l1⟩ <;> rcases lv c2 h2 with rfl | ⟨z2, l2⟩
    · rfl
    · rw [adx, adn z2] at e
      exact absurd e.symm (nLc c2 l2)
    · rw [adx, adn z1] at e
      exact absurd e (nLc c1 l1)
    · rw [adn z1, adn z2] at e
      exact T.inj c1 c2 l1 l2 e
  · rcases lv c hc with rfl | ⟨z, hc'⟩
    · rw [adx]
      exact FL
    · rw [adn z]
      exact n6 c hc'
  · show ((s.pr ++ [(x, h, d)]).map (·.1)).Nodup
    rw [List.map_append, List.nodup_append]
    refine ⟨T.ndw, by simp, fun w hw z hz => ?_⟩
    rw [List.map_singleton, List.mem_singleton] at hz
    rw [hz]
    intro e
    have e : w = x := e
    rw [e] at hw
    exact hx hw
  · intro q hq
    rcases List.mem_append.mp hq with hq | hq
    · exact T.hds q hq
    · rw [List.mem_singleton.mp hq]
      exact hh
  · show (s.pr ++ [(x, h, d)]).length + s.tk.length + s.fa.length ≤ 1000
    rw [List.length_append]
    exact sz
end
end KP
namespace KT
open PySem PySem.Spec PyProof.Rows L2 KM
section
variable {X : Cx}
/-- case (.., a, .., _): a tuple, part by part -/
def mTupE (K : PySem.W.Frag) (n : Nat) (ok : List V → Prop) (hit : List V → Bool) (get : List V → List V) (js : List Nat) (tb : TS) (rest : V → TS) : V → TS := fun v D σ H => ∃ a xs, v = .ref a ∧ SqT K H a xs ∧
  ((xs.length ≠ n ∧ rest v D σ H) ∨ (xs.length = n ∧ ok xs ∧ ((hit xs = true ∧ tb D (setAll σ js (get xs)) H) ∨ (hit xs = false ∧ rest v D σ H))))
theorem pm_tup {p3 : Pos} {ps : List Pattern} {ns : List Str} {js : List Nat} {n : Nat} {body : List Stmt} {cs : List MatchCase} {tb : TS} {rest : V → TS} {ok : List V → Prop} {hit : List V → Bool} {get : List V → List V}
    (hc : X.calm = true) (c : PEach X ps ns ok hit get) (hs : Stor X ns js) (hb : PSs X body tb) (hr : PM X cs rest) (hpn : ps.length = n := by rfl)
    (hstar : ps.findIdx? (·.isStar) = none := by rfl) (hwild : (ps.all fun p => p.isWildcard || (p.isStar && p.names.isEmpty)) = false := by rfl) :
    PM X (⟨.MatchSequence ps p3, none, body⟩ :: cs) (mTupE X.K n ok hit get js tb rest) := by
  refine ⟨fun first pins s σ H D v u I rv h => ?_⟩
  obtain ⟨a, xs, rfl, hq, h⟩ := h
  cases rv
  obtain ⟨its, rx, ht, hz⟩ := I.tuple hq
  have hsz : its.toArray.size = xs.length := by simp [rx.length]
  have hfit : ((its.toArray.size : Nat) : Int) < 2 ^ 63 := by
    have : xs.length ≤ sizeLine := hz
    have e : sizeLine = 16777216 := by decide
    omega
  refine wpAny_matchCases_cons ?_
  rcases h with ⟨hne, h⟩ | ⟨hlen, hok, h⟩
  · refine matchSeq_tuple_miss ht hfit (by rw [hsz, hpn]; exact hne) ?_ hstar hwild
    exact hr.run false pins _ σ H D (.ref a) (.ref a) (I.tok _) rfl h
  · refine matchSeq_tuple_hit ht hfit (by rw [hsz, hlen, hpn]) ?_ hstar hwild
    have I1 : Inv X pins σ H { s with toks := s.toks + 1 + 1 } := I.tok _
    have hl2 : ps.length = its.toArray.size := by rw [hsz, hlen, hpn]
    rw [hl2]
    refine unpackItems_tuple (I.ok.hd hc) (show IsTup ({ s with toks := s.toks + 1 + 1 } : Shared).heap a its.toArray from ht) fun h' hx' => ?_
    have I2 := I1.kept (h' := h') (t' := s.toks + 1 + 1) fun b o e => hx' b o (Nat.ne_of_lt (Heap.lt_size e)) e
    refine c.run pins _ σ H xs _ _ I2 (by simpa using rx) (by rw [hlen, hpn]) hok (fun hh s' ws I' r' => ?_) (fun hh s' I' => ?_)
    · rcases h with ⟨_, h⟩ | ⟨h0, _⟩
      · refine hs.run pins s' σ H (get xs) ws _ I' r' ?_ fun s5 I5 => ?_
        · have := r'.length
          rw [c.len xs (by rw [hlen, hpn])] at this
          exact this.symm
        · exact hb.run pins s5 _ H D I5 h
      · rw [hh] at h0
        cases h0
    · rcases h with ⟨h1, _⟩ | ⟨_, h⟩
      · rw [hh] at h1
        cases h1
      · exact hr.run false pins _ σ H D (.ref a) (.ref a) I' rfl h
end
end KT
namespace KP
open PySem L2 KD KM KT
def spTM (C Cy : Addr) : Sp := fun vs H Q _ => ∃ (p : Addr) (x : Str) (d c : Int) (F0 F : Hp) (y : Yr) (rows : List R3) (s : TSt), vs = [.ref p, .int d, .str x, .int c] ∧ TalW C Cy F0 F H p y rows s ∧ x ∈ s.ws ∧ 0 ≤ d ∧ d ≤ y.days + 1 ∧ ∀ H', TalW C Cy F0 F H' p y rows (s.more d x c) → Q .non H'
def spTP (C Cy : Addr) : Sp := fun vs H Q _ => ∃ (p : Addr) (x h : Str) (n d c : Int) (F0 F : Hp) (y : Yr) (rows : List R3) (s : TSt), vs = [.ref p, .int n, .int d, .str x, .str h, .int c] ∧ TalW C Cy F0 F H p y rows s ∧ h ∈ nms y.hs ∧ 0 ≤ d ∧ d ≤ y.days + 1 ∧ n ∉ s.tk.map (·.1) ∧ s.pr.length + s.tk.length + s.fa.length + 2 < 1000 ∧ ∀ H', TalW C Cy F0 F H' p y rows (s.promise y n d x h c) → Q .non H'
def spTL (C Cy : Addr) : Sp := fun vs H Q _ => ∃ (p : Addr) (x : Str) (n d c : Int) (F0 F : Hp) (y : Yr) (rows : List R3) (s : TSt), vs = [.ref p, .int n, .int d, .str x, .int c] ∧ TalW C Cy F0 F H p y rows s ∧ 0 ≤ d ∧ d ≤ y.days + 1 ∧ n ∉ s.tk.map (·.1) ∧ s.pr.length + s.tk.length + s.fa.length + 2 < 1000 ∧ ∀ H', TalW C Cy F0 F H' p y rows (s.lessen y n d x c) → Q .non H'
def spTO (C Cy : Addr) : Sp := fun vs H Q _ => ∃ (p : Addr) (x : Str) (n d c : Int) (F0 F : Hp) (y : Yr) (rows : List R3) (s : TSt), vs = [.ref p, .int n, .int d, .str x, .int c] ∧ TalW C Cy F0 F H p y rows s ∧ 0 ≤ d ∧ d ≤ y.days + 1 ∧ n ∉ s.tk.map (·.1) ∧ s.pr.length + s.tk.length + s.fa.length + 2 < 1000 ∧ ∀ H', TalW C Cy F0 F H' p y rows (s.pay y n d x c) → Q .non H'
def spTGT (C Cy : Addr) : Sp := fun vs H Q _ => ∃ (p u : Addr) (n d : Int) (e : En) (F0 F : Hp) (y : Yr) (rows : List R3) (s : TSt), vs = [.ref p, .int n, .int d, .ref u] ∧ F u = some (.tup e.tup) ∧ TalW C Cy F0 F H p y rows s ∧ e.ok ∧ e.fit (nms y.hs) y.days d = true ∧ 0 ≤ d ∧ d ≤ y.days ∧ n ∉ s.tk.map (·.1) ∧ s.pr.length + s.tk.length + s.fa.length + 2 < 1000 ∧ 
  ∀ H', TalW C Cy F0 F H' p y rows (s.step y (n, d, e)) → Q .non H'
abbrev sTM : Stmt := inClass (top 44) 8
abbrev nTM : List Str := ["self", "date", "word", "coins", "changes", "head", "promised_at"]
theorem scTM : FnScope nTM ["self", "date", "word", "coins"] (defScope sTM) := ⟨rfl, rfl, rfl, by decide +kernel, rfl, by decide +kernel, by decide +kernel⟩
abbrev sTP : Stmt := inClass (top 44) 7
abbrev nTP : List Str := ["self", "number", "date", "word", "head", "coins"]
theorem scTP : FnScope nTP ["self", "number", "date", "word", "head", "coins"] (defScope sTP) := ⟨rfl, rfl, rfl, by decide +kernel, rfl, by decide +kernel, by decide +kernel⟩
abbrev sTL : Stmt := inClass (top 44) 9
abbrev nTL : List Str := ["self", "number", "date", "word", "coins", "head", "promised_at"]
theorem scTL : FnScope nTL ["self", "number", "date", "word", "coins"] (defScope sTL) := ⟨rfl, rfl, rfl, by decide +kernel, rfl, by decide +kernel, by decide +kernel⟩
abbrev sTO : Stmt := inClass (top 44) 10
abbrev nTO : List Str := ["self", "number", "date", "word", "coins", "paid", "head", "promised_at"]
theorem scTO : FnScope nTO ["self", "number", "date", "word", "coins"] (defScope sTO) := ⟨rfl, rfl, rfl, by decide +kernel, rfl, by decide +kernel, by decide +kernel⟩
abbrev sTGT : Stmt := inClass (top 44) 3
abbrev nTGT : List Str := ["self", "number", "date", "told", "head", "coins", "until", "other", "word"]
theorem scTGT : FnScope nTGT ["self", "number", "date", "told"] (defScope sTGT) := ⟨rfl, rfl, rfl, by decide +kernel, rfl, by decide +kernel, by decide +kernel⟩
theorem hd_of {s : TSt} {x : Str} (h : x ∈ s.ws) : ∃ q ∈ s.pr, q.1 = x ∧ s.hd x = q.2.1 ∧ s.at_ x = q.2.2 := by
  unfold TSt.hd TSt.at_
  cases e : s.pr.find? fun q => decide (q.1 = x) with
  | none =>
    obtain ⟨q, hq, z⟩ := List.mem_map.mp h
    have := List.find?_eq_none.mp e q hq
    exact absurd (decide_eq_true z) this
  | some q => exact ⟨q, List.mem_of_find?_eq_some e, of_decide_eq_true (List.find?_some (p := fun q : Str × Str × Int => decide (q.1 = x)) e), rfl, rfl⟩
theorem chL_ints {days : Int} {f : Int → Int} : chL days f = ((List.range (days.toNat + 2)).map fun i : Nat => f (i : Int)).map V.int := by
  unfold chL
  rw [List.map_map]
  rfl
section
variable {P : Program} {w : World} {K : PySem.W.Frag} {mg : Str → Option Value} {base : Heap} {C Cy : Addr} {a : TAd} {F0 F H : Hp} {p : Addr} {y : Yr} {rows : List R3} {s : TSt}
theorem TalB.gdw (T : TalB C Cy a F0 F H p y rows s) {x : Str} (h : x ∈ s.ws) : DGet H a.dw (.str x) (some (.ref (a.ad (.wd x)))) := by
  have := DGet.k (k := .inr x) T.dw
  rw [valV_r (g := fun q : Str × Str × Int => q.1) (F := fun z => V.ref (a.ad (.wd z))) h] at this
  exact this
theorem TalB.gdp (T : TalB C Cy a F0 F H p y rows s) {x : Str} (h : x ∈ s.ws) : DGet H a.dp (.str x) (some (.ref (a.tp x))) := by
  have := DGet.k (k := .inr x) T.dp
  rw [valV_r (g := fun q : Str × Str × Int => q.1) (F := fun z => V.ref (a.tp z)) h] at this
  exact this
theorem TalB.gdp0 (T : TalB C Cy a F0 F H p y rows s) {x : Str} (h : x ∉ s.ws) : DGet H a.dp (.str x) none := by
  have := DGet.k (k := .inr x) T.dp
  rw [valV_r0 (g := fun q : Str × Str × Int => q.1) (F := fun z => V.ref (a.tp z)) h] at this
  exact this
theorem TalB.tpt (T : TalB C Cy a F0 F H p y rows s) {x : Str} (h : x ∈ s.ws) : H (a.tp x) = some (.tup [.str (s.hd x), .int (s.at_ x)]) ∧ s.hd x ∈ nms y.hs := by
  obtain ⟨q, hq, rfl, e1, e2⟩ := hd_of h
  rw [e1, e2]
  exact ⟨T.dpt q hq, T.hds q hq⟩
theorem hd_add {c : Cell} {d x : Int} {z : Str} : (s.add c d x).hd z = s.hd z := rfl
theorem c_tm (TF : TalF K mg C) (Ch : MetT P w K mg base 1 C "change" (spTC C Cy)) (D : MethT K C "promise_more" "Tally.promise_more" sTM ["self", "date", "word", "coins"]) : MetT P w K mg base 2 C "promise_more" (spTM C Cy) := by
  refine met TF.cl D scTM (fun vs H Q E h => ?_) (fun f cdv A outer s H vs Q E hr h => ?_)
  · obtain ⟨p, x, d, c, F0, F, y, rows, st, rfl, _⟩ := h
    rfl
  · obtain ⟨p, x, d, c, F0, F, y, rows, st, rfl, ⟨a, T⟩, hx, d0, d1, k⟩ := h
    have dd := T.ok.d
    have lv : live y st (.wd x) := hx
    have hc := T.cell _ lv
    refine ⟨_, (pss_cons (ps_set (i := 4) scTM.nd rfl (by first | exact Or.inl rfl | exact Or.inr rfl) (pe_dget (hu_of hr) (pe_fld (pv 0) rfl) (pv 2) (fun _ _ => rfl)))
        (pss_cons (ps_augS (pv 4) (pv 1) KQ.get_list (pv 3) ip_add set_list)
        (pss_cons (ps_asg (pe_dget (hu_of hr) (pe_fld (pv 0) rfl) (pv 2) (fun _ _ => rfl)) (pg_tup rfl (pgs_cons (pg_name (i := 5) scTM.nd rfl (by first | exact Or.inl rfl | exact Or.inr rfl)) (pgs_cons (pg_name (i := 6) scTM.nd rfl (by first | exact Or.inl rfl | exact Or.inr rfl)) pgs_nil))))
        (pss_one (ps_expr (pe_mtT Ch hr (by decide) (pv 0) (pa_cons pe_str (pa_cons (pv 1) (pa_cons (pv 5) (pa_cons (pv 3) pa_nil)))))))))), ?_⟩
    refine ⟨_, rfl, p, C, a.dx, _, _, rfl, T.ins, TF.cl, TF.na _ (by simp [tKeys]), rfl, _, rfl, a.dw, .ref (a.ad (.wd x)), rfl, T.gdw hx, ?_⟩
    refine ⟨_, rfl, _, rfl, a.ad (.wd x), _, d.toNat, _, rfl, (by rw [show ((d.toNat : Nat) : Int) = d by omega]), SqL.of hc, chL_get d0 d1, _, rfl, _, _, rfl, rfl, a.ad (.wd x), _, d, d.toNat, rfl, rfl, hc, (by rw [chL_len]; exact ixN_pos d0 (by omega)), ?_⟩
    rw [chL_set d0 d1]
    have T1 : TalB C Cy a F0 F (upd H (a.ad (.wd x)) (.lst (chL y.days (addV st.v (.wd x) d c (.wd x))))) p y rows (st.add (.wd x) d c) := T.wr lv
    generalize upd H (a.ad (.wd x)) _ = H1 at T1 ⊢
    obtain ⟨ht, hh⟩ := T1.tpt (x := x) hx
    refine ⟨_, rfl, p, C, a.dx, _, _, rfl, T1.ins, TF.cl, TF.na _ (by simp [tKeys]), rfl, _, rfl, a.dp, .ref (a.tp x), rfl, T1.gdp hx, a.tp x, _, rfl, SqT.of ht, rfl, _, _, rfl, _, _, rfl, rfl, ?_⟩
    exact ⟨_, rfl, p, a.dx, _, rfl, T1.ins, tF_no (by decide +kernel), _, rfl, _, rfl, _, rfl, p, "promised", _, d, c, F0, F, y, rows, _, rfl, ⟨a, T1⟩, (by decide +kernel), hh, d0, d1, fun H2 T2 => k _ T2⟩
set_option maxHeartbeats 1000000 in
theorem c_tp (TF : TalF K mg C) (Nc : MetT P w K mg base 1 C "no_changes" (spTN C Cy)) (Pm : MetT P w K mg base 2 C "promise_more" (spTM C Cy)) (Tk : MetT P w K mg base 4 C "take" (spTT C Cy)) (D : MethT K C "promise" "Tally.promise" sTP ["self", "number", "date", "word", "head", "coins"]) : MetT P w K mg base 5 C "promise" (spTP C Cy) := by
  refine met TF.cl D scTP (fun vs H Q E h => ?_) (fun f cdv A outer s H vs Q E hr h => ?_)
  · obtain ⟨p, x, h, n, d, c, F0, F, y, rows, st, rfl, _⟩ := h
    rfl
  · obtain ⟨p, x, h, n, d, c, F0, F, y, rows, st, rfl, ⟨a, T⟩, hh, d0, d1, hn, sz, k⟩ := h
    have hz : sizeLine = 16777216 := by decide
    refine ⟨_, (pss_cons (ps_if (pt_cmp (pc_din (hu_of hr) (pv 3) (pe_fld (pv 0) rfl)) rfl) (pss_cons (ps_expr (pe_bm PySem.F.plainAttrs_list PySem.F.slot_list_append PySem.F.type_list_append mt_append (pe_fld (pv 0) rfl) (pa_cons (pe_tupW (pa_cons (pv 2) (pa_cons (pv 1) pa_nil))) pa_nil)))
        (pss_one ps_retN)) pss_nil)
        (pss_cons (ps_dput (hu_of hr) (pe_fld (pv 0) rfl) (pv 3) (pe_tupW (pa_cons (pv 4) (pa_cons (pv 2) pa_nil))) rfl)
        (pss_cons (ps_dput (hu_of hr) (pe_fld (pv 0) rfl) (pv 3) (pe_mtT0 Nc hr (by decide) (pv 0)) rfl)
        (pss_cons (ps_expr (pe_mtT Pm hr (by decide) (pv 0) (pa_cons (pv 2) (pa_cons (pv 3) (pa_cons (pv 5) pa_nil)))))
        (pss_one (ps_expr (pe_mtT Tk hr (by decide) (pv 0) (pa_cons (pv 1) (pa_cons (pv 2) (pa_cons (pv 4) (pa_cons (pv 5) pa_nil))))))))))), ?_⟩
    unfold TSt.promise at k
    refine ⟨_, rfl, _, rfl, p, C, a.dx, _, _, rfl, T.ins, TF.cl, TF.na _ (by simp [tKeys]), rfl, a.dp, ?_⟩
    by_cases hx : x ∈ st.ws
    · rw [if_pos hx] at k
      refine ⟨_, rfl, T.gdp hx, _, rfl, iteT ?_⟩
      exact ⟨_, rfl, p, C, a.dx, _, _, rfl, T.ins, TF.cl, TF.na _ (by simp [tKeys]), rfl, .inl ⟨rfl, _, SqL.of T.fl⟩, _, rfl, _, rfl, (by show 2 ≤ sizeLine; omega), fun t H1 s1 nt ht => ⟨a.fl, _, _, rfl, rfl, s1 _ _ T.fl, (by rw [List.length_map, Paired.length T.flt]; omega), k _ ⟨_, (T.same s1).put_fault (n := n) (d := d) ht (by omega)⟩⟩⟩
    · rw [if_neg hx] at k
      refine ⟨_, rfl, T.gdp0 hx, _, rfl, iteF ?_⟩
      refine ⟨_, rfl, _, rfl, (by show 2 ≤ sizeLine; omega), fun t H1 s1 nt ht => ?_⟩
      have T1 := T.same s1
      refine ⟨_, rfl, p, C, a.dx, _, _, rfl, T1.ins, TF.cl, TF.na _ (by simp [tKeys]), rfl, _, rfl, a.dp, _, rfl, DPut.k (k := .inr x) T1.dp (by rw [List.length_map]; omega), ?_⟩
      generalize e2 : upd H1 a.dp (.dK (putK (st.pr.map fun q => ((Sum.inr q.1 : Key), V.ref (a.tp q.1))) (.inr x) (.ref t))) = H2
      have hp2 : H2 p = some (.ins C a.dx (tFs a)) := by
        rw [← e2, upd_ne (fun z => by have := T1.ins; rw [z, T1.dp] at this; cases this)]
        exact T1.ins
      have ndw : a.dw ≠ a.dp := fun z => by
        have := T.ap.1
        rw [z] at this
        simp at this
      have hy2 : YearAt Cy [] H2 a.yp y := (T1.yr.same T1.sub).same fun b o e => by
        rw [← e2, upd_ne (fun z => by rw [z, T1.nF.2.2.1] at e; cases e)]
        exact T1.keep b o e
      refine ⟨_, rfl, p, a.dx, _, rfl, hp2, tF_no (by decide +kernel), p, a.dx, a.yp, _, y, rfl, hp2, rfl, hy2, T.ok, fun L H3 s3 nL hL => ?_⟩
      have hdw3 : H3 a.dw = some (.dK (st.pr.map fun q => ((Sum.inr q.1 : Key), V.ref (a.ad (.wd q.1))))) := s3 _ _ (by rw [← e2, upd_ne ndw]; exact T1.dw)
      refine ⟨_, rfl, p, C, a.dx, _, _, rfl, s3 _ _ hp2, TF.cl, TF.na _ (by simp [tKeys]), rfl, _, rfl, a.dw, _, rfl, DPut.k (k := .inr x) hdw3 (by rw [List.length_map]; omega), ?_⟩
      have T4 := T1.put_word (x := x) ht hx hh (by omega) e2.symm s3 nL hL
      generalize upd H3 a.dw _ = H4 at T4 ⊢
      have T4' : TalW C Cy F0 F H4 p y rows (st.word x h d) := ⟨_, T4⟩
      have xw : x ∈ (st.word x h d).ws := by
        show x ∈ (st.pr ++ [(x, h, d)]).map (·.1)
        simp
      refine ⟨_, rfl, p, _, _, rfl, T4.ins, tF_no (by decide +kernel), _, rfl, _, rfl, _, rfl, p, x, d, c, F0, F, y, rows, _, rfl, T4', xw, d0, d1, fun H5 T5 => ?_⟩
      obtain ⟨a5, B5⟩ := id T5
      exact ⟨_, rfl, p, _, _, rfl, B5.ins, tF_no (by decide +kernel), _, rfl, _, rfl, _, rfl, _, rfl, p, n, h, d, c, F0, F, y, rows, _, rfl, T5, hh, d0, d1, hn, (by show (st.pr ++ [(x, h, d)]).length + st.tk.length + st.fa.length < 1000; rw [List.length_append]; show st.pr.length + 1 + _ + _ < 1000; omega), fun H6 T6 => k _ T6⟩
end
end KP
namespace KP
open PySem L2 KD KM KT
section
variable {P : Program} {w : World} {K : PySem.W.Frag} {mg : Str → Option Value} {base : Heap} {C Cy : Addr}
set_option maxHeartbeats 1000000 in
theorem c_tl (B2 : Base2 K mg) (TF : TalF K mg C) (Pm : MetT P w K mg base 2 C "promise_more" (spTM C Cy)) (Tk : MetT P w K mg base 4 C "take" (spTT C Cy)) (D : MethT K C "lessen" "Tally.lessen" sTL ["self", "number", "date", "word", "coins"]) : MetT P w K mg base 5 C "lessen" (spTL C Cy) := by
  refine met TF.cl D scTL (fun vs H Q E h => ?_) (fun f cdv A outer s H vs Q E hr h => ?_)
  · obtain ⟨p, x, n, d, c, F0, F, y, rows, st, rfl, _⟩ := h
    rfl
  · obtain ⟨p, x, n, d, c, F0, F, y, rows, st, rfl, ⟨a, T⟩, d0, d1, hn, sz, k⟩ := h
    have hz : sizeLine = 16777216 := by decide
    refine ⟨_, (pss_cons (ps_if (PW.pt (pw_or (pt_cmp (pc_dnotin (hu_of hr) (pv 3) (pe_fld (pv 0) rfl)) rfl) (pw_or1 (pt_cmpR op_gt (pv 4) (pe_callB (cr_sum rfl) (by rfl) B2.sum (by decide +kernel) (pa_cons (pe_dget (hu_of hr) (pe_fld (pv 0) rfl) (pv 3) (fun _ _ => rfl)) pa_nil)) (nomark _))))) (pss_cons (ps_expr (pe_bm PySem.F.plainAttrs_list PySem.F.slot_list_append PySem.F.type_list_append mt_append (pe_fld (pv 0) rfl) (pa_cons (pe_tupW (pa_cons (pv 2) (pa_cons (pv 1) pa_nil))) pa_nil)))
        (pss_one ps_retN)) pss_nil)
        (pss_cons (ps_expr (pe_mtT Pm hr (by decide) (pv 0) (pa_cons (pv 2) (pa_cons (pv 3) (pa_cons (pe_un un_neg (pv 4)) pa_nil)))))
        (pss_cons (ps_asg (pe_dget (hu_of hr) (pe_fld (pv 0) rfl) (pv 3) (fun _ _ => rfl)) (pg_tup rfl (pgs_cons (pg_name (i := 5) scTL.nd rfl (by first | exact Or.inl rfl | exact Or.inr rfl)) (pgs_cons (pg_name (i := 6) scTL.nd rfl (by first | exact Or.inl rfl | exact Or.inr rfl)) pgs_nil))))
        (pss_one (ps_expr (pe_mtT Tk hr (by decide) (pv 0) (pa_cons (pv 1) (pa_cons (pv 2) (pa_cons (pv 5) (pa_cons (pe_un un_neg (pv 4)) pa_nil)))))))))), ?_⟩
    unfold TSt.lessen at k
    refine ⟨_, rfl, _, rfl, p, C, a.dx, _, _, rfl, T.ins, TF.cl, TF.na _ (by simp [tKeys]), rfl, a.dp, ?_⟩
    by_cases hx : x ∈ st.ws
    · refine ⟨_, rfl, T.gdp hx, _, rfl, iteF ?_⟩
      have hc := T.cell (.wd x) hx
      rw [chL_ints] at hc
      refine ⟨_, rfl, _, rfl, p, C, a.dx, _, _, rfl, T.ins, TF.cl, TF.na _ (by simp [tKeys]), rfl, _, rfl, a.dw, .ref (a.ad (.wd x)), rfl, T.gdw hx, a.ad (.wd x), _, rfl, SqL.of hc, _, _, rfl, rfl, _, rfl, ?_⟩
      show if decide (st.has y x < c) = true then _ else _
      by_cases hl : st.has y x < c
      · rw [if_pos (.inr hl)] at k
        rw [decide_eq_true hl]
        exact iteT ⟨_, rfl, p, C, a.dx, _, _, rfl, T.ins, TF.cl, TF.na _ (by simp [tKeys]), rfl, .inl ⟨rfl, _, SqL.of T.fl⟩, _, rfl, _, rfl, (by show 2 ≤ sizeLine; omega), fun t H1 s1 nt ht => ⟨a.fl, _, _, rfl, rfl, s1 _ _ T.fl, (by rw [List.length_map, Paired.length T.flt]; omega), k _ ⟨_, (T.same s1).put_fault (n := n) (d := d) ht (by omega)⟩⟩⟩
      · rw [if_neg (fun z => z.elim (fun z => z hx) hl)] at k
        rw [decide_eq_false hl]
        refine iteF ⟨_, rfl, p, _, _, rfl, T.ins, tF_no (by decide +kernel), _, rfl, _, rfl, _, rfl, _, rfl, p, x, d, -c, F0, F, y, rows, _, rfl, ⟨a, T⟩, hx, d0, d1, fun H1 T1 => ?_⟩
        obtain ⟨a1, B1⟩ := id T1
        obtain ⟨ht, hh⟩ := B1.tpt (x := x) hx
        refine ⟨_, rfl, p, C, a1.dx, _, _, rfl, B1.ins, TF.cl, TF.na _ (by simp [tKeys]), rfl, _, rfl, a1.dp, .ref (a1.tp x), rfl, B1.gdp hx, a1.tp x, _, rfl, SqT.of ht, rfl, _, _, rfl, _, _, rfl, rfl, ?_⟩
        exact ⟨_, rfl, p, _, _, rfl, B1.ins, tF_no (by decide +kernel), _, rfl, _, rfl, _, rfl, _, rfl, _, rfl, p, n, _, d, -c, F0, F, y, rows, _, rfl, T1, hh, d0, d1, hn, (by show st.pr.length + st.tk.length + st.fa.length < 1000; omega), fun H6 T6 => k _ T6⟩
    · rw [if_pos (.inl hx)] at k
      refine ⟨_, rfl, T.gdp0 hx, _, rfl, iteT (iteT ?_)⟩
      exact ⟨_, rfl, p, C, a.dx, _, _, rfl, T.ins, TF.cl, TF.na _ (by simp [tKeys]), rfl, .inl ⟨rfl, _, SqL.of T.fl⟩, _, rfl, _, rfl, (by show 2 ≤ sizeLine; omega), fun t H1 s1 nt ht => ⟨a.fl, _, _, rfl, rfl, s1 _ _ T.fl, (by rw [List.length_map, Paired.length T.flt]; omega), k _ ⟨_, (T.same s1).put_fault (n := n) (d := d) ht (by omega)⟩⟩⟩
set_option maxHeartbeats 1000000 in
theorem c_to (B2 : Base2 K mg) (TF : TalF K mg C) (Ch : MetT P w K mg base 1 C "change" (spTC C Cy)) (Pm : MetT P w K mg base 2 C "promise_more" (spTM C Cy)) (Tk : MetT P w K mg base 4 C "take" (spTT C Cy)) (D : MethT K C "pay_out" "Tally.pay_out" sTO ["self", "number", "date", "word", "coins"]) : MetT P w K mg base 5 C "pay_out" (spTO C Cy) := by
  refine met TF.cl D scTO (fun vs H Q E h => ?_) (fun f cdv A outer s H vs Q E hr h => ?_)
  · obtain ⟨p, x, n, d, c, F0, F, y, rows, st, rfl, _⟩ := h
    rfl
  · obtain ⟨p, x, n, d, c, F0, F, y, rows, st, rfl, ⟨a, T⟩, d0, d1, hn, sz, k⟩ := h
    have hz : sizeLine = 16777216 := by decide
    refine ⟨_, (pss_cons (ps_if (pt_cmp (pc_dnotin (hu_of hr) (pv 3) (pe_fld (pv 0) rfl)) rfl) (pss_cons (ps_expr (pe_bm PySem.F.plainAttrs_list PySem.F.slot_list_append PySem.F.type_list_append mt_append (pe_fld (pv 0) rfl) (pa_cons (pe_tupW (pa_cons (pv 2) (pa_cons (pv 1) pa_nil))) pa_nil)))
        (pss_one ps_retN)) pss_nil)
        (pss_cons (ps_set (i := 5) scTO.nd rfl (by first | exact Or.inl rfl | exact Or.inr rfl) (pe_callB (call_min2 rfl) (by rfl) B2.min (by decide +kernel) (pa_cons (pv 4) (pa_cons (pe_callB (cr_sum rfl) (by rfl) B2.sum (by decide +kernel) (pa_cons (pe_dget (hu_of hr) (pe_fld (pv 0) rfl) (pv 3) (fun _ _ => rfl)) pa_nil)) pa_nil))))
        (pss_cons (ps_expr (pe_mtT Pm hr (by decide) (pv 0) (pa_cons (pv 2) (pa_cons (pv 3) (pa_cons (pe_un un_neg (pv 5)) pa_nil)))))
        (pss_cons (ps_asg (pe_dget (hu_of hr) (pe_fld (pv 0) rfl) (pv 3) (fun _ _ => rfl)) (pg_tup rfl (pgs_cons (pg_name (i := 6) scTO.nd rfl (by first | exact Or.inl rfl | exact Or.inr rfl)) (pgs_cons (pg_name (i := 7) scTO.nd rfl (by first | exact Or.inl rfl | exact Or.inr rfl)) pgs_nil))))
        (pss_cons (ps_expr (pe_mtT Ch hr (by decide) (pv 0) (pa_cons pe_str (pa_cons (pv 2) (pa_cons (pv 6) (pa_cons (pv 4) pa_nil))))))
        (pss_one (ps_expr (pe_mtT Tk hr (by decide) (pv 0) (pa_cons (pv 1) (pa_cons (pv 2) (pa_cons (pv 6) (pa_cons (pe_op op_sub (pv 4) (pv 5)) pa_nil)))))))))))), ?_⟩
    unfold TSt.pay at k
    refine ⟨_, rfl, _, rfl, p, C, a.dx, _, _, rfl, T.ins, TF.cl, TF.na _ (by simp [tKeys]), rfl, a.dp, ?_⟩
    by_cases hx : x ∈ st.ws
    · rw [if_neg (fun z => z hx)] at k
      refine ⟨_, rfl, T.gdp hx, _, rfl, iteF ?_⟩
      have hc := T.cell (.wd x) hx
      rw [chL_ints] at hc
      refine ⟨_, rfl, _, rfl, p, C, a.dx, _, _, rfl, T.ins, TF.cl, TF.na _ (by simp [tKeys]), rfl, _, rfl, a.dw, .ref (a.ad (.wd x)), rfl, T.gdw hx, a.ad (.wd x), _, rfl, SqL.of hc, c, st.has y x, rfl, ?_⟩
      refine ⟨_, rfl, p, _, _, rfl, T.ins, tF_no (by decide +kernel), _, rfl, _, rfl, _, rfl, _, rfl, p, x, d, -(if st.has y x < c then st.has y x else c), F0, F, y, rows, _, rfl, ⟨a, T⟩, hx, d0, d1, fun H1 T1 => ?_⟩
      obtain ⟨a1, B1⟩ := id T1
      obtain ⟨ht, hh⟩ := B1.tpt (x := x) hx
      refine ⟨_, rfl, p, C, a1.dx, _, _, rfl, B1.ins, TF.cl, TF.na _ (by simp [tKeys]), rfl, _, rfl, a1.dp, .ref (a1.tp x), rfl, B1.gdp hx, a1.tp x, _, rfl, SqT.of ht, rfl, _, _, rfl, _, _, rfl, rfl, ?_⟩
      refine ⟨_, rfl, p, _, _, rfl, B1.ins, tF_no (by decide +kernel), _, rfl, _, rfl, _, rfl, p, "spent", _, d, c, F0, F, y, rows, _, rfl, T1, (by decide +kernel), hh, d0, d1, fun H2 T2 => ?_⟩
      obtain ⟨a2, B2'⟩ := id T2
      exact ⟨_, rfl, p, _, _, rfl, B2'.ins, tF_no (by decide +kernel), _, rfl, _, rfl, _, rfl, _, rfl, _, rfl, _, _, rfl, rfl, p, n, _, d, _, F0, F, y, rows, _, rfl, T2, hh, d0, d1, hn, (by show st.pr.length + st.tk.length + st.fa.length < 1000; omega), fun H6 T6 => k _ T6⟩
    · rw [if_pos hx] at k
      refine ⟨_, rfl, T.gdp0 hx, _, rfl, iteT ?_⟩
      exact ⟨_, rfl, p, C, a.dx, _, _, rfl, T.ins, TF.cl, TF.na _ (by simp [tKeys]), rfl, .inl ⟨rfl, _, SqL.of T.fl⟩, _, rfl, _, rfl, (by show 2 ≤ sizeLine; omega), fun t H1 s1 nt ht => ⟨a.fl, _, _, rfl, rfl, s1 _ _ T.fl, (by rw [List.length_map, Paired.length T.flt]; omega), k _ ⟨_, (T.same s1).put_fault (n := n) (d := d) ht (by omega)⟩⟩⟩
end
end KP
namespace KT
open PySem L2
theorem hit_no {k k' : Str} {hit : List V → Bool} {vs : List V} (h : (k' == k) = false) : hitLit k hit (.str k' :: vs) = false := by
  show (decide (V.str k' = V.str k) && hit vs) = false
  rw [decide_eq_false (fun e => by injection e with e; rw [e] at h; simp at h)]
  rfl
theorem hit_yes {k : Str} {hit : List V → Bool} {vs : List V} (h : hit vs = true) : hitLit k hit (.str k :: vs) = true := by
  show (decide (V.str k = V.str k) && hit vs) = true
  rw [decide_eq_true rfl, h]
  rfl
end KT
namespace KP
open PySem L2 KD KM KT
section
variable {P : Program} {w : World} {K : PySem.W.Frag} {mg : Str → Option Value} {base : Heap} {C Cy : Addr}
set_option maxHeartbeats 2000000 in
theorem c_tgt (TF : TalF K mg C) (Gv : MetT P w K mg base 3 C "give" (spTG C Cy)) (Ho : MetT P w K mg base 2 C "hold" (spTH C Cy)) (Ch : MetT P w K mg base 1 C "change" (spTC C Cy)) (Tk : MetT P w K mg base 4 C "take" (spTT C Cy)) (Pr : MetT P w K mg base 5 C "promise" (spTP C Cy)) (Le : MetT P w K mg base 5 C "lessen" (spTL C Cy)) (Py : MetT P w K mg base 5 C "pay_out" (spTO C Cy)) (D : MethT K C "go_through" "Tally.go_through" sTGT ["self", "number", "date", "told"]) : MetT P w K mg base 6 C "go_through" (spTGT C Cy) := by
  refine met TF.cl D scTGT (fun vs H Q E h => ?_) (fun f cdv A outer s H vs Q E hr h => ?_)
  · obtain ⟨p, u, n, d, e, F0, F, y, rows, st, rfl, _⟩ := h
    rfl
  · obtain ⟨p, u, n, d, e, F0, F, y, rows, st, rfl, hu, ⟨a, T⟩, he, hf, d0, d1, hn, sz, k⟩ := h
    have hu := T.keep _ _ hu
    have TW : TalW C Cy F0 F H p y rows st := ⟨a, T⟩
    have d2 : d ≤ y.days + 1 := by omega
    refine ⟨_, (pss_one (KM.ps_match (pv 3)
          (KT.pm_tup (n := 4) rfl (KT.each_lit (KT.each_cap (KT.each_cap (KT.each_any KT.each_nil)))) (KM.stores_cons (i := 4) scTGT.nd (KM.stores_cons (i := 5) scTGT.nd KM.stores_nil rfl (by first | exact Or.inl rfl | exact Or.inr rfl)) rfl (by first | exact Or.inl rfl | exact Or.inr rfl)) (pss_one (ps_expr (pe_mtT Gv hr (by decide) (pv 0) (pa_cons (pv 2) (pa_cons (pv 4) (pa_cons (pv 5) pa_nil))))))
          (KT.pm_tup (n := 5) rfl (KT.each_lit (KT.each_cap (KT.each_cap (KT.each_cap (KT.each_any KT.each_nil))))) (KM.stores_cons (i := 4) scTGT.nd (KM.stores_cons (i := 5) scTGT.nd (KM.stores_cons (i := 6) scTGT.nd KM.stores_nil rfl (by first | exact Or.inl rfl | exact Or.inr rfl)) rfl (by first | exact Or.inl rfl | exact Or.inr rfl)) rfl (by first | exact Or.inl rfl | exact Or.inr rfl)) (pss_one (ps_expr (pe_mtT Ho hr (by decide) (pv 0) (pa_cons (pv 2) (pa_cons (pv 6) (pa_cons (pv 4) (pa_cons (pv 5) pa_nil)))))))
          (KT.pm_tup (n := 5) rfl (KT.each_lit (KT.each_cap (KT.each_cap (KT.each_cap (KT.each_any KT.each_nil))))) (KM.stores_cons (i := 4) scTGT.nd (KM.stores_cons (i := 7) scTGT.nd (KM.stores_cons (i := 5) scTGT.nd KM.stores_nil rfl (by first | exact Or.inl rfl | exact Or.inr rfl)) rfl (by first | exact Or.inl rfl | exact Or.inr rfl)) rfl (by first | exact Or.inl rfl | exact Or.inr rfl)) (pss_cons (ps_expr (pe_mtT Ch hr (by decide) (pv 0) (pa_cons pe_str (pa_cons (pv 2) (pa_cons (pv 4) (pa_cons (pe_un un_neg (pv 5)) pa_nil))))))
        (pss_one (ps_expr (pe_mtT Ch hr (by decide) (pv 0) (pa_cons pe_str (pa_cons (pv 2) (pa_cons (pv 7) (pa_cons (pv 5) pa_nil))))))))
          (KT.pm_tup (n := 4) rfl (KT.each_lit (KT.each_cap (KT.each_cap (KT.each_any KT.each_nil)))) (KM.stores_cons (i := 4) scTGT.nd (KM.stores_cons (i := 5) scTGT.nd KM.stores_nil rfl (by first | exact Or.inl rfl | exact Or.inr rfl)) rfl (by first | exact Or.inl rfl | exact Or.inr rfl)) (pss_cons (ps_expr (pe_mtT Ch hr (by decide) (pv 0) (pa_cons pe_str (pa_cons (pv 2) (pa_cons (pv 4) (pa_cons (pv 5) pa_nil))))))
        (pss_one (ps_expr (pe_mtT Tk hr (by decide) (pv 0) (pa_cons (pv 1) (pa_cons (pv 2) (pa_cons (pv 4) (pa_cons (pv 5) pa_nil))))))))
          (KT.pm_tup (n := 5) rfl (KT.each_lit (KT.each_cap (KT.each_cap (KT.each_cap (KT.each_any KT.each_nil))))) (KM.stores_cons (i := 8) scTGT.nd (KM.stores_cons (i := 4) scTGT.nd (KM.stores_cons (i := 5) scTGT.nd KM.stores_nil rfl (by first | exact Or.inl rfl | exact Or.inr rfl)) rfl (by first | exact Or.inl rfl | exact Or.inr rfl)) rfl (by first | exact Or.inl rfl | exact Or.inr rfl)) (pss_one (ps_expr (pe_mtT Pr hr (by decide) (pv 0) (pa_cons (pv 1) (pa_cons (pv 2) (pa_cons (pv 8) (pa_cons (pv 4) (pa_cons (pv 5) pa_nil))))))))
          (KT.pm_tup (n := 4) rfl (KT.each_lit (KT.each_cap (KT.each_cap (KT.each_any KT.each_nil)))) (KM.stores_cons (i := 8) scTGT.nd (KM.stores_cons (i := 5) scTGT.nd KM.stores_nil rfl (by first | exact Or.inl rfl | exact Or.inr rfl)) rfl (by first | exact Or.inl rfl | exact Or.inr rfl)) (pss_one (ps_expr (pe_mtT Le hr (by decide) (pv 0) (pa_cons (pv 1) (pa_cons (pv 2) (pa_cons (pv 8) (pa_cons (pv 5) pa_nil)))))))
          (KT.pm_tup (n := 4) rfl (KT.each_lit (KT.each_cap (KT.each_cap (KT.each_any KT.each_nil)))) (KM.stores_cons (i := 8) scTGT.nd (KM.stores_cons (i := 5) scTGT.nd KM.stores_nil rfl (by first | exact Or.inl rfl | exact Or.inr rfl)) rfl (by first | exact Or.inl rfl | exact Or.inr rfl)) (pss_one (ps_expr (pe_mtT Py hr (by decide) (pv 0) (pa_cons (pv 1) (pa_cons (pv 2) (pa_cons (pv 8) (pa_cons (pv 5) pa_nil)))))))
          KM.pm_nil))))))))), ?_⟩
    refine ⟨_, rfl, ?_⟩
    cases e with
    | give h c nn =>
      refine ⟨u, _, rfl, SqT.of hu, .inr ⟨rfl, ⟨⟨_, rfl⟩, trivial⟩, .inl ⟨hit_yes rfl, ?_⟩⟩⟩
      have hh : h ∈ nms y.hs := of_decide_eq_true hf
      exact ⟨_, rfl, p, a.dx, _, rfl, T.ins, tF_no (by decide +kernel), _, rfl, _, rfl, _, rfl, p, h, d, c, F0, F, y, rows, _, rfl, TW, hh, d0, d2, (by have := he.2.1.1; omega), he.2.1.2, fun H1 T1 => k _ T1⟩
    | hold h c uu nn =>
      refine ⟨u, _, rfl, SqT.of hu, .inl ⟨(by show (5 : Nat) ≠ 4; decide), ⟨u, _, rfl, SqT.of hu, .inr ⟨rfl, ⟨⟨_, rfl⟩, trivial⟩, .inl ⟨hit_yes rfl, ?_⟩⟩⟩⟩⟩
      have hf : (decide (h ∈ nms y.hs) && decide (d < uu ∧ uu ≤ y.days + 1)) = true := hf
      rw [Bool.and_eq_true, decide_eq_true_eq, decide_eq_true_eq] at hf
      exact ⟨_, rfl, p, a.dx, _, rfl, T.ins, tF_no (by decide +kernel), _, rfl, _, rfl, _, rfl, _, rfl, p, h, d, uu, c, F0, F, y, rows, _, rfl, TW, hf.1, d0, d2, (by omega), hf.2.2, fun H1 T1 => k _ T1⟩
    | move h oo c nn =>
      refine ⟨u, _, rfl, SqT.of hu, .inl ⟨(by show (5 : Nat) ≠ 4; decide), ⟨u, _, rfl, SqT.of hu, .inr ⟨rfl, ⟨⟨_, rfl⟩, trivial⟩, .inr ⟨hit_no (k := "hold") (k' := "move") (by decide +kernel), ⟨u, _, rfl, SqT.of hu, .inr ⟨rfl, ⟨⟨_, rfl⟩, trivial⟩, .inl ⟨hit_yes rfl, ?_⟩⟩⟩⟩⟩⟩⟩⟩
      have hf : (decide (h ∈ nms y.hs) && decide (oo ∈ nms y.hs)) = true := hf
      rw [Bool.and_eq_true, decide_eq_true_eq, decide_eq_true_eq] at hf
      refine ⟨_, rfl, p, a.dx, _, rfl, T.ins, tF_no (by decide +kernel), _, rfl, _, rfl, _, rfl, _, rfl, p, "moved", h, d, -c, F0, F, y, rows, _, rfl, TW, (by decide +kernel), hf.1, d0, d2, fun H1 T1 => ?_⟩
      obtain ⟨a1, B1⟩ := id T1
      exact ⟨_, rfl, p, a1.dx, _, rfl, B1.ins, tF_no (by decide +kernel), _, rfl, _, rfl, _, rfl, p, "moved", oo, d, c, F0, F, y, rows, _, rfl, T1, (by decide +kernel), hf.2, d0, d2, fun H2 T2 => k _ T2⟩
    | spend h c nn =>
      refine ⟨u, _, rfl, SqT.of hu, .inr ⟨rfl, ⟨⟨_, rfl⟩, trivial⟩, .inr ⟨hit_no (k := "give") (k' := "spend") (by decide +kernel), ⟨u, _, rfl, SqT.of hu, .inl ⟨(by show (4 : Nat) ≠ 5; decide), ⟨u, _, rfl, SqT.of hu, .inl ⟨(by show (4 : Nat) ≠ 5; decide), ⟨u, _, rfl, SqT.of hu, .inr ⟨rfl, ⟨⟨_, rfl⟩, trivial⟩, .inl ⟨hit_yes rfl, ?_⟩⟩⟩⟩⟩⟩⟩⟩⟩⟩
      have hh : h ∈ nms y.hs := of_decide_eq_true hf
      refine ⟨_, rfl, p, a.dx, _, rfl, T.ins, tF_no (by decide +kernel), _, rfl, _, rfl, _, rfl, p, "spent", h, d, c, F0, F, y, rows, _, rfl, TW, (by decide +kernel), hh, d0, d2, fun H1 T1 => ?_⟩
      obtain ⟨a1, B1⟩ := id T1
      exact ⟨_, rfl, p, a1.dx, _, rfl, B1.ins, tF_no (by decide +kernel), _, rfl, _, rfl, _, rfl, _, rfl, p, n, h, d, c, F0, F, y, rows, _, rfl, T1, hh, d0, d2, hn, (by show st.pr.length + st.tk.length + st.fa.length < 1000; omega), fun H2 T2 => k _ T2⟩
    | promise x h c nn =>
      refine ⟨u, _, rfl, SqT.of hu, .inl ⟨(by show (5 : Nat) ≠ 4; decide), ⟨u, _, rfl, SqT.of hu, .inr ⟨rfl, ⟨⟨_, rfl⟩, trivial⟩, .inr ⟨hit_no (k := "hold") (k' := "promise") (by decide +kernel), ⟨u, _, rfl, SqT.of hu, .inr ⟨rfl, ⟨⟨_, rfl⟩, trivial⟩, .inr ⟨hit_no (k := "move") (k' := "promise") (by decide +kernel), ⟨u, _, rfl, SqT.of hu, .inl ⟨(by show (5 : Nat) ≠ 4; decide), ⟨u, _, rfl, SqT.of hu, .inr ⟨rfl, ⟨⟨_, rfl⟩, trivial⟩, .inl ⟨hit_yes rfl, ?_⟩⟩⟩⟩⟩⟩⟩⟩⟩⟩⟩⟩⟩
      have hh : h ∈ nms y.hs := of_decide_eq_true hf
      exact ⟨_, rfl, p, a.dx, _, rfl, T.ins, tF_no (by decide +kernel), _, rfl, _, rfl, _, rfl, _, rfl, _, rfl, p, x, h, n, d, c, F0, F, y, rows, _, rfl, TW, hh, d0, d2, hn, sz, fun H1 T1 => k _ T1⟩
    | lessen x c nn =>
      refine ⟨u, _, rfl, SqT.of hu, .inr ⟨rfl, ⟨⟨_, rfl⟩, trivial⟩, .inr ⟨hit_no (k := "give") (k' := "lessen") (by decide +kernel), ⟨u, _, rfl, SqT.of hu, .inl ⟨(by show (4 : Nat) ≠ 5; decide), ⟨u, _, rfl, SqT.of hu, .inl ⟨(by show (4 : Nat) ≠ 5; decide), ⟨u, _, rfl, SqT.of hu, .inr ⟨rfl, ⟨⟨_, rfl⟩, trivial⟩, .inr ⟨hit_no (k := "spend") (k' := "lessen") (by decide +kernel), ⟨u, _, rfl, SqT.of hu, .inl ⟨(by show (4 : Nat) ≠ 5; decide), ⟨u, _, rfl, SqT.of hu, .inr ⟨rfl, ⟨⟨_, rfl⟩, trivial⟩, .inl ⟨hit_yes rfl, ?_⟩⟩⟩⟩⟩⟩⟩⟩⟩⟩⟩⟩⟩⟩⟩
      exact ⟨_, rfl, p, a.dx, _, rfl, T.ins, tF_no (by decide +kernel), _, rfl, _, rfl, _, rfl, _, rfl, p, x, n, d, c, F0, F, y, rows, _, rfl, TW, d0, d2, hn, sz, fun H1 T1 => k _ T1⟩
    | out x c nn =>
      refine ⟨u, _, rfl, SqT.of hu, .inr ⟨rfl, ⟨⟨_, rfl⟩, trivial⟩, .inr ⟨hit_no (k := "give") (k' := "out") (by decide +kernel), ⟨u, _, rfl, SqT.of hu, .inl ⟨(by show (4 : Nat) ≠ 5; decide), ⟨u, _, rfl, SqT.of hu, .inl ⟨(by show (4 : Nat) ≠ 5; decide), ⟨u, _, rfl, SqT.of hu, .inr ⟨rfl, ⟨⟨_, rfl⟩, trivial⟩, .inr ⟨hit_no (k := "spend") (k' := "out") (by decide +kernel), ⟨u, _, rfl, SqT.of hu, .inl ⟨(by show (4 : Nat) ≠ 5; decide), ⟨u, _, rfl, SqT.of hu, .inr ⟨rfl, ⟨⟨_, rfl⟩, trivial⟩, .inr ⟨hit_no (k := "lessen") (k' := "out") (by decide +kernel), ⟨u, _, rfl, SqT.of hu, .inr ⟨rfl, ⟨⟨_, rfl⟩, trivial⟩, .inl ⟨hit_yes rfl, ?_⟩⟩⟩⟩⟩⟩⟩⟩⟩⟩⟩⟩⟩⟩⟩⟩⟩⟩
      exact ⟨_, rfl, p, a.dx, _, rfl, T.ins, tF_no (by decide +kernel), _, rfl, _, rfl, _, rfl, _, rfl, p, x, n, d, c, F0, F, y, rows, _, rfl, TW, d0, d2, hn, sz, fun H1 T1 => k _ T1⟩
end
end KP
namespace KP
open PySem L2 KD KM KT
/-- the table of turns -/
structure TurnF (K : PySem.W.Frag) (w : World) (mg : Str → Option Value) : Prop where
  ex : ∃ (d : Addr) (es : Array DictEntry) (n : Nat), KDict K w d es n ∧ mg "TURNS" = some (.ref d) ∧ ∀ e : En, ∃ r, PySem.W.nsIn K d e.kind = some r ∧ (match r with | none => turnE e = 3 | some u => RelV (.int (turnE e)) u)
  last : ∃ t, mg "LAST_TURN" = some (.int 3 t)
def spTurn : Sp := fun vs H Q _ => ∃ (t : Addr) (r : R3), vs = [.ref t] ∧ RowT H t r ∧ ∀ (q : Addr) (H' : Hp), Same H H' → H q = none → H' q = some (.tup ((keyR r).map V.int)) → Q (.ref q) H'
def spTGo (C : Addr) : Sp := fun vs H Q _ => ∃ (F0 : Hp) (p dx rw : Addr) (fs : List (Str × V)) (rts : List Addr) (rows : List R3), vs = [.ref p] ∧ H p = some (.ins C dx fs) ∧ fs.lookup ("rows" : Str) = some (.ref rw) ∧ H rw = some (.lst (rts.map V.ref)) ∧ Same F0 H ∧ Paired (RowT F0) rts rows ∧
  ∀ (L : Addr) (H' : Hp) (ts : List Addr), Same H H' → H L = none → H' L = some (.lst (ts.map V.ref)) → Paired (RowT F0) ts (gone rows) → Q (.ref L) H'
/-- what there is at a day -/
def psI (f : Int → Int) (d : Int) : Int := psN f (d.toNat + 1)
def spDS : Sp := fun vs H Q _ => ∃ (a : Addr) (days : Int) (f : Int → Int), vs = [.ref a] ∧ H a = some (.lst (chL days f)) ∧ 0 ≤ days ∧ days ≤ 1000 ∧ ∀ (L : Addr) (H' : Hp), Same H H' → H L = none → H' L = some (.lst (chL days (psI f))) → Q (.ref L) H'
theorem psN_succ {f : Int → Int} {n : Nat} : psN f (n + 1) = psN f n + f (n : Int) := by
  unfold psN
  rw [List.range_succ, List.map_append, List.sum_append]
  simp
theorem RowT.same {H H' : Hp} (s : Same H H') {t : Addr} {r : R3} : RowT H t r → RowT H' t r := fun ⟨u, h1, h2⟩ => ⟨u, s _ _ h1, s _ _ h2⟩
theorem rows_back {H : Hp} {rts : List Addr} {rows : List R3} (h : Paired (RowT H) rts rows) {ys : List V} {qs : List R3} (g : Paired (fun x b => (x, b) ∈ (rts.map V.ref).zip rows) ys qs) : ∃ ts : List Addr, ys = ts.map V.ref ∧ Paired (RowT H) ts qs := by
  induction g with
  | nil => exact ⟨[], rfl, .nil⟩
  | @cons x b ys qs m _ ih =>
    obtain ⟨ts, rfl, q⟩ := ih
    obtain ⟨i, hi⟩ := List.mem_iff_getElem?.mp m
    rw [List.getElem?_zip_eq_some, List.getElem?_map] at hi
    cases e : rts[i]? with
    | none => rw [e] at hi; cases hi.1
    | some t =>
      rw [e] at hi
      obtain ⟨r, hr, ht⟩ := L2.paired_get h e
      have e1 : x = V.ref t := (Option.some.inj hi.1).symm
      have e2 : b = r := by have := hi.2; rw [hr] at this; exact (Option.some.inj this).symm
      exact ⟨t :: ts, by rw [e1]; rfl, .cons (by rw [e2]; exact ht) q⟩
section
variable {P : Program} {w : World} {K : PySem.W.Frag} {mg : Str → Option Value} {base : Heap} {C Cy : Addr}
abbrev sTurn : Stmt := top 40
abbrev nTurn : List Str := ["row", "number", "date", "told"]
theorem scTurn : FnScope nTurn ["row"] (defScope sTurn) := ⟨rfl, rfl, rfl, by decide +kernel, rfl, by decide +kernel, by decide +kernel⟩
abbrev sDS : Stmt := top 41
abbrev nDS : List Str := ["changes", "total", "sums", "change"]
theorem scDS : FnScope nDS ["changes"] (defScope sDS) := ⟨rfl, rfl, rfl, by decide +kernel, rfl, by decide +kernel, by decide +kernel⟩
abbrev sTGo : Stmt := inClass (top 44) 2
abbrev nTGo : List Str := ["self"]
theorem scTGo : FnScope nTGo ["self"] (defScope sTGo) := ⟨rfl, rfl, rfl, by decide +kernel, rfl, by decide +kernel, by decide +kernel⟩
theorem c_turn (T : TurnF K w mg) (D : DefT K mg "turn" sTurn ["row"]) : Cal P w K mg base 1 "turn" spTurn := by
  refine cal D scTurn (fun vs H Q E h => ?_) (fun f cdv A outer s H vs Q E hr h => ?_)
  · obtain ⟨t, r, rfl, _⟩ := h
    rfl
  · obtain ⟨t, r, rfl, ⟨u, h1, h2⟩, k⟩ := h
    obtain ⟨dT, es, n, hD, hT, hns⟩ := T.ex
    obtain ⟨tl, hL⟩ := T.last
    have hz : sizeLine = 16777216 := by decide
    refine ⟨_, (pss_cons (ps_asg (pv 0) (pg_tup rfl (pgs_cons (pg_name (i := 1) scTurn.nd rfl (by first | exact Or.inl rfl | exact Or.inr rfl)) (pgs_cons (pg_name (i := 2) scTurn.nd rfl (by first | exact Or.inl rfl | exact Or.inr rfl)) (pgs_cons (pg_name (i := 3) scTurn.nd rfl (by first | exact Or.inl rfl | exact Or.inr rfl)) pgs_nil)))))
        (pss_one (ps_ret (pe_tupW (pa_cons (pv 2) (pa_cons (KQ.pe_getK hD (pe_glob (v := .ref dT) rfl hT rfl) (pe_ix ix_tup (pv 3) pe_int (fun _ _ => rfl)) (pe_glob (v := .int 3) rfl hL ⟨_, rfl⟩) ⟨rfl, rfl, rfl, rfl⟩) (pa_cons (pv 1) pa_nil))))))), ?_⟩
    obtain ⟨q, e1, e2⟩ := hns r.2.2
    refine ⟨_, rfl, t, _, rfl, SqT.of h1, rfl, _, _, rfl, _, _, rfl, _, _, rfl, rfl, ?_⟩
    refine ⟨_, rfl, rfl, _, rfl, u, _, _, _, rfl, rfl, SqT.of h2, (show atI _ ((0 : Nat) : Int) = _ from atI_nat rfl), r.2.2.kind, q, .int (turnE r.2.2), rfl, e1, ?_, _, rfl, (by show 3 ≤ sizeLine; omega), fun p H' s1 np hp => k p H' s1 np hp⟩
    cases q with
    | none => exact congrArg V.int e2
    | some u => exact e2
theorem c_tgo (B2 : Base2 K mg) (TF : TalF K mg C) (Tu : Cal P w K mg base 1 "turn" spTurn) (D : MethT K C "gone_through" "Tally.gone_through" sTGo ["self"]) : MetT P w K mg base 4 C "gone_through" (spTGo C) := by
  refine met TF.cl D scTGo (fun vs H Q E h => ?_) (fun f cdv A outer s H vs Q E hr h => ?_)
  · obtain ⟨F0, p, dx, rw, fs, rts, rows, rfl, _⟩ := h
    rfl
  · obtain ⟨F0, p, dx, rw, fs, rts, rows, rfl, hp, hf, hw, s0, hR, k⟩ := h
    obtain ⟨fT, fd, ps, FT, mT, kT, bT⟩ := Tu.ex
    refine ⟨_, (pss_one (ps_ret (pe_callBK (KQ.cr_sortedF (key := keyR) FT bT hr) (by rfl) B2.sorted (by decide +kernel) (pa_cons (pe_fld (pv 0) rfl) pa_nil) (pk_cons (pe_glob (v := .ref fT) rfl mT rfl) pk_nil)))), ?_⟩
    refine ⟨_, rfl, p, C, dx, _, _, rfl, hp, TF.cl, TF.na _ (by simp [tKeys]), hf, rw, _, rows, rfl, rfl, SqL.of hw, (fun b _ => by simp [keyR]), ?_, fun ys q H' s1 nq hq hy => ?_⟩
    · have : ∀ {rs : List R3} {ts : List Addr}, Paired (RowT F0) ts rs → Paired (fun (x : V) (b : R3) => ∀ H' : Hp, Same H H' → spTurn [x] H' (fun v H2 => ∃ t, v = .ref t ∧ Same H' H2 ∧ H2 t = some (.tup ((keyR b).map V.int))) E0) (ts.map V.ref) rs := by
        intro rs ts h
        induction h with
        | nil => exact .nil
        | @cons t r ts rs h1 h2 ih => exact .cons (fun H' s1 => ⟨t, r, rfl, h1.same (s0.trans s1), fun q H2 s2 nq hq => ⟨q, rfl, s2, hq⟩⟩) ih
      exact this hR
    · obtain ⟨ts, rfl, hp⟩ := rows_back hR hy
      exact k q H' ts s1 nq hq hp
theorem c_ds (D : DefT K mg "day_sums" sDS ["changes"]) : Cal P w K mg base 1 "day_sums" spDS := by
  refine cal D scDS (fun vs H Q E h => ?_) (fun f cdv A outer s H vs Q E hr h => ?_)
  · obtain ⟨a, days, f, rfl, _⟩ := h
    rfl
  · obtain ⟨a, days, f, rfl, ha, d0, d1, k⟩ := h
    have hz : sizeLine = 16777216 := by decide
    refine ⟨_, (pss_cons (ps_set (i := 1) scDS.nd rfl (by first | exact Or.inl rfl | exact Or.inr rfl) pe_int)
        (pss_cons (ps_set (i := 2) scDS.nd rfl (by first | exact Or.inl rfl | exact Or.inr rfl) (pe_lstW pa_nil))
        (pss_cons (ps_for PassesOwn.never rfl (pi_list (pv 0)) (pg_name (i := 3) scDS.nd rfl (by first | exact Or.inl rfl | exact Or.inr rfl)) (pss_cons (ps_aug (i := 1) scDS.nd rfl (by first | exact Or.inl rfl | exact Or.inr rfl) (pv 3) ip_add)
        (pss_one (ps_expr (pe_bm PySem.F.plainAttrs_list PySem.F.slot_list_append PySem.F.type_list_append mt_append (pv 2) (pa_cons (pv 1) pa_nil))))))
        (pss_one (ps_ret (pv 2)))))), ?_⟩
    refine ⟨(by show 0 ≤ sizeLine; omega), fun L H1 s1 nL hL => ?_⟩
    refine ⟨_, rfl, _, rfl, ⟨_, SqL.of (s1 _ _ ha)⟩, for_list (K := K) (a := a) (xs := chL days f) (fun i σ H' => ∃ v3, σ = [some (.ref a), some (.int (psN f i)), some (.ref L), v3] ∧ Same H H' ∧ H' L = some (.lst ((List.range i).map fun j : Nat => V.int (psI f (j : Int)))))
      ⟨_, rfl, s1, hL⟩ (fun i σ H' _ ⟨_, _, z, _⟩ => SqL.of (z _ _ ha)) ?_ ?_⟩
    · rintro i v σ H4 hi ⟨v3, rfl, s4, h4⟩
      have hlt : i < days.toNat + 2 := by
        have := (List.getElem?_eq_some_iff.mp hi).1
        rw [chL_len] at this
        exact this
      unfold chL at hi
      rw [List.getElem?_map, List.getElem?_range hlt] at hi
      obtain rfl := Option.some.inj hi
      refine ⟨_, rfl, _, rfl, _, _, rfl, rfl, ?_⟩
      refine ⟨_, rfl, .inl ⟨rfl, _, SqL.of h4⟩, _, rfl, L, _, _, rfl, rfl, h4, (by rw [List.length_map, List.length_range]; omega), some (.int (f (i : Int))), ?_⟩
      refine ⟨by rw [psN_succ]; rfl, fun b o e => ?_, ?_⟩
      · rw [upd_ne (fun z => by rw [z, nL] at e; cases e)]
        exact s4 b o e
      · rw [upd_same, List.range_succ, List.map_append]
        show some (HO.lst (_ ++ [V.int (psN f i + f (i : Int))])) = some (HO.lst (_ ++ [V.int (psI f (i : Int))]))
        unfold psI
        rw [show ((i : Nat) : Int).toNat = i by omega, psN_succ]
    · rintro σ H4 ⟨v3, rfl, s4, h4⟩
      rw [chL_len] at h4
      exact ⟨_, rfl, k _ _ s4 nL h4⟩
end
end KP
namespace KQ
open PySem PySem.Spec PyProof.Rows L2
section
variable {X : Cx}
/-- name = {..} on one line, the name a local -/
theorem ps_setDc {i : Nat} {y : Str} {py : Pos} {kx vx tg iter : Expr} {ifs : List Expr} {scope : Scope} {own : List (Str × Nat)} {pos spos : Pos} {wi : TI} {g : TG} {tt : TT} {tk tv : TE} (hc : X.calm = true) (hN : X.N.Nodup) (hy : X.N[i]? = some y) (hyl : X.env.scope.names.lookup y = some .local)
    (hsw : swapsWith (.DictComp kx vx [⟨tg, iter, ifs, 0⟩] scope pos) (some (.Name y py)) spos.line X.env = pure true) (hi : PI X tg iter wi) (ok : BlkOk X.N X.env.scope scope own)
    (hg : ∀ (s : Shared) (H : Hp) (C : Addr) (cl : List (Str × Addr)) (fp : List Addr), PG (X.blk s H scope (compEnvC scope cl C X.env) fp) tg g) (ht : ∀ (s : Shared) (H : Hp) (C : Addr) (cl : List (Str × Addr)) (fp : List Addr), PTs (X.blk s H scope (compEnvC scope cl C X.env) fp) ifs tt)
    (hk : ∀ (s : Shared) (H : Hp) (C : Addr) (cl : List (Str × Addr)) (fp : List Addr), PE (X.blk s H scope (compEnvC scope cl C X.env) fp) kx tk)
    (he : ∀ (s : Shared) (H : Hp) (C : Addr) (cl : List (Str × Addr)) (fp : List Addr), PE (X.blk s H scope (compEnvC scope cl C X.env) fp) vx tv) (hs : ∀ x, foldedSetIterable iter X.env x = pure x := by intro _; rfl) :
    PS X (.Assign [.Name y py] (.DictComp kx vx [⟨tg, iter, ifs, 0⟩] scope pos) spos) (tAsg (tDc wi g tt tk tv (own.map (·.2))) (gName i)) := by
  refine ⟨fun pins s σ H D I h => ?_⟩
  rw [exec_Assign_Name_used _ _ _ _ hsw]
  refine wpAny_bind (wpAny_standAt (wpAny_bind ?_))
  show wpAny _ X.A (do let _ ← comprehension (.DictComp kx vx [⟨tg, iter, ifs, 0⟩] scope pos) scope X.env (firstIterPos [⟨tg, iter, ifs, 0⟩] pos) newDict false (eval iter X.env) (some (assign (.Name y py) X.env))) _ _ s
  have h : tDc wi g tt tk tv (own.map (·.2)) σ H (fun x H1 => gName i x σ H1 D.nx) := h
  refine wpAny_bind (thn (dc_core (Qf := fun _ s' => SP X pins D .next s') hc hN I hi ok hg ht hk he hs h fun L C s' m H' I' q hn f => ?_) fun _ s' hq => wpAny_pure (wpAny_pure hq))
  show wpAny _ _ (assign (.Name y py) X.env (.ref L)) _ _ _
  refine wpAny_assign_Name (store_ok2 (v := V.ref L) I' hN hy (.inl hyl) rfl (fun s2 I2 ⟨a, sb, ha⟩ => ?_) (.inr hyl))
  obtain ⟨f0, f1, f2, f3, f4, f5⟩ := f
  have haC : C ≠ a := by
    rcases ha with z | z
    · rw [z]; exact f1
    · exact fun e => f4 y a z e.symm
  exact ⟨m, hn.sameBut sb haC, fun h3 sb3 => ⟨_, H', I2.turned (t' := s2.toks) (fun b o hb e => (sb3.2 b hb).trans e) f0 f1 f3 f4 f5, q⟩⟩
theorem sw_dict {kx vx : Expr} {gs : List Comprehension} {scope : Scope} {pos py : Pos} {y : Str} {l : Nat} {env : Env} (hk : env.scope.kind = .function) (hy : env.scope.names.lookup y = some .local) (hl : (py.line == pos.line) = true)
    (ha : (scope.names.any fun (n, k) => n == y && (k == .local || k == .cell)) = false) : swapsWith (.DictComp kx vx gs scope pos) (some (.Name y py)) l env = pure true := by
  have ky : env.kindOf y = some .local := hy
  have hb : env.blockKind = .function := by unfold Env.blockKind; rw [hk]; rfl
  unfold swapsWith
  simp only [hb, ky, ha, Expr.pos, hl]
  rfl
end
end KQ
namespace KP
open PySem L2 KD KM KT
theorem putK_take {xs : List Str} (nd : xs.Nodup) {f : Str → Addr} {i : Nat} {x : Str} {L : Addr} (h : xs[i]? = some x) :
    putK ((xs.take i).map fun z => ((Sum.inr z : Key), V.ref (f z))) (.inr x) (.ref L) = (xs.take (i + 1)).map fun z => ((Sum.inr z : Key), V.ref (if z = x then L else f z)) := by
  have hx : x ∉ xs.take i := fun m => by
    obtain ⟨j, hj⟩ := List.mem_iff_getElem?.mp m
    rw [List.getElem?_take] at hj
    by_cases e : j < i
    · rw [if_pos e] at hj
      have l1 := (List.getElem?_eq_some_iff.mp h).1
      have := (List.getElem?_inj (by omega) nd).mp (hj.trans h.symm)
      omega
    · rw [if_neg e] at hj
      cases hj
  rw [List.take_add_one, h, List.map_append]
  have e1 : ((xs.take i).map fun z => ((Sum.inr z : Key), V.ref (if z = x then L else f z))) = (xs.take i).map fun z => ((Sum.inr z : Key), V.ref (f z)) := List.map_congr_left fun q hq => by
    rw [if_neg (fun z : q = x => hx (z ▸ hq))]
  rw [e1]
  unfold putK
  rw [if_neg]
  · show _ = _ ++ [((Sum.inr x : Key), V.ref (if x = x then L else f x))]
    rw [if_pos rfl]
  · intro z
    obtain ⟨q, hq, e⟩ := List.any_eq_true.mp z
    obtain ⟨r, hr, rfl⟩ := List.mem_map.mp hq
    have e := of_decide_eq_true e
    injection e with e
    exact hx (e ▸ hr)
theorem walk_tupS {K : PySem.W.Frag} {a : Addr} {xs : List Str} : Walk (Itt K a) xs.length (fun H => SqT K H a (xs.map V.str)) (YAt (xs.map V.str)) := by
  have := walk_tup (K := K) (a := a) (xs := xs.map V.str)
  rw [List.length_map] at this
  exact this
theorem walk_listS {K : PySem.W.Frag} {a : Addr} {xs : List Str} : Walk (Itl K a) xs.length (fun H => SqL K H a (xs.map V.str)) (YAt (xs.map V.str)) := by
  have := walk_list (K := K) (a := a) (xs := xs.map V.str)
  rw [List.length_map] at this
  exact this
/-- {x: v for x in xs}, xs different texts -/
theorem dc_strs {J : It} {G : Hp → Prop} {xs : List Str} (w : Walk J xs.length G (YAt (xs.map V.str))) (nd : xs.Nodup) {j : Nat} {tv : TE} {vs : List Nat} {σ : L2.St} {H1 : Hp} {D : Addr} {Qd : Hp → Prop} (hz : xs.length < sizeLine) (hD : H1 D = none)
    (hw : ∀ v, wipe ((wipe σ vs).set j (some v)) vs = wipe σ vs) (hj : ∀ v, ((wipe σ vs).set j (some v))[j]? = some (some v)) (Rec : Nat → (Str → Addr) → Hp → Prop) (h0 : ∀ f, Rec 0 f (upd H1 D (.dK []))) (hG : ∀ i f H, Rec i f H → Same H1 H → G H)
    (hs : ∀ i x f H, xs[i]? = some x → Rec i f H → Same H1 H → H D = some (.dK ((xs.take i).map fun z => ((Sum.inr z : Key), V.ref (f z)))) → ∀ Q : VK, (∀ L H5, Same H H5 → (∀ H6, (∀ b o, b ≠ D → H5 b = some o → H6 b = some o) → Same H1 H6 → Rec (i + 1) (fun z => if z = x then L else f z) H6) → Q (.ref L) H5) → tv ((wipe σ vs).set j (some (.str x))) H Q)
    (hd : ∀ f H, Rec xs.length f H → Same H1 H → H D = some (.dK (xs.map fun z => ((Sum.inr z : Key), V.ref (f z)))) → Qd H) :
    ∃ W : Nat → Nat → Hp → Prop, (∃ m, W 0 m (upd H1 D (.dK []))) ∧ ∀ i m H, W i m H →
      (J.stop i H ∧ Qd H) ∨ (J.go i H ∧ ∃ Nx : Hp → Prop, (∀ H', Nx H' → ∃ m', m' < m ∧ W (i + 1) m' H') ∧ ∀ x H', J.yld i H x H' → gName j x (wipe σ vs) H' fun σ2 H2 => wipe σ2 vs = wipe σ vs ∧ tYes σ2 H2 fun b H3 =>
        if b = true then tVar j σ2 H3 fun y H4 => tv σ2 H4 fun z H5 => ∃ kvs k, y = kV k ∧ H5 D = some (.dK kvs) ∧ kvs.length < sizeLine ∧ Nx (upd H5 D (.dK (putK kvs k z))) else Nx H3) := by
  refine ⟨fun i m H => m = xs.length - i ∧ i ≤ xs.length ∧ ∃ f, Rec i f H ∧ Same H1 H ∧ H D = some (.dK ((xs.take i).map fun z => ((Sum.inr z : Key), V.ref (f z)))), ⟨xs.length, by simp, Nat.zero_le _, fun _ => 0, h0 _, same_new hD, by rw [upd_same]; simp⟩, ?_⟩
  rintro i m H ⟨rfl, hi, f, p, sm, d⟩
  have q := hG i f H p sm
  by_cases hlt : i < xs.length
  · refine .inr ⟨w.goes i H hlt q, fun H' => ∃ f, Rec (i + 1) f H' ∧ Same H1 H' ∧ H' D = some (.dK ((xs.take (i + 1)).map fun z => ((Sum.inr z : Key), V.ref (f z)))), fun H' p' => ⟨xs.length - (i + 1), by omega, rfl, hlt, p'⟩, fun x H' y => ?_⟩
    obtain ⟨rfl, e⟩ := w.yields i H x H' hlt q y
    rw [List.getElem?_map] at e
    cases ex : xs[i]? with
    | none => rw [ex] at e; cases e
    | some x0 =>
      rw [ex] at e
      obtain rfl := Option.some.inj e
      refine ⟨hw _, ?_⟩
      refine yes ?_
      simp only []
      rw [if_pos trivial]
      refine ⟨_, hj _, ?_⟩
      refine hs i x0 f _ ex p sm d _ fun L H5 s5 h5 => ?_
      have s6 : Same H1 (upd H5 D (.dK (putK ((xs.take i).map fun z => ((Sum.inr z : Key), V.ref (f z))) (.inr x0) (.ref L)))) := fun b o e => by
        rw [upd_ne (fun z => by rw [z, hD] at e; cases e)]
        exact s5 _ _ (sm _ _ e)
      refine ⟨_, .inr x0, rfl, s5 _ _ d, by rw [List.length_map, List.length_take]; omega, _, h5 _ (fun b o nb e => by rw [upd_ne nb]; exact e) s6, s6, ?_⟩
      rw [upd_same, putK_take nd ex]
  · have e : i = xs.length := by omega
    subst e
    rw [List.take_length] at d
    exact .inl ⟨w.stops H q, hd f H p sm d⟩
end KP
namespace KP
open PySem L2 KD KM KT
structure SumsF (K : PySem.W.Frag) (mg : Str → Option Value) : Prop where
  ex : ∃ d, mg "SUMS" = some (.ref d) ∧ ∀ H, SqT K H d (SUMS.map V.str)
/-- the sum of a name at a day, v the changes by names -/
def sumV (v : Str → Int → Int) (n : Str) (d : Int) : Int := if n = "left" then psI (v "given") d + psI (v "moved") d - psI (v "spent") d - psI (v "promised") d - psI (v "held") d else psI (v n) d
def spTS (C : Addr) : Sp := fun vs H Q _ => ∃ (p dx dc : Addr) (fs : List (Str × V)) (dn : Str → Addr) (ad : Str → Str → Addr) (hs : List Str) (h : Str) (days : Int) (v : Str → Int → Int), vs = [.ref p, .str h] ∧ H p = some (.ins C dx fs) ∧ fs.lookup ("changes" : Str) = some (.ref dc) ∧
  H dc = some (.dK (SUMS.map fun n => ((Sum.inr n : Key), V.ref (dn n)))) ∧ (∀ n ∈ SUMS, H (dn n) = some (.dK (hs.map fun z => ((Sum.inr z : Key), V.ref (ad n z))))) ∧ h ∈ hs ∧ (∀ n ∈ SUMS, H (ad n h) = some (.lst (chL days (v n)))) ∧ 0 ≤ days ∧ days ≤ 1000 ∧
  ∀ (D : Addr) (H' : Hp) (ls : Str → Addr), Same H H' → H D = none → H' D = some (.dK (SUMS.map fun n => ((Sum.inr n : Key), V.ref (ls n)))) → (∀ n ∈ SUMS, H (ls n) = none ∧ H' (ls n) = some (.lst (chL days (sumV v n)))) → Q (.ref D) H'
theorem valV_s {l : List Str} {F : Str → V} {k : Str} (h : k ∈ l) : valV (l.map fun q => ((Sum.inr q : Key), F q)) (.inr k) = some (F k) := valV_r (g := fun q : Str => q) (F := F) (by simpa using h)
theorem nd_sums : SUMS.Nodup := by decide +kernel
theorem chL_at {days : Int} {f : Int → Int} {i : Nat} {x : V} (h : (chL days f)[i]? = some x) : x = .int (f (i : Int)) := by
  have hlt : i < days.toNat + 2 := by
    have := (List.getElem?_eq_some_iff.mp h).1
    rw [chL_len] at this
    exact this
  unfold chL at h
  rw [List.getElem?_map, List.getElem?_range hlt] at h
  exact (Option.some.inj h).symm
section
variable {P : Program} {w : World} {K : PySem.W.Frag} {mg : Str → Option Value} {base : Heap} {C Cy : Addr}
abbrev sTS : Stmt := inClass (top 44) 13
abbrev nTS : List Str := ["self", "head", "sums", "name", "given", "moved", "spent", "promised", "held"]
theorem scTS : FnScope nTS ["self", "head"] (defScope sTS) := ⟨rfl, rfl, rfl, by decide +kernel, rfl, by decide +kernel, by decide +kernel⟩
set_option maxHeartbeats 1000000 in
theorem c_ts (B2 : Base2 K mg) (S : SumsF K mg) (TF : TalF K mg C) (Ds : Cal P w K mg base 1 "day_sums" spDS) (D : MethT K C "sums_of" "Tally.sums_of" sTS ["self", "head"]) : MetT P w K mg base 2 C "sums_of" (spTS C) := by
  refine met TF.cl D scTS (fun vs H Q E h => ?_) (fun f cdv A outer s H vs Q E hr h => ?_)
  · obtain ⟨p, dx, dc, fs, dn, ad, hs, h, days, v, rfl, _⟩ := h
    rfl
  · obtain ⟨p, dx, dc, fs, dn, ad, hs, h, days, v, rfl, hp, hf, hc, hn, hh, hl, d0, d1, k⟩ := h
    obtain ⟨dS, hS, sS⟩ := S.ex
    have hz : sizeLine = 16777216 := by decide
    refine ⟨_, (C8.pss_cut (KQ.ps_setDc (i := 2) (own := [("name", 3)]) (g := (gName 3)) (tt := tYes) (tv := (tCall spDS [] E0 (tCons (tDGet (tDGet (tFld K (tVar 0) "changes") (tVar 3)) (tVar 1)) tNil))) rfl scTS.nd rfl (by first | rfl | decide +kernel) (KQ.sw_dict rfl (by first | rfl | decide +kernel) rfl (by decide +kernel)) (pi_tup (pe_glob (v := .ref dS) rfl hS rfl)) (blkOk_by (N := nTS) (sc := defScope sTS) (by decide +kernel)) (fun _ _ _ _ _ => (pg_name (i := 3) scTS.nd rfl (by first | exact Or.inl rfl | exact Or.inr rfl))) (fun _ _ _ _ _ => pts_nil) (fun _ _ _ _ _ => (pv 3)) (fun _ _ _ _ _ => (pe_cl Ds hr (by decide) (by rfl) (pa_cons (pe_dget (hu_of hr) (pe_dget (hu_of hr) (pe_fld (pv 0) rfl) (pv 3) (fun _ _ => rfl)) (pv 1) (fun _ _ => rfl)) pa_nil))))
        (pss_cons (ps_dput (hu_of hr) (pv 2) pe_str (pe_lc (own := [("given", 4), ("moved", 5), ("spent", 6), ("promised", 7), ("held", 8)]) (g := (gTup K 5 (gCons (gName 4) (gCons (gName 5) (gCons (gName 6) (gCons (gName 7) (gCons (gName 8) gNil))))))) (tt := tYes) rfl scTS.nd (KZ.pi_zip5 (by rfl) B2.zip (pa_cons (pe_dget (hu_of hr) (pv 2) pe_str (fun _ _ => rfl)) (pa_cons (pe_dget (hu_of hr) (pv 2) pe_str (fun _ _ => rfl)) (pa_cons (pe_dget (hu_of hr) (pv 2) pe_str (fun _ _ => rfl)) (pa_cons (pe_dget (hu_of hr) (pv 2) pe_str (fun _ _ => rfl)) (pa_cons (pe_dget (hu_of hr) (pv 2) pe_str (fun _ _ => rfl)) pa_nil)))))) (blkOk_by (N := nTS) (sc := defScope sTS) (by decide +kernel)) (fun _ _ _ _ _ => (pg_tup rfl (pgs_cons (pg_name (i := 4) scTS.nd rfl (by first | exact Or.inl rfl | exact Or.inr rfl)) (pgs_cons (pg_name (i := 5) scTS.nd rfl (by first | exact Or.inl rfl | exact Or.inr rfl)) (pgs_cons (pg_name (i := 6) scTS.nd rfl (by first | exact Or.inl rfl | exact Or.inr rfl)) (pgs_cons (pg_name (i := 7) scTS.nd rfl (by first | exact Or.inl rfl | exact Or.inr rfl)) (pgs_cons (pg_name (i := 8) scTS.nd rfl (by first | exact Or.inl rfl | exact Or.inr rfl)) pgs_nil))))))) (fun _ _ _ _ _ => pts_nil) (fun _ _ _ _ _ => (pe_op op_sub (pe_op op_sub (pe_op op_sub (pe_op op_add (pv 4) (pv 5)) (pv 6)) (pv 7)) (pv 8)))) rfl)
        (pss_one (ps_ret (pv 2))))), ?_⟩
    refine ⟨fun σ' H' => ∃ (D : Addr) (ls : Str → Addr), σ' = [some (.ref p), some (.str h), some (.ref D), none, none, none, none, none, none] ∧ Same H H' ∧ H D = none ∧ H' D = some (.dK (SUMS.map fun n => ((Sum.inr n : Key), V.ref (ls n)))) ∧ ∀ n ∈ SUMS, H (ls n) = none ∧ H' (ls n) = some (.lst (chL days (psI (v n)))), ?_, ?_⟩
    · refine ⟨dS, rfl, ⟨_, sS H⟩, fun D nD => dc_strs (walk_tupS (K := K) (a := dS) (xs := SUMS)) nd_sums (by show 6 < sizeLine; omega) nD (fun _ => rfl) (fun _ => rfl)
        (fun i f H' => ∀ n ∈ SUMS.take i, H (f n) = none ∧ H' (f n) = some (.lst (chL days (psI (v n))))) (fun f n hn => by simp at hn) (fun i f H' _ _ => sS H') ?_ ?_⟩
      · intro i x f H' hx hr sm hd Q' k'
        have hxs : x ∈ SUMS := List.mem_of_getElem? hx
        refine ⟨_, rfl, p, C, dx, _, _, rfl, sm _ _ hp, TF.cl, TF.na _ (by simp [tKeys]), hf, _, rfl, dc, .ref (dn x), rfl, ?_, _, rfl, dn x, .ref (ad x h), rfl, ?_, ad x h, days, v x, rfl, sm _ _ (hl x hxs), d0, d1, fun L H5 s5 nL hL => ?_⟩
        · have := DGet.k (k := .inr x) (sm _ _ hc)
          rw [valV_s (F := fun z => V.ref (dn z)) hxs] at this
          exact this
        · have := DGet.k (k := .inr h) (sm _ _ (hn x hxs))
          rw [valV_s (F := fun z => V.ref (ad x z)) hh] at this
          exact this
        · refine k' L H5 s5 fun H6 s6 _ n hn => ?_
          have nLD : L ≠ D := fun z => by rw [z, hd] at nL; cases nL
          show H (if n = x then L else f n) = none ∧ H6 (if n = x then L else f n) = _
          by_cases e : n = x
          · rw [if_pos e, e]
            exact ⟨same_none sm nL, s6 _ _ nLD hL⟩
          · rw [if_neg e]
            have hn' : n ∈ SUMS.take i := by
              rw [List.take_add_one, hx] at hn
              rcases List.mem_append.mp hn with q | q
              · exact q
              · exact absurd (List.mem_singleton.mp q) e
            obtain ⟨q1, q2⟩ := hr n hn'
            exact ⟨q1, s6 _ _ (fun z => by rw [z, hd] at q2; cases q2) (s5 _ _ q2)⟩
      · intro f H' hr sm hd
        exact ⟨D, f, rfl, sm, nD, hd, hr⟩
    · rintro _ H1 ⟨D, ls, rfl, s1, nD, hD, hls⟩
      have gl : ∀ {n : Str} {H' : Hp}, n ∈ SUMS → Same H1 H' → DGet H' D (.str n) (some (.ref (ls n))) := fun {n H'} h s' => by
        have := DGet.k (k := .inr n) (s' _ _ hD)
        rw [valV_s (F := fun z => V.ref (ls z)) h] at this
        exact this
      have ml : ∀ {n : Str}, (SUMS.contains n) = true → n ∈ SUMS := fun h => List.contains_iff_mem.mp h
      refine ⟨_, rfl, D, _, rfl, gl (n := "given") (by decide +kernel) (Same.refl _), _, rfl, D, _, rfl, gl (n := "moved") (by decide +kernel) (Same.refl _), _, rfl, D, _, rfl, gl (n := "spent") (by decide +kernel) (Same.refl _), _, rfl, D, _, rfl, gl (n := "promised") (by decide +kernel) (Same.refl _), _, rfl, D, _, rfl, gl (n := "held") (by decide +kernel) (Same.refl _), ?_⟩
      have lst : ∀ {n : Str} {H' : Hp}, n ∈ SUMS → Same H1 H' → SqL K H' (ls n) (chL days (psI (v n))) := fun h s' => SqL.of (s' _ _ (hls _ h).2)
      have all : ∀ {H' : Hp}, Same H1 H' → SqL K H' (ls "given") (chL days (psI (v "given"))) ∧ SqL K H' (ls "moved") (chL days (psI (v "moved"))) ∧ SqL K H' (ls "spent") (chL days (psI (v "spent"))) ∧ SqL K H' (ls "promised") (chL days (psI (v "promised"))) ∧ SqL K H' (ls "held") (chL days (psI (v "held"))) := fun s' =>
        ⟨lst (by decide +kernel) s', lst (by decide +kernel) s', lst (by decide +kernel) s', lst (by decide +kernel) s', lst (by decide +kernel) s'⟩
      obtain ⟨a1, a2, a3, a4, a5⟩ := all (Same.refl H1)
      refine ⟨_, _, _, _, _, _, _, _, _, _, rfl, a1, a2, a3, a4, a5, fun D1 nD1 => lc_it (KZ.walk_zip5 chL_len chL_len chL_len chL_len chL_len) (fun i H' => Same H1 H' ∧ H' D1 = some (.lst ((List.range i).map fun j : Nat => V.int (sumV v "left" (j : Int))))) ⟨same_new nD1, upd_same⟩ (fun i H' _ e => all e.1) ?_ ?_⟩
      · rintro i vv H4 H5 hi ⟨s4, d4⟩ ⟨Tt, x0, x1, x2, x3, x4, rfl, nT, rfl, y0, y1, y2, y3, y4⟩
        obtain rfl := chL_at y0
        obtain rfl := chL_at y1
        obtain rfl := chL_at y2
        obtain rfl := chL_at y3
        obtain rfl := chL_at y4
        refine ⟨Tt, _, rfl, SqT.of upd_same, rfl, _, _, rfl, _, _, rfl, _, _, rfl, _, _, rfl, _, _, rfl, rfl, rfl, ?_⟩
        refine ⟨_, rfl, _, rfl, _, _, rfl, rfl, _, rfl, _, _, rfl, rfl, _, rfl, _, _, rfl, rfl, _, rfl, _, _, rfl, rfl, _, (same_new nT) _ _ d4, (by rw [List.length_map, List.length_range]; omega), ?_, ?_⟩
        · intro b o e
          rw [upd_ne (ne_of_none e nD1)]
          exact (same_new nT) _ _ (s4 _ _ e)
        · rw [upd_same, List.range_succ, List.map_append]
          rfl
      · rintro H4 ⟨s4, d4⟩
        have nDD : D1 ≠ D := fun z => by rw [z, hD] at nD1; cases nD1
        refine ⟨_, rfl, D, _, rfl, DPut.k (k := .inr "left") (s4 _ _ hD) (by show 6 < sizeLine; omega), _, rfl, ?_⟩
        have el : D1 ≠ D := nDD
        refine k D _ (fun n => if n = "left" then D1 else ls n) (fun b o e => ?_) nD ?_ fun n hn => ?_
        · rw [upd_ne (ne_of_none e nD)]
          exact s4 _ _ (s1 _ _ e)
        · rw [upd_same]
          rfl
        · by_cases e : n = "left"
          · rw [if_pos e, upd_ne el, e]
            exact ⟨same_none s1 nD1, d4⟩
          · rw [if_neg e]
            refine ⟨(hls n hn).1, ?_⟩
            have q := (hls n hn).2
            rw [upd_ne (fun z => by rw [z, hD] at q; cases q), s4 _ _ q]
            have : sumV v n = psI (v n) := funext fun d => if_neg e
            rw [this]
end
end KP
namespace KP
open PySem L2 KD KM KT
/-! ### pure: numbers and sizes as rows are gone through -/
section
variable {y : Yr}
/-- what no row but these has put in -/
structure Grow (s s' : TSt) (n : Int) : Prop where
  tk : s'.tk = s.tk ∨ ∃ h c, s'.tk = s.tk ++ [(n, h, c)]
  sz : s'.pr.length + s'.tk.length + s'.fa.length ≤ s.pr.length + s.tk.length + s.fa.length + 2
theorem tk_take {s : TSt} {n d : Int} {h : Str} {c : Int} : (s.take y n d h c).tk = s.tk ++ [(n, h, c)] ∧ (s.take y n d h c).pr = s.pr ∧ (s.take y n d h c).fa = s.fa := by
  unfold TSt.take
  generalize counting y h d = ks
  have : ∀ (ks : List Nat) (s : TSt), (ks.foldl (fun s k => s.add (.lm k) d c) s).tk = s.tk ∧ (ks.foldl (fun s k => s.add (.lm k) d c) s).pr = s.pr ∧ (ks.foldl (fun s k => s.add (.lm k) d c) s).fa = s.fa := by
    intro ks
    induction ks with
    | nil => intro s; exact ⟨rfl, rfl, rfl⟩
    | cons k r ih => intro s; obtain ⟨a, b, c⟩ := ih (s.add (.lm k) _ _); exact ⟨a, b, c⟩
  exact this ks _
theorem tk_hold {s : TSt} {d u : Int} {h : Str} {c : Int} : (s.hold d u h c).tk = s.tk ∧ (s.hold d u h c).pr = s.pr ∧ (s.hold d u h c).fa = s.fa := by
  unfold TSt.hold
  split <;> exact ⟨rfl, rfl, rfl⟩
theorem tk_give {s : TSt} {d : Int} {h : Str} {c : Int} : (s.give y d h c).tk = s.tk ∧ (s.give y d h c).pr = s.pr ∧ (s.give y d h c).fa = s.fa := by
  unfold TSt.give
  have : ∀ (rs : List Rw4) (s : TSt), (rs.foldl (fun s r => if r.1 = h then s.hold d r.2.2.2 h (c * r.2.1 / r.2.2.1) else s) s).tk = s.tk ∧ (rs.foldl (fun s r => if r.1 = h then s.hold d r.2.2.2 h (c * r.2.1 / r.2.2.1) else s) s).pr = s.pr ∧ (rs.foldl (fun s r => if r.1 = h then s.hold d r.2.2.2 h (c * r.2.1 / r.2.2.1) else s) s).fa = s.fa := by
    intro rs
    induction rs with
    | nil => intro s; exact ⟨rfl, rfl, rfl⟩
    | cons r rs ih =>
      intro s
      rw [List.foldl_cons]
      obtain ⟨a, b, e⟩ := ih (if r.1 = h then s.hold d r.2.2.2 h (c * r.2.1 / r.2.2.1) else s)
      rw [a, b, e]
      split
      · exact tk_hold
      · exact ⟨rfl, rfl, rfl⟩
  exact this _ _
theorem grow_same {s s' : TSt} {n : Int} (h : s'.tk = s.tk ∧ s'.pr = s.pr ∧ s'.fa = s.fa) : Grow s s' n := ⟨.inl h.1, by rw [h.1, h.2.1, h.2.2]; omega⟩
theorem grow_take {s s' : TSt} {n d : Int} {h : Str} {c : Int} (e : s'.tk = s.tk ∧ s'.pr.length ≤ s.pr.length + 1 ∧ s'.fa = s.fa) : Grow s (s'.take y n d h c) n := by
  obtain ⟨a, b, f⟩ := tk_take (y := y) (s := s') (n := n) (d := d) (h := h) (c := c)
  refine ⟨.inr ⟨h, c, by rw [a, e.1]⟩, ?_⟩
  rw [a, b, f, e.1, e.2.2, List.length_append]
  have := e.2.1
  simp only [List.length_cons, List.length_nil]
  omega
theorem grow_fault {s : TSt} {n d : Int} : Grow s (s.fault n d) n := ⟨.inl rfl, by show s.pr.length + s.tk.length + (s.fa ++ [(d, n)]).length ≤ _; rw [List.length_append]; simp only [List.length_cons, List.length_nil]; omega⟩
theorem grow_step {s : TSt} {r : R3} : Grow s (s.step y r) r.1 := by
  unfold TSt.step
  cases r.2.2 with
  | give h c nn => exact grow_same tk_give
  | hold h c u nn => exact grow_same tk_hold
  | move h o c nn => exact grow_same ⟨rfl, rfl, rfl⟩
  | spend h c nn => exact grow_take ⟨rfl, by show s.pr.length ≤ _; omega, rfl⟩
  | promise x h c nn =>
    show Grow s (s.promise y r.1 r.2.1 x h c) r.1
    unfold TSt.promise
    split
    · exact grow_fault
    · exact grow_take ⟨rfl, by show (s.pr ++ [(x, h, r.2.1)]).length ≤ _; rw [List.length_append]; exact Nat.le_refl _, rfl⟩
  | lessen x c nn =>
    show Grow s (s.lessen y r.1 r.2.1 x c) r.1
    unfold TSt.lessen
    split
    · exact grow_fault
    · exact grow_take ⟨rfl, by show s.pr.length ≤ _; omega, rfl⟩
  | out x c nn =>
    show Grow s (s.pay y r.1 r.2.1 x c) r.1
    unfold TSt.pay
    split
    · exact grow_fault
    · exact grow_take ⟨rfl, by show s.pr.length ≤ _; omega, rfl⟩
theorem grow_rows (rs : List R3) : ∀ {s : TSt}, (∀ n ∈ ((rs.foldl (TSt.step y) s).tk.map (·.1)), n ∈ s.tk.map (·.1) ∨ n ∈ rs.map (·.1)) ∧ (rs.foldl (TSt.step y) s).pr.length + (rs.foldl (TSt.step y) s).tk.length + (rs.foldl (TSt.step y) s).fa.length ≤ s.pr.length + s.tk.length + s.fa.length + 2 * rs.length := by
  induction rs with
  | nil => intro s; exact ⟨fun n h => .inl h, by simp⟩
  | cons r rs ih =>
    intro s
    obtain ⟨a, b⟩ := ih (s := s.step y r)
    have g := grow_step (y := y) (s := s) (r := r)
    rw [List.foldl_cons]
    refine ⟨fun n h => ?_, ?_⟩
    · rcases a n h with h | h
      · rcases g.tk with e | ⟨hh, c, e⟩
        · rw [e] at h; exact .inl h
        · rw [e, List.map_append] at h
          rcases List.mem_append.mp h with h | h
          · exact .inl h
          · rw [List.mem_singleton.mp h]; exact .inr (by simp)
      · exact .inr (by rw [List.map_cons]; exact List.mem_cons_of_mem _ h)
    · have := g.sz
      rw [List.length_cons]
      omega
end
/-! ### all but one object stays -/
def KB (p : Addr) (H H' : Hp) : Prop := ∀ b o, H b = some o → b ≠ p → H' b = some o
theorem KB.of {p : Addr} {H H' : Hp} (s : Same H H') : KB p H H' := fun b o e _ => s b o e
theorem KB.trans {p : Addr} {H H1 H2 : Hp} (s : KB p H H1) (t : KB p H1 H2) : KB p H H2 := fun b o e n => t b o (s b o e n) n
theorem KB.set {p : Addr} {H : Hp} {o : HO} : KB p H (upd H p o) := fun b u e n => by rw [upd_ne n]; exact e
theorem KB.get {p C dx : Addr} {fs : List (Str × V)} {H H' : Hp} (s : KB p H H') (hp : H p = some (.ins C dx fs)) {b : Addr} {o : HO} (e : H b = some o) (n : o ≠ .ins C dx fs) : H' b = some o := s b o e fun z => by
  rw [z, hp] at e
  exact n (Option.some.inj e).symm
theorem putF_new {f : Str} {v : V} : ∀ {fs : List (Str × V)}, f ∉ fs.map (·.1) → putF f v fs = fs ++ [(f, v)]
  | [], _ => rfl
  | (g, x) :: r, h => by
    show (if g = f then _ else _) = _
    rw [if_neg (fun z => h (by rw [z]; simp)), putF_new (fun z => h (by rw [List.map_cons]; exact List.mem_cons_of_mem _ z))]
    rfl
/-- all of it but p -/
def wo (H : Hp) (p : Addr) : Hp := fun b => if b = p then none else H b
theorem wo_p {H : Hp} {p : Addr} : wo H p p = none := if_pos rfl
theorem wo_get {H : Hp} {p b : Addr} (h : b ≠ p) : wo H p b = H b := if_neg h
theorem wo_kb {p : Addr} {H H' : Hp} (s : KB p H H') : Same (wo H p) H' := fun b o e => by
  by_cases z : b = p
  · rw [z, wo_p] at e; cases e
  · rw [wo_get z] at e; exact s b o e z
theorem wo_none {H : Hp} {p b : Addr} (h : H b = none) : wo H p b = none := by
  unfold wo
  split
  · rfl
  · exact h
theorem YearAt.wo {C Cy dx yp p : Addr} {H : Hp} {y : Yr} (h : YearAt Cy [] H yp y) (hp : H p = some (.ins C dx [])) : YearAt Cy [] (wo H p) yp y := by
  have g : ∀ {b : Addr} {o : HO}, H b = some o → o ≠ .ins C dx [] → KP.wo H p b = some o := fun e n => by
    rw [wo_get (fun z => by rw [z, hp] at e; exact n (Option.some.inj e).symm)]
    exact e
  obtain ⟨dy, l1, l2, l3, t1, t2, t3, q, r1, r2, r3, n1, n2, n3⟩ := h.ex
  have gr : ∀ {l : Addr} {ts : List Addr} {rs : List (List V)}, RowsAt H l ts rs → RowsAt (KP.wo H p) l ts rs := fun r => ⟨g r.1 (fun z => nomatch z), paired_mono (fun b r e => g e (fun z => nomatch z)) r.2⟩
  exact ⟨dy, l1, l2, l3, t1, t2, t3, g q (fun z => by injection z with _ _ z; cases z), gr r1, gr r2, gr r3, n1, n2, n3⟩
theorem RowT.wo {C dx p : Addr} {H : Hp} (hp : H p = some (.ins C dx [])) {t : Addr} {r : R3} : RowT H t r → RowT (wo H p) t r := fun ⟨u, h1, h2⟩ => by
  have g : ∀ {b : Addr} {o : HO}, H b = some o → o ≠ .ins C dx [] → KP.wo H p b = some o := fun e n => by
    rw [wo_get (fun z => by rw [z, hp] at e; exact n (Option.some.inj e).symm)]
    exact e
  exact ⟨u, g h1 (fun z => nomatch z), g h2 (fun z => nomatch z)⟩
/-! ### a tally that is done -/
structure TalE (C Cy : Addr) (a : TAd) (dtk sb : Addr) (tk : Nat → Addr) (sd : Str → Addr) (sl : Str → Str → Addr) (H : Hp) (p : Addr) (y : Yr) (rows : List R3) (s : TSt) : Prop where
  ins : H p = some (.ins C a.dx (tFs a ++ ([("day_takes", .ref dtk), ("sums_by_head", .ref sb)] : List (Str × V))))
  ok : y.ok
  yr : YearAt Cy [] H a.yp y
  rws : H a.rw = some (.lst (a.rts.map V.ref))
  rwt : Paired (RowT H) a.rts rows
  fl : H a.fl = some (.lst (a.fts.map V.ref))
  flt : Paired (fun t (q : Int × Int) => H t = some (.tup [.int q.1, .int q.2])) a.fts s.fa
  dp : H a.dp = some (.dK (s.pr.map fun q => (.inr q.1, .ref (a.tp q.1))))
  dpt : ∀ q ∈ s.pr, H (a.tp q.1) = some (.tup [.str q.2.1, .int q.2.2])
  dw : H a.dw = some (.dK (s.pr.map fun q => (.inr q.1, .ref (a.ad (.wd q.1)))))
  dwt : ∀ x ∈ s.ws, H (a.ad (.wd x)) = some (.lst (chL y.days (s.v (.wd x))))
  dt : H a.dt = some (.dK (s.tk.map fun q => (.inl q.1, .ref (a.tt q.1))))
  dtt : ∀ q ∈ s.tk, H (a.tt q.1) = some (.tup [.str q.2.1, .int q.2.2])
  dtk : H dtk = some (.lst (((List.range y.ls.length).map tk).map V.ref))
  dtkt : ∀ k, k < y.ls.length → H (tk k) = some (.lst (chL y.days (psI (s.v (.lm k)))))
  sb : H sb = some (.dK ((nms y.hs).map fun h => (.inr h, .ref (sd h))))
  sbt : ∀ h ∈ nms y.hs, H (sd h) = some (.dK (SUMS.map fun n => (.inr n, .ref (sl h n)))) ∧ ∀ n ∈ SUMS, H (sl h n) = some (.lst (chL y.days (sumV (fun n => s.v (.ch n h)) n)))
  ndw : s.ws.Nodup
  hds : ∀ q ∈ s.pr, q.2.1 ∈ nms y.hs
  ndt : (s.tk.map (·.1)).Nodup
def TalD (C Cy : Addr) (H : Hp) (p : Addr) (y : Yr) (rows : List R3) (s : TSt) : Prop := ∃ a dtk sb tk sd sl, TalE C Cy a dtk sb tk sd sl H p y rows s
theorem TalE.same {C Cy : Addr} {a : TAd} {dtk sb : Addr} {tk : Nat → Addr} {sd : Str → Addr} {sl : Str → Str → Addr} {H H' : Hp} {p : Addr} {y : Yr} {rows : List R3} {s : TSt} (T : TalE C Cy a dtk sb tk sd sl H p y rows s) (m : Same H H') : TalE C Cy a dtk sb tk sd sl H' p y rows s :=
  ⟨m _ _ T.ins, T.ok, T.yr.same m, m _ _ T.rws, L2.Paired.mapP T.rwt fun _ _ e => e.same m, m _ _ T.fl, L2.Paired.mapP T.flt fun _ _ e => m _ _ e, m _ _ T.dp, fun q h => m _ _ (T.dpt q h), m _ _ T.dw, fun x h => m _ _ (T.dwt x h), m _ _ T.dt, fun q h => m _ _ (T.dtt q h), m _ _ T.dtk, fun k h => m _ _ (T.dtkt k h), m _ _ T.sb, fun h hh => ⟨m _ _ (T.sbt h hh).1, fun n hn => m _ _ ((T.sbt h hh).2 n hn)⟩, T.ndw, T.hds, T.ndt⟩
theorem TalD.same {C Cy : Addr} {H H' : Hp} {p : Addr} {y : Yr} {rows : List R3} {s : TSt} : TalD C Cy H p y rows s → Same H H' → TalD C Cy H' p y rows s := fun ⟨a, b, c, d, e, f, T⟩ m => ⟨a, b, c, d, e, f, T.same m⟩
/-- its lists of numbers are newer than a heap -/
structure NewT (a : TAd) (tk : Nat → Addr) (sl : Str → Str → Addr) (H0 : Hp) (y : Yr) (s : TSt) : Prop where
  wd : ∀ x ∈ s.ws, H0 (a.ad (.wd x)) = none
  tk : ∀ k, k < y.ls.length → H0 (tk k) = none
  sl : ∀ h ∈ nms y.hs, ∀ n ∈ SUMS, H0 (sl h n) = none
theorem NewT.mono {a : TAd} {tk : Nat → Addr} {sl : Str → Str → Addr} {H0 H1 : Hp} {y : Yr} {s : TSt} (h : ∀ b, H1 b = none → H0 b = none) (N : NewT a tk sl H1 y s) : NewT a tk sl H0 y s := ⟨fun x hx => h _ (N.wd x hx), fun k hk => h _ (N.tk k hk), fun z hz n hn => h _ (N.sl z hz n hn)⟩
def TalN (C Cy : Addr) (H0 H : Hp) (p : Addr) (y : Yr) (rows : List R3) (s : TSt) : Prop := ∃ a dtk sb tk sd sl, TalE C Cy a dtk sb tk sd sl H p y rows s ∧ NewT a tk sl H0 y s
theorem TalN.d {C Cy : Addr} {H0 H : Hp} {p : Addr} {y : Yr} {rows : List R3} {s : TSt} : TalN C Cy H0 H p y rows s → TalD C Cy H p y rows s := fun ⟨a, b, c, d, e, f, T, _⟩ => ⟨a, b, c, d, e, f, T⟩
theorem TalN.same {C Cy : Addr} {H0 H H' : Hp} {p : Addr} {y : Yr} {rows : List R3} {s : TSt} : TalN C Cy H0 H p y rows s → Same H H' → TalN C Cy H0 H' p y rows s := fun ⟨a, b, c, d, e, f, T, N⟩ m => ⟨a, b, c, d, e, f, T.same m, N⟩
theorem TalN.mono {C Cy : Addr} {H0 H1 H : Hp} {p : Addr} {y : Yr} {rows : List R3} {s : TSt} (h : ∀ b, H1 b = none → H0 b = none) : TalN C Cy H1 H p y rows s → TalN C Cy H0 H p y rows s := fun ⟨a, b, c, d, e, f, T, N⟩ => ⟨a, b, c, d, e, f, T, N.mono h⟩
/-- a list of three numbers that was there is no part of it -/
theorem TalN.keep {C Cy : Addr} {H0 H H' : Hp} {p : Addr} {y : Yr} {rows : List R3} {s : TSt} {q : Addr} {i j k : Int} (hq : H q = some (.lst [.int i, .int j, .int k])) (h0 : H0 q ≠ none) (m : KB q H H') : TalN C Cy H0 H p y rows s → TalN C Cy H0 H' p y rows s := fun ⟨a, b, c, d, e, f, T, N⟩ => by
  have g : ∀ {b : Addr} {o : HO}, H b = some o → (∀ xs, o ≠ .lst xs) → H' b = some o := fun e n => m _ _ e fun z => by rw [z, hq] at e; exact n _ (Option.some.inj e).symm
  have gl : ∀ {b : Addr} {ts : List Addr}, H b = some (.lst (ts.map V.ref)) → H' b = some (.lst (ts.map V.ref)) := fun {b ts} e => m _ _ e fun z => by
    rw [z, hq] at e
    injection e with e
    injection e with e
    cases ts with
    | nil => cases e
    | cons t ts => injection e with e; cases e
  have gn : ∀ {b : Addr} {o : HO}, H0 b = none → H b = some o → H' b = some o := fun n e => m _ _ e fun z => h0 (by rw [← z]; exact n)
  have gr : ∀ {l : Addr} {ts : List Addr} {rs : List (List V)}, RowsAt H l ts rs → RowsAt H' l ts rs := fun r => ⟨gl r.1, paired_mono (fun b r e => g e (fun _ z => nomatch z)) r.2⟩
  obtain ⟨dy, l1, l2, l3, t1, t2, t3, hy, r1, r2, r3, n1, n2, n3⟩ := T.yr.ex
  exact ⟨a, b, c, d, e, f, ⟨g T.ins (fun _ z => nomatch z), T.ok, ⟨dy, l1, l2, l3, t1, t2, t3, g hy (fun _ z => nomatch z), gr r1, gr r2, gr r3, n1, n2, n3⟩, gl T.rws, L2.Paired.mapP T.rwt (fun _ _ ⟨u, h1, h2⟩ => ⟨u, g h1 (fun _ z => nomatch z), g h2 (fun _ z => nomatch z)⟩), gl T.fl, L2.Paired.mapP T.flt (fun _ _ e => g e (fun _ z => nomatch z)), g T.dp (fun _ z => nomatch z), fun q h => g (T.dpt q h) (fun _ z => nomatch z), g T.dw (fun _ z => nomatch z), fun x h => gn (N.wd x h) (T.dwt x h), g T.dt (fun _ z => nomatch z), fun q h => g (T.dtt q h) (fun _ z => nomatch z), gl T.dtk, fun k h => gn (N.tk k h) (T.dtkt k h), g T.sb (fun _ z => nomatch z), fun h hh => ⟨g (T.sbt h hh).1 (fun _ z => nomatch z), fun n hn => gn (N.sl h hh n hn) ((T.sbt h hh).2 n hn)⟩, T.ndw, T.hds, T.ndt⟩, N⟩
/-- a row that a tally takes -/
def RowOk (y : Yr) (r : R3) : Prop := r.2.2.ok ∧ r.2.2.fit (nms y.hs) y.days r.2.1 = true ∧ 1 ≤ r.2.1 ∧ r.2.1 ≤ y.days
def spTI (C Cy : Addr) : Sp := fun vs H Q _ => ∃ (p dx yp rs : Addr) (y : Yr) (rts : List Addr) (rows : List R3), vs = [.ref p, .ref yp, .ref rs] ∧ H p = some (.ins C dx []) ∧ YearAt Cy [] H yp y ∧ y.ok ∧ H rs = some (.lst (rts.map V.ref)) ∧ Paired (RowT H) rts rows ∧ (∀ r ∈ rows, RowOk y r) ∧ (rows.map (·.1)).Nodup ∧ rows.length ≤ 100 ∧
  ∀ H' : Hp, KB p H H' → TalN C Cy H H' p y rows (run y (gone rows)) → Q .non H'
end KP
namespace KP
open PySem L2 KD KM KT
abbrev sTI : Stmt := inClass (top 44) 0
abbrev nTI : List Str := ["self", "year", "rows", "number", "date", "told", "name", "limit", "changes", "head"]
theorem scTI : FnScope nTI ["self", "year", "rows"] (defScope sTI) := ⟨rfl, rfl, rfl, by decide +kernel, rfl, by decide +kernel, by decide +kernel⟩
def fs6 (yp rw fl dp dw dt : Addr) : List (Str × V) := [("year", .ref yp), ("rows", .ref rw), ("faults", .ref fl), ("promises", .ref dp), ("word_changes", .ref dw), ("takes", .ref dt)]
theorem kb_none {p C dx C' dx' : Addr} {fs fs' : List (Str × V)} {H H' : Hp} (s : KB p H H') (hp : H p = some (.ins C dx fs)) (hp' : H' p = some (.ins C' dx' fs')) {b : Addr} (n : H' b = none) : H b = none := by
  cases e : H b with
  | none => rfl
  | some o =>
    by_cases z : b = p
    · rw [z, hp'] at n; cases n
    · rw [s b o e z] at n; cases n
section
variable {P : Program} {w : World} {K : PySem.W.Frag} {mg : Str → Option Value} {base : Heap} {C Cy : Addr}
set_option maxHeartbeats 2000000 in
theorem c_ti (B : Base K mg) (S : SumsF K mg) (Y : YearF K mg Cy) (TF : TalF K mg C) (Ds : Cal P w K mg base 1 "day_sums" spDS) (Nm : MetT P w K mg base 1 Cy "names" (spYN Cy)) (Nc : MetT P w K mg base 1 C "no_changes" (spTN C Cy)) (Go : MetT P w K mg base 4 C "gone_through" (spTGo C)) (Gt : MetT P w K mg base 6 C "go_through" (spTGT C Cy)) (So : MetT P w K mg base 2 C "sums_of" (spTS C))
    (D : InitT K C "Tally.__init__" sTI ["self", "year", "rows"]) : MakT P w K mg base 7 "Tally" C (spTI C Cy) := by
  obtain ⟨f, fd, M, F, b⟩ := D.ex
  refine ⟨f, fd, _, M, F.ok scTI (fun vs H Q E h => ?_) (fun cdv A outer s H vs Q E hr h => ?_), TF.mgC, b⟩
  · obtain ⟨p, dx, yp, rs, y, rts, rows, rfl, _⟩ := h
    rfl
  · obtain ⟨p, dx, yp, rs, y, rts, rows, rfl, hp, hy, ok, hrs, hrt, rok, rnd, rsz, k⟩ := h
    obtain ⟨dS, hS, sS⟩ := S.ex
    have hz : sizeLine = 16777216 := by decide
    refine ⟨_, (pss_cons (ps_fld (pv 0) (pv 1) rfl)
        (pss_cons (ps_fld (pv 0) (pe_callTy call_listW (by rfl) B.list (by decide +kernel) (pa_cons (pv 2) pa_nil)) rfl)
        (pss_cons (ps_fld (pv 0) (pe_lstW pa_nil) rfl)
        (pss_cons (ps_fld (pv 0) pe_dnewK rfl)
        (pss_cons (ps_fld (pv 0) pe_dnewK rfl)
        (C8.pss_cut (ps_fld (pv 0) pe_dnewK rfl)
        (C8.pss_cut (ps_fld (pv 0) (pe_dc (own := [("name", 6)]) (g := (gName 6)) (tt := tYes) (tv := (tDc (iList K (tMeth Cy "names" (spYN Cy) [] E0 (tVar 1) tNil)) (gName 9) tYes (tVar 9) (tMeth C "no_changes" (spTN C Cy) [] E0 (tVar 0) tNil) [9])) rfl scTI.nd (pi_tup (pe_glob (v := .ref dS) rfl hS rfl)) (blkOk_by (N := nTI) (sc := defScope sTI) (by decide +kernel)) (fun _ _ _ _ _ => (pg_name (i := 6) scTI.nd rfl (by first | exact Or.inl rfl | exact Or.inr rfl))) (fun _ _ _ _ _ => pts_nil) (fun _ _ _ _ _ => (pv 6)) (fun _ _ _ _ _ => (pe_dc (own := [("head", 9)]) (g := (gName 9)) (tt := tYes) (tv := (tMeth C "no_changes" (spTN C Cy) [] E0 (tVar 0) tNil)) rfl scTI.nd (pi_list (pe_mtT0 Nm hr (by decide) (pv 1))) (blkOk_by (N := nTI) (sc := { kind := .function, names := [(".0", .local), ("name", .local), ("self", .cell), ("year", .cell)], isGenerator := false, isCoroutine := false }) (by decide +kernel)) (fun _ _ _ _ _ => (pg_name (i := 9) scTI.nd rfl (by first | exact Or.inl rfl | exact Or.inr rfl))) (fun _ _ _ _ _ => pts_nil) (fun _ _ _ _ _ => (pv 9)) (fun _ _ _ _ _ => (pe_mtT0 Nc hr (by decide) (pv 0)))))) rfl)
        (C8.pss_cut (ps_fld (pv 0) (pe_lc (own := [("limit", 7)]) (g := (gName 7)) (tt := tYes) (te := (tMeth C "no_changes" (spTN C Cy) [] E0 (tVar 0) tNil)) rfl scTI.nd (pi_list (pe_fld (pv 1) rfl)) (blkOk_by (N := nTI) (sc := defScope sTI) (by decide +kernel)) (fun _ _ _ _ _ => (pg_name (i := 7) scTI.nd rfl (by first | exact Or.inl rfl | exact Or.inr rfl))) (fun _ _ _ _ _ => pts_nil) (fun _ _ _ _ _ => (pe_mtT0 Nc hr (by decide) (pv 0)))) rfl)
        (C8.pss_cut (ps_for PassesOwn.never rfl (pi_list (pe_mtT0 Go hr (by decide) (pv 0))) (pg_tup rfl (pgs_cons (pg_name (i := 3) scTI.nd rfl (by first | exact Or.inl rfl | exact Or.inr rfl)) (pgs_cons (pg_name (i := 4) scTI.nd rfl (by first | exact Or.inl rfl | exact Or.inr rfl)) (pgs_cons (pg_name (i := 5) scTI.nd rfl (by first | exact Or.inl rfl | exact Or.inr rfl)) pgs_nil)))) (pss_one (ps_expr (pe_mtT Gt hr (by decide) (pv 0) (pa_cons (pv 3) (pa_cons (pv 4) (pa_cons (pv 5) pa_nil)))))))
        (C8.pss_cut (ps_fld (pv 0) (pe_lc (own := [("changes", 8)]) (g := (gName 8)) (tt := tYes) (te := (tCall spDS [] E0 (tCons (tVar 8) tNil))) rfl scTI.nd (pi_list (pe_fld (pv 0) rfl)) (blkOk_by (N := nTI) (sc := defScope sTI) (by decide +kernel)) (fun _ _ _ _ _ => (pg_name (i := 8) scTI.nd rfl (by first | exact Or.inl rfl | exact Or.inr rfl))) (fun _ _ _ _ _ => pts_nil) (fun _ _ _ _ _ => (pe_cl Ds hr (by decide) (by rfl) (pa_cons (pv 8) pa_nil)))) rfl)
        (pss_one (ps_fld (pv 0) (pe_dc (own := [("head", 9)]) (g := (gName 9)) (tt := tYes) (tv := (tMeth C "sums_of" (spTS C) [] E0 (tVar 0) (tCons (tVar 9) tNil))) rfl scTI.nd (pi_list (pe_mtT0 Nm hr (by decide) (pv 1))) (blkOk_by (N := nTI) (sc := defScope sTI) (by decide +kernel)) (fun _ _ _ _ _ => (pg_name (i := 9) scTI.nd rfl (by first | exact Or.inl rfl | exact Or.inr rfl))) (fun _ _ _ _ _ => pts_nil) (fun _ _ _ _ _ => (pv 9)) (fun _ _ _ _ _ => (pe_mtT So hr (by decide) (pv 0) (pa_cons (pv 9) pa_nil)))) rfl)))))))))))), ?_⟩
    have na : ∀ {f : Str}, f ∈ tKeys → NoAttr K C f := fun h => TF.na _ h
    refine ⟨_, rfl, _, rfl, p, C, dx, _, rfl, hp, TF.cl, na (by simp [tKeys]), (by show 0 < 1000; omega), ?_⟩
    rw [putF_new (by show ("year" : Str) ∉ ([] : List Str); decide +kernel)]
    generalize e1 : upd H p _ = G1
    have k1 : KB p H G1 := by rw [← e1]; exact KB.set
    have p1 : G1 p = some (.ins C dx [("year", .ref yp)]) := by rw [← e1]; exact upd_same
    clear e1
    refine ⟨_, rfl, rs, _, rfl, .inl (SqL.of (k1.get hp hrs (fun z => nomatch z))), fun rw A1 s1 m1 h1 => ?_⟩
    refine ⟨_, rfl, p, C, dx, _, rfl, s1 _ _ p1, TF.cl, na (by simp [tKeys]), (by show 1 < 1000; omega), ?_⟩
    rw [putF_new (by show ("rows" : Str) ∉ (["year"] : List Str); decide +kernel)]
    generalize e1 : upd A1 p _ = G2
    have q1 : KB p A1 G2 := by rw [← e1]; exact KB.set
    have p2 : G2 p = some (.ins C dx [("year", .ref yp), ("rows", .ref rw)]) := by rw [← e1]; exact upd_same
    have r1 : KB p G1 G2 := (KB.of s1).trans q1
    have nrw : H rw = none := kb_none k1 hp p1 m1
    have hrw : G2 rw = some (.lst (rts.map V.ref)) := q1.get (s1 _ _ p1) h1 (fun z => nomatch z)
    have k2 := k1.trans r1
    clear e1
    refine ⟨(by show 0 ≤ sizeLine; omega), fun fl A2 s2 m2 h2 => ?_⟩
    refine ⟨_, rfl, p, C, dx, _, rfl, s2 _ _ p2, TF.cl, na (by simp [tKeys]), (by show 2 < 1000; omega), ?_⟩
    rw [putF_new (by show ("faults" : Str) ∉ (["year", "rows"] : List Str); decide +kernel)]
    generalize e2 : upd A2 p _ = G3
    have q2 : KB p A2 G3 := by rw [← e2]; exact KB.set
    have p3 : G3 p = some (.ins C dx [("year", .ref yp), ("rows", .ref rw), ("faults", .ref fl)]) := by rw [← e2]; exact upd_same
    have r2 : KB p G2 G3 := (KB.of s2).trans q2
    have nfl : H fl = none := kb_none k2 hp p2 m2
    have hfl : G3 fl = some (.lst []) := q2.get (s2 _ _ p2) h2 (fun z => nomatch z)
    have drwfl : rw ≠ fl := fun z => by have q := hrw; rw [z, m2] at q; cases q
    have hrw := r2.get p2 hrw (fun z => nomatch z)
    have k3 := k2.trans r2
    clear e2
    intro dp m3
    have s3 := same_new (o := HO.dK []) m3
    have h3 : upd G3 dp (.dK []) dp = some (.dK []) := upd_same
    generalize upd G3 dp (.dK []) = A3 at s3 h3 ⊢
    refine ⟨_, rfl, p, C, dx, _, rfl, s3 _ _ p3, TF.cl, na (by simp [tKeys]), (by show 3 < 1000; omega), ?_⟩
    rw [putF_new (by show ("promises" : Str) ∉ (["year", "rows", "faults"] : List Str); decide +kernel)]
    generalize e3 : upd A3 p _ = G4
    have q3 : KB p A3 G4 := by rw [← e3]; exact KB.set
    have p4 : G4 p = some (.ins C dx [("year", .ref yp), ("rows", .ref rw), ("faults", .ref fl), ("promises", .ref dp)]) := by rw [← e3]; exact upd_same
    have r3 : KB p G3 G4 := (KB.of s3).trans q3
    have ndp : H dp = none := kb_none k3 hp p3 m3
    have hdp : G4 dp = some (.dK []) := q3.get (s3 _ _ p3) h3 (fun z => nomatch z)
    have drwdp : rw ≠ dp := fun z => by have q := hrw; rw [z, m3] at q; cases q
    have hrw := r3.get p3 hrw (fun z => nomatch z)
    have dfldp : fl ≠ dp := fun z => by have q := hfl; rw [z, m3] at q; cases q
    have hfl := r3.get p3 hfl (fun z => nomatch z)
    have k4 := k3.trans r3
    clear e3
    intro dw m4
    have s4 := same_new (o := HO.dK []) m4
    have h4 : upd G4 dw (.dK []) dw = some (.dK []) := upd_same
    generalize upd G4 dw (.dK []) = A4 at s4 h4 ⊢
    refine ⟨_, rfl, p, C, dx, _, rfl, s4 _ _ p4, TF.cl, na (by simp [tKeys]), (by show 4 < 1000; omega), ?_⟩
    rw [putF_new (by show ("word_changes" : Str) ∉ (["year", "rows", "faults", "promises"] : List Str); decide +kernel)]
    generalize e4 : upd A4 p _ = G5
    have q4 : KB p A4 G5 := by rw [← e4]; exact KB.set
    have p5 : G5 p = some (.ins C dx [("year", .ref yp), ("rows", .ref rw), ("faults", .ref fl), ("promises", .ref dp), ("word_changes", .ref dw)]) := by rw [← e4]; exact upd_same
    have r4 : KB p G4 G5 := (KB.of s4).trans q4
    have ndw : H dw = none := kb_none k4 hp p4 m4
    have hdw : G5 dw = some (.dK []) := q4.get (s4 _ _ p4) h4 (fun z => nomatch z)
    have drwdw : rw ≠ dw := fun z => by have q := hrw; rw [z, m4] at q; cases q
    have hrw := r4.get p4 hrw (fun z => nomatch z)
    have dfldw : fl ≠ dw := fun z => by have q := hfl; rw [z, m4] at q; cases q
    have hfl := r4.get p4 hfl (fun z => nomatch z)
    have ddpdw : dp ≠ dw := fun z => by have q := hdp; rw [z, m4] at q; cases q
    have hdp := r4.get p4 hdp (fun z => nomatch z)
    have k5 := k4.trans r4
    clear e4
    refine ⟨fun σ' H' => ∃ dt : Addr, σ' = [some (.ref p), some (.ref yp), some (.ref rs), none, none, none, none, none, none, none] ∧ KB p H H' ∧ H' p = some (.ins C dx (fs6 yp rw fl dp dw dt)) ∧ H' rw = some (.lst (rts.map V.ref)) ∧ H' fl = some (.lst []) ∧ H' dp = some (.dK []) ∧ H' dw = some (.dK []) ∧ H' dt = some (.dK []) ∧ H dt = none ∧ [dp, dw, dt].Nodup, ?_, ?_⟩
    rotate_left
    · rintro _ G6 ⟨dt, rfl, k6, p6, hrw, hfl, hdp, hdw, hdt, ndt, ndd⟩
      clear r1 r2 r3 r4 q1 q2 q3 q4 s1 s2 s3 s4 m1 m2 m3 m4 h1 h2 h3 h4 k1 k2 k3 k4 k5 p1 p2 p3 p4 p5
      have nd : (nms y.hs).Nodup := ok.h.nd
      have l8 : (nms y.hs).length ≤ 8 := by unfold nms; rw [List.length_map]; exact ok.h.l8
      have l6 := ok.l6
      have hy6 : YearAt Cy [] G6 yp y := (hy.wo hp).same (wo_kb k6)
      have yfn : ∀ {l1 l2 l3 : Addr}, (yf y.days l1 l2 l3).lookup ("names" : Str) = none := yf_no (by decide +kernel) (by decide +kernel) (by decide +kernel) (by decide +kernel)
      refine ⟨fun σ' H' => ∃ (dc : Addr) (dn : Str → Addr) (ad : Str → Str → Addr), σ' = [some (.ref p), some (.ref yp), some (.ref rs), none, none, none, none, none, none, none] ∧ KB p G6 H' ∧ H' p = some (.ins C dx (fs6 yp rw fl dp dw dt ++ ([("changes", .ref dc)] : List (Str × V)))) ∧ H' dc = some (.dK (SUMS.map fun n => ((Sum.inr n : Key), V.ref (dn n)))) ∧ G6 dc = none ∧
        (∀ n ∈ SUMS, G6 (dn n) = none ∧ H' (dn n) = some (.dK ((nms y.hs).map fun h => ((Sum.inr h : Key), V.ref (ad n h)))) ∧ ∀ h ∈ nms y.hs, G6 (ad n h) = none ∧ H' (ad n h) = some (.lst (chL y.days fun _ => 0))) ∧
        (∀ n ∈ SUMS, ∀ n' ∈ SUMS, ∀ h ∈ nms y.hs, ∀ h' ∈ nms y.hs, ad n h = ad n' h' → n = n' ∧ h = h'), ?_, ?_⟩
      · refine ⟨dS, rfl, ⟨_, sS G6⟩, fun D nD => dc_strs (walk_tupS (K := K) (a := dS) (xs := SUMS)) nd_sums (by show 6 < sizeLine; omega) nD (fun _ => rfl) (fun _ => rfl)
          (fun i f H' => ∃ ad : Str → Str → Addr, (∀ n ∈ SUMS.take i, G6 (f n) = none ∧ H' (f n) = some (.dK ((nms y.hs).map fun h => ((Sum.inr h : Key), V.ref (ad n h)))) ∧ f n ≠ D ∧ ∀ h ∈ nms y.hs, G6 (ad n h) = none ∧ H' (ad n h) = some (.lst (chL y.days fun _ => 0))) ∧
            (∀ n ∈ SUMS.take i, ∀ n' ∈ SUMS.take i, ∀ h ∈ nms y.hs, ∀ h' ∈ nms y.hs, ad n h = ad n' h' → n = n' ∧ h = h'))
          (fun f => ⟨fun _ _ => 0, fun n hn => by simp at hn, fun n hn => by simp at hn⟩) (fun i f H' _ _ => sS H') ?_ ?_⟩
        · intro i x f H' hx ⟨ad, r1, r2⟩ sm hd Q' k'
          have hy' := hy6.same sm
          obtain ⟨dy, l1, l2, l3, t1, t2, t3, hyp, _⟩ := hy'.ex
          refine ⟨_, rfl, yp, dy, _, rfl, hyp, yfn, yp, y, rfl, hy', ok.h.l8, fun q nq => ?_⟩
          have sq := same_new (o := HO.lst ((nms y.hs).map V.str)) nq
          have hq : upd H' q (.lst ((nms y.hs).map V.str)) q = some (.lst ((nms y.hs).map V.str)) := upd_same
          generalize upd H' q (.lst ((nms y.hs).map V.str)) = Ha at sq hq ⊢
          refine ⟨q, rfl, ⟨_, SqL.of hq⟩, fun D2 nD2 => dc_strs (walk_listS (K := K) (a := q) (xs := nms y.hs)) nd (by omega) nD2 (fun _ => rfl) (fun _ => rfl)
            (fun j g H2 => (∀ h ∈ (nms y.hs).take j, Ha (g h) = none ∧ H2 (g h) = some (.lst (chL y.days fun _ => 0))) ∧ ∀ h ∈ (nms y.hs).take j, ∀ h' ∈ (nms y.hs).take j, g h = g h' → h = h')
            (fun g => ⟨fun n hn => by simp at hn, fun n hn => by simp at hn⟩) (fun j g H2 _ s2 => SqL.of (s2 _ _ hq)) ?_ ?_⟩
          · intro j z g H2 hzj ⟨g1, g2⟩ s2 hd2 Q2 k2
            have hp2 := s2 _ _ (sq _ _ (sm _ _ p6))
            refine ⟨_, rfl, p, dx, _, rfl, hp2, look_no (by show ("no_changes" : Str) ∉ (["year", "rows", "faults", "promises", "word_changes", "takes"] : List Str); decide +kernel), p, dx, yp, _, y, rfl, hp2, rfl, (hy'.same sq).same s2, ok, fun L H5 s5 nL hL => k2 L H5 s5 fun H6 s6 _ => ?_⟩
            have nLD : L ≠ D2 := fun e => by rw [e, hd2] at nL; cases nL
            have old : ∀ h ∈ (nms y.hs).take (j + 1), h = z ∨ h ∈ (nms y.hs).take j := fun h hh => by
              rw [List.take_add_one, hzj] at hh
              rcases List.mem_append.mp hh with q | q
              · exact .inr q
              · exact .inl (List.mem_singleton.mp q)
            have g3 : ∀ h ∈ (nms y.hs).take j, L ≠ g h := fun h hh e => by rw [e, (g1 h hh).2] at nL; cases nL
            refine ⟨fun h hh => ?_, fun h hh h' hh' => ?_⟩
            · show Ha (if h = z then L else g h) = none ∧ H6 (if h = z then L else g h) = _
              by_cases e : h = z
              · rw [if_pos e]
                exact ⟨same_none s2 nL, s6 _ _ nLD hL⟩
              · rw [if_neg e]
                obtain ⟨a1, a2⟩ := g1 h ((old h hh).resolve_left e)
                exact ⟨a1, s6 _ _ (fun e => by rw [e, hd2] at a2; cases a2) (s5 _ _ a2)⟩
            · show (if h = z then L else g h) = (if h' = z then L else g h') → h = h'
              by_cases e : h = z <;> by_cases e' : h' = z
              · intro _; rw [e, e']
              · rw [if_pos e, if_neg e']
                exact fun q => absurd q (g3 h' ((old h' hh').resolve_left e'))
              · rw [if_neg e, if_pos e']
                exact fun q => absurd q.symm (g3 h ((old h hh).resolve_left e))
              · rw [if_neg e, if_neg e']
                exact g2 h ((old h hh).resolve_left e) h' ((old h' hh').resolve_left e')
          · intro g H2 ⟨g1, g2⟩ s2 hd2
            rw [List.take_length] at g1 g2
            refine k' D2 H2 (sq.trans s2) fun H6 s6 sm6 => ?_
            have nD2' : H' D2 = none := same_none sq nD2
            have nDD : D2 ≠ D := fun e => by rw [e, hd] at nD2'; cases nD2'
            have old : ∀ n ∈ SUMS.take (i + 1), n = x ∨ n ∈ SUMS.take i := fun h hh => by
              rw [List.take_add_one, hx] at hh
              rcases List.mem_append.mp hh with q | q
              · exact .inr q
              · exact .inl (List.mem_singleton.mp q)
            have g3 : ∀ n ∈ SUMS.take i, ∀ h ∈ nms y.hs, ∀ h' ∈ nms y.hs, ad n h ≠ g h' := fun n hn h hh h' hh' e => by
              have a := (g1 h' hh').1
              rw [← e, sq _ _ ((r1 n hn).2.2.2 h hh).2] at a
              cases a
            refine ⟨fun n => if n = x then g else ad n, fun n hn => ?_, fun n hn n' hn' h hh h' hh' => ?_⟩
            · show G6 (if n = x then D2 else f n) = none ∧ _
              by_cases e : n = x
              · simp only [if_pos e]
                refine ⟨same_none sm nD2', s6 _ _ nDD hd2, nDD, fun h hh => ⟨same_none sm (same_none sq (g1 h hh).1), s6 _ _ (fun e => ?_) (g1 h hh).2⟩⟩
                have a := (g1 h hh).1
                rw [e, sq _ _ hd] at a
                cases a
              · simp only [if_neg e]
                obtain ⟨a1, a2, a3, a4⟩ := r1 n ((old n hn).resolve_left e)
                refine ⟨a1, s6 _ _ a3 (s2 _ _ (sq _ _ a2)), a3, fun h hh => ⟨(a4 h hh).1, s6 _ _ (fun e => ?_) (s2 _ _ (sq _ _ (a4 h hh).2))⟩⟩
                have a := (a4 h hh).2
                rw [e, hd] at a
                cases a
            · show (if n = x then g else ad n) h = (if n' = x then g else ad n') h' → _
              by_cases e : n = x <;> by_cases e' : n' = x
              · rw [if_pos e, if_pos e']
                exact fun q => ⟨e.trans e'.symm, g2 h hh h' hh' q⟩
              · rw [if_pos e, if_neg e']
                exact fun q => absurd q.symm (g3 n' ((old n' hn').resolve_left e') h' hh' h hh)
              · rw [if_neg e, if_pos e']
                exact fun q => absurd q (g3 n ((old n hn).resolve_left e) h hh h' hh')
              · rw [if_neg e, if_neg e']
                exact r2 n ((old n hn).resolve_left e) n' ((old n' hn').resolve_left e') h hh h' hh'
        · intro f H' ⟨ad, r1, r2⟩ sm hd
          have e6 : SUMS.take SUMS.length = SUMS := List.take_length
          rw [e6] at r1 r2
          have pp := sm _ _ p6
          refine ⟨_, rfl, p, C, dx, _, rfl, pp, TF.cl, na (by simp [tKeys]), (by show 6 < 1000; omega), ?_⟩
          rw [putF_new (by show ("changes" : Str) ∉ (["year", "rows", "faults", "promises", "word_changes", "takes"] : List Str); decide +kernel)]
          have kk := KB.set (p := p) (H := H') (o := HO.ins C dx (fs6 yp rw fl dp dw dt ++ ([("changes", .ref D)] : List (Str × V))))
          exact ⟨D, f, ad, rfl, (KB.of sm).trans KB.set, upd_same, kk.get pp hd (fun z => nomatch z), nD, fun n hn => ⟨(r1 n hn).1, kk.get pp (r1 n hn).2.1 (fun z => nomatch z), fun h hh => ⟨((r1 n hn).2.2.2 h hh).1, kk.get pp ((r1 n hn).2.2.2 h hh).2 (fun z => nomatch z)⟩⟩, r2⟩
      · rintro _ G7 ⟨dc, dn, ad, rfl, k7, p7, hdc, ndc, hdn, inj⟩
        have g7 : ∀ {b : Addr} {o : HO}, G6 b = some o → (∀ C dx fs, o ≠ .ins C dx fs) → G7 b = some o := fun e n => k7.get p6 e (n _ _ _)
        have hrw := g7 hrw (fun _ _ _ z => nomatch z)
        have hfl7 := g7 hfl (fun _ _ _ z => nomatch z)
        have hdp7 := g7 hdp (fun _ _ _ z => nomatch z)
        have hdw7 := g7 hdw (fun _ _ _ z => nomatch z)
        have hdt7 := g7 hdt (fun _ _ _ z => nomatch z)
        have k07 := k6.trans k7
        have hy7 : YearAt Cy [] G7 yp y := (hy.wo hp).same (wo_kb k07)
        obtain ⟨dy, l1, l2, l3, t1, t2, t3, hyp, _, R2, _⟩ := hy7.ex
        have tl2 : t2.length = y.ls.length := by rw [R2.len, List.length_map]
        refine ⟨fun σ' H' => ∃ (ll : Addr) (lm : Nat → Addr), σ' = [some (.ref p), some (.ref yp), some (.ref rs), none, none, none, none, none, none, none] ∧ KB p G7 H' ∧ H' p = some (.ins C dx ((fs6 yp rw fl dp dw dt ++ ([("changes", .ref dc)] : List (Str × V))) ++ ([("limit_changes", .ref ll)] : List (Str × V)))) ∧ H' ll = some (.lst (((List.range y.ls.length).map lm).map V.ref)) ∧ G7 ll = none ∧
          (∀ k, k < y.ls.length → G7 (lm k) = none ∧ H' (lm k) = some (.lst (chL y.days fun _ => 0))) ∧ (∀ k k', k < y.ls.length → k' < y.ls.length → lm k = lm k' → k = k'), ?_, ?_⟩
        · refine ⟨_, rfl, yp, Cy, dy, _, .ref l2, rfl, hyp, Y.cl, Y.nl, rfl, l2, rfl, ⟨_, SqL.of R2.1⟩, fun D nD => lc_it (walk_list (xs := t2.map V.ref)) (fun i H' => Same G7 H' ∧ ∃ lm : Nat → Addr, H' D = some (.lst (((List.range i).map lm).map V.ref)) ∧
            (∀ k, k < i → G7 (lm k) = none ∧ H' (lm k) = some (.lst (chL y.days fun _ => 0))) ∧ (∀ k k', k < i → k' < i → lm k = lm k' → k = k')) ⟨same_new nD, fun _ => 0, upd_same, fun k hk => absurd hk (by omega), fun k k' hk => absurd hk (by omega)⟩ (fun i H' _ e => SqL.of (e.1 _ _ R2.1)) ?_ ?_⟩
          · rintro i v H4 H5 hi ⟨s4, lm, d4, c4, i4⟩ ⟨rfl, hv⟩
            have hi' : i < y.ls.length := by rw [List.length_map, tl2] at hi; exact hi
            have hp4 := s4 _ _ p7
            refine ⟨rfl, yes (iteT ⟨_, rfl, p, dx, _, rfl, hp4, look_no (by show ("no_changes" : Str) ∉ (["year", "rows", "faults", "promises", "word_changes", "takes", "changes"] : List Str); decide +kernel), p, dx, yp, _, y, rfl, hp4, rfl, hy7.same s4, ok, fun L H6 s6 nL hL => ⟨_, s6 _ _ d4, (by rw [List.length_map, List.length_map, List.length_range]; omega), ?_, ?_⟩⟩)⟩
            · intro b o e
              rw [upd_ne (ne_of_none e nD)]
              exact s6 _ _ (s4 _ _ e)
            · have nLD : L ≠ D := fun e => by rw [e, d4] at nL; cases nL
              refine ⟨fun k => if k = i then L else lm k, ?_, fun k hk => ?_, fun k k' hk hk' => ?_⟩
              · rw [upd_same, List.range_succ, List.map_append, List.map_append]
                have e1 : (List.range i).map (fun k => if k = i then L else lm k) = (List.range i).map lm := List.map_congr_left fun k hk => if_neg (by have := List.mem_range.mp hk; omega)
                rw [e1]
                show _ = some (HO.lst (_ ++ [V.ref (if i = i then L else lm i)]))
                rw [if_pos rfl]
              · show G7 (if k = i then L else lm k) = none ∧ upd H6 D _ (if k = i then L else lm k) = _
                by_cases e : k = i
                · rw [if_pos e, upd_ne nLD]
                  exact ⟨same_none s4 nL, hL⟩
                · rw [if_neg e]
                  obtain ⟨a1, a2⟩ := c4 k (by omega)
                  rw [upd_ne (fun z => by rw [z, d4] at a2; injection a2 with a2; injection a2 with a2; exact chL_ne_refs a2.symm)]
                  exact ⟨a1, s6 _ _ a2⟩
              · have g3 : ∀ k, k < i → L ≠ lm k := fun k hk e => by rw [e, (c4 k hk).2] at nL; cases nL
                show (if k = i then L else lm k) = (if k' = i then L else lm k') → k = k'
                by_cases e : k = i <;> by_cases e' : k' = i
                · intro _; omega
                · rw [if_pos e, if_neg e']
                  exact fun q => absurd q (g3 k' (by omega))
                · rw [if_neg e, if_pos e']
                  exact fun q => absurd q.symm (g3 k (by omega))
                · rw [if_neg e, if_neg e']
                  exact i4 k k' (by omega) (by omega)
          · rintro H' ⟨sm, lm, hd, c4, i4⟩
            rw [List.length_map, tl2] at hd c4 i4
            have pp := sm _ _ p7
            refine ⟨_, rfl, p, C, dx, _, rfl, pp, TF.cl, na (by simp [tKeys]), (by show 7 < 1000; omega), ?_⟩
            rw [putF_new (by show ("limit_changes" : Str) ∉ (["year", "rows", "faults", "promises", "word_changes", "takes", "changes"] : List Str); decide +kernel)]
            have kk := KB.set (p := p) (H := H') (o := HO.ins C dx ((fs6 yp rw fl dp dw dt ++ ([("changes", .ref dc)] : List (Str × V))) ++ ([("limit_changes", .ref D)] : List (Str × V))))
            exact ⟨D, lm, rfl, (KB.of sm).trans KB.set, upd_same, kk.get pp hd (fun z => nomatch z), nD, fun k hk => ⟨(c4 k hk).1, kk.get pp (c4 k hk).2 (fun z => nomatch z)⟩, i4⟩
        · rintro _ G8 ⟨ll, lm, rfl, k8, p8, hll, nll, hlm, injl⟩
          have g8 : ∀ {b : Addr} {o : HO}, G7 b = some o → (∀ C dx fs, o ≠ .ins C dx fs) → G8 b = some o := fun e n => k8.get p7 e (n _ _ _)
          have k08 := k07.trans k8
          have T8 : TalB C Cy { dx := dx, yp := yp, rw := rw, fl := fl, dp := dp, dw := dw, dt := dt, dc := dc, ll := ll, dn := dn, ad := fun c => match c with | .ch n h => ad n h | .lm k => lm k | .wd _ => 0, tp := fun _ => 0, tt := fun _ => 0, rts := rts, fts := [] } (wo H p) (wo H p) G8 p y rows TSt.zero := by
            refine { ins := p8, sub := Same.refl _, keep := wo_kb k08, ok := ok, yr := hy.wo hp, rws := g8 hrw (fun _ _ _ z => nomatch z), rwt := L2.Paired.mapP hrt fun _ _ e => e.wo hp, fl := g8 hfl7 (fun _ _ _ z => nomatch z), flt := .nil, dp := g8 hdp7 (fun _ _ _ z => nomatch z), dpt := fun q hq => (by cases hq), dw := g8 hdw7 (fun _ _ _ z => nomatch z), dt := g8 hdt7 (fun _ _ _ z => nomatch z), dtt := fun q hq => (by cases hq), dc := g8 hdc (fun _ _ _ z => nomatch z), dn := fun n hn => g8 (hdn n hn).2.1 (fun _ _ _ z => nomatch z), ll := hll, cell := ?_, inj := ?_, nF := ?_, ap := ?_, ndw := .nil, hds := fun q hq => (by cases hq), ndt := .nil, sz := (by show 0 + 0 + 0 ≤ 1000; omega), apl := ⟨drwfl, fun z => ?_⟩ }
            · intro c hc
              cases c with
              | ch n h => exact g8 ((hdn n hc.1).2.2 h hc.2).2 (fun _ _ _ z => nomatch z)
              | lm k => exact (hlm k hc).2
              | wd x => cases hc
            · intro c c' hc hc' e
              cases c with
              | ch n h =>
                cases c' with
                | ch n' h' => obtain ⟨e1, e2⟩ := inj n hc.1 n' hc'.1 h hc.2 h' hc'.2 e; rw [e1, e2]
                | lm k' =>
                  have e : ad n h = lm k' := e
                  have q := ((hdn n hc.1).2.2 h hc.2).2
                  rw [e, (hlm k' hc').1] at q
                  cases q
                | wd x => cases hc'
              | lm k =>
                cases c' with
                | ch n h =>
                  have e : lm k = ad n h := e
                  have q := ((hdn n hc'.1).2.2 h hc'.2).2
                  rw [← e, (hlm k hc).1] at q
                  cases q
                | lm k' => rw [injl k k' hc hc' e]
                | wd x => cases hc'
              | wd x => cases hc
            · refine ⟨wo_p, wo_none nfl, wo_none ndp, wo_none ndw, wo_none ndt, fun c hc => ?_⟩
              cases c with
              | ch n h => exact wo_none (kb_none k6 hp p6 ((hdn n hc.1).2.2 h hc.2).1)
              | lm k => exact wo_none (kb_none k07 hp p7 (hlm k hc).1)
              | wd x => cases hc
            · have g : ∀ b : Addr, G6 b = none → b ∉ [dp, dw, dt] := fun b n m => by
                simp only [List.mem_cons, List.not_mem_nil, or_false] at m
                rcases m with rfl | rfl | rfl
                · rw [hdp] at n; cases n
                · rw [hdw] at n; cases n
                · rw [hdt] at n; cases n
              exact ⟨ndd, g _ ndc, fun n hn => g _ (hdn n hn).1⟩
            · have z : ll = fl := z
              rw [z, hfl7] at nll
              cases nll
          generalize TAd.mk dx yp rw fl dp dw dt dc ll dn _ _ _ _ _ = a8 at T8
          refine ⟨fun σ' H' => ∃ v3 v4 v5, σ' = [some (.ref p), some (.ref yp), some (.ref rs), v3, v4, v5, none, none, none, none] ∧ TalW C Cy (wo H p) (wo H p) H' p y rows (run y (gone rows)), ?_, ?_⟩
          · have F0y := hy.wo hp
            have pm : (gone rows).Perm rows := List.mergeSort_perm ..
            have gnd : ((gone rows).map (·.1)).Nodup := (pm.map _).nodup_iff.mpr rnd
            have gsz : (gone rows).length ≤ 100 := by rw [pm.length_eq]; exact rsz
            refine ⟨_, rfl, p, a8.dx, _, rfl, T8.ins, tF_no (by decide +kernel), wo H p, p, a8.dx, a8.rw, _, a8.rts, rows, rfl, T8.ins, rfl, T8.rws, T8.keep, T8.rwt, fun L H1 ts s1 nL hL hts => ?_⟩
            have T9 := T8.frame nL hL s1
            have uF := upd_F T8 (o := HO.lst (ts.map V.ref)) nL
            have tsl : ts.length = (gone rows).length := Paired.length hts
            refine ⟨L, rfl, ⟨_, SqL.of hL⟩, for_list (K := K) (a := L) (xs := ts.map V.ref) (fun i σ H' => ∃ v3 v4 v5, σ = [some (.ref p), some (.ref yp), some (.ref rs), v3, v4, v5, none, none, none, none] ∧
                TalW C Cy (wo H p) (upd (wo H p) L (.lst (ts.map V.ref))) H' p y rows (((gone rows).take i).foldl (TSt.step y) TSt.zero))
              ⟨_, _, _, rfl, a8, T9⟩ (fun i σ H' _ ⟨_, _, _, _, a', z⟩ => SqL.of (z.keep _ _ upd_same)) ?_ ?_⟩
            · rintro i v σ H4 hi ⟨v3, v4, v5, rfl, a4, T4⟩
              rw [List.getElem?_map] at hi
              cases ei : ts[i]? with
              | none => rw [ei] at hi; cases hi
              | some t =>
                rw [ei] at hi
                obtain rfl := Option.some.inj hi
                obtain ⟨r, hri, u, h1, h2⟩ := L2.paired_get hts ei
                have ilt : i < (gone rows).length := (List.getElem?_eq_some_iff.mp hri).1
                obtain ⟨o1, o2, o3, o4⟩ := rok r (pm.mem_iff.mp (List.mem_of_getElem? hri))
                have gr := grow_rows (y := y) ((gone rows).take i) (s := TSt.zero)
                have nn : r.1 ∉ (((gone rows).take i).foldl (TSt.step y) TSt.zero).tk.map (·.1) := fun m => by
                  rcases gr.1 _ m with m | m
                  · cases m
                  · rw [List.map_take] at m
                    obtain ⟨j, hj⟩ := List.mem_iff_getElem?.mp m
                    rw [List.getElem?_take] at hj
                    by_cases e : j < i
                    · rw [if_pos e] at hj
                      have hr' : ((gone rows).map (·.1))[i]? = some r.1 := by rw [List.getElem?_map, hri]; rfl
                      have := (List.getElem?_inj (by rw [List.length_map]; omega) gnd).mp (hj.trans hr'.symm)
                      omega
                    · rw [if_neg e] at hj; cases hj
                have sz := gr.2
                rw [List.length_take] at sz
                have z0 : TSt.zero.pr.length + TSt.zero.tk.length + TSt.zero.fa.length = 0 := rfl
                refine ⟨t, _, rfl, SqT.of (T4.keep _ _ (uF _ _ h1)), rfl, _, _, rfl, _, _, rfl, _, _, rfl, rfl, ?_⟩
                refine ⟨_, rfl, p, a4.dx, _, rfl, T4.ins, tF_no (by decide +kernel), _, rfl, _, rfl, _, rfl, p, u, r.1, r.2.1, r.2.2, _, _, y, rows, _, rfl, uF _ _ h2, ⟨a4, T4⟩, o1, o2, by omega, o4, nn, by omega, fun H5 T5 => ⟨_, _, _, rfl, ?_⟩⟩
                rw [List.take_add_one, hri]
                show TalW C Cy _ _ H5 p y rows (((gone rows).take i ++ [r]).foldl _ _)
                rw [List.foldl_append]
                exact T5
            · rintro σ H4 ⟨v3, v4, v5, rfl, a4, T4⟩
              rw [List.length_map, tsl, List.take_length] at T4
              exact ⟨v3, v4, v5, rfl, a4, T4.less (Same.refl _) uF⟩
          · rintro _ G9 ⟨v3, v4, v5, rfl, a9, T9⟩
            have hd9 := ok.d
            have ka : ∀ {H' : Hp}, KB p G9 H' → ∀ {b : Addr} {o : HO}, G9 b = some o → (∀ C dx fs, o ≠ .ins C dx fs) → H' b = some o := fun kk _ _ e n => kk.get T9.ins e (n _ _ _)
            generalize es : run y (gone rows) = st at T9 k
            refine ⟨fun σ' H' => ∃ (dtk : Addr) (tk : Nat → Addr), σ' = [some (.ref p), some (.ref yp), some (.ref rs), v3, v4, v5, none, none, none, none] ∧ KB p G9 H' ∧ H' p = some (.ins C a9.dx (tFs a9 ++ ([("day_takes", .ref dtk)] : List (Str × V)))) ∧ H' dtk = some (.lst (((List.range y.ls.length).map tk).map V.ref)) ∧
              (∀ k, k < y.ls.length → G9 (tk k) = none ∧ H' (tk k) = some (.lst (chL y.days (psI (st.v (.lm k)))))), ?_, ?_⟩
            · refine ⟨_, rfl, p, C, a9.dx, _, _, rfl, T9.ins, TF.cl, na (by simp [tKeys]), rfl, a9.ll, rfl, ⟨_, SqL.of T9.ll⟩, fun D nD => lc_it (walk_list (xs := ((List.range y.ls.length).map fun k => a9.ad (.lm k)).map V.ref)) (fun i H' => Same G9 H' ∧ ∃ tk : Nat → Addr, H' D = some (.lst (((List.range i).map tk).map V.ref)) ∧
                (∀ k, k < i → G9 (tk k) = none ∧ H' (tk k) = some (.lst (chL y.days (psI (st.v (.lm k))))))) ⟨same_new nD, fun _ => 0, upd_same, fun k hk => absurd hk (by omega)⟩ (fun i H' _ e => SqL.of (e.1 _ _ T9.ll)) ?_ ?_⟩
              · rintro i v H4 H5 hi ⟨s4, tk, d4, c4⟩ ⟨rfl, hv⟩
                have hi' : i < y.ls.length := by rw [List.length_map, List.length_map, List.length_range] at hi; exact hi
                rw [List.getElem?_map, List.getElem?_map, List.getElem?_range hi'] at hv
                obtain rfl := Option.some.inj hv
                refine ⟨rfl, yes (iteT ⟨_, rfl, _, y.days, st.v (.lm i), rfl, s4 _ _ (T9.cell (.lm i) hi'), by omega, by omega, fun L H6 s6 nL hL => ⟨_, s6 _ _ d4, (by rw [List.length_map, List.length_map, List.length_range]; omega), ?_, ?_⟩⟩)⟩
                · intro b o e
                  rw [upd_ne (ne_of_none e nD)]
                  exact s6 _ _ (s4 _ _ e)
                · have nLD : L ≠ D := fun e => by rw [e, d4] at nL; cases nL
                  refine ⟨fun k => if k = i then L else tk k, ?_, fun k hk => ?_⟩
                  · rw [upd_same, List.range_succ, List.map_append, List.map_append]
                    have e1 : (List.range i).map (fun k => if k = i then L else tk k) = (List.range i).map tk := List.map_congr_left fun k hk => if_neg (by have := List.mem_range.mp hk; omega)
                    rw [e1]
                    show _ = some (HO.lst (_ ++ [V.ref (if i = i then L else tk i)]))
                    rw [if_pos rfl]
                  · show G9 (if k = i then L else tk k) = none ∧ upd H6 D _ (if k = i then L else tk k) = _
                    by_cases e : k = i
                    · rw [if_pos e, upd_ne nLD, e]
                      exact ⟨same_none s4 nL, hL⟩
                    · rw [if_neg e]
                      obtain ⟨a0, a2⟩ := c4 k (by omega)
                      refine ⟨a0, ?_⟩
                      rw [upd_ne (fun z => by rw [z, d4] at a2; injection a2 with a2; injection a2 with a2; exact chL_ne_refs a2.symm)]
                      exact s6 _ _ a2
              · rintro H' ⟨sm, tk, hd, c4⟩
                rw [List.length_map, List.length_map, List.length_range] at hd c4
                have pp := sm _ _ T9.ins
                refine ⟨_, rfl, p, C, a9.dx, _, rfl, pp, TF.cl, na (by simp [tKeys]), (by show 8 < 1000; omega), ?_⟩
                rw [putF_new (by show ("day_takes" : Str) ∉ (tKeys.take 8 : List Str); decide +kernel)]
                have kk := KB.set (p := p) (H := H') (o := HO.ins C a9.dx (tFs a9 ++ ([("day_takes", .ref D)] : List (Str × V))))
                exact ⟨D, tk, rfl, (KB.of sm).trans KB.set, upd_same, kk.get pp hd (fun z => nomatch z), fun k hk => ⟨(c4 k hk).1, kk.get pp (c4 k hk).2 (fun z => nomatch z)⟩⟩
            · rintro _ Ga ⟨dtk, tk, rfl, ka9, pa, hdtk, htk⟩
              have kha : KB p H Ga := fun b o e n => ka9 b o (T9.keep b o (by rw [wo_get n]; exact e)) n
              have hya : YearAt Cy [] Ga yp y := (hy.wo hp).same (wo_kb kha)
              obtain ⟨dy, l1, l2, l3, t1, t2, t3, hyp, _⟩ := hya.ex
              have ga := fun {b : Addr} {o : HO} => ka (b := b) (o := o) ka9
              refine ⟨_, rfl, yp, dy, _, rfl, hyp, yfn, yp, y, rfl, hya, ok.h.l8, fun q nq => ?_⟩
              have sq := same_new (o := HO.lst ((nms y.hs).map V.str)) nq
              have hq : upd Ga q (.lst ((nms y.hs).map V.str)) q = some (.lst ((nms y.hs).map V.str)) := upd_same
              generalize upd Ga q (.lst ((nms y.hs).map V.str)) = Gb at sq hq ⊢
              refine ⟨q, rfl, ⟨_, SqL.of hq⟩, fun D nD => dc_strs (walk_listS (K := K) (a := q) (xs := nms y.hs)) nd (by omega) nD (fun _ => rfl) (fun _ => rfl)
                (fun j g H2 => ∃ sl : Str → Str → Addr, ∀ h ∈ (nms y.hs).take j, g h ≠ D ∧ H2 (g h) = some (.dK (SUMS.map fun n => ((Sum.inr n : Key), V.ref (sl h n)))) ∧ ∀ n ∈ SUMS, Ga (sl h n) = none ∧ H2 (sl h n) = some (.lst (chL y.days (sumV (fun n => st.v (.ch n h)) n))))
                (fun g => ⟨fun _ _ => 0, fun n hn => by simp at hn⟩) (fun j g H2 _ s2 => SqL.of (s2 _ _ hq)) ?_ ?_⟩
              · intro j z g H2 hzj ⟨sl, g1⟩ s2 hd2 Q2 k2
                have hzs : z ∈ nms y.hs := List.mem_of_getElem? hzj
                have s02 := sq.trans s2
                have hp2 := s02 _ _ pa
                refine ⟨_, rfl, p, a9.dx, _, rfl, hp2, look_no (by show ("sums_of" : Str) ∉ (tKeys.take 9 : List Str); decide +kernel), _, rfl, p, a9.dx, a9.dc, _, a9.dn, fun n h => a9.ad (.ch n h), nms y.hs, z, y.days, fun n => st.v (.ch n z), rfl, hp2, rfl, s02 _ _ (ga T9.dc (fun _ _ _ z => nomatch z)), fun n hn => s02 _ _ (ga (T9.dn n hn) (fun _ _ _ z => nomatch z)), hzs, fun n hn => s02 _ _ (ga (T9.cell (.ch n z) ⟨hn, hzs⟩) (fun _ _ _ z => nomatch z)), by omega, by omega, fun L H5 ls s5 nL hL hls => k2 L H5 s5 fun H6 s6 _ => ?_⟩
                have nLD : L ≠ D := fun e => by rw [e, hd2] at nL; cases nL
                refine ⟨fun h => if h = z then ls else sl h, fun h hh => ?_⟩
                show (if h = z then L else g h) ≠ D ∧ _
                by_cases e : h = z
                · simp only [if_pos e]
                  refine ⟨nLD, s6 _ _ nLD hL, fun n hn => ?_⟩
                  obtain ⟨a0, a⟩ := hls n hn
                  rw [e]
                  exact ⟨same_none s02 a0, s6 _ _ (fun e => by rw [e, s5 _ _ hd2] at a; cases a) a⟩
                · simp only [if_neg e]
                  have hh' : h ∈ (nms y.hs).take j := by
                    rw [List.take_add_one, hzj] at hh
                    rcases List.mem_append.mp hh with q | q
                    · exact q
                    · exact absurd (List.mem_singleton.mp q) e
                  obtain ⟨a1, a2, a3⟩ := g1 h hh'
                  refine ⟨a1, s6 _ _ a1 (s5 _ _ a2), fun n hn => ?_⟩
                  obtain ⟨a0, a⟩ := a3 n hn
                  exact ⟨a0, s6 _ _ (fun e => by rw [e, hd2] at a; cases a) (s5 _ _ a)⟩
              · intro g H2 ⟨sl, g1⟩ s2 hd2
                rw [List.take_length] at g1
                have s02 := sq.trans s2
                have pp := s02 _ _ pa
                refine ⟨_, rfl, p, C, a9.dx, _, rfl, pp, TF.cl, na (by simp [tKeys]), (by show 9 < 1000; omega), ?_⟩
                rw [putF_new (by show ("sums_by_head" : Str) ∉ (tKeys.take 9 : List Str); decide +kernel)]
                have kk := KB.set (p := p) (H := H2) (o := HO.ins C a9.dx ((tFs a9 ++ ([("day_takes", .ref dtk)] : List (Str × V))) ++ ([("sums_by_head", .ref D)] : List (Str × V))))
                generalize eG : upd H2 p _ = Gz at kk ⊢
                have pz : Gz p = some (.ins C a9.dx ((tFs a9 ++ ([("day_takes", .ref dtk)] : List (Str × V))) ++ ([("sums_by_head", .ref D)] : List (Str × V)))) := by rw [← eG]; exact upd_same
                have kz : KB p Ga Gz := (KB.of s02).trans kk
                have k9z : KB p G9 Gz := ka9.trans kz
                have khz : KB p H Gz := kha.trans kz
                have gz : ∀ {b : Addr} {o : HO}, G9 b = some o → (∀ C dx fs, o ≠ .ins C dx fs) → Gz b = some o := fun e n => k9z.get T9.ins e (n _ _ _)
                have g2z : ∀ {b : Addr} {o : HO}, H2 b = some o → (∀ C dx fs, o ≠ .ins C dx fs) → Gz b = some o := fun e n => kk.get pp e (n _ _ _)
                have n9 : ∀ b, G9 b = none → H b = none := fun b n => by
                  cases e : H b with
                  | none => rfl
                  | some o =>
                    by_cases z : b = p
                    · rw [z, T9.ins] at n; cases n
                    · have := T9.keep b o (by rw [wo_get z]; exact e)
                      rw [n] at this; cases this
                have na9 : ∀ b, Ga b = none → H b = none := fun b n => by
                  cases e : H b with
                  | none => rfl
                  | some o =>
                    by_cases z : b = p
                    · rw [z, pa] at n; cases n
                    · have := kha b o e z
                      rw [n] at this; cases this
                have nwd : ∀ x ∈ st.ws, H (a9.ad (.wd x)) = none := fun x hx => by
                  have := T9.nF.2.2.2.2.2 (.wd x) hx
                  cases e : H (a9.ad (.wd x)) with
                  | none => rfl
                  | some o =>
                    by_cases z : a9.ad (.wd x) = p
                    · have c := T9.cell (.wd x) hx
                      rw [z, T9.ins] at c; cases c
                    · rw [wo_get z, e] at this; cases this
                refine k Gz khz ⟨a9, dtk, D, tk, g, sl, ?_, ⟨nwd, fun k hk => n9 _ (htk k hk).1, fun h hh n hn => na9 _ ((g1 h hh).2.2 n hn).1⟩⟩
                exact { ins := pz, ok := ok, yr := T9.yr.same (wo_kb khz), rws := gz T9.rws (fun _ _ _ z => nomatch z), rwt := L2.Paired.mapP T9.rwt fun _ _ e => e.same (wo_kb khz), fl := gz T9.fl (fun _ _ _ z => nomatch z), flt := L2.Paired.mapP T9.flt fun _ _ e => gz e (fun _ _ _ z => nomatch z), dp := gz T9.dp (fun _ _ _ z => nomatch z), dpt := fun q hq => gz (T9.dpt q hq) (fun _ _ _ z => nomatch z), dw := gz T9.dw (fun _ _ _ z => nomatch z), dwt := fun x hx => gz (T9.cell (.wd x) hx) (fun _ _ _ z => nomatch z), dt := gz T9.dt (fun _ _ _ z => nomatch z), dtt := fun q hq => gz (T9.dtt q hq) (fun _ _ _ z => nomatch z), dtk := kz.get pa hdtk (fun z => nomatch z), dtkt := fun k hk => kz.get pa (htk k hk).2 (fun z => nomatch z), sb := g2z hd2 (fun _ _ _ z => nomatch z), sbt := fun h hh => ⟨g2z (g1 h hh).2.1 (fun _ _ _ z => nomatch z), fun n hn => g2z ((g1 h hh).2.2 n hn).2 (fun _ _ _ z => nomatch z)⟩, ndw := T9.ndw, hds := T9.hds, ndt := T9.ndt }
    intro dt m5
    have s5 := same_new (o := HO.dK []) m5
    have h5 : upd G5 dt (.dK []) dt = some (.dK []) := upd_same
    generalize upd G5 dt (.dK []) = A5 at s5 h5 ⊢
    refine ⟨_, rfl, p, C, dx, _, rfl, s5 _ _ p5, TF.cl, na (by simp [tKeys]), (by show 5 < 1000; omega), ?_⟩
    rw [putF_new (by show ("takes" : Str) ∉ (["year", "rows", "faults", "promises", "word_changes"] : List Str); decide +kernel)]
    generalize e5 : upd A5 p _ = G6
    have q5 : KB p A5 G6 := by rw [← e5]; exact KB.set
    have p6 : G6 p = some (.ins C dx [("year", .ref yp), ("rows", .ref rw), ("faults", .ref fl), ("promises", .ref dp), ("word_changes", .ref dw), ("takes", .ref dt)]) := by rw [← e5]; exact upd_same
    have r5 : KB p G5 G6 := (KB.of s5).trans q5
    have ndt : H dt = none := kb_none k5 hp p5 m5
    have hdt : G6 dt = some (.dK []) := q5.get (s5 _ _ p5) h5 (fun z => nomatch z)
    have drwdt : rw ≠ dt := fun z => by have q := hrw; rw [z, m5] at q; cases q
    have hrw := r5.get p5 hrw (fun z => nomatch z)
    have dfldt : fl ≠ dt := fun z => by have q := hfl; rw [z, m5] at q; cases q
    have hfl := r5.get p5 hfl (fun z => nomatch z)
    have ddpdt : dp ≠ dt := fun z => by have q := hdp; rw [z, m5] at q; cases q
    have hdp := r5.get p5 hdp (fun z => nomatch z)
    have ddwdt : dw ≠ dt := fun z => by have q := hdw; rw [z, m5] at q; cases q
    have hdw := r5.get p5 hdw (fun z => nomatch z)
    have k6 := k5.trans r5
    clear e5
    exact ⟨dt, rfl, k6, p6, hrw, hfl, hdp, hdw, hdt, ndt, by simp [ddpdw, ddpdt, ddwdt]⟩
end
end KP
namespace KP
open PySem L2 KD KM KT
/-- a sum of a head at a day -/
def TSt.sum (s : TSt) (n h : Str) (d : Int) : Int := sumV (fun n => s.v (.ch n h)) n d
def TSt.taken (s : TSt) (k : Nat) (d : Int) : Int := psI (s.v (.lm k)) d
def passes (y : Yr) (s : TSt) (k : Nat) (d : Int) : Bool := match y.ls[k]? with
  | some r => decide (r.2.1 ≤ d ∧ d ≤ r.2.2.1) && decide (s.taken k d > r.2.2.2)
  | none => false
def spTSA (C Cy : Addr) : Sp := fun vs H Q _ => ∃ (p : Addr) (n h : Str) (d : Int) (y : Yr) (rows : List R3) (s : TSt), vs = [.ref p, .str n, .str h, .int d] ∧ TalD C Cy H p y rows s ∧ n ∈ SUMS ∧ h ∈ nms y.hs ∧ 0 ≤ d ∧ d ≤ y.days + 1 ∧ Q (.int (s.sum n h d)) H
def spTTA (C Cy : Addr) : Sp := fun vs H Q _ => ∃ (p : Addr) (k : Nat) (d : Int) (y : Yr) (rows : List R3) (s : TSt), vs = [.ref p, .int (k : Int), .int d] ∧ TalD C Cy H p y rows s ∧ k < y.ls.length ∧ 0 ≤ d ∧ d ≤ y.days + 1 ∧ Q (.int (s.taken k d)) H
def spTPs (C Cy : Addr) : Sp := fun vs H Q _ => ∃ (p : Addr) (k : Nat) (d : Int) (y : Yr) (rows : List R3) (s : TSt), vs = [.ref p, .int (k : Int), .int d] ∧ TalD C Cy H p y rows s ∧ k < y.ls.length ∧ 0 ≤ d ∧ d ≤ y.days + 1 ∧ Q (.bl (passes y s k d)) H
theorem tE_no {a : TAd} {dtk sb : Addr} {m : Str} (h : m ∉ tKeys) : (tFs a ++ ([("day_takes", .ref dtk), ("sums_by_head", .ref sb)] : List (Str × V))).lookup m = none := look_no fun z => h z
section
variable {P : Program} {w : World} {K : PySem.W.Frag} {mg : Str → Option Value} {base : Heap} {C Cy : Addr}
abbrev sTSA : Stmt := inClass (top 44) 14
abbrev nTSA : List Str := ["self", "name", "head", "date"]
theorem scTSA : FnScope nTSA ["self", "name", "head", "date"] (defScope sTSA) := ⟨rfl, rfl, rfl, by decide +kernel, rfl, by decide +kernel, by decide +kernel⟩
abbrev sTTA : Stmt := inClass (top 44) 15
abbrev nTTA : List Str := ["self", "k", "date"]
theorem scTTA : FnScope nTTA ["self", "k", "date"] (defScope sTTA) := ⟨rfl, rfl, rfl, by decide +kernel, rfl, by decide +kernel, by decide +kernel⟩
abbrev sTPs : Stmt := inClass (top 44) 16
abbrev nTPs : List Str := ["self", "k", "day", "head", "first", "last", "most"]
theorem scTPs : FnScope nTPs ["self", "k", "day"] (defScope sTPs) := ⟨rfl, rfl, rfl, by decide +kernel, rfl, by decide +kernel, by decide +kernel⟩
abbrev sTPl : Stmt := inClass (top 44) 17
abbrev nTPl : List Str := ["self", "day", "faults", "heads", "limits", "date", "number", "head", "k"]
theorem scTPl : FnScope nTPl ["self", "day"] (defScope sTPl) := ⟨rfl, rfl, rfl, by decide +kernel, rfl, by decide +kernel, by decide +kernel⟩
abbrev sTBr : Stmt := inClass (top 44) 18
abbrev nTBr : List Str := ["self", "day", "places"]
theorem scTBr : FnScope nTBr ["self"] (defScope sTBr) := ⟨rfl, rfl, rfl, by decide +kernel, rfl, by decide +kernel, by decide +kernel⟩
theorem c_tsa (TF : TalF K mg C) (D : MethT K C "sum_at" "Tally.sum_at" sTSA ["self", "name", "head", "date"]) : MetT P w K mg base 1 C "sum_at" (spTSA C Cy) := by
  refine met TF.cl D scTSA (fun vs H Q E h => ?_) (fun f cdv A outer s H vs Q E hr h => ?_)
  · obtain ⟨p, n, h, d, y, rows, st, rfl, _⟩ := h
    rfl
  · obtain ⟨p, n, h, d, y, rows, st, rfl, ⟨a, dtk, sb, tk, sd, sl, T⟩, hn, hh, d0, d1, k⟩ := h
    refine ⟨_, (pss_one (ps_ret (pe_ix ix_list (pe_dget (hu_of hr) (pe_dget (hu_of hr) (pe_fld (pv 0) rfl) (pv 2) (fun _ _ => rfl)) (pv 1) (fun _ _ => rfl)) (pv 3) (fun _ _ => rfl)))), ?_⟩
    refine ⟨_, rfl, p, C, a.dx, _, _, rfl, T.ins, TF.cl, TF.na _ (by simp [tKeys]), rfl, _, rfl, sb, .ref (sd h), rfl, ?_, _, rfl, sd h, .ref (sl h n), rfl, ?_, _, rfl, sl h n, _, ((d.toNat : Nat) : Int), _, rfl, (by rw [show ((d.toNat : Nat) : Int) = d by omega]), SqL.of ((T.sbt h hh).2 n hn), ?_, k⟩
    · have := DGet.k (k := .inr h) T.sb
      rw [valV_s (F := fun z => V.ref (sd z)) hh] at this
      exact this
    · have := DGet.k (k := .inr n) (T.sbt h hh).1
      rw [valV_s (F := fun z => V.ref (sl h z)) hn] at this
      exact this
    · exact atI_nat (chL_get d0 d1)
theorem c_tta (TF : TalF K mg C) (D : MethT K C "taken_at" "Tally.taken_at" sTTA ["self", "k", "date"]) : MetT P w K mg base 1 C "taken_at" (spTTA C Cy) := by
  refine met TF.cl D scTTA (fun vs H Q E h => ?_) (fun f cdv A outer s H vs Q E hr h => ?_)
  · obtain ⟨p, kk, d, y, rows, st, rfl, _⟩ := h
    rfl
  · obtain ⟨p, kk, d, y, rows, st, rfl, ⟨a, dtk, sb, tk, sd, sl, T⟩, hk, d0, d1, k⟩ := h
    refine ⟨_, (pss_one (ps_ret (pe_ix ix_list (pe_ix ix_list (pe_fld (pv 0) rfl) (pv 1) (fun _ _ => rfl)) (pv 2) (fun _ _ => rfl)))), ?_⟩
    exact ⟨_, rfl, p, C, a.dx, _, _, rfl, T.ins, TF.cl, TF.na _ (by simp [tKeys]), rfl, _, rfl, dtk, _, _, .ref (tk kk), rfl, rfl, SqL.of T.dtk, atI_nat (by rw [List.getElem?_map, List.getElem?_map, List.getElem?_range hk]; rfl), _, rfl, tk kk, _, ((d.toNat : Nat) : Int), _, rfl, (by rw [show ((d.toNat : Nat) : Int) = d by omega]), SqL.of (T.dtkt kk hk), atI_nat (chL_get d0 d1), k⟩
theorem c_tps (Y : YearF K mg Cy) (TF : TalF K mg C) (Ta : MetT P w K mg base 1 C "taken_at" (spTTA C Cy)) (D : MethT K C "passes" "Tally.passes" sTPs ["self", "k", "day"]) : MetT P w K mg base 2 C "passes" (spTPs C Cy) := by
  refine met TF.cl D scTPs (fun vs H Q E h => ?_) (fun f cdv A outer s H vs Q E hr h => ?_)
  · obtain ⟨p, kk, d, y, rows, st, rfl, _⟩ := h
    rfl
  · obtain ⟨p, kk, d, y, rows, st, rfl, TD, hk, d0, d1, k⟩ := h
    obtain ⟨a, dtk, sb, tk, sd, sl, T⟩ := id TD
    obtain ⟨dy, l1, l2, l3, t1, t2, t3, hyp, r1, r2, r3, _⟩ := T.yr.ex
    have tl2 : t2.length = y.ls.length := by rw [r2.len, List.length_map]
    refine ⟨_, (pss_cons (ps_asg (pe_ix ix_list (pe_fld (pe_fld (pv 0) rfl) rfl) (pv 1) (fun _ _ => rfl)) (pg_tup rfl (pgs_cons (pg_name (i := 3) scTPs.nd rfl (by first | exact Or.inl rfl | exact Or.inr rfl)) (pgs_cons (pg_name (i := 4) scTPs.nd rfl (by first | exact Or.inl rfl | exact Or.inr rfl)) (pgs_cons (pg_name (i := 5) scTPs.nd rfl (by first | exact Or.inl rfl | exact Or.inr rfl)) (pgs_cons (pg_name (i := 6) scTPs.nd rfl (by first | exact Or.inl rfl | exact Or.inr rfl)) pgs_nil))))))
        (pss_one (ps_ret (pe_and (pe_chain op_le op_le (pv 4) (pv 2) (pv 5)) (pe_one (pe_cmpR op_gt (pe_mtT Ta hr (by decide) (pv 0) (pa_cons (pv 1) (pa_cons (pv 2) pa_nil))) (pv 6) (nomark _))))))), ?_⟩
    have ex : (t2.map V.ref)[kk]? = some (.ref (t2[kk]'(by omega))) := by rw [List.getElem?_map, List.getElem?_eq_getElem (by omega)]; rfl
    obtain ⟨t, r, et, hr1, ht, hti⟩ := row_get r2 ex
    rw [et] at ex
    refine ⟨_, rfl, p, C, a.dx, _, _, rfl, T.ins, TF.cl, TF.na _ (by simp [tKeys]), rfl, a.yp, Cy, dy, _, .ref l2, rfl, hyp, Y.cl, Y.nl, rfl, _, rfl, l2, _, _, _, rfl, rfl, SqL.of r2.1, atI_nat ex, t, _, rfl, SqT.of ht, rfl, _, _, rfl, _, _, rfl, _, _, rfl, _, _, rfl, rfl, ?_⟩
    unfold passes at k
    rw [hr1] at k
    have k : Q (.bl (decide (r.2.1 ≤ d ∧ d ≤ r.2.2.1) && decide (st.taken kk d > r.2.2.2))) H := k
    refine ⟨_, rfl, _, rfl, _, _, rfl, rfl, _, rfl, ?_⟩
    by_cases e1 : r.2.1 ≤ d
    · rw [if_pos (decide_eq_true e1)]
      refine ⟨_, rfl, _, _, rfl, rfl, _, rfl, ?_⟩
      by_cases e2 : d ≤ r.2.2.1
      · rw [if_pos (decide_eq_true e2)]
        rw [decide_eq_true ⟨e1, e2⟩, Bool.true_and] at k
        exact ⟨_, rfl, p, a.dx, _, rfl, T.ins, tE_no (by decide +kernel), _, rfl, _, rfl, p, kk, d, y, rows, st, rfl, TD, hk, d0, d1, _, rfl, _, _, rfl, rfl, k⟩
      · rw [if_neg (fun z => e2 (of_decide_eq_true z))]
        rw [decide_eq_false (fun z => e2 z.2), Bool.false_and] at k
        exact k
    · rw [if_neg (fun z => e1 (of_decide_eq_true z))]
      rw [decide_eq_false (fun z => e1 z.1), Bool.false_and] at k
      exact ⟨_, rfl, iteF k⟩
end
end KP
namespace KP
open PySem L2 KD KM KT
/-- where there is a breach -/
inductive Pl where
  | pr (n : Int) | lf (h : Str) | lm (k : Nat)
def Pl.tup : Pl → List V
  | .pr n => [.str "promise", .int n] | .lf h => [.str "left", .str h] | .lm k => [.str "limit", .int (k : Int)]
def leF (a b : Int × Int) : Bool := !SrtO.lexB b a
/-- the faults by dates and numbers -/
def faS (s : TSt) : List (Int × Int) := s.fa.mergeSort leF
def plF (s : TSt) (d : Int) : List Pl := ((faS s).filter fun q => decide (q.1 = d)).map fun q => .pr q.2
def plH (y : Yr) (s : TSt) (d : Int) : List Pl := ((nms y.hs).filter fun h => decide (s.sum "left" h d < 0)).map .lf
def plL (y : Yr) (s : TSt) (d : Int) : List Pl := ((List.range y.ls.length).filter fun k => passes y s k d).map .lm
def places (y : Yr) (s : TSt) (d : Int) : List Pl := plF s d ++ plH y s d ++ plL y s d
def breach (y : Yr) (s : TSt) : Option (Int × Pl) := (List.range y.days.toNat).findSome? fun i : Nat => (places y s (1 + (i : Int))).head?.map fun q => (1 + (i : Int), q)
theorem leF_iff {a b : Int × Int} : leF a b = true ↔ (a.1 < b.1 ∨ (a.1 = b.1 ∧ a.2 ≤ b.2)) := by
  unfold leF
  rw [Bool.not_eq_true', SrtO.lexB_no]
  omega
theorem srt_uniq : ∀ {l m : List (Int × Int)}, l.Pairwise (fun a b => leF a b = true) → m.Pairwise (fun a b => leF a b = true) → l.Perm m → l = m
  | [], m, _, _, p => (List.nil_perm.mp p).symm
  | x :: l, [], _, _, p => absurd p.length_eq (by simp)
  | x :: l, y :: m, hl, hm, p => by
    have e : x = y := by
      have h1 : leF x y = true := by
        rcases List.mem_cons.mp (p.mem_iff.mpr (List.mem_cons_self (a := y) (l := m))) with e | h
        · rw [e]; exact leF_iff.mpr (.inr ⟨rfl, Int.le_refl _⟩)
        · exact (List.pairwise_cons.mp hl).1 y h
      have h2 : leF y x = true := by
        rcases List.mem_cons.mp (p.mem_iff.mp (List.mem_cons_self (a := x) (l := l))) with e | h
        · rw [e]; exact leF_iff.mpr (.inr ⟨rfl, Int.le_refl _⟩)
        · exact (List.pairwise_cons.mp hm).1 x h
      have h1 := leF_iff.mp h1
      have h2 := leF_iff.mp h2
      exact Prod.ext (by omega) (by omega)
    subst e
    rw [srt_uniq (List.pairwise_cons.mp hl).2 (List.pairwise_cons.mp hm).2 p.cons_inv]
theorem faS_srt (s : TSt) : (faS s).Pairwise (fun a b => leF a b = true) := List.pairwise_mergeSort (fun a b c h1 h2 => by
  have h1 := leF_iff.mp h1
  have h2 := leF_iff.mp h2
  exact leF_iff.mpr (by omega)) (fun a b => by
  rw [Bool.or_eq_true, leF_iff, leF_iff]
  omega) _
theorem faS_perm (s : TSt) : (faS s).Perm s.fa := List.mergeSort_perm ..
/-- a pair in the heap -/
def kP (H : Hp) : V → Int × Int
  | .ref t => match H t with | some (.tup [.int i, .int j]) => (i, j) | _ => (0, 0)
  | _ => (0, 0)
theorem kP_at {H : Hp} {t : Addr} {i j : Int} (h : H t = some (.tup [.int i, .int j])) : kP H (.ref t) = (i, j) := by
  show (match H t with | some (.tup [.int i, .int j]) => (i, j) | _ => (0, 0)) = _
  rw [h]
theorem kP_map {H : Hp} {fts : List Addr} {fa : List (Int × Int)} (h : Paired (fun t (q : Int × Int) => H t = some (.tup [.int q.1, .int q.2])) fts fa) : (fts.map V.ref).map (kP H) = fa ∧ ∀ x ∈ fts.map V.ref, ∃ t, x = V.ref t ∧ H t = some (.tup [.int (kP H x).1, .int (kP H x).2]) := by
  induction h with
  | nil => exact ⟨rfl, fun x hx => by cases hx⟩
  | @cons t q ts qs a _ ih =>
    refine ⟨by rw [List.map_cons, List.map_cons, kP_at a, ih.1], fun x hx => ?_⟩
    rw [List.map_cons] at hx
    rcases List.mem_cons.mp hx with e | hx
    · exact ⟨t, e, by rw [e, kP_at a]; exact a⟩
    · exact ih.2 x hx
/-- what sorted() tells of the faults -/
theorem faS_of {H : Hp} {fts : List Addr} {s : TSt} (h : Paired (fun t (q : Int × Int) => H t = some (.tup [.int q.1, .int q.2])) fts s.fa) {ys : List V} (h1 : SrtO.Srtd (ltP (kP H)) ys) (h2 : ys.Perm (fts.map V.ref)) :
    Paired (fun x (q : Int × Int) => ∃ t, x = V.ref t ∧ H t = some (.tup [.int q.1, .int q.2])) ys (faS s) := by
  obtain ⟨e0, e1⟩ := kP_map h
  have e2 : ys.map (kP H) = faS s := by
    refine srt_uniq ?_ (faS_srt s) ?_
    · rw [List.pairwise_map]
      exact h1.imp fun {a b} q => by
        have q : SrtO.lexB (kP H b) (kP H a) = false := q
        unfold leF
        rw [q]
        rfl
    · have := h2.map (kP H)
      rw [e0] at this
      exact this.trans (faS_perm s).symm
  rw [← e2]
  have : ∀ l : List V, (∀ x ∈ l, x ∈ fts.map V.ref) → Paired (fun x (q : Int × Int) => ∃ t, x = V.ref t ∧ H t = some (.tup [.int q.1, .int q.2])) l (l.map (kP H)) := by
    intro l
    induction l with
    | nil => intro _; exact .nil
    | cons x l ih => intro hl; exact .cons (e1 x (hl x (by simp))) (ih fun z hz => hl z (by simp [hz]))
  exact this ys fun x hx => h2.mem_iff.mp hx
end KP
namespace KP
open PySem L2 KD KM KT
def PlAt (H : Hp) (t : Addr) (q : Pl) : Prop := H t = some (.tup q.tup)
def PlsAt (H : Hp) (L : Addr) (qs : List Pl) : Prop := ∃ ts : List Addr, H L = some (.lst (ts.map V.ref)) ∧ Paired (PlAt H) ts qs
theorem PlsAt.same {H H' : Hp} (s : Same H H') {L : Addr} {qs : List Pl} : PlsAt H L qs → PlsAt H' L qs := fun ⟨ts, h1, h2⟩ => ⟨ts, s _ _ h1, L2.Paired.mapP h2 fun _ _ e => s _ _ e⟩
theorem paired_app {α β : Type} {R : α → β → Prop} : ∀ {l : List α} {m : List β} {l' : List α} {m' : List β}, Paired R l m → Paired R l' m' → Paired R (l ++ l') (m ++ m')
  | _, _, _, _, .nil, h => h
  | _, _, _, _, .cons a p, h => .cons a (paired_app p h)
theorem PlsAt.snoc {H H' : Hp} {L t : Addr} {qs : List Pl} {q : Pl} (h : PlsAt H L qs) (s : Same H H') (n : H t = none) (e : H' t = some (.tup q.tup)) : ∃ acc, H' L = some (.lst acc) ∧ acc.length = qs.length ∧ PlsAt (upd H' L (.lst (acc ++ [.ref t]))) L (qs ++ [q]) := by
  obtain ⟨ts, h1, h2⟩ := h
  have g : ∀ {b : Addr} {q : Pl}, H' b = some (.tup q.tup) → upd H' L (.lst (ts.map V.ref ++ [.ref t])) b = some (.tup q.tup) := fun {b q} e => by
    rw [upd_ne (fun z => by rw [z, s _ _ h1] at e; cases e)]
    exact e
  refine ⟨_, s _ _ h1, by rw [List.length_map, Paired.length h2], ts ++ [t], by rw [upd_same, List.map_append]; rfl, paired_app (L2.Paired.mapP h2 fun _ _ e => g (s _ _ e)) (.cons (g e) .nil)⟩
theorem flt_pos {α : Type} {f : α → Bool} {g : α → Pl} {l : List α} {q : α} (h : f q = true) : ((l ++ [q]).filter f).map g = (l.filter f).map g ++ [g q] := by
  rw [List.filter_append, List.map_append, List.filter_cons_of_pos h]
  rfl
theorem flt_neg {α : Type} {f : α → Bool} {g : α → Pl} {l : List α} {q : α} (h : f q = false) : ((l ++ [q]).filter f).map g = (l.filter f).map g := by
  rw [List.filter_append, List.map_append, List.filter_cons_of_neg (by rw [h]; decide)]
  simp
def spTPl (C Cy : Addr) : Sp := fun vs H Q _ => ∃ (p : Addr) (d : Int) (y : Yr) (rows : List R3) (s : TSt), vs = [.ref p, .int d] ∧ TalD C Cy H p y rows s ∧ 1 ≤ d ∧ d ≤ y.days ∧ s.fa.length ≤ 1000 ∧ ∀ (L : Addr) (H' : Hp), Same H H' → H L = none → PlsAt H' L (places y s d) → Q (.ref L) H'
section
variable {P : Program} {w : World} {K : PySem.W.Frag} {mg : Str → Option Value} {base : Heap} {C Cy : Addr}
set_option maxHeartbeats 2000000 in
theorem c_tpl (B : Base K mg) (B2 : Base2 K mg) (Y : YearF K mg Cy) (TF : TalF K mg C) (Nm : MetT P w K mg base 1 Cy "names" (spYN Cy)) (Sa : MetT P w K mg base 1 C "sum_at" (spTSA C Cy)) (Ps : MetT P w K mg base 2 C "passes" (spTPs C Cy)) (D : MethT K C "places" "Tally.places" sTPl ["self", "day"]) : MetT P w K mg base 3 C "places" (spTPl C Cy) := by
  refine met TF.cl D scTPl (fun vs H Q E h => ?_) (fun f cdv A outer s H vs Q E hr h => ?_)
  · obtain ⟨p, d, y, rows, st, rfl, _⟩ := h
    rfl
  · obtain ⟨p, d, y, rows, st, rfl, TD, d0, d1, fz, k⟩ := h
    have hz : sizeLine = 16777216 := by decide
    refine ⟨_, (C8.pss_cut (ps_setLc (i := 2) (own := [("date", 5), ("number", 6)]) (g := (gTup K 2 (gCons (gName 5) (gCons (gName 6) gNil)))) rfl scTPl.nd rfl (by first | rfl | decide +kernel) (sw_true rfl (by first | rfl | decide +kernel) rfl (by decide +kernel)) (pi_list (pe_callB (cr_sortedPO) (by rfl) B2.sorted (by decide +kernel) (pa_cons (pe_fld (pv 0) rfl) pa_nil))) (blkOk_by (N := nTPl) (sc := defScope sTPl) (by decide +kernel)) (fun _ _ _ _ _ => (pg_tup rfl (pgs_cons (pg_name (i := 5) scTPl.nd rfl (by first | exact Or.inl rfl | exact Or.inr rfl)) (pgs_cons (pg_name (i := 6) scTPl.nd rfl (by first | exact Or.inl rfl | exact Or.inr rfl)) pgs_nil)))) (fun _ _ _ _ _ => pts_one (pt_cmpR op_eq (pv 5) (pv 1) (nomark _))) (fun _ _ _ _ _ => (pe_tupW (pa_cons pe_str (pa_cons (pv 6) pa_nil)))))
        (C8.pss_cut (ps_setLc (i := 3) (own := [("head", 7)]) (g := (gName 7)) rfl scTPl.nd rfl (by first | rfl | decide +kernel) (sw_true rfl (by first | rfl | decide +kernel) rfl (by decide +kernel)) (pi_list (pe_mtT0 Nm hr (by decide) (pe_fld (pv 0) rfl))) (blkOk_by (N := nTPl) (sc := defScope sTPl) (by decide +kernel)) (fun _ _ _ _ _ => (pg_name (i := 7) scTPl.nd rfl (by first | exact Or.inl rfl | exact Or.inr rfl))) (fun _ _ _ _ _ => pts_one (pt_cmpR op_lt (pe_mtT Sa hr (by decide) (pv 0) (pa_cons pe_str (pa_cons (pv 7) (pa_cons (pv 1) pa_nil)))) pe_int (nomark _))) (fun _ _ _ _ _ => (pe_tupW (pa_cons pe_str (pa_cons (pv 7) pa_nil)))))
        (C8.pss_cut (ps_setLc (i := 4) (own := [("k", 8)]) (g := (gName 8)) rfl scTPl.nd rfl (by first | rfl | decide +kernel) (sw_true rfl (by first | rfl | decide +kernel) rfl (by decide +kernel)) (pi_range1 (by rfl) B.range (pa_cons (pe_callB call_len_seq (by rfl) B.len (by decide +kernel) (pa_cons (pe_fld (pe_fld (pv 0) rfl) rfl) pa_nil)) pa_nil)) (blkOk_by (N := nTPl) (sc := defScope sTPl) (by decide +kernel)) (fun _ _ _ _ _ => (pg_name (i := 8) scTPl.nd rfl (by first | exact Or.inl rfl | exact Or.inr rfl))) (fun _ _ _ _ _ => pts_one (pt_val (pe_mtT Ps hr (by decide) (pv 0) (pa_cons (pv 8) (pa_cons (pv 1) pa_nil))))) (fun _ _ _ _ _ => (pe_tupW (pa_cons pe_str (pa_cons (pv 8) pa_nil)))))
        (pss_one (ps_ret (pe_op op_catLW (pe_op op_catLW (pv 2) (pv 3)) (pv 4))))))), ?_⟩
    obtain ⟨a, dtk, sb, tk, sd, sl, T⟩ := id TD
    have ok := T.ok
    have l8 : (nms y.hs).length ≤ 8 := by unfold nms; rw [List.length_map]; exact ok.h.l8
    have l6 := ok.l6
    have fsl : (faS st).length ≤ 1000 := by rw [(faS_perm st).length_eq]; exact fz
    refine ⟨fun σ' H' => ∃ L1, σ' = [some (.ref p), some (.int d), some (.ref L1), none, none, none, none, none, none] ∧ Same H H' ∧ H L1 = none ∧ PlsAt H' L1 (plF st d), ?_, ?_⟩
    · refine ⟨_, rfl, p, C, a.dx, _, _, rfl, T.ins, TF.cl, TF.na _ (by simp [tKeys]), rfl, a.fl, _, kP H, rfl, SqL.of T.fl, (kP_map T.flt).2, fun ys L0 hs1 hs2 n0 => ?_⟩
      have pr := faS_of T.flt hs1 hs2.perm
      have ysl : ys.length = (faS st).length := Paired.length pr
      have s0 := same_new (o := HO.lst ys) n0
      have h0 : upd H L0 (.lst ys) L0 = some (.lst ys) := upd_same
      generalize upd H L0 (.lst ys) = H1 at s0 h0 ⊢
      refine ⟨L0, rfl, ⟨_, SqL.of h0⟩, fun D1 nD => lc_it (walk_list (xs := ys)) (fun i H' => Same H1 H' ∧ PlsAt H' D1 ((((faS st).take i).filter fun q => decide (q.1 = d)).map fun q => .pr q.2)) ⟨same_new nD, [], upd_same, by rw [List.take_zero]; exact .nil⟩ (fun i H' _ e => SqL.of (e.1 _ _ h0)) ?_ ?_⟩
      · rintro i v H4 H5 hi ⟨s4, d4⟩ ⟨rfl, hv⟩
        obtain ⟨q, hq, t, rfl, ht⟩ := L2.paired_get pr hv
        refine ⟨t, _, rfl, SqT.of (s4 _ _ (s0 _ _ ht)), rfl, _, _, rfl, _, _, rfl, rfl, rfl, ?_⟩
        refine ⟨_, rfl, _, rfl, rfl, _, rfl, ?_⟩
        rw [List.take_add_one, hq]
        have il : ((((faS st).take i).filter fun q => decide (q.1 = d)).map fun q => Pl.pr q.2).length ≤ 1000 := by
          rw [List.length_map]
          have := List.length_filter_le (fun q : Int × Int => decide (q.1 = d)) ((faS st).take i)
          rw [List.length_take] at this
          omega
        by_cases e : q.1 = d
        · rw [decide_eq_true (by rw [e])]
          refine iteT ⟨_, rfl, (by show 2 ≤ sizeLine; omega), fun t' H6 s6 n6 h6 => ?_⟩
          obtain ⟨acc, a1, a2, a3⟩ := d4.snoc (q := .pr q.2) s6 n6 h6
          refine ⟨acc, a1, by omega, fun b o e => ?_, ?_⟩
          · rw [upd_ne (ne_of_none e nD)]
            exact s6 _ _ (s4 _ _ e)
          · have := flt_pos (f := fun q : Int × Int => decide (q.1 = d)) (g := fun q => Pl.pr q.2) (l := (faS st).take i) (q := q) (decide_eq_true e)
            show PlsAt _ D1 ((((faS st).take i ++ [q]).filter fun q => decide (q.1 = d)).map fun q => Pl.pr q.2)
            rw [this]
            exact a3
        · rw [decide_eq_false (fun z => e (by injection z))]
          refine iteF ⟨s4, ?_⟩
          have := flt_neg (f := fun q : Int × Int => decide (q.1 = d)) (g := fun q => Pl.pr q.2) (l := (faS st).take i) (q := q) (decide_eq_false e)
          show PlsAt _ D1 ((((faS st).take i ++ [q]).filter fun q => decide (q.1 = d)).map fun q => Pl.pr q.2)
          rw [this]
          exact d4
      · rintro H4 ⟨s4, d4⟩
        rw [ysl, List.take_length] at d4
        exact ⟨D1, rfl, s0.trans s4, same_none s0 nD, d4⟩
    · rintro _ G1 ⟨L1, rfl, s1, n1, h1⟩
      have T1 := T.same s1
      have TD1 := TD.same s1
      have hy1 := T1.yr
      obtain ⟨dy, l1, l2, l3, t1, t2, t3, hyp, _, R2, _⟩ := hy1.ex
      have tl2 : t2.length = y.ls.length := by rw [R2.len, List.length_map]
      have yfn : (yf y.days l1 l2 l3).lookup ("names" : Str) = none := yf_no (by decide +kernel) (by decide +kernel) (by decide +kernel) (by decide +kernel)
      refine ⟨fun σ' H' => ∃ L2, σ' = [some (.ref p), some (.int d), some (.ref L1), some (.ref L2), none, none, none, none, none] ∧ Same G1 H' ∧ PlsAt H' L2 (plH y st d), ?_, ?_⟩
      · refine ⟨_, rfl, p, C, a.dx, _, _, rfl, T1.ins, TF.cl, TF.na _ (by simp [tKeys]), rfl, a.yp, dy, _, rfl, hyp, yfn, a.yp, y, rfl, hy1, ok.h.l8, fun q nq => ?_⟩
        have sq := same_new (o := HO.lst ((nms y.hs).map V.str)) nq
        have hq : upd G1 q (.lst ((nms y.hs).map V.str)) q = some (.lst ((nms y.hs).map V.str)) := upd_same
        generalize upd G1 q (.lst ((nms y.hs).map V.str)) = Ga at sq hq ⊢
        refine ⟨q, rfl, ⟨_, SqL.of hq⟩, fun D1 nD => lc_it (walk_listS (xs := nms y.hs)) (fun i H' => Same Ga H' ∧ PlsAt H' D1 ((((nms y.hs).take i).filter fun h => decide (st.sum "left" h d < 0)).map .lf)) ⟨same_new nD, [], upd_same, by rw [List.take_zero]; exact .nil⟩ (fun i H' _ e => SqL.of (e.1 _ _ hq)) ?_ ?_⟩
        · rintro i v H4 H5 hi ⟨s4, d4⟩ ⟨rfl, hv⟩
          rw [List.getElem?_map] at hv
          cases ex : (nms y.hs)[i]? with
          | none => rw [ex] at hv; cases hv
          | some h =>
            rw [ex] at hv
            obtain rfl := Option.some.inj hv
            have s04 := sq.trans s4
            have il : ((((nms y.hs).take i).filter fun h => decide (st.sum "left" h d < 0)).map Pl.lf).length ≤ 8 := by
              rw [List.length_map]
              have := List.length_filter_le (fun h : Str => decide (st.sum "left" h d < 0)) ((nms y.hs).take i)
              rw [List.length_take] at this
              omega
            refine ⟨rfl, _, rfl, p, a.dx, _, rfl, s04 _ _ T1.ins, tE_no (by decide +kernel), _, rfl, _, rfl, p, "left", h, d, y, rows, st, rfl, TD1.same s04, (by decide +kernel), List.mem_of_getElem? ex, by omega, by omega, _, _, rfl, rfl, _, rfl, ?_⟩
            rw [List.take_add_one, ex]
            by_cases e : st.sum "left" h d < 0
            · rw [decide_eq_true e]
              refine iteT ⟨_, rfl, (by show 2 ≤ sizeLine; omega), fun t' H6 s6 n6 h6 => ?_⟩
              obtain ⟨acc, a1, a2, a3⟩ := d4.snoc (q := .lf h) s6 n6 h6
              refine ⟨acc, a1, by omega, fun b o e => ?_, ?_⟩
              · rw [upd_ne (ne_of_none e nD)]
                exact s6 _ _ (s4 _ _ e)
              · show PlsAt _ D1 ((((nms y.hs).take i ++ [h]).filter fun h => decide (st.sum "left" h d < 0)).map Pl.lf)
                rw [flt_pos (f := fun h : Str => decide (st.sum "left" h d < 0)) (decide_eq_true e)]
                exact a3
            · rw [decide_eq_false e]
              refine iteF ⟨s4, ?_⟩
              show PlsAt _ D1 ((((nms y.hs).take i ++ [h]).filter fun h => decide (st.sum "left" h d < 0)).map Pl.lf)
              rw [flt_neg (f := fun h : Str => decide (st.sum "left" h d < 0)) (decide_eq_false e)]
              exact d4
        · rintro H4 ⟨s4, d4⟩
          rw [List.take_length] at d4
          exact ⟨D1, rfl, sq.trans s4, d4⟩
      · rintro _ G2 ⟨L2, rfl, s2, h2⟩
        have s12 := s1.trans s2
        have T2 := T.same s12
        have TD2 := TD.same s12
        have h1 := h1.same s2
        obtain ⟨dy, l1, l2, l3, t1, t2, t3, hyp, _, R2, _⟩ := T2.yr.ex
        have tl2 : t2.length = y.ls.length := by rw [R2.len, List.length_map]
        have tl3 : ((t2.map V.ref).length : Int).toNat = y.ls.length := by rw [List.length_map, tl2]; omega
        refine ⟨fun σ' H' => ∃ L3, σ' = [some (.ref p), some (.int d), some (.ref L1), some (.ref L2), some (.ref L3), none, none, none, none] ∧ Same G2 H' ∧ PlsAt H' L3 (plL y st d), ?_, ?_⟩
        · refine ⟨_, rfl, p, C, a.dx, _, _, rfl, T2.ins, TF.cl, TF.na _ (by simp [tKeys]), rfl, a.yp, Cy, dy, _, .ref l2, rfl, hyp, Y.cl, Y.nl, rfl, l2, _, rfl, .inl (SqL.of R2.1), _, rfl, (by rw [List.length_map, tl2]; omega), (by rw [List.length_map, tl2]; omega), fun D1 nD => ?_⟩
          rw [tl3]
          refine lc_it walk_range (fun i H' => Same G2 H' ∧ PlsAt H' D1 (((List.range i).filter fun k => passes y st k d).map .lm)) ⟨same_new nD, [], upd_same, .nil⟩ (fun i H' _ e => trivial) ?_ ?_
          · rintro i v H4 H5 hi ⟨s4, d4⟩ ⟨rfl, ev⟩
            have ev : v = .int ((i : Nat) : Int) := by rw [ev]; show V.int (0 + ((i : Nat) : Int)) = _; rw [Int.zero_add]
            rw [ev]
            have il : (((List.range i).filter fun k => passes y st k d).map Pl.lm).length ≤ 6 := by
              rw [List.length_map]
              have := List.length_filter_le (fun k : Nat => passes y st k d) (List.range i)
              rw [List.length_range] at this
              omega
            refine ⟨rfl, _, rfl, p, a.dx, _, rfl, s4 _ _ T2.ins, tE_no (by decide +kernel), _, rfl, _, rfl, p, i, d, y, rows, st, rfl, TD2.same s4, hi, by omega, by omega, _, rfl, ?_⟩
            rw [List.range_succ]
            cases e : passes y st i d with
            | true =>
              refine iteT ⟨_, rfl, (by show 2 ≤ sizeLine; omega), fun t' H6 s6 n6 h6 => ?_⟩
              obtain ⟨acc, a1, a2, a3⟩ := d4.snoc (q := .lm i) s6 n6 h6
              refine ⟨acc, a1, by omega, fun b o e => ?_, ?_⟩
              · rw [upd_ne (ne_of_none e nD)]
                exact s6 _ _ (s4 _ _ e)
              · rw [flt_pos (f := fun k : Nat => passes y st k d) e]
                exact a3
            | false =>
              refine iteF ⟨s4, ?_⟩
              rw [flt_neg (f := fun k : Nat => passes y st k d) e]
              exact d4
          · rintro H4 ⟨s4, d4⟩
            exact ⟨D1, rfl, s4, d4⟩
        · rintro _ G3 ⟨L3, rfl, s3, h3⟩
          obtain ⟨x1, g1, q1⟩ := h1.same s3
          obtain ⟨x2, g2, q2⟩ := h2.same s3
          obtain ⟨x3, g3, q3⟩ := h3
          have z1 : x1.length ≤ 1000 := by
            rw [Paired.length q1]
            unfold plF
            rw [List.length_map]
            have := List.length_filter_le (fun q : Int × Int => decide (q.1 = d)) (faS st)
            omega
          have z2 : x2.length ≤ 8 := by
            rw [Paired.length q2]
            unfold plH
            rw [List.length_map]
            have := List.length_filter_le (fun h : Str => decide (st.sum "left" h d < 0)) (nms y.hs)
            omega
          have z3 : x3.length ≤ 6 := by
            rw [Paired.length q3]
            unfold plL
            rw [List.length_map]
            have := List.length_filter_le (fun k : Nat => passes y st k d) (List.range y.ls.length)
            rw [List.length_range] at this
            omega
          refine ⟨_, rfl, _, rfl, L1, L2, _, _, rfl, rfl, g1, g2, (by rw [List.length_map, List.length_map]; omega), fun p1 H5 s5 n5 h5 => ?_⟩
          refine ⟨_, rfl, p1, L3, _, _, rfl, rfl, h5, s5 _ _ g3, (by rw [List.length_append, List.length_map, List.length_map, List.length_map]; omega), fun p2 H6 s6 n6 h6 => ?_⟩
          have s36 := s5.trans s6
          refine k p2 H6 ((s12.trans s3).trans s36) (same_none (s12.trans s3) (same_none s5 n6)) ⟨x1 ++ x2 ++ x3, ?_, ?_⟩
          · rw [h6, List.map_append, List.map_append]
          · exact _root_.L2.Paired.mapP (paired_app (paired_app q1 q2) q3) fun _ _ e => s36 _ _ e
end
end KP
namespace KP
open PySem L2 KD KM KT
/-- a breach, or None -/
def BrAt (H : Hp) (v : V) : Option (Int × Pl) → Prop
  | none => v = .non
  | some (d, q) => ∃ t u, v = .ref t ∧ H t = some (.tup [.int d, .ref u]) ∧ H u = some (.tup q.tup)
theorem BrAt.same {H H' : Hp} (s : Same H H') {v : V} : ∀ {b : Option (Int × Pl)}, BrAt H v b → BrAt H' v b
  | none, h => h
  | some _, ⟨t, u, e, h1, h2⟩ => ⟨t, u, e, s _ _ h1, s _ _ h2⟩
theorem breach_none {y : Yr} {s : TSt} (h : ∀ i, i < y.days.toNat → places y s (1 + (i : Int)) = []) : breach y s = none := by
  unfold breach
  rw [List.findSome?_eq_none_iff]
  intro i hi
  rw [h i (List.mem_range.mp hi)]
  rfl
theorem breach_some {y : Yr} {s : TSt} {i : Nat} {q : Pl} {r : List Pl} (h : ∀ j, j < i → places y s (1 + (j : Int)) = []) (hi : i < y.days.toNat) (e : places y s (1 + (i : Int)) = q :: r) : breach y s = some (1 + (i : Int), q) := by
  unfold breach
  rw [show y.days.toNat = i + ((y.days.toNat - i - 1) + 1) by omega, List.range_add, List.findSome?_append]
  have e0 : ((List.range i).findSome? fun i : Nat => (places y s (1 + (i : Int))).head?.map fun q => (1 + (i : Int), q)) = none := by
    rw [List.findSome?_eq_none_iff]
    intro j hj
    rw [h j (List.mem_range.mp hj)]
    rfl
  rw [e0, List.range_succ_eq_map, List.map_cons, List.findSome?_cons]
  simp only [Nat.add_zero, e, List.head?_cons, Option.map_some, Option.none_or]
def spTBr (C Cy : Addr) : Sp := fun vs H Q _ => ∃ (p : Addr) (y : Yr) (rows : List R3) (s : TSt), vs = [.ref p] ∧ TalD C Cy H p y rows s ∧ s.fa.length ≤ 1000 ∧ ∀ (v : V) (H' : Hp), Same H H' → BrAt H' v (breach y s) → Q v H'
section
variable {P : Program} {w : World} {K : PySem.W.Frag} {mg : Str → Option Value} {base : Heap} {C Cy : Addr}
set_option maxHeartbeats 1000000 in
theorem c_tbr (B : Base K mg) (Y : YearF K mg Cy) (TF : TalF K mg C) (Pl : MetT P w K mg base 3 C "places" (spTPl C Cy)) (D : MethT K C "breach" "Tally.breach" sTBr ["self"]) : MetT P w K mg base 4 C "breach" (spTBr C Cy) := by
  refine met TF.cl D scTBr (fun vs H Q E h => ?_) (fun f cdv A outer s H vs Q E hr h => ?_)
  · obtain ⟨p, y, rows, st, rfl, _⟩ := h
    rfl
  · obtain ⟨p, y, rows, st, rfl, TD, fz, k⟩ := h
    have hz : sizeLine = 16777216 := by decide
    refine ⟨_, (pss_cons (ps_for PassesOwn.never rfl (pi_range2 (by rfl) B.range (pa_cons pe_int (pa_cons (pe_op op_add (pe_fld (pe_fld (pv 0) rfl) rfl) pe_int) pa_nil))) (pg_name (i := 1) scTBr.nd rfl (by first | exact Or.inl rfl | exact Or.inr rfl)) (pss_cons (ps_set (i := 2) scTBr.nd rfl (by first | exact Or.inl rfl | exact Or.inr rfl) (pe_mtT Pl hr (by decide) (pv 0) (pa_cons (pv 1) pa_nil)))
        (pss_one (ps_if (pt_truth (pv 2) (by intro _; rfl)) (pss_one (ps_ret (pe_tupW (pa_cons (pv 1) (pa_cons (pe_ix ix_list (pv 2) pe_int (fun _ _ => rfl)) pa_nil))))) pss_nil))))
        (pss_one (ps_ret pe_non))), ?_⟩
    obtain ⟨a, dtk, sb, tk, sd, sl, T⟩ := id TD
    have ok := T.ok
    have dd := ok.d
    obtain ⟨dy, l1, l2, l3, t1, t2, t3, hyp, _⟩ := T.yr.ex
    refine ⟨_, rfl, p, C, a.dx, _, _, rfl, T.ins, TF.cl, TF.na _ (by simp [tKeys]), rfl, a.yp, Cy, dy, _, .int y.days, rfl, hyp, Y.cl, Y.nd, rfl, _, _, rfl, rfl, 1, y.days + 1, rfl, ⟨by omega, by omega, by omega, by omega⟩, ?_⟩
    rw [show (y.days + 1 - 1).toNat = y.days.toNat by omega]
    refine for_range (fun i σ H' => ∃ v1 v2, σ = [some (.ref p), v1, v2] ∧ Same H H' ∧ ∀ j, j < i → places y st (1 + (j : Int)) = []) ⟨_, _, rfl, Same.refl _, fun j hj => absurd hj (by omega)⟩ ?_ ?_
    · rintro i σ H4 hi ⟨v1, v2, rfl, s4, h4⟩
      refine ⟨_, rfl, p, a.dx, _, rfl, s4 _ _ T.ins, tE_no (by decide +kernel), _, rfl, p, 1 + (i : Int), y, rows, st, rfl, TD.same s4, by omega, by omega, fz, fun L H5 s5 nL ⟨ts, hL, hts⟩ => ?_⟩
      cases ep : places y st (1 + (i : Int)) with
      | nil =>
        rw [ep] at hts
        cases hts
        refine ⟨_, rfl, false, .inl ⟨[], SqL.of hL, rfl⟩, iteF ⟨_, _, rfl, s4.trans s5, fun j hj => ?_⟩⟩
        by_cases e : j = i
        · rw [e]; exact ep
        · exact h4 j (by omega)
      | cons q r =>
        rw [ep] at hts
        cases hts with
        | @cons t _ ts _ ht hr' =>
          refine ⟨_, rfl, true, .inl ⟨_, SqL.of hL, rfl⟩, iteT ⟨_, rfl, _, rfl, L, _, _, .ref t, rfl, rfl, SqL.of hL, (show atI _ ((0 : Nat) : Int) = _ from atI_nat rfl), (by show 2 ≤ sizeLine; omega), fun t' H6 s6 n6 h6 => k _ _ ((s4.trans s5).trans s6) ?_⟩⟩
          rw [breach_some h4 hi ep]
          exact ⟨t', t, rfl, h6, s6 _ _ ht⟩
    · rintro σ H4 ⟨v1, v2, rfl, s4, h4⟩
      exact k _ _ s4 (by rw [breach_none h4]; rfl)
end
end KP
namespace KP
open PySem L2 KD KM KT
/-- what isinstance(x, E) asks of x's class C -/
structure EntI (K : PySem.W.Frag) (C E : Addr) : Prop where
  cl : Cls K C
  ha : PySem.W.findIn K (.ref C) "__class__" = some (some (.builtin "object.__class__"))
  hn : PySem.W.specialIn K (.builtin "object.__class__") "__get__" = some (some (.builtin "getset_descriptor.__get__"))
  htk : PySem.W.takesIn K (.builtin "object.__class__") = some true
  hm : PySem.W.mroIn K C (.type "object") = some true
  me : PySem.W.kitOne K (.ref C) (.ref E) = some true
theorem call_isS {X : Cx} {C E : Addr} (c : EntI X.K C E) : CallR X (.builtin "isinstance") (fun xs H Q => ∃ a dx fs, xs = [.ref a, .ref E] ∧ H a = some (.ins C dx fs) ∧ Q (.bl true) H) := by
  intro pins s σ H xs us Q I r h
  obtain ⟨a, dx, fs, rfl, ha, q⟩ := h
  obtain ⟨u, w', rfl, ru, rw'⟩ := vals2 r
  cases rw'
  exact isinst_ok I ru (TyOf.ins ha c.cl c.ha c.hn c.htk c.hm) c.me fun tk => ⟨.bl true, H, I.tok _, rfl, q⟩
theorem en_fits {e : En} : e.fs.lookup ("fits" : Str) = none := by
  cases e <;> exact look_no (by simp only [En.fs, List.map]; decide +kernel)
theorem en_told {e : En} : e.fs.lookup ("told" : Str) = none := by
  cases e <;> exact look_no (by simp only [En.fs, List.map]; decide +kernel)
/-- the told of an entry that fits -/
def spTFt (C : Nat → Addr) (Cy : Addr) (ks : List Nat) : Sp := fun vs H Q _ => ∃ (yp q : Addr) (d : Int) (e : En) (y : Yr), vs = [.ref yp, .int d, .ref q] ∧ YearAt Cy [] H yp y ∧ y.ok ∧ EntAt C H q e ∧ e.k ∈ ks ∧ e.fit (nms y.hs) y.days d = true ∧ ∀ (u : Addr) (H' : Hp), Same H H' → H u = none → H' u = some (.tup e.tup) → Q (.ref u) H'
section
variable {P : Program} {w : World} {K : PySem.W.Frag} {mg : Str → Option Value} {base : Heap} {C : Nat → Addr} {CE Cy : Addr}
abbrev sTFt : Stmt := top 42
abbrev nTFt : List Str := ["year", "date", "entry"]
theorem scTFt : FnScope nTFt ["year", "date", "entry"] (defScope sTFt) := ⟨rfl, rfl, rfl, by decide +kernel, rfl, by decide +kernel, by decide +kernel⟩
theorem c_tft (B : Base K mg) (mE : mg "Entry" = some (.ref CE)) {ks : List Nat} (Ei : ∀ k ∈ ks, EntI K (C k) CE) (Ft : ∀ k ∈ ks, MetT P w K mg base 2 (C k) "fits" (spFits C Cy k)) (To : ∀ k ∈ ks, MetT P w K mg base 1 (C k) "told" (spTold C k)) (D : DefT K mg "told_fitting" sTFt ["year", "date", "entry"]) : Cal P w K mg base 3 "told_fitting" (spTFt C Cy ks) := by
  refine cal D scTFt (fun vs H Q E h => ?_) (fun f cdv A outer s H vs Q E hr h => ?_)
  · obtain ⟨yp, q, d, e, y, rfl, _⟩ := h
    rfl
  · obtain ⟨yp, q, d, e, y, rfl, hy, ok, he, hk, hf, k⟩ := h
    refine ⟨_, (pss_cons (ps_if (PW.pt (pw_or (pt_not (pt_val (pe_callB (call_isS (Ei e.k hk)) (by rfl) B.isi (by decide +kernel) (pa_cons (pv 2) (pa_cons (pe_glob (v := .ref CE) rfl mE rfl) pa_nil))))) (pw_or1 (pt_not (pt_val (pe_mtT (Ft e.k hk) hr (by decide) (pv 2) (pa_cons (pv 0) (pa_cons (pv 1) pa_nil)))))))) (pss_one ps_never) pss_nil)
        (pss_one (ps_ret (pe_mtT0 (To e.k hk) hr (by decide) (pv 2))))), ?_⟩
    obtain ⟨dx, hq⟩ := id he
    refine ⟨_, rfl, q, dx, _, rfl, hq, _, rfl, iteF ?_⟩
    refine ⟨_, rfl, q, dx, _, rfl, hq, en_fits, _, rfl, _, rfl, q, yp, e, y, d, rfl, rfl, he, hy, ok.h.l8, fun H1 s1 => ⟨_, rfl, ?_⟩⟩
    rw [hf]
    refine iteF ?_
    exact ⟨_, rfl, q, dx, _, rfl, s1 _ _ hq, en_told, q, e, rfl, rfl, ⟨dx, s1 _ _ hq⟩, fun u nu => k u _ (s1.trans (same_new nu)) (same_none s1 nu) upd_same⟩
end
end KP
namespace KP
open PySem L2 KD KM KT
/-- a date and an entry, as handed in -/
def DatT (C : Nat → Addr) (H : Hp) (t : Addr) (x : Int × En) : Prop := ∃ q, H t = some (.tup [.int x.1, .ref q]) ∧ EntAt C H q x.2
theorem DatT.same {C : Nat → Addr} {H H' : Hp} (s : Same H H') {t : Addr} {x : Int × En} : DatT C H t x → DatT C H' t x := fun ⟨q, h, dx, e⟩ => ⟨q, s _ _ h, dx, s _ _ e⟩
/-- rows by their numbers -/
def numR (es : List (Int × En)) : List R3 := es.zipIdx.map fun q => ((q.2 : Int), q.1.1, q.1.2)
def spNum (C : Nat → Addr) (Cy : Addr) (ks : List Nat) : Sp := fun vs H Q _ => ∃ (yp rs : Addr) (y : Yr) (ts : List Addr) (es : List (Int × En)), vs = [.ref yp, .ref rs] ∧ YearAt Cy [] H yp y ∧ y.ok ∧ H rs = some (.lst (ts.map V.ref)) ∧ Paired (DatT C H) ts es ∧ es.length ≤ 40 ∧
  (∀ x ∈ es, x.2.k ∈ ks ∧ x.2.fit (nms y.hs) y.days x.1 = true ∧ 1 ≤ x.1 ∧ x.1 ≤ y.days) ∧ ∀ (L : Addr) (H' : Hp) (us : List Addr), Same H H' → H L = none → H' L = some (.lst (us.map V.ref)) → Paired (RowT H') us (numR es) → Q (.ref L) H'
section
variable {P : Program} {w : World} {K : PySem.W.Frag} {mg : Str → Option Value} {base : Heap} {C : Nat → Addr} {CE Cy : Addr}
abbrev sNum : Stmt := top 43
abbrev nNum : List Str := ["year", "rows", "found", "number", "row"]
theorem scNum : FnScope nNum ["year", "rows"] (defScope sNum) := ⟨rfl, rfl, rfl, by decide +kernel, rfl, by decide +kernel, by decide +kernel⟩
set_option maxHeartbeats 1000000 in
theorem c_num (B : Base K mg) (B2 : Base2 K mg) (Y : YearF K mg Cy) {tM : _} (hM : mg "MOST_ROWS" = some (.int 40 tM)) {ks : List Nat} (Ls : Cal P w K mg base 1 "is_list" spList) (Ro : Cal P w K mg base 1 "is_row" spRow) (Wh : Cal P w K mg base 1 "is_whole" spWhole) (Tf : Cal P w K mg base 3 "told_fitting" (spTFt C Cy ks)) (D : DefT K mg "numbered" sNum ["year", "rows"]) : Cal P w K mg base 4 "numbered" (spNum C Cy ks) := by
  refine cal D scNum (fun vs H Q E h => ?_) (fun f cdv A outer s H vs Q E hr h => ?_)
  · obtain ⟨yp, rs, y, ts, es, rfl, _⟩ := h
    rfl
  · obtain ⟨yp, rs, y, ts, es, rfl, hy, ok, hrs, hts, h40, hes, k⟩ := h
    have hz : sizeLine = 16777216 := by decide
    have tsl : ts.length = es.length := Paired.length hts
    refine ⟨_, (pss_cons (ps_if (pt_not (pt_val (pe_cl Ls hr (by decide) (by rfl) (pa_cons (pv 1) (pa_cons pe_int (pa_cons (pe_glob (v := .int 40) rfl hM ⟨_, rfl⟩) pa_nil)))))) (pss_one ps_never) pss_nil)
        (pss_cons (ps_set (i := 2) scNum.nd rfl (by first | exact Or.inl rfl | exact Or.inr rfl) (pe_lstW pa_nil))
        (pss_cons (ps_for PassesOwn.never rfl (pi_enum (by rfl) B2.enumerate (pa_cons (pv 1) pa_nil)) (pg_tup rfl (pgs_cons (pg_name (i := 3) scNum.nd rfl (by first | exact Or.inl rfl | exact Or.inr rfl)) (pgs_cons (pg_name (i := 4) scNum.nd rfl (by first | exact Or.inl rfl | exact Or.inr rfl)) pgs_nil))) (pss_cons (ps_if (PW.pt (pw_or (pt_not (pt_val (pe_cl Ro hr (by decide) (by rfl) (pa_cons (pv 4) (pa_cons pe_int pa_nil))))) (pw_or1 (pt_not (pt_val (pe_cl Wh hr (by decide) (by rfl) (pa_cons (pe_ix ix_tup (pv 4) pe_int (fun _ _ => rfl)) (pa_cons pe_int (pa_cons (pe_fld (pv 0) rfl) pa_nil))))))))) (pss_one ps_never) pss_nil)
        (pss_one (ps_expr (pe_bm PySem.F.plainAttrs_list PySem.F.slot_list_append PySem.F.type_list_append mt_append (pv 2) (pa_cons (pe_tupW (pa_cons (pv 3) (pa_cons (pe_ix ix_tup (pv 4) pe_int (fun _ _ => rfl)) (pa_cons (pe_cl Tf hr (by decide) (by rfl) (pa_cons (pv 0) (pa_cons (pe_ix ix_tup (pv 4) pe_int (fun _ _ => rfl)) (pa_cons (pe_ix ix_tup (pv 4) pe_int (fun _ _ => rfl)) pa_nil)))) pa_nil)))) pa_nil))))))
        (pss_one (ps_ret (pv 2)))))), ?_⟩
    refine ⟨_, rfl, rs, _, _, _, rfl, hrs, _, rfl, ?_⟩
    rw [decide_eq_true (by rw [List.length_map]; omega)]
    refine iteF ⟨(by show 0 ≤ sizeLine; omega), fun L H1 s1 nL hL => ?_⟩
    refine ⟨_, rfl, rs, _, rfl, SqL.of (s1 _ _ hrs), for_it walk_enum (fun i σ H' => ∃ v3 v4, σ = [some (.ref yp), some (.ref rs), some (.ref L), v3, v4] ∧ Same H H' ∧ ∃ us, H' L = some (.lst (us.map V.ref)) ∧ Paired (RowT H') us (numR (es.take i))) ⟨_, _, rfl, s1, [], hL, by rw [List.take_zero]; exact .nil⟩ (fun i σ H' _ ⟨_, _, _, z, _⟩ => SqL.of (z _ _ hrs)) ?_ ?_⟩
    · rintro i v σ H4 H5 hi ⟨v3, v4, rfl, s4, us, d4, u4⟩ ⟨Tt, x, z, rfl, nT, rfl, ex, ez⟩
      cases ex
      have ez : (ts.map V.ref)[i]? = some z := ez
      rw [List.getElem?_map] at ez
      cases et : ts[i]? with
      | none => rw [et] at ez; cases ez
      | some t =>
        rw [et] at ez
        obtain rfl := Option.some.inj ez
        obtain ⟨xe, hxe, q, ht, hq⟩ := L2.paired_get hts et
        obtain ⟨o1, o2, o3, o4⟩ := hes xe (List.mem_of_getElem? hxe)
        have sT : Same H4 (upd H4 Tt (.tup [.int (i : Nat), .ref t])) := same_new nT
        have hT5 : upd H4 Tt (.tup [.int (i : Nat), .ref t]) Tt = some (.tup [.int (i : Nat), .ref t]) := upd_same
        generalize upd H4 Tt (.tup [.int (i : Nat), .ref t]) = H5 at sT hT5
        have s5 := s4.trans sT
        refine ⟨Tt, _, rfl, SqT.of hT5, rfl, _, _, rfl, _, _, rfl, rfl, ?_⟩
        refine ⟨_, rfl, t, _, _, rfl, s5 _ _ ht, _, rfl, ?_⟩
        rw [decide_eq_true (by rfl)]
        obtain ⟨dy, l1, l2, l3, t1, t2, t3, hyp, _⟩ := (hy.same s5).ex
        have i0 : atI [V.int xe.1, V.ref q] 0 = some (V.int xe.1) := (show atI _ ((0 : Nat) : Int) = _ from atI_nat rfl)
        have i1 : atI [V.int xe.1, V.ref q] 1 = some (V.ref q) := (show atI _ ((1 : Nat) : Int) = _ from atI_nat rfl)
        refine iteF ⟨_, rfl, t, _, _, _, rfl, rfl, SqT.of (s5 _ _ ht), i0, _, rfl, yp, Cy, dy, _, .int y.days, rfl, hyp, Y.cl, Y.nd, rfl, _, _, _, rfl, _, rfl, ?_⟩
        rw [decide_eq_true ⟨o3, o4⟩]
        refine iteF ?_
        have hL5 := sT _ _ d4
        refine ⟨_, rfl, .inl ⟨rfl, _, SqL.of hL5⟩, _, rfl, _, rfl, t, _, _, _, rfl, rfl, SqT.of (s5 _ _ ht), i0, _, rfl, _, rfl, t, _, _, _, rfl, rfl, SqT.of (s5 _ _ ht), i0, _, rfl, t, _, _, _, rfl, rfl, SqT.of (s5 _ _ ht), i1, yp, q, xe.1, xe.2, y, rfl, hy.same s5, ok, ⟨_, s5 _ _ hq.choose_spec⟩, o1, o2, fun u H6 s6 nu hu => ⟨(by show 3 ≤ sizeLine; omega), fun t' H7 s7 n7 h7 => ⟨L, _, _, rfl, rfl, s7 _ _ (s6 _ _ hL5), ?_, _, _, rfl, fun b o e => ?_, us ++ [t'], ?_, ?_⟩⟩⟩
        · rw [List.length_map, Paired.length u4]
          unfold numR
          rw [List.length_map, List.length_zipIdx, List.length_take]
          omega
        · rw [upd_ne (ne_of_none e nL)]
          exact s7 _ _ (s6 _ _ (s5 _ _ e))
        · rw [upd_same, List.map_append]
          rfl
        · have g : ∀ {b : Addr} {xs : List V}, H7 b = some (.tup xs) → upd H7 L (.lst (us.map V.ref ++ [.ref t'])) b = some (.tup xs) := fun {b xs} e => by
            rw [upd_ne (fun z => by rw [z, s7 _ _ (s6 _ _ hL5)] at e; cases e)]
            exact e
          have en : numR (es.take (i + 1)) = numR (es.take i) ++ [((i : Int), xe.1, xe.2)] := by
            unfold numR
            rw [List.take_add_one, hxe]
            show ((es.take i ++ [xe]).zipIdx).map _ = _
            rw [List.zipIdx_append, List.map_append, List.length_take]
            have : min i es.length = i := by have := (List.getElem?_eq_some_iff.mp hxe).1; omega
            rw [this]
            simp
          rw [en]
          have s57 := s6.trans s7
          refine paired_app (_root_.L2.Paired.mapP u4 fun _ _ ⟨u', a1, a2⟩ => ⟨u', g (s57 _ _ (sT _ _ a1)), g (s57 _ _ (sT _ _ a2))⟩) (.cons ⟨u, g h7, g (s7 _ _ hu)⟩ .nil)
    · rintro σ H4 ⟨v3, v4, rfl, s4, us, d4, u4⟩
      rw [List.length_map, tsl, List.take_length] at u4
      exact ⟨_, rfl, k L H4 us s4 nL d4 u4⟩
end
end KP
namespace KP
open PySem L2 KD KM KT
theorem TalE.wo {C Cy : Addr} {a : TAd} {dtk sb : Addr} {tk : Nat → Addr} {sd : Str → Addr} {sl : Str → Str → Addr} {H : Hp} {p q CD dx : Addr} {fs : List (Str × V)} {y : Yr} {rows : List R3} {s : TSt} (T : TalE C Cy a dtk sb tk sd sl H p y rows s) (hq : H q = some (.ins CD dx fs)) (hl : fs.length ≤ 1) : TalE C Cy a dtk sb tk sd sl (wo H q) p y rows s := by
  have g : ∀ {b : Addr} {o : HO}, H b = some o → o ≠ .ins CD dx fs → KP.wo H q b = some o := fun e n => by
    rw [wo_get (fun z => by rw [z, hq] at e; exact n (Option.some.inj e).symm)]
    exact e
  have gr : ∀ {l : Addr} {ts : List Addr} {rs : List (List V)}, RowsAt H l ts rs → RowsAt (KP.wo H q) l ts rs := fun r => ⟨g r.1 (fun z => nomatch z), paired_mono (fun b r e => g e (fun z => nomatch z)) r.2⟩
  obtain ⟨dy, l1, l2, l3, t1, t2, t3, hy, r1, r2, r3, n1, n2, n3⟩ := T.yr.ex
  refine ⟨g T.ins (fun z => ?_), T.ok, ⟨dy, l1, l2, l3, t1, t2, t3, g hy (fun z => ?_), gr r1, gr r2, gr r3, n1, n2, n3⟩, g T.rws (fun z => nomatch z), L2.Paired.mapP T.rwt (fun _ _ ⟨u, h1, h2⟩ => ⟨u, g h1 (fun z => nomatch z), g h2 (fun z => nomatch z)⟩), g T.fl (fun z => nomatch z), L2.Paired.mapP T.flt (fun _ _ e => g e (fun z => nomatch z)), g T.dp (fun z => nomatch z), fun q h => g (T.dpt q h) (fun z => nomatch z), g T.dw (fun z => nomatch z), fun x h => g (T.dwt x h) (fun z => nomatch z), g T.dt (fun z => nomatch z), fun q h => g (T.dtt q h) (fun z => nomatch z), g T.dtk (fun z => nomatch z), fun k h => g (T.dtkt k h) (fun z => nomatch z), g T.sb (fun z => nomatch z), fun h hh => ⟨g (T.sbt h hh).1 (fun z => nomatch z), fun n hn => g ((T.sbt h hh).2 n hn) (fun z => nomatch z)⟩, T.ndw, T.hds, T.ndt⟩
  · injection z with _ _ z
    rw [← z] at hl
    exact absurd hl (by show ¬ (10 ≤ 1); omega)
  · injection z with _ _ z
    rw [← z] at hl
    exact absurd hl (by show ¬ (4 ≤ 1); omega)
theorem TalD.kb {C Cy : Addr} {H H' : Hp} {p q CD dx : Addr} {fs : List (Str × V)} {y : Yr} {rows : List R3} {s : TSt} (hq : H q = some (.ins CD dx fs)) (hl : fs.length ≤ 1) (m : KB q H H') : TalD C Cy H p y rows s → TalD C Cy H' p y rows s := fun ⟨a, b, c, d, e, f, T⟩ => ⟨a, b, c, d, e, f, (T.wo hq hl).same (wo_kb m)⟩
theorem TalN.kb {C Cy : Addr} {H0 H H' : Hp} {p q CD dx : Addr} {fs : List (Str × V)} {y : Yr} {rows : List R3} {s : TSt} (hq : H q = some (.ins CD dx fs)) (hl : fs.length ≤ 1) (m : KB q H H') : TalN C Cy H0 H p y rows s → TalN C Cy H0 H' p y rows s := fun ⟨a, b, c, d, e, f, T, N⟩ => ⟨a, b, c, d, e, f, (T.wo hq hl).same (wo_kb m), N⟩
/-- Dated -/
def runE (y : Yr) (es : List (Int × En)) : TSt := run y (gone (numR es))
structure DatF (K : PySem.W.Frag) (mg : Str → Option Value) (CD : Addr) : Prop where
  cl : Cls K CD
  mgC : mg "Dated" = some (.ref CD)
  nt : NoAttr K CD "tally"
  nb : NoAttr K CD "first_breach"
def DatD (CD C Cy : Addr) (H : Hp) (p : Addr) (y : Yr) (es : List (Int × En)) : Prop := ∃ dx tp v, H p = some (.ins CD dx [("tally", .ref tp), ("first_breach", v)]) ∧ TalD C Cy H tp y (numR es) (runE y es) ∧ BrAt H v (breach y (runE y es))
def DatN (CD C Cy : Addr) (H0 H : Hp) (p : Addr) (y : Yr) (es : List (Int × En)) : Prop := ∃ dx tp v, H p = some (.ins CD dx [("tally", .ref tp), ("first_breach", v)]) ∧ TalN C Cy H0 H tp y (numR es) (runE y es) ∧ BrAt H v (breach y (runE y es))
theorem DatN.d {CD C Cy : Addr} {H0 H : Hp} {p : Addr} {y : Yr} {es : List (Int × En)} : DatN CD C Cy H0 H p y es → DatD CD C Cy H p y es := fun ⟨dx, tp, v, h1, h2, h3⟩ => ⟨dx, tp, v, h1, h2.d, h3⟩
theorem DatN.mono {CD C Cy : Addr} {H0 H1 H : Hp} {p : Addr} {y : Yr} {es : List (Int × En)} (h : ∀ b, H1 b = none → H0 b = none) : DatN CD C Cy H1 H p y es → DatN CD C Cy H0 H p y es := fun ⟨dx, tp, v, h1, h2, h3⟩ => ⟨dx, tp, v, h1, h2.mono h, h3⟩
theorem BrAt.to {H H' : Hp} (m : ∀ b xs, H b = some (.tup xs) → H' b = some (.tup xs)) {v : V} : ∀ {b : Option (Int × Pl)}, BrAt H v b → BrAt H' v b
  | none, h => h
  | some _, ⟨t, u, e, h1, h2⟩ => ⟨t, u, e, m _ _ h1, m _ _ h2⟩
theorem DatN.same {CD C Cy : Addr} {H0 H H' : Hp} (s : Same H H') {p : Addr} {y : Yr} {es : List (Int × En)} : DatN CD C Cy H0 H p y es → DatN CD C Cy H0 H' p y es := fun ⟨dx, tp, v, h1, h2, h3⟩ => ⟨dx, tp, v, s _ _ h1, h2.same s, h3.to fun _ _ e => s _ _ e⟩
theorem DatN.keep {CD C Cy : Addr} {H0 H H' : Hp} {p : Addr} {y : Yr} {es : List (Int × En)} {q : Addr} {i j k : Int} (hq : H q = some (.lst [.int i, .int j, .int k])) (h0 : H0 q ≠ none) (m : KB q H H') : DatN CD C Cy H0 H p y es → DatN CD C Cy H0 H' p y es := fun ⟨dx, tp, v, h1, h2, h3⟩ => by
  have g : ∀ {b : Addr} {o : HO}, H b = some o → (∀ xs, o ≠ .lst xs) → H' b = some o := fun e n => m _ _ e fun z => by rw [z, hq] at e; exact n _ (Option.some.inj e).symm
  exact ⟨dx, tp, v, g h1 (fun _ z => nomatch z), h2.keep hq h0 m, h3.to fun _ _ e => g e (fun _ z => nomatch z)⟩
def spDI (CD Ct : Addr) (C : Nat → Addr) (Cy : Addr) (ks : List Nat) : Sp := fun vs H Q _ => ∃ (p dx yp rs : Addr) (y : Yr) (ts : List Addr) (es : List (Int × En)), vs = [.ref p, .ref yp, .ref rs] ∧ H p = some (.ins CD dx []) ∧ YearAt Cy [] H yp y ∧ y.ok ∧ H rs = some (.lst (ts.map V.ref)) ∧ Paired (DatT C H) ts es ∧ es.length ≤ 40 ∧
  (∀ x ∈ es, x.2.k ∈ ks ∧ x.2.ok ∧ x.2.fit (nms y.hs) y.days x.1 = true ∧ 1 ≤ x.1 ∧ x.1 ≤ y.days) ∧ ∀ H' : Hp, KB p H H' → DatN CD Ct Cy H H' p y es → Q .non H'
theorem numR_fst (es : List (Int × En)) : ((numR es).map (·.1)).Nodup := by
  have : (numR es).map (·.1) = (List.range es.length).map fun i : Nat => (i : Int) := by
    unfold numR
    rw [List.map_map]
    refine List.ext_getElem? fun i => ?_
    rw [List.getElem?_map, List.getElem?_map, List.getElem?_zipIdx]
    by_cases h : i < es.length
    · rw [List.getElem?_eq_getElem h, List.getElem?_range h]
      simp
    · rw [List.getElem?_eq_none (by omega), List.getElem?_eq_none (by rw [List.length_range]; omega)]
      rfl
  rw [this]
  exact List.nodup_range.map _ (fun a b h => by omega) |> fun h => h
theorem numR_mem {es : List (Int × En)} {r : R3} (h : r ∈ numR es) : (r.2.1, r.2.2) ∈ es := by
  unfold numR at h
  obtain ⟨q, hq, rfl⟩ := List.mem_map.mp h
  obtain ⟨_, _, e⟩ := List.mem_zipIdx hq
  show q.1 ∈ es
  rw [e]
  exact List.getElem_mem _
end KP
namespace KP
open PySem L2 KD KM KT
theorem BrAt.kb {H H' : Hp} {q CD dx : Addr} {fs : List (Str × V)} (hq : H q = some (.ins CD dx fs)) (m : KB q H H') {v : V} : ∀ {b : Option (Int × Pl)}, BrAt H v b → BrAt H' v b
  | none, h => h
  | some _, ⟨t, u, e, h1, h2⟩ => ⟨t, u, e, m.get hq h1 (fun z => nomatch z), m.get hq h2 (fun z => nomatch z)⟩
section
variable {P : Program} {w : World} {K : PySem.W.Frag} {mg : Str → Option Value} {base : Heap} {C : Nat → Addr} {CD Ct Cy : Addr}
abbrev sDI : Stmt := inClass (top 45) 0
abbrev nDI : List Str := ["self", "year", "rows"]
theorem scDI : FnScope nDI ["self", "year", "rows"] (defScope sDI) := ⟨rfl, rfl, rfl, by decide +kernel, rfl, by decide +kernel, by decide +kernel⟩
set_option maxHeartbeats 1000000 in
theorem c_di (DF : DatF K mg CD) (TF : TalF K mg Ct) {ks : List Nat} (Nu : Cal P w K mg base 4 "numbered" (spNum C Cy ks)) (Ti : MakT P w K mg base 7 "Tally" Ct (spTI Ct Cy)) (Br : MetT P w K mg base 4 Ct "breach" (spTBr Ct Cy)) (D : InitT K CD "Dated.__init__" sDI ["self", "year", "rows"]) : MakT P w K mg base 9 "Dated" CD (spDI CD Ct C Cy ks) := by
  obtain ⟨f, fd, M, F, b⟩ := D.ex
  refine ⟨f, fd, _, M, F.ok scDI (fun vs H Q E h => ?_) (fun cdv A outer s H vs Q E hr h => ?_), DF.mgC, b⟩
  · obtain ⟨p, dx, yp, rs, y, ts, es, rfl, _⟩ := h
    rfl
  · obtain ⟨p, dx, yp, rs, y, ts, es, rfl, hp, hy, ok, hrs, hts, h40, hes, k⟩ := h
    refine ⟨_, (pss_cons (ps_fld (pv 0) (pe_mkT Ti hr (by decide) (by rfl) (pa_cons (pv 1) (pa_cons (pe_cl Nu hr (by decide) (by rfl) (pa_cons (pv 1) (pa_cons (pv 2) pa_nil))) pa_nil))) rfl)
        (pss_one (ps_fld (pv 0) (pe_mtT0 Br hr (by decide) (pe_fld (pv 0) rfl)) rfl))), ?_⟩
    refine ⟨_, rfl, _, rfl, _, rfl, yp, rs, y, ts, es, rfl, hy, ok, hrs, hts, h40, fun x hx => ⟨(hes x hx).1, (hes x hx).2.2⟩, fun L H1 us s1 nL hL hus => ?_⟩
    intro x dx2 nx ndx ne
    have s2 : Same H1 (upd (upd H1 dx2 (.own x)) x (.ins Ct dx2 [])) := fun b o e => by
      rw [upd_ne (ne_of_none e nx), upd_ne (ne_of_none e ndx)]
      exact e
    have hx : upd (upd H1 dx2 (.own x)) x (.ins Ct dx2 []) x = some (.ins Ct dx2 []) := upd_same
    generalize upd (upd H1 dx2 (.own x)) x (.ins Ct dx2 []) = H2 at s2 hx ⊢
    have s02 := s1.trans s2
    have hp1 := s1 _ _ hp
    have npx : p ≠ x := fun z => by rw [z, nx] at hp1; cases hp1
    have nl : (numR es).length ≤ 100 := by unfold numR; rw [List.length_map, List.length_zipIdx]; omega
    refine ⟨x, dx2, yp, L, y, us, numR es, rfl, hx, hy.same s02, ok, s2 _ _ hL, L2.Paired.mapP hus (fun _ _ e => e.same s2), fun r hr => (hes _ (numR_mem hr)).2, numR_fst es, nl, fun H3 kb T3 => ⟨rfl, ?_⟩⟩
    have hp3 := kb _ _ (s02 _ _ hp) npx
    have k3 : ∀ b o, H b = some o → b ≠ p → H3 b = some o := fun b o e _ => kb _ _ (s02 _ _ e) (ne_of_none (s1 _ _ e) nx)
    refine ⟨_, rfl, p, CD, dx, _, rfl, hp3, DF.cl, DF.nt, (by show 0 < 1000; omega), ?_⟩
    rw [putF_new (by show ("tally" : Str) ∉ ([] : List Str); decide +kernel)]
    generalize e4 : upd H3 p _ = H4
    have k4 : KB p H3 H4 := by rw [← e4]; exact KB.set
    have hp4 : H4 p = some (.ins CD dx [("tally", .ref x)]) := by rw [← e4]; exact upd_same
    have T4N := TalN.kb (q := p) hp3 (by show 0 ≤ 1; omega) k4 T3
    have T4 := T4N.d
    have n02 : ∀ b, H2 b = none → H b = none := fun b n => by
      cases e : H b with
      | none => rfl
      | some o => rw [s02 _ _ e] at n; cases n
    obtain ⟨a, dtk, sb, tk, sd, sl, E4⟩ := id T4
    have fz : (runE y es).fa.length ≤ 1000 := by
      have g := (grow_rows (y := y) (gone (numR es)) (s := TSt.zero)).2
      have l : (gone (numR es)).length = (numR es).length := (List.mergeSort_perm ..).length_eq
      have z0 : TSt.zero.pr.length + TSt.zero.tk.length + TSt.zero.fa.length = 0 := rfl
      show (run y (gone (numR es))).fa.length ≤ 1000
      unfold run
      omega
    refine ⟨_, rfl, p, CD, dx, _, _, rfl, hp4, DF.cl, DF.nt, rfl, x, a.dx, _, rfl, E4.ins, tE_no (by decide +kernel), x, y, numR es, runE y es, rfl, T4, fz, fun v H5 s5 hb => ?_⟩
    refine ⟨_, rfl, p, CD, dx, _, rfl, s5 _ _ hp4, DF.cl, DF.nb, (by show 1 < 1000; omega), ?_⟩
    rw [putF_new (by show ("first_breach" : Str) ∉ (["tally"] : List Str); decide +kernel)]
    exact k _ ((KB.trans k3 k4).trans ((KB.of s5).trans KB.set)) ⟨dx, x, v, upd_same, TalN.kb (s5 _ _ hp4) (by show 1 ≤ 1; omega) KB.set ((T4N.mono n02).same s5), BrAt.kb (s5 _ _ hp4) KB.set hb⟩
end
end KP
namespace KP
open PySem L2 KD KM KT
/-- no breach has come at the day -/
def Clear (y : Yr) (s : TSt) (d : Int) : Prop := ∀ b q, breach y s = some (b, q) → d < b
def spCkH (Cy : Addr) : Sp := fun vs H Q _ => ∃ (yp : Addr) (h : Str) (y : Yr), vs = [.ref yp, .str h] ∧ YearAt Cy [] H yp y ∧ y.ok ∧ h ∈ nms y.hs ∧ ∀ H', Same H H' → Q .non H'
def spCkD : Sp := fun vs H Q _ => ∃ d lo hi : Int, vs = [.int d, .int lo, .int hi] ∧ lo ≤ d ∧ d ≤ hi ∧ Q .non H
def spDB (CD Ct Cy : Addr) : Sp := fun vs H Q _ => ∃ (p : Addr) (y : Yr) (es : List (Int × En)), vs = [.ref p] ∧ DatD CD Ct Cy H p y es ∧ ∀ v, BrAt H v (breach y (runE y es)) → Q v H
def spDC (CD Ct Cy : Addr) : Sp := fun vs H Q _ => ∃ (p : Addr) (d : Int) (y : Yr) (es : List (Int × En)), vs = [.ref p, .int d] ∧ DatD CD Ct Cy H p y es ∧ Clear y (runE y es) d ∧ Q .non H
def spDA (CD Ct Cy : Addr) : Sp := fun vs H Q _ => ∃ (p : Addr) (n h : Str) (d : Int) (y : Yr) (es : List (Int × En)), vs = [.ref p, .str n, .str h, .int d] ∧ DatD CD Ct Cy H p y es ∧ n ∈ SUMS ∧ h ∈ nms y.hs ∧ 1 ≤ d ∧ d ≤ y.days ∧ Clear y (runE y es) d ∧ ∀ H', Same H H' → Q (.int ((runE y es).sum n h d)) H'
def spDS1 (n : Str) (CD Ct Cy : Addr) : Sp := fun vs H Q _ => ∃ (p : Addr) (h : Str) (d : Int) (y : Yr) (es : List (Int × En)), vs = [.ref p, .str h, .int d] ∧ DatD CD Ct Cy H p y es ∧ h ∈ nms y.hs ∧ 1 ≤ d ∧ d ≤ y.days ∧ Clear y (runE y es) d ∧ ∀ H', Same H H' → Q (.int ((runE y es).sum n h d)) H'
theorem DatD.same {CD C Cy : Addr} {H H' : Hp} (s : Same H H') {p : Addr} {y : Yr} {es : List (Int × En)} : DatD CD C Cy H p y es → DatD CD C Cy H' p y es := fun ⟨dx, tp, v, h1, h2, h3⟩ => ⟨dx, tp, v, s _ _ h1, h2.same s, h3.same s⟩
section
variable {P : Program} {w : World} {K : PySem.W.Frag} {mg : Str → Option Value} {base : Heap} {CD Ct Cy : Addr}
abbrev sCkH : Stmt := top 23
abbrev nCkH : List Str := ["year", "head"]
theorem scCkH : FnScope nCkH ["year", "head"] (defScope sCkH) := ⟨rfl, rfl, rfl, by decide +kernel, rfl, by decide +kernel, by decide +kernel⟩
abbrev sCkD : Stmt := top 24
abbrev nCkD : List Str := ["day", "least", "most"]
theorem scCkD : FnScope nCkD ["day", "least", "most"] (defScope sCkD) := ⟨rfl, rfl, rfl, by decide +kernel, rfl, by decide +kernel, by decide +kernel⟩
abbrev sDB : Stmt := inClass (top 45) 1
abbrev nDB : List Str := ["self"]
theorem scDB : FnScope nDB ["self"] (defScope sDB) := ⟨rfl, rfl, rfl, by decide +kernel, rfl, by decide +kernel, by decide +kernel⟩
abbrev sDC : Stmt := inClass (top 45) 2
abbrev nDC : List Str := ["self", "date", "day", "place"]
theorem scDC : FnScope nDC ["self", "date"] (defScope sDC) := ⟨rfl, rfl, rfl, by decide +kernel, rfl, by decide +kernel, by decide +kernel⟩
abbrev sDA : Stmt := inClass (top 45) 3
abbrev nDA : List Str := ["self", "name", "head", "date", "year"]
theorem scDA : FnScope nDA ["self", "name", "head", "date"] (defScope sDA) := ⟨rfl, rfl, rfl, by decide +kernel, rfl, by decide +kernel, by decide +kernel⟩
abbrev sDG : Stmt := inClass (top 45) 4
abbrev nDG : List Str := ["self", "head", "date"]
theorem scDG : FnScope nDG ["self", "head", "date"] (defScope sDG) := ⟨rfl, rfl, rfl, by decide +kernel, rfl, by decide +kernel, by decide +kernel⟩
abbrev sDM : Stmt := inClass (top 45) 5
abbrev nDM : List Str := ["self", "head", "date"]
theorem scDM : FnScope nDM ["self", "head", "date"] (defScope sDM) := ⟨rfl, rfl, rfl, by decide +kernel, rfl, by decide +kernel, by decide +kernel⟩
theorem c_ckd (Wh : Cal P w K mg base 1 "is_whole" spWhole) (D : DefT K mg "check_day" sCkD ["day", "least", "most"]) : Cal P w K mg base 2 "check_day" spCkD := by
  refine cal D scCkD (fun vs H Q E h => ?_) (fun f cdv A outer s H vs Q E hr h => ?_)
  · obtain ⟨d, lo, hi, rfl, _⟩ := h
    rfl
  · obtain ⟨d, lo, hi, rfl, h1, h2, k⟩ := h
    refine ⟨_, (pss_one (ps_if (pt_not (pt_val (pe_cl Wh hr (by decide) (by rfl) (pa_cons (pv 0) (pa_cons (pv 1) (pa_cons (pv 2) pa_nil)))))) (pss_one ps_never) pss_nil)), ?_⟩
    refine ⟨_, rfl, _, rfl, _, rfl, _, _, _, rfl, _, rfl, ?_⟩
    rw [decide_eq_true ⟨h1, h2⟩]
    exact iteF k
theorem c_db (DF : DatF K mg CD) (D : MethT K CD "breach" "Dated.breach" sDB ["self"]) : MetT P w K mg base 1 CD "breach" (spDB CD Ct Cy) := by
  refine met DF.cl D scDB (fun vs H Q E h => ?_) (fun f cdv A outer s H vs Q E hr h => ?_)
  · obtain ⟨p, y, es, rfl, _⟩ := h
    rfl
  · obtain ⟨p, y, es, rfl, ⟨dx, tp, v, hp, T, hb⟩, k⟩ := h
    refine ⟨_, (pss_one (ps_ret (pe_fld (pv 0) rfl))), ?_⟩
    exact ⟨_, rfl, p, CD, dx, _, _, rfl, hp, DF.cl, DF.nb, rfl, k v hb⟩
theorem c_da (DF : DatF K mg CD) (TF : TalF K mg Ct) (Y : YearF K mg Cy) (Ch : Cal P w K mg base 2 "check_head" (spCkH Cy)) (Cd : Cal P w K mg base 2 "check_day" spCkD) (Cp : MetT P w K mg base 1 CD "check_passed" (spDC CD Ct Cy)) (Sa : MetT P w K mg base 1 Ct "sum_at" (spTSA Ct Cy)) (D : MethT K CD "ask" "Dated.ask" sDA ["self", "name", "head", "date"]) : MetT P w K mg base 3 CD "ask" (spDA CD Ct Cy) := by
  refine met DF.cl D scDA (fun vs H Q E h => ?_) (fun f cdv A outer s H vs Q E hr h => ?_)
  · obtain ⟨p, n, h, d, y, es, rfl, _⟩ := h
    rfl
  · obtain ⟨p, n, h, d, y, es, rfl, DD, hn, hh, d0, d1, cl, k⟩ := h
    obtain ⟨dx, tp, v, hp, T, hb⟩ := id DD
    obtain ⟨a, dtk, sb, tk, sd, sl, T0⟩ := id T
    refine ⟨_, (pss_cons (ps_set (i := 4) scDA.nd rfl (by first | exact Or.inl rfl | exact Or.inr rfl) (pe_fld (pe_fld (pv 0) rfl) rfl))
        (pss_cons (ps_expr (pe_cl Ch hr (by decide) (by rfl) (pa_cons (pv 4) (pa_cons (pv 2) pa_nil))))
        (pss_cons (ps_expr (pe_cl Cd hr (by decide) (by rfl) (pa_cons (pv 3) (pa_cons pe_int (pa_cons (pe_fld (pv 4) rfl) pa_nil)))))
        (pss_cons (ps_expr (pe_mtT Cp hr (by decide) (pv 0) (pa_cons (pv 3) pa_nil)))
        (pss_one (ps_ret (pe_mtT Sa hr (by decide) (pe_fld (pv 0) rfl) (pa_cons (pv 1) (pa_cons (pv 2) (pa_cons (pv 3) pa_nil)))))))))), ?_⟩
    refine ⟨_, rfl, p, CD, dx, _, _, rfl, hp, DF.cl, DF.nt, rfl, tp, Ct, a.dx, _, _, rfl, T0.ins, TF.cl, TF.na _ (by simp [tKeys]), rfl, ?_⟩
    refine ⟨_, rfl, _, rfl, a.yp, h, y, rfl, T0.yr, T0.ok, hh, fun H1 s1 => ?_⟩
    have T1 := T0.same s1
    obtain ⟨dy, l1, l2, l3, t1, t2, t3, hyp, _⟩ := T1.yr.ex
    refine ⟨_, rfl, _, rfl, a.yp, Cy, dy, _, .int y.days, rfl, hyp, Y.cl, Y.nd, rfl, d, 1, y.days, rfl, d0, d1, ?_⟩
    have nfm : ([("tally", V.ref tp), ("first_breach", v)] : List (Str × V)).lookup ("check_passed" : Str) = none := look_no (by show ("check_passed" : Str) ∉ (["tally", "first_breach"] : List Str); decide +kernel)
    refine ⟨_, rfl, p, dx, _, rfl, s1 _ _ hp, nfm, _, rfl, p, d, y, es, rfl, DD.same s1, cl, ?_⟩
    exact ⟨_, rfl, p, CD, dx, _, _, rfl, s1 _ _ hp, DF.cl, DF.nt, rfl, tp, a.dx, _, rfl, T1.ins, tE_no (by decide +kernel), _, rfl, _, rfl, _, rfl, tp, n, h, d, y, _, _, rfl, T.same s1, hn, hh, by omega, by omega, k _ s1⟩
end
end KP
namespace KP
open PySem L2 KD KM KT
section
variable {P : Program} {w : World} {K : PySem.W.Frag} {mg : Str → Option Value} {base : Heap} {CD Ct Cy : Addr}
theorem c_ckh (Nm : MetT P w K mg base 1 Cy "names" (spYN Cy)) (D : DefT K mg "check_head" sCkH ["year", "head"]) : Cal P w K mg base 2 "check_head" (spCkH Cy) := by
  refine cal D scCkH (fun vs H Q E h => ?_) (fun f cdv A outer s H vs Q E hr h => ?_)
  · obtain ⟨yp, h, y, rfl, _⟩ := h
    rfl
  · obtain ⟨yp, h, y, rfl, hy, ok, hh, k⟩ := h
    obtain ⟨dy, l1, l2, l3, t1, t2, t3, hyp, _⟩ := hy.ex
    have yfn : (yf y.days l1 l2 l3).lookup ("names" : Str) = none := yf_no (by decide +kernel) (by decide +kernel) (by decide +kernel) (by decide +kernel)
    refine ⟨_, (pss_one (ps_if (pt_cmpR op_notIn_seq (pv 1) (pe_mtT0 Nm hr (by decide) (pv 0)) rfl) (pss_one ps_never) pss_nil)), ?_⟩
    refine ⟨_, rfl, _, rfl, yp, dy, _, rfl, hyp, yfn, yp, y, rfl, hy, ok.h.l8, fun q nq => ?_⟩
    refine ⟨q, _, rfl, .inl (SqL.of upd_same), rfl, flat_strs, _, rfl, ?_⟩
    rw [inV_str, decide_eq_true hh]
    exact iteF (k _ (same_new nq))
theorem c_dc (DF : DatF K mg CD) (D : MethT K CD "check_passed" "Dated.check_passed" sDC ["self", "date"]) : MetT P w K mg base 1 CD "check_passed" (spDC CD Ct Cy) := by
  refine met DF.cl D scDC (fun vs H Q E h => ?_) (fun f cdv A outer s H vs Q E hr h => ?_)
  · obtain ⟨p, d, y, es, rfl, _⟩ := h
    rfl
  · obtain ⟨p, d, y, es, rfl, ⟨dx, tp, v, hp, T, hb⟩, cl, k⟩ := h
    refine ⟨_, (pss_one (ps_if (pt_cmpR op_notN (pe_fld (pv 0) rfl) pe_non (nomark _)) (pss_cons (ps_asg (pe_fld (pv 0) rfl) (pg_tup rfl (pgs_cons (pg_name (i := 2) scDC.nd rfl (by first | exact Or.inl rfl | exact Or.inr rfl)) (pgs_cons (pg_name (i := 3) scDC.nd rfl (by first | exact Or.inl rfl | exact Or.inr rfl)) pgs_nil))))
        (pss_one (ps_if (pt_cmpR op_le (pv 2) (pv 1) (nomark _)) (pss_one ps_never) pss_nil))) pss_nil)), ?_⟩
    refine ⟨_, rfl, p, CD, dx, _, _, rfl, hp, DF.cl, DF.nb, rfl, ?_⟩
    cases e : breach y (runE y es) with
    | none =>
      rw [e] at hb
      obtain rfl : v = .non := hb
      refine ⟨rfl, _, rfl, ?_⟩
      rw [decide_eq_true rfl]
      exact iteF k
    | some bq =>
      obtain ⟨b, q⟩ := bq
      rw [e] at hb
      obtain ⟨t, u, rfl, ht, hu⟩ := hb
      have lt := cl b q e
      refine ⟨rfl, _, rfl, ?_⟩
      rw [decide_eq_false (fun z => nomatch z)]
      refine iteT ⟨_, rfl, p, CD, dx, _, _, rfl, hp, DF.cl, DF.nb, rfl, t, _, rfl, SqT.of ht, rfl, _, _, rfl, _, _, rfl, rfl, _, rfl, _, rfl, _, _, rfl, rfl, _, rfl, ?_⟩
      rw [decide_eq_false (by omega)]
      exact iteF k
theorem c_dg (DF : DatF K mg CD) (As : MetT P w K mg base 3 CD "ask" (spDA CD Ct Cy)) (D : MethT K CD "given" "Dated.given" sDG ["self", "head", "date"]) : MetT P w K mg base 4 CD "given" (spDS1 "given" CD Ct Cy) := by
  refine met DF.cl D scDG (fun vs H Q E h => ?_) (fun f cdv A outer s H vs Q E hr h => ?_)
  · obtain ⟨p, h, d, y, es, rfl, _⟩ := h
    rfl
  · obtain ⟨p, h, d, y, es, rfl, DD, hh, d0, d1, cl, k⟩ := h
    obtain ⟨dx, tp, v, hp, T, hb⟩ := id DD
    refine ⟨_, (pss_one (ps_ret (pe_mtT As hr (by decide) (pv 0) (pa_cons pe_str (pa_cons (pv 1) (pa_cons (pv 2) pa_nil)))))), ?_⟩
    exact ⟨_, rfl, p, dx, _, rfl, hp, look_no (by show ("ask" : Str) ∉ (["tally", "first_breach"] : List Str); decide +kernel), _, rfl, _, rfl, p, "given", h, d, y, es, rfl, DD, (by decide +kernel), hh, d0, d1, cl, k⟩
theorem c_dm (DF : DatF K mg CD) (As : MetT P w K mg base 3 CD "ask" (spDA CD Ct Cy)) (D : MethT K CD "moved" "Dated.moved" sDM ["self", "head", "date"]) : MetT P w K mg base 4 CD "moved" (spDS1 "moved" CD Ct Cy) := by
  refine met DF.cl D scDM (fun vs H Q E h => ?_) (fun f cdv A outer s H vs Q E hr h => ?_)
  · obtain ⟨p, h, d, y, es, rfl, _⟩ := h
    rfl
  · obtain ⟨p, h, d, y, es, rfl, DD, hh, d0, d1, cl, k⟩ := h
    obtain ⟨dx, tp, v, hp, T, hb⟩ := id DD
    refine ⟨_, (pss_one (ps_ret (pe_mtT As hr (by decide) (pv 0) (pa_cons pe_str (pa_cons (pv 1) (pa_cons (pv 2) pa_nil)))))), ?_⟩
    exact ⟨_, rfl, p, dx, _, rfl, hp, look_no (by show ("ask" : Str) ∉ (["tally", "first_breach"] : List Str); decide +kernel), _, rfl, _, rfl, p, "moved", h, d, y, es, rfl, DD, (by decide +kernel), hh, d0, d1, cl, k⟩
end
end KP
namespace KP
open PySem L2 KD KM KT
section
variable {P : Program} {w : World} {K : PySem.W.Frag} {mg : Str → Option Value} {base : Heap} {CD Ct Cy : Addr}
abbrev sDSp : Stmt := inClass (top 45) 6
abbrev nDSp : List Str := ["self", "head", "date"]
theorem scDSp : FnScope nDSp ["self", "head", "date"] (defScope sDSp) := ⟨rfl, rfl, rfl, by decide +kernel, rfl, by decide +kernel, by decide +kernel⟩
theorem c_dsp (DF : DatF K mg CD) (As : MetT P w K mg base 3 CD "ask" (spDA CD Ct Cy)) (D : MethT K CD "spent" "Dated.spent" sDSp ["self", "head", "date"]) : MetT P w K mg base 4 CD "spent" (spDS1 "spent" CD Ct Cy) := by
  refine met DF.cl D scDSp (fun vs H Q E h => ?_) (fun f cdv A outer s H vs Q E hr h => ?_)
  · obtain ⟨p, h, d, y, es, rfl, _⟩ := h
    rfl
  · obtain ⟨p, h, d, y, es, rfl, DD, hh, d0, d1, cl, k⟩ := h
    obtain ⟨dx, tp, v, hp, T, hb⟩ := id DD
    refine ⟨_, (pss_one (ps_ret (pe_mtT As hr (by decide) (pv 0) (pa_cons pe_str (pa_cons (pv 1) (pa_cons (pv 2) pa_nil)))))), ?_⟩
    exact ⟨_, rfl, p, dx, _, rfl, hp, look_no (by show ("ask" : Str) ∉ (["tally", "first_breach"] : List Str); decide +kernel), _, rfl, _, rfl, p, "spent", h, d, y, es, rfl, DD, (by decide +kernel), hh, d0, d1, cl, k⟩
abbrev sDPr : Stmt := inClass (top 45) 7
abbrev nDPr : List Str := ["self", "head", "date"]
theorem scDPr : FnScope nDPr ["self", "head", "date"] (defScope sDPr) := ⟨rfl, rfl, rfl, by decide +kernel, rfl, by decide +kernel, by decide +kernel⟩
theorem c_dpr (DF : DatF K mg CD) (As : MetT P w K mg base 3 CD "ask" (spDA CD Ct Cy)) (D : MethT K CD "promised" "Dated.promised" sDPr ["self", "head", "date"]) : MetT P w K mg base 4 CD "promised" (spDS1 "promised" CD Ct Cy) := by
  refine met DF.cl D scDPr (fun vs H Q E h => ?_) (fun f cdv A outer s H vs Q E hr h => ?_)
  · obtain ⟨p, h, d, y, es, rfl, _⟩ := h
    rfl
  · obtain ⟨p, h, d, y, es, rfl, DD, hh, d0, d1, cl, k⟩ := h
    obtain ⟨dx, tp, v, hp, T, hb⟩ := id DD
    refine ⟨_, (pss_one (ps_ret (pe_mtT As hr (by decide) (pv 0) (pa_cons pe_str (pa_cons (pv 1) (pa_cons (pv 2) pa_nil)))))), ?_⟩
    exact ⟨_, rfl, p, dx, _, rfl, hp, look_no (by show ("ask" : Str) ∉ (["tally", "first_breach"] : List Str); decide +kernel), _, rfl, _, rfl, p, "promised", h, d, y, es, rfl, DD, (by decide +kernel), hh, d0, d1, cl, k⟩
abbrev sDHe : Stmt := inClass (top 45) 8
abbrev nDHe : List Str := ["self", "head", "date"]
theorem scDHe : FnScope nDHe ["self", "head", "date"] (defScope sDHe) := ⟨rfl, rfl, rfl, by decide +kernel, rfl, by decide +kernel, by decide +kernel⟩
theorem c_dhe (DF : DatF K mg CD) (As : MetT P w K mg base 3 CD "ask" (spDA CD Ct Cy)) (D : MethT K CD "held" "Dated.held" sDHe ["self", "head", "date"]) : MetT P w K mg base 4 CD "held" (spDS1 "held" CD Ct Cy) := by
  refine met DF.cl D scDHe (fun vs H Q E h => ?_) (fun f cdv A outer s H vs Q E hr h => ?_)
  · obtain ⟨p, h, d, y, es, rfl, _⟩ := h
    rfl
  · obtain ⟨p, h, d, y, es, rfl, DD, hh, d0, d1, cl, k⟩ := h
    obtain ⟨dx, tp, v, hp, T, hb⟩ := id DD
    refine ⟨_, (pss_one (ps_ret (pe_mtT As hr (by decide) (pv 0) (pa_cons pe_str (pa_cons (pv 1) (pa_cons (pv 2) pa_nil)))))), ?_⟩
    exact ⟨_, rfl, p, dx, _, rfl, hp, look_no (by show ("ask" : Str) ∉ (["tally", "first_breach"] : List Str); decide +kernel), _, rfl, _, rfl, p, "held", h, d, y, es, rfl, DD, (by decide +kernel), hh, d0, d1, cl, k⟩
abbrev sDLe : Stmt := inClass (top 45) 9
abbrev nDLe : List Str := ["self", "head", "date"]
theorem scDLe : FnScope nDLe ["self", "head", "date"] (defScope sDLe) := ⟨rfl, rfl, rfl, by decide +kernel, rfl, by decide +kernel, by decide +kernel⟩
theorem c_dle (DF : DatF K mg CD) (As : MetT P w K mg base 3 CD "ask" (spDA CD Ct Cy)) (D : MethT K CD "left" "Dated.left" sDLe ["self", "head", "date"]) : MetT P w K mg base 4 CD "left" (spDS1 "left" CD Ct Cy) := by
  refine met DF.cl D scDLe (fun vs H Q E h => ?_) (fun f cdv A outer s H vs Q E hr h => ?_)
  · obtain ⟨p, h, d, y, es, rfl, _⟩ := h
    rfl
  · obtain ⟨p, h, d, y, es, rfl, DD, hh, d0, d1, cl, k⟩ := h
    obtain ⟨dx, tp, v, hp, T, hb⟩ := id DD
    refine ⟨_, (pss_one (ps_ret (pe_mtT As hr (by decide) (pv 0) (pa_cons pe_str (pa_cons (pv 1) (pa_cons (pv 2) pa_nil)))))), ?_⟩
    exact ⟨_, rfl, p, dx, _, rfl, hp, look_no (by show ("ask" : Str) ∉ (["tally", "first_breach"] : List Str); decide +kernel), _, rfl, _, rfl, p, "left", h, d, y, es, rfl, DD, (by decide +kernel), hh, d0, d1, cl, k⟩
end
end KP
namespace KQ
open PySem PySem.Spec PyProof.Rows L2 PySem.SeqAt
section
variable {X : Cx}
/-- list(range(a, b, c)) -/
def tLstRg3 (ta : TA) : TE := fun σ H Q => ta σ H fun vs H1 => ∃ (i j c : Int) (n : Nat), vs = [.int i, .int j, .int c] ∧ RgC i j c n ∧ n ≤ 16777216 ∧ ∀ q H', Same H1 H' → H1 q = none → H' q = some (.lst ((List.range n).map fun k : Nat => V.int (i + (k : Int) * c))) → Q (.ref q) H'
theorem pe_listRg3 {a b c : Expr} {ta : TA} {p p2 pos pos2 : Pos} (hc : X.calm = true) (hg : Gl X "list") (hm : X.mg "list" = none) (hg2 : Gl X "range") (hm2 : X.mg "range" = none) (ha : PA X [a, b, c] ta)
    (na : starEach [(.Call (.Name "range" p2) [a, b, c] [] pos2 : Expr)] X.env = (false, eval (.Call (.Name "range" p2) [a, b, c] [] pos2) X.env) :: starEach [] X.env := by rfl)
    (hs : starEach [a, b, c] X.env = (false, eval a X.env) :: starEach [b, c] X.env := by rfl) (hpl : (backTo pos2 (starEach [b, c] X.env)).any (·.1) = false := by rfl) :
    PE X (.Call (.Name "list" p) [.Call (.Name "range" p2) [a, b, c] [] pos2] [] pos) (tLstRg3 ta) := by
  refine ⟨fun pins s σ H Q I h => ?_⟩
  refine Call_ (ld_blt I hg hm boot_list (PyProof.Rows.callWith_type1 (args_cons ?_ na) na))
  refine Call_ (ld_blt I hg2 hm2 boot_range (PyProof.Rows.callWith_type1 (thn (ha.run pos2 pins s σ H _ I h) fun us s1 ⟨vs, H1, I1, r1, q1⟩ => ?_) hs hpl))
  obtain ⟨i, j, k, n, e, ⟨c0, c1, c2, c3⟩, n24, q⟩ := q1
  subst e
  cases r1 with
  | cons r rr =>
    cases rr with
    | cons r' rr =>
      cases rr with
      | cons r'' rr =>
        cases rr
        obtain ⟨t, rfl⟩ := r
        obtain ⟨t', rfl⟩ := r'
        obtain ⟨t'', rfl⟩ := r''
        refine call_range_3 c0 ?_ (.inl (PyProof.noPylong_small c1))
        refine args_nil ?_
        have I2 : Inv X pins σ H1 { s1 with heap := s1.heap.push { cls := .type "range", data := .fields #[.int i t, .int j t', .int k t''] } } := I1.kept (t' := s1.toks) fun b o e => Heap.get?_push_of_some _ e
        refine call_list_range (n := n) (I2.ok.hd hc) (IsRange.new ..) c2 c3 (by omega) fun h' tk acc c' hk e' hi => ?_
        refine ⟨.ref _, upd H1 _ (.lst ((List.range n).map fun m : Nat => V.int (i + (m : Int) * k))), I2.laid hk (Nat.le_refl _) (show ObjOk X.prog X.w _ _ _ (.lst _) from ⟨?_, acc.toList, c', ?_, ?_⟩), rfl, q _ _ (fun b o eb => ?_) (I2.hok.fresh (Nat.le_refl _)) upd_same⟩
        · rw [List.length_map, List.length_range, sizeLine_eq]; omega
        · have e : acc.toList.length = n := by rw [Array.length_toList]; exact hi.1
          have := vals_of_get acc.toList (fun m => V.int (i + (m : Int) * k)) fun m u hm => by
            obtain ⟨t, rfl⟩ := hi.2 m u (by rw [← hm, Array.getElem?_toList])
            exact ⟨t, rfl⟩
          rw [e] at this
          exact this
        · rw [Array.toArray_toList]; exact e'
        · rw [upd_ne (ne_of_none eb (I2.hok.fresh (Nat.le_refl _)))]
          exact eb
/-- xs != ys of two lists with the very same things -/
def rNeR (K : PySem.W.Frag) : R2 := fun x y H Q => ∃ a b ts, x = .ref a ∧ y = .ref b ∧ H a = some (.lst (List.map V.ref ts)) ∧ H b = some (.lst (List.map V.ref ts)) ∧ Q (.bl false) H
theorem vals_refs : ∀ {ts : List Addr} {us : List Value}, Vals (ts.map V.ref) us → us = ts.map Value.ref
  | [], _, .nil => rfl
  | t :: ts, _, .cons h r => by rw [vals_refs r, show _ = Value.ref t from h]; rfl
theorem op_neR (hu : X.A.units + 64 < cLine) : OpR X (compareOp .NotEq) (rNeR X.K) := by
  intro pins s σ H x y v u Q I rx ry h
  obtain ⟨a, b, ts, rfl, rfl, ha, hb, q⟩ := h
  cases rx
  cases ry
  obtain ⟨its, r, ⟨o, n, e, hc, hd, hs⟩, _⟩ := I.list (SqL.of ha)
  obtain ⟨its2, r2, ⟨o2, n2, e2, hc2, hd2, hs2⟩, _⟩ := I.list (SqL.of hb)
  have e3 := (vals_refs r).trans (vals_refs r2).symm
  subst e3
  refine RcNeAt.lists (items := its.toArray) (items2 := its.toArray) (e := fun _ => true) ⟨o, e, hc, n, hs⟩ ⟨o2, e2, hc2, n2, hs2⟩ rfl (by omega) (fun j h1 h2 => EqAt.same _) X.prog X.w X.xe _ ⟨.bl false, H, I, ?_, q⟩
  show _ = _
  simp
/-- xs == [] of a list of anything -/
def rEqE (K : PySem.W.Frag) : R2 := fun x y H Q => ∃ a b xs, x = .ref a ∧ y = .ref b ∧ SqL K H a xs ∧ SqL K H b [] ∧ Q (.bl (decide (xs = []))) H
theorem op_eqE (hu : X.A.units + 64 < cLine) : OpR X (compareOp .Eq) (rEqE X.K) := by
  intro pins s σ H x y v u Q I rx ry h
  obtain ⟨a, b, xs, rfl, rfl, ha, hb, q⟩ := h
  cases xs with
  | nil => exact op_eqD hu pins s σ H _ _ v u Q I rx ry ⟨.list [], .list [], .lst ha .nil, .lst hb .nil, rfl, rfl, q⟩
  | cons z zs =>
    cases rx
    cases ry
    obtain ⟨its, r, ⟨o, n, e, hc, hd, hs⟩, _⟩ := I.list ha
    obtain ⟨its2, r2, ⟨o2, n2, e2, hc2, hd2, hs2⟩, _⟩ := I.list hb
    cases r2
    cases r with
    | cons p r =>
      rename_i u us
      have hq : Q (.bl false) H := q
      exact SeqAt.eq_list_lengthsAt (items := (u :: us).toArray) (items2 := #[]) ⟨o, e, hc, n, hs⟩ ⟨o2, e2, hc2, n2, hs2⟩ (by simp) (by omega) ⟨.bl _, H, I, rfl, hq⟩
/-- xs != [] of a list of anything -/
def rNeE (K : PySem.W.Frag) : R2 := fun x y H Q => ∃ a b xs, x = .ref a ∧ y = .ref b ∧ SqL K H a xs ∧ SqL K H b [] ∧ Q (.bl (!decide (xs = []))) H
theorem op_neE (hu : X.A.units + 64 < cLine) : OpR X (compareOp .NotEq) (rNeE X.K) := by
  intro pins s σ H x y v u Q I rx ry h
  obtain ⟨a, b, xs, rfl, rfl, ha, hb, q⟩ := h
  cases xs with
  | nil => exact op_neD hu pins s σ H _ _ v u Q I rx ry ⟨.list [], .list [], .lst ha .nil, .lst hb .nil, rfl, rfl, q⟩
  | cons z zs =>
    cases rx
    cases ry
    obtain ⟨its, r, ⟨o, n, e, hc, hd, hs⟩, _⟩ := I.list ha
    obtain ⟨its2, r2, ⟨o2, n2, e2, hc2, hd2, hs2⟩, _⟩ := I.list hb
    cases r2
    cases r with
    | cons p r =>
      rename_i u us
      have hq : Q (.bl true) H := q
      exact RcNeAt.lists_lengths (items := (u :: us).toArray) (items2 := #[]) ⟨o, e, hc, n, hs⟩ ⟨o2, e2, hc2, n2, hs2⟩ (by simp) (by omega) X.prog X.w X.xe _ ⟨.bl _, H, I, rfl, hq⟩
end
end KQ
namespace KP
open PySem L2 KD KM KT

def spCell (K : PySem.W.Frag) : Sp := fun vs H Q _ => ∃ (l : Addr) (ns : List Int) (k : Int), vs = [.ref l, .int k] ∧ SqL K H l (ns.map V.int) ∧ 0 ≤ k ∧ ∀ c, Q (.int c) H
def spMix : Sp := fun vs H Q _ => ∃ c k : Int, vs = [.int c, .int k] ∧ ∀ r, Q (.int r) H
section
variable {P : Program} {w : World} {K : PySem.W.Frag} {mg : Str → Option Value} {base : Heap}
abbrev sCell : Stmt := top 61
abbrev nCell : List Str := ["_law_script", "_law_k"]
theorem scCell : FnScope nCell ["_law_script", "_law_k"] (defScope sCell) := ⟨rfl, rfl, rfl, by decide +kernel, rfl, by decide +kernel, by decide +kernel⟩
abbrev sMix : Stmt := top 62
abbrev nMix : List Str := ["_law_cell", "_law_k", "_law_number"]
theorem scMix : FnScope nMix ["_law_cell", "_law_k"] (defScope sMix) := ⟨rfl, rfl, rfl, by decide +kernel, rfl, by decide +kernel, by decide +kernel⟩
abbrev sWell : Stmt := top 63
abbrev nWell : List Str := ["_law_cell"]
theorem scWell : FnScope nWell ["_law_cell"] (defScope sWell) := ⟨rfl, rfl, rfl, by decide +kernel, rfl, by decide +kernel, by decide +kernel⟩
abbrev sDraw : Stmt := top 64
abbrev nDraw : List Str := ["_law_well_here", "_law_most", "_law_number"]
theorem scDraw : FnScope nDraw ["_law_well_here", "_law_most"] (defScope sDraw) := ⟨rfl, rfl, rfl, by decide +kernel, rfl, by decide +kernel, by decide +kernel⟩

theorem c_cell (B : Base K mg) (D : DefT K mg "_law_cell_at" sCell ["_law_script", "_law_k"]) : Cal P w K mg base 1 "_law_cell_at" (spCell K) := by
  refine cal D scCell (fun vs H Q E h => ?_) (fun f cdv A outer s H vs Q E hr h => ?_)
  · obtain ⟨l, ns, k, rfl, _⟩ := h
    rfl
  · obtain ⟨l, ns, k, rfl, hl, k0, q⟩ := h
    refine ⟨_, (pss_cons (ps_if (pt_cmpR op_lt (pv 1) (pe_callB call_len_seq (by rfl) B.len (by decide +kernel) (pa_cons (pv 0) pa_nil)) (nomark _)) (pss_one (ps_ret (pe_ix ix_list (pv 0) (pv 1) (fun _ _ => rfl)))) pss_nil)
        (pss_one (ps_ret pe_int))), ?_⟩
    refine ⟨_, rfl, _, rfl, l, _, rfl, .inl hl, _, _, rfl, rfl, _, rfl, ite2 (fun c => ?_) (fun c => ?_)⟩
    · have c := of_decide_eq_true c
      rw [List.length_map] at c
      obtain ⟨v, hv⟩ : ∃ v, ns[k.toNat]? = some v := ⟨ns[k.toNat]'(by omega), List.getElem?_eq_getElem (by omega)⟩
      exact ⟨_, rfl, _, rfl, l, _, k, .int v, rfl, rfl, hl, at_of (j := k.toNat) (by omega) (by rw [List.getElem?_map, hv]; rfl), q _⟩
    · exact q _
theorem c_mix (D : DefT K mg "_law_mixed" sMix ["_law_cell", "_law_k"]) : Cal P w K mg base 1 "_law_mixed" spMix := by
  refine cal D scMix (fun vs H Q E h => ?_) (fun f cdv A outer s H vs Q E hr h => ?_)
  · obtain ⟨c, k, rfl, _⟩ := h
    rfl
  · obtain ⟨c, k, rfl, q⟩ := h
    refine ⟨_, (pss_cons (ps_set (i := 2) scMix.nd rfl (by first | exact Or.inl rfl | exact Or.inr rfl) (pe_op op_mod (pe_op op_mul (pe_op op_add (pe_op op_add (pe_op op_mod (pv 0) pe_int) (pe_op op_mul pe_int (pv 1))) pe_int) pe_int) pe_int))
        (pss_cons (ps_set (i := 2) scMix.nd rfl (by first | exact Or.inl rfl | exact Or.inr rfl) (pe_op op_mod (pe_op op_mul (pv 2) (pe_op op_add (pe_op op_add (pe_op op_fdiv (pv 2) pe_int) pe_int) (pv 1))) pe_int))
        (pss_cons (ps_set (i := 2) scMix.nd rfl (by first | exact Or.inl rfl | exact Or.inr rfl) (pe_op op_mod (pe_op op_mul (pe_op op_add (pv 2) pe_int) (pe_op op_add (pe_op op_add (pe_op op_fdiv (pv 2) pe_int) pe_int) (pe_op op_mul pe_int (pv 1)))) pe_int))
        (pss_one (ps_ret (pe_op op_mod (pe_op op_mul (pe_op op_add (pe_op op_add (pv 2) (pv 1)) pe_int) (pe_op op_add (pe_op op_fdiv (pv 2) pe_int) pe_int)) pe_int)))))), ?_⟩
    have h1 : ∀ n : Int, -(2 ^ 64) < n % 2147483587 ∧ n % 2147483587 < 2 ^ 64 := fun n => by omega
    have h2 : ∀ n : Int, -(2 ^ 64) < n % 2147483579 + 1 ∧ n % 2147483579 + 1 < 2 ^ 64 := fun n => by omega
    have h3 : ∀ n : Int, -(2 ^ 64) < n % 2147483549 / 1201 + 30011 ∧ n % 2147483549 / 1201 + 30011 < 2 ^ 64 := fun n => by omega
    refine ⟨_, rfl, _, _, rfl, rfl, (by show (0 : Int) < 2147483587; decide), _, rfl, _, _, rfl, rfl, Or.inl ⟨by decide, by decide⟩, _, _, rfl, rfl, _, _, rfl, rfl, _, _, rfl, rfl, Or.inr ⟨by decide, by decide⟩, _, _, rfl, rfl, (by show (0 : Int) < 2147483587; decide), ?_⟩
    refine ⟨_, rfl, _, rfl, _, _, rfl, rfl, ⟨by decide, by decide⟩, _, _, rfl, rfl, _, rfl, _, _, rfl, rfl, _, _, rfl, rfl, Or.inl (h1 _), _, _, rfl, rfl, (by show (0 : Int) < 2147483579; decide), ?_⟩
    refine ⟨_, rfl, _, _, rfl, rfl, _, rfl, _, _, rfl, rfl, ⟨by decide, by decide⟩, _, _, rfl, rfl, _, rfl, _, _, rfl, rfl, Or.inl ⟨by decide, by decide⟩, _, _, rfl, rfl, _, _, rfl, rfl, Or.inl (h2 _), _, _, rfl, rfl, (by show (0 : Int) < 2147483549; decide), ?_⟩
    refine ⟨_, rfl, _, rfl, _, _, rfl, rfl, _, _, rfl, rfl, _, rfl, _, _, rfl, rfl, ⟨by decide, by decide⟩, _, _, rfl, rfl, _, _, rfl, rfl, Or.inr (h3 _), _, _, rfl, rfl, (by show (0 : Int) < 2147483497; decide), q _⟩
theorem c_well (D : DefT K mg "_law_well" sWell ["_law_cell"]) : Cal P w K mg base 1 "_law_well" spWell := by
  refine cal D scWell (fun vs H Q E h => ?_) (fun f cdv A outer s H vs Q E hr h => ?_)
  · obtain ⟨c, rfl, _⟩ := h
    rfl
  · obtain ⟨c, rfl, k⟩ := h
    refine ⟨_, (pss_one (ps_ret (pe_lstW (pa_cons (pe_op op_mul (pe_op op_fdivW (pv 0) pe_int) (pe_op op_sub pe_int (pe_op op_mod (pv 0) pe_int))) (pa_cons (pv 0) (pa_cons pe_int pa_nil)))))), ?_⟩
    refine ⟨_, rfl, _, _, rfl, rfl, wide_div (by decide) (b := 60) (by decide) (by decide) (by decide), _, rfl, _, _, rfl, rfl, (by show (0 : Int) < 2; decide), _, _, rfl, rfl, _, _, rfl, rfl, Or.inr ⟨by omega, by omega⟩, _, rfl, (by show 3 ≤ sizeLine; decide), fun l H1 s1 nl hl => ?_⟩
    exact k l _ s1 nl ⟨_, _, _, hl⟩
theorem c_draw (Mx : Cal P w K mg base 1 "_law_mixed" spMix) (D : DefT K mg "_law_draw" sDraw ["_law_well_here", "_law_most"]) : Cal P w K mg base 2 "_law_draw" spDraw := by
  refine cal D scDraw (fun vs H Q E h => ?_) (fun f cdv A outer s H vs Q E hr h => ?_)
  · obtain ⟨a, m, rfl, _⟩ := h
    rfl
  · obtain ⟨a, m, rfl, ⟨x, y, z, ha⟩, m0, m1, k⟩ := h
    refine ⟨_, (pss_cons (ps_if (pt_cmpR op_gt (pe_ix ix_list (pv 0) pe_int (fun _ _ => rfl)) pe_int (nomark _)) (pss_cons (ps_set (i := 2) scDraw.nd rfl (by first | exact Or.inl rfl | exact Or.inr rfl) (pe_op op_mod (pe_ix ix_list (pv 0) pe_int (fun _ _ => rfl)) (pv 1)))
        (pss_cons (ps_asg (pe_op op_fdivW (pe_ix ix_list (pv 0) pe_int (fun _ _ => rfl)) (pv 1)) (pg_sub (pv 0) pe_int set_list))
        (pss_one (ps_ret (pv 2))))) pss_nil)
        (pss_cons (ps_asg (pe_op op_add (pe_ix ix_list (pv 0) pe_int (fun _ _ => rfl)) pe_int) (pg_sub (pv 0) pe_int set_list))
        (pss_one (ps_ret (pe_op op_mod (pe_cl Mx hr (by decide) (by rfl) (pa_cons (pe_ix ix_list (pv 0) pe_int (fun _ _ => rfl)) (pa_cons (pe_ix ix_list (pv 0) pe_int (fun _ _ => rfl)) pa_nil))) (pv 1)))))), ?_⟩
    refine ⟨_, rfl, a, _, 0, .int x, rfl, rfl, SqL.of ha, rfl, _, _, rfl, rfl, _, rfl, ite2 (fun c => ?_) (fun c => ?_)⟩
    · refine ⟨_, rfl, a, _, 0, .int x, rfl, rfl, SqL.of ha, rfl, _, rfl, _, _, rfl, rfl, m0, ?_⟩
      refine ⟨_, rfl, a, _, 0, .int x, rfl, rfl, SqL.of ha, rfl, _, rfl, _, _, rfl, rfl, wide_div m0 (b := 60) (by omega) (by decide) (by decide), ?_⟩
      refine ⟨_, rfl, a, _, 0, 0, rfl, rfl, ha, rfl, ?_⟩
      refine ⟨_, rfl, k _ _ (Int.emod_nonneg _ (by omega)) (Int.emod_lt_of_pos _ m0) ⟨_, _, _, upd_same⟩ fun b o e hb => ?_⟩
      rw [upd_ne hb]
      exact e
    · refine ⟨_, rfl, a, _, 2, .int z, rfl, rfl, SqL.of ha, rfl, _, _, rfl, rfl, _, rfl, a, _, 2, 2, rfl, rfl, ha, rfl, ?_⟩
      refine ⟨_, rfl, a, _, 1, .int y, rfl, rfl, SqL.of upd_same, rfl, _, rfl, a, _, 2, .int (z + 1), rfl, rfl, SqL.of upd_same, rfl, _, _, rfl, fun r => ⟨_, rfl, _, _, rfl, rfl, m0, ?_⟩⟩
      refine k _ _ (Int.emod_nonneg _ (by omega)) (Int.emod_lt_of_pos _ m0) ⟨_, _, _, upd_same⟩ fun b o e hb => ?_
      rw [upd_ne hb]
      exact e
end
end KP
namespace KP
open PySem L2 KD KM KT

theorem cut_S (y : Str) {r : Int} (h : 0 ≤ r) : cutS y none (some r) = SX.S (y.cps.toList.take r.toNat) := by
  rw [C8.cutS_slice]
  have h := SX.slice_to (a := y.cps.toList) (i := r) h
  rw [SX.S_tl] at h
  exact h
/-- a name as drawn: some letters of the stem, and its own last one -/
def NmOk (st : Int) (j : Nat) (x : Str) : Prop := ∃ (cs : List Nat) (c : Nat), x = SX.S (cs ++ [c]) ∧ cs.length ≤ 7 ∧ (∀ z ∈ cs, Ltr z) ∧ Ltr c ∧ letters.cps[((st + 7 * (j : Int)) % 26).toNat]? = some c
theorem NmOk.w {st : Int} {j : Nat} {x : Str} : NmOk st j x → IsW x := fun ⟨cs, c, e, hl, hc, h, _⟩ => by
  rw [e]
  refine isW_S (fun z hz => ?_) (by simp) (by simp; omega)
  rcases List.mem_append.mp hz with hz | hz
  · exact hc z hz
  · rw [List.mem_singleton.mp hz]; exact h
theorem SX_inj {a b : List Nat} (h : SX.S a = SX.S b) : a = b := by
  have := congrArg (fun s : Str => s.cps.toList) h
  simpa using this
theorem NmOk.inj {st : Int} {i j : Nat} {x : Str} (hi : i < 9) (hj : j < 9) : NmOk st i x → NmOk st j x → i = j := fun ⟨cs, c, e, _, _, _, h⟩ ⟨cs', c', e', _, _, _, h'⟩ => by
  have e2 := SX_inj (e.symm.trans e')
  have ec : c = c' := by
    have := congrArg (fun l => l.getLast?) e2
    simpa using this
  subst ec
  have h1 : letters.cps.toList[((st + 7 * (i : Int)) % 26).toNat]? = some c := by rw [Array.getElem?_toList]; exact h
  have h2 : letters.cps.toList[((st + 7 * (j : Int)) % 26).toNat]? = some c := by rw [Array.getElem?_toList]; exact h'
  have := (List.getElem?_inj (by rw [letters_len]; omega) letters_nd).mp (h1.trans h2.symm)
  omega
theorem nd_of {st : Int} {xs : List Str} (h8 : xs.length ≤ 9) (h : ∀ (j : Nat) (x : Str), xs[j]? = some x → NmOk st j x) : xs.Nodup := by
  refine List.pairwise_iff_getElem.mpr fun i j hi hj hij e => ?_
  have e : xs[i]? = xs[j]? := by rw [List.getElem?_eq_getElem hi, List.getElem?_eq_getElem hj, e]
  obtain ⟨x, hx⟩ : ∃ x, xs[j]? = some x := ⟨xs[j], List.getElem?_eq_getElem hj⟩
  have := (h i x (e.trans hx)).inj (by omega) (by omega) (h j x hx)
  omega
section
variable {P : Program} {w : World} {K : PySem.W.Frag} {mg : Str → Option Value} {base : Heap}
abbrev sNames : Stmt := top 65
abbrev nNames : List Str := ["_law_well_here", "_law_many", "_law_letters", "_law_start", "_law_stem", "_law_k"]
theorem scNames : FnScope nNames ["_law_well_here", "_law_many"] (defScope sNames) := ⟨rfl, rfl, rfl, by decide +kernel, rfl, by decide +kernel, by decide +kernel⟩
abbrev sLHds : Stmt := top 67
abbrev nLHds : List Str := ["_law_well_here", "_law_many", "_law_names_here", "_law_k"]
theorem scLHds : FnScope nLHds ["_law_well_here"] (defScope sLHds) := ⟨rfl, rfl, rfl, by decide +kernel, rfl, by decide +kernel, by decide +kernel⟩

theorem c_names (B : Base K mg) (Dr : Cal P w K mg base 2 "_law_draw" spDraw) (D : DefT K mg "_law_names" sNames ["_law_well_here", "_law_many"]) : Cal P w K mg base 3 "_law_names" spNames := by
  refine cal D scNames (fun vs H Q E h => ?_) (fun f cdv A outer s H vs Q E hr h => ?_)
  · obtain ⟨a, m, rfl, _⟩ := h
    rfl
  · obtain ⟨a, m, rfl, ha, m8, k⟩ := h
    have hz : sizeLine = 16777216 := by decide
    have e26 : (letters.length : Int) = 26 := by decide +kernel
    refine ⟨_, (pss_cons (ps_set (i := 2) scNames.nd rfl (by first | exact Or.inl rfl | exact Or.inr rfl) pe_str)
        (pss_cons (ps_set (i := 3) scNames.nd rfl (by first | exact Or.inl rfl | exact Or.inr rfl) (pe_cl Dr hr (by decide) (by rfl) (pa_cons (pv 0) (pa_cons pe_int pa_nil))))
        (pss_cons (ps_set (i := 4) scNames.nd rfl (by first | exact Or.inl rfl | exact Or.inr rfl) (pe_join pe_str (pe_lc (own := [("_law_k", 5)]) (g := (gName 5)) (tt := tYes) rfl scNames.nd (pi_range1 (by rfl) B.range (pa_cons pe_int pa_nil)) (blkOk_by (N := nNames) (sc := defScope sNames) (by decide +kernel)) (fun _ _ _ _ _ => (pg_name (i := 5) scNames.nd rfl (by first | exact Or.inl rfl | exact Or.inr rfl))) (fun _ _ _ _ _ => pts_nil) (fun _ _ _ _ _ => (pe_item_str (pv 2) (pe_cl Dr hr (by decide) (by rfl) (pa_cons (pv 0) (pa_cons pe_int pa_nil))) (fun _ _ => rfl))))))
        (pss_one (ps_ret (pe_lc (own := [("_law_k", 5)]) (g := (gName 5)) (tt := tYes) rfl scNames.nd (pi_range1 (by rfl) B.range (pa_cons (pv 1) pa_nil)) (blkOk_by (N := nNames) (sc := defScope sNames) (by decide +kernel)) (fun _ _ _ _ _ => (pg_name (i := 5) scNames.nd rfl (by first | exact Or.inl rfl | exact Or.inr rfl))) (fun _ _ _ _ _ => pts_nil) (fun _ _ _ _ _ => (pe_op op_add_str (pe_slice sl_str (pv 4) po_none (po_some (pe_cl Dr hr (by decide) (by rfl) (pa_cons (pv 0) (pa_cons pe_int pa_nil))))) (pe_item_str (pv 2) (pe_op op_mod (pe_op op_add (pv 3) (pe_op op_mul pe_int (pv 5))) pe_int) (fun _ _ => rfl)))))))))), ?_⟩
    refine ⟨_, rfl, a, 26, rfl, ha, by decide, by decide, fun st H1 st0 st1 w1 s1 => ?_⟩
    refine ⟨⟨_, rfl⟩, 7, rfl, by decide, by decide, fun D hD => lc_range (lo := 0) (n := 7)
        (fun i H' => ∃ cs : List Nat, cs.length = i ∧ (∀ c ∈ cs, Ltr c) ∧ H' D = some (.lst (cs.map fun c => V.str ⟨#[c]⟩)) ∧ WellAt H' a ∧ SameB a H H')
        ⟨[], rfl, (fun _ h => nomatch h), upd_same, w1.new hD, s1.trans (SameB.of (same_new hD))⟩ ?_ ?_⟩
    · rintro i H3 hi ⟨cs, hl, hL, hd, wd, sd⟩
      refine ⟨rfl, yes (iteT ⟨_, rfl, _, rfl, a, 26, rfl, wd, by decide, by decide, fun r3 H4 r30 r326 w4 s4 => ?_⟩)⟩
      obtain ⟨c, hc, hcl⟩ := let_get r30 r326
      refine ⟨letters, r3, c, rfl, rfl, r30, by omega, by rw [e26]; exact r326, hc, _, s4 D _ hd (w1.ne hD).symm, ?_, cs ++ [c], by simp [hl], ?_, ?_, w4.up (w1.ne hD), ?_⟩
      · rw [List.length_map, hl]; omega
      · intro x hx
        rcases List.mem_append.mp hx with hx | hx
        · exact hL x hx
        · rw [List.mem_singleton.mp hx]; exact hcl
      · rw [upd_same, List.map_append]; rfl
      · exact SameB.newD (H2 := H) (free_ofB w1 s1 hD) (sd.trans s4)
    · rintro H3 ⟨cs, hl, hL, hd, wd, sd⟩
      refine ⟨_, D, cs.map fun c => (⟨#[c]⟩ : Str), rfl, rfl, Or.inl (SqL.of (by rw [hd, List.map_map]; rfl)), ?_, ?_⟩
      · rw [List.map_map, List.length_map, hl]
        have e1 : ∀ l : List Nat, (l.map (Function.comp (fun x : Str => x.length) fun c => (⟨#[c]⟩ : Str))).sum = l.length := by
          intro l
          induction l with
          | nil => rfl
          | cons c l ih => rw [List.map_cons, List.sum_cons, ih]; show 1 + l.length = _; rw [List.length_cons]; omega
        rw [e1, hl]
        show _ + _ * 0 ≤ _
        omega
      · rw [join_is]
        refine ⟨_, rfl, _, rfl, by omega, by omega, fun G hG => lc_range (lo := 0) (n := ((m : Nat) : Int).toNat)
          (fun i H' => ∃ xs : List Str, xs.length = i ∧ (∀ (j : Nat) (x : Str), xs[j]? = some x → NmOk st j x) ∧ H' G = some (.lst (xs.map V.str)) ∧ WellAt H' a ∧ SameB a H H')
          ⟨[], rfl, (fun j x h => by simp at h), upd_same, wd.new hG, sd.trans (SameB.of (same_new hG))⟩ ?_ ?_⟩
        · rintro i H5 hi ⟨xs, xl, xo, xd, w5, s5⟩
          rw [Int.toNat_natCast] at hi
          refine ⟨rfl, yes (iteT ⟨_, rfl, _, rfl, a, 8, rfl, w5, by decide, by decide, fun r H6 r0 r8 w6 s6 => ?_⟩)⟩
          refine ⟨_, rfl, _, rfl, by rw [SX.S_len, hl]; omega, _, rfl, _, rfl, _, rfl, _, _, rfl, rfl, Or.inl ⟨by decide, by decide⟩, _, _, rfl, rfl, _, _, rfl, rfl, (by show (0 : Int) < 26; decide), ?_⟩
          have b0 : 0 ≤ (st + 7 * (0 + (i : Int))) % 26 := Int.emod_nonneg _ (by decide)
          have b1 : (st + 7 * (0 + (i : Int))) % 26 < 26 := Int.emod_lt_of_pos _ (by decide)
          obtain ⟨c, hc, hcl⟩ := let_get b0 b1
          refine ⟨letters, _, c, rfl, rfl, b0, by omega, by rw [e26]; exact b1, hc, _, _, rfl, rfl, ?_, ?_⟩
          · rw [cut_S _ r0, SX.S_len, List.length_take]
            show _ + 1 ≤ _
            omega
          · refine ⟨_, s6 G _ xd (wd.ne hG).symm, by rw [List.length_map, xl]; omega, xs ++ [cutS (SX.S cs) none (some r) ++ (⟨#[c]⟩ : Str)], by simp [xl], ?_, by rw [upd_same, List.map_append]; rfl, w6.up (wd.ne hG), SameB.newD (H2 := H) (free_ofB wd sd hG) (s5.trans s6)⟩
            intro j x hx
            by_cases hj : j < xs.length
            · rw [List.getElem?_append_left hj] at hx
              exact xo j x hx
            · have ej : j = xs.length := by
                have := (List.getElem?_eq_some_iff.mp hx).1
                rw [List.length_append] at this
                simp only [List.length_cons, List.length_nil] at this
                omega
              rw [ej, List.getElem?_append_right (Nat.le_refl _), Nat.sub_self] at hx
              obtain rfl := Option.some.inj hx
              refine ⟨cs.take r.toNat, c, ?_, by rw [List.length_take]; omega, fun z hz => hL z (List.mem_of_mem_take hz), hcl, ?_⟩
              · rw [cut_S _ r0]
                have e : (SX.S cs).cps.toList = cs := by simp
                rw [e]
                exact SX.S_cat _ [c]
              · rw [ej, xl]
                rw [Int.zero_add] at hc
                exact hc
        · rintro H5 ⟨xs, xl, xo, xd, w5, s5⟩
          rw [Int.toNat_natCast] at xl
          exact k G xs H5 xl (fun x hx => by obtain ⟨j, hj⟩ := List.mem_iff_getElem?.mp hx; exact (xo j x hj).w) (nd_of (by omega) xo) (free_ofB wd sd hG) xd w5 s5
end
end KP
namespace KP
open PySem L2 KD KM KT
/-! ### what rows without promises come to -/
abbrev Dl := Cell × Int × Int
def dsum (D : List Dl) (c : Cell) (d : Int) : Int := (D.map fun q => if q.1 = c ∧ q.2.1 = d then q.2.2 else 0).sum
/-- all that is written for the cell till the day -/
def cum (D : List Dl) (c : Cell) (d : Int) : Int := (D.map fun q => if q.1 = c ∧ q.2.1 ≤ d then q.2.2 else 0).sum
theorem dsum_nil {c : Cell} {d : Int} : dsum [] c d = 0 := rfl
theorem dsum_cons {q : Dl} {D : List Dl} {c : Cell} {d : Int} : dsum (q :: D) c d = (if q.1 = c ∧ q.2.1 = d then q.2.2 else 0) + dsum D c d := by unfold dsum; rw [List.map_cons, List.sum_cons]
theorem dsum_app {D E : List Dl} {c : Cell} {d : Int} : dsum (D ++ E) c d = dsum D c d + dsum E c d := by unfold dsum; rw [List.map_append, List.sum_append]
theorem cum_nil {c : Cell} {d : Int} : cum [] c d = 0 := rfl
theorem cum_cons {q : Dl} {D : List Dl} {c : Cell} {d : Int} : cum (q :: D) c d = (if q.1 = c ∧ q.2.1 ≤ d then q.2.2 else 0) + cum D c d := by unfold cum; rw [List.map_cons, List.sum_cons]
theorem cum_app {D E : List Dl} {c : Cell} {d : Int} : cum (D ++ E) c d = cum D c d + cum E c d := by unfold cum; rw [List.map_append, List.sum_append]
theorem psN_add {f g : Int → Int} (n : Nat) : psN (fun d => f d + g d) n = psN f n + psN g n := by
  induction n with
  | zero => rfl
  | succ n ih => rw [psN_succ, psN_succ, psN_succ, ih]; omega
theorem psN_zero (n : Nat) : psN (fun _ => 0) n = 0 := by
  induction n with
  | zero => rfl
  | succ n ih => rw [psN_succ, ih]; omega
theorem psN_pt {e x : Int} (he : 0 ≤ e) (n : Nat) : psN (fun d => if e = d then x else 0) n = if e < n then x else 0 := by
  induction n with
  | zero => rw [if_neg (by omega)]; rfl
  | succ n ih =>
    rw [psN_succ, ih]
    by_cases h1 : e < n
    · rw [if_pos h1, if_neg (by omega), if_pos (by omega)]; omega
    · rw [if_neg h1]
      by_cases h2 : e = n
      · rw [if_pos h2, if_pos (by omega)]; omega
      · rw [if_neg h2, if_neg (by omega)]; omega
theorem psI_dsum {c : Cell} {d : Int} (hd : 0 ≤ d) : ∀ {D : List Dl}, (∀ q ∈ D, 0 ≤ q.2.1) → psI (dsum D c) d = cum D c d
  | [], _ => psN_zero _
  | q :: D, h => by
    have ih := psI_dsum (c := c) hd (D := D) fun q hq => h q (List.mem_cons_of_mem _ hq)
    have e : dsum (q :: D) c = fun d => (if q.1 = c ∧ q.2.1 = d then q.2.2 else 0) + dsum D c d := funext fun d => dsum_cons
    unfold psI at ih ⊢
    rw [e, psN_add, ih, cum_cons]
    congr 1
    by_cases hc : q.1 = c
    · have e1 : (fun d : Int => if q.1 = c ∧ q.2.1 = d then q.2.2 else 0) = fun d => if q.2.1 = d then q.2.2 else 0 := funext fun d => by
        by_cases z : q.2.1 = d
        · rw [if_pos ⟨hc, z⟩, if_pos z]
        · rw [if_neg (fun w => z w.2), if_neg z]
      rw [e1, psN_pt (h q (List.mem_cons_self ..))]
      by_cases z : q.2.1 ≤ d
      · rw [if_pos (by omega), if_pos ⟨hc, z⟩]
      · rw [if_neg (by omega), if_neg (fun w => z w.2)]
    · have e1 : (fun d : Int => if q.1 = c ∧ q.2.1 = d then q.2.2 else 0) = fun _ => 0 := funext fun d => if_neg fun w => hc w.1
      rw [e1, psN_zero, if_neg (fun w => hc w.1)]
def holdD (d u : Int) (h : Str) (x : Int) : List Dl := if d < u then [(.ch "held" h, d, x), (.ch "held" h, u, -x)] else []
def dels (y : Yr) (r : R3) : List Dl := match r.2.2 with
  | .give h c _ => (.ch "given" h, r.2.1, c) :: y.rs.flatMap fun q => if q.1 = h then holdD r.2.1 q.2.2.2 h (c * q.2.1 / q.2.2.1) else []
  | .hold h c u _ => holdD r.2.1 u h c
  | .move h o c _ => [(.ch "moved" h, r.2.1, -c), (.ch "moved" o, r.2.1, c)]
  | .spend h c _ => (.ch "spent" h, r.2.1, c) :: (counting y h r.2.1).map fun k => (.lm k, r.2.1, c)
  | _ => []
def plain : En → Prop
  | .promise .. => False | .lessen .. => False | .out .. => False | _ => True
/-- one state from another by these changes -/
structure By (s s' : TSt) (D : List Dl) : Prop where
  v : ∀ c d, s'.v c d = s.v c d + dsum D c d
  fa : s'.fa = s.fa
  pr : s'.pr = s.pr
theorem By.trans {s s1 s2 : TSt} {D E : List Dl} (a : By s s1 D) (b : By s1 s2 E) : By s s2 (D ++ E) := ⟨fun c d => by rw [b.v, a.v, dsum_app]; omega, b.fa.trans a.fa, b.pr.trans a.pr⟩
theorem By.nil {s : TSt} : By s s [] := ⟨fun c d => by rw [dsum_nil]; omega, rfl, rfl⟩
theorem by_add {s : TSt} {c : Cell} {d x : Int} : By s (s.add c d x) [(c, d, x)] := ⟨fun c' d' => by
  show addV s.v c d x c' d' = _
  rw [dsum_cons, dsum_nil]
  unfold addV
  by_cases h : c' = c ∧ d' = d
  · rw [if_pos h, if_pos ⟨h.1.symm, h.2.symm⟩]
    show _ = s.v c' d' + (x + 0)
    omega
  · rw [if_neg h, if_neg (fun z => h ⟨z.1.symm, z.2.symm⟩)]; omega, rfl, rfl⟩
theorem by_hold {s : TSt} {d u x : Int} {h : Str} : By s (s.hold d u h x) (holdD d u h x) := by
  unfold TSt.hold holdD
  by_cases e : d < u
  · rw [if_pos e, if_pos e]
    exact by_add.trans by_add
  · rw [if_neg e, if_neg e]
    exact .nil
theorem by_foldl {α : Type} {f : TSt → α → TSt} {g : α → List Dl} (h : ∀ s a, By s (f s a) (g a)) : ∀ (l : List α) (s : TSt), By s (l.foldl f s) (l.flatMap g)
  | [], s => .nil
  | a :: l, s => by
    rw [List.foldl_cons, List.flatMap_cons]
    exact (h s a).trans (by_foldl h l _)
theorem by_step {y : Yr} {s : TSt} {r : R3} (hp : plain r.2.2) : By s (s.step y r) (dels y r) := by
  obtain ⟨n, d, e⟩ := r
  cases e with
  | give h c nn =>
    show By s (s.give y d h c) _
    unfold TSt.give
    refine (by_add (c := .ch "given" h) (d := d) (x := c)).trans (by_foldl (fun s q => ?_) y.rs _)
    by_cases e : q.1 = h
    · rw [if_pos e, if_pos e]; exact by_hold
    · rw [if_neg e, if_neg e]; exact .nil
  | hold h c u nn => exact by_hold
  | move h o c nn => exact (by_add (c := .ch "moved" h) (d := d) (x := -c)).trans by_add
  | spend h c nn =>
    show By s ((s.add (.ch "spent" h) d c).take y n d h c) _
    unfold TSt.take
    refine (by_add (c := .ch "spent" h) (d := d) (x := c)).trans ?_
    have := by_foldl (f := fun s k => s.add (.lm k) d c) (g := fun k => [((.lm k : Cell), d, c)]) (fun s k => by_add) (counting y h d) { s.add (.ch "spent" h) d c with tk := (s.add (.ch "spent" h) d c).tk ++ [(n, h, c)] }
    rw [show (counting y h d).map (fun k => ((.lm k : Cell), d, c)) = (counting y h d).flatMap fun k => [((.lm k : Cell), d, c)] by
      induction counting y h d with
      | nil => rfl
      | cons a l ih => rw [List.map_cons, List.flatMap_cons, ih]; rfl]
    exact ⟨fun c' d' => this.v c' d', this.fa, this.pr⟩
  | promise x h c nn => exact absurd hp id
  | lessen x c nn => exact absurd hp id
  | out x c nn => exact absurd hp id
theorem by_rows {y : Yr} : ∀ {rows : List R3} {s : TSt}, (∀ r ∈ rows, plain r.2.2) → By s (rows.foldl (TSt.step y) s) (rows.flatMap (dels y))
  | [], s, _ => .nil
  | r :: rows, s, h => by
    rw [List.foldl_cons, List.flatMap_cons]
    exact (by_step (h r (List.mem_cons_self ..))).trans (by_rows fun q hq => h q (List.mem_cons_of_mem _ hq))
/-! whatever their order -/
theorem sum_perm {l m : List Int} (h : l.Perm m) : l.sum = m.sum := by
  induction h with
  | nil => rfl
  | cons x _ ih => rw [List.sum_cons, List.sum_cons, ih]
  | swap x z l => simp only [List.sum_cons]; omega
  | trans _ _ a b => exact a.trans b
theorem cum_perm {D E : List Dl} (h : D.Perm E) {c : Cell} {d : Int} : cum D c d = cum E c d := sum_perm (h.map _)
theorem gone_perm (rows : List R3) : (gone rows).Perm rows := List.mergeSort_perm ..
/-- what the entries come to, each by itself -/
def delE (y : Yr) (es : List (Int × En)) : List Dl := es.flatMap fun x => dels y (0, x.1, x.2)
theorem dels_n {y : Yr} {n : Int} {x : Int × En} : dels y (n, x.1, x.2) = dels y (0, x.1, x.2) := by
  obtain ⟨d, e⟩ := x
  cases e <;> rfl
theorem numR_dels {y : Yr} {es : List (Int × En)} : (numR es).flatMap (dels y) = delE y es := by
  unfold numR delE
  generalize 0 = k
  rw [List.flatMap_map]
  have : ∀ (es : List (Int × En)) (k : Nat), (es.zipIdx k).flatMap (fun q => dels y ((q.2 : Int), q.1.1, q.1.2)) = es.flatMap fun x => dels y (0, x.1, x.2) := by
    intro es
    induction es with
    | nil => intro k; rfl
    | cons x es ih => intro k; rw [List.zipIdx_cons, List.flatMap_cons, List.flatMap_cons, ih, dels_n]
  exact this es _
theorem numR_plain {es : List (Int × En)} (h : ∀ x ∈ es, plain x.2) : ∀ r ∈ numR es, plain r.2.2 := fun r hr => by
  unfold numR at hr
  obtain ⟨q, hq, rfl⟩ := List.mem_map.mp hr
  obtain ⟨_, _, e⟩ := List.mem_zipIdx hq
  exact h q.1 (by rw [e]; exact List.getElem_mem _)
theorem holdD_pos {d u x : Int} {h : Str} (hd : 0 ≤ d) : ∀ q ∈ holdD d u h x, 0 ≤ q.2.1 := fun q hq => by
  unfold holdD at hq
  split at hq
  · simp only [List.mem_cons, List.not_mem_nil, or_false] at hq
    rcases hq with rfl | rfl
    · exact hd
    · show 0 ≤ u; omega
  · cases hq
theorem dels_pos {y : Yr} {r : R3} (hd : 0 ≤ r.2.1) : ∀ q ∈ dels y r, 0 ≤ q.2.1 := fun q hq => by
  obtain ⟨n, d, e⟩ := r
  cases e with
  | give h c nn =>
    rcases List.mem_cons.mp hq with rfl | hq
    · exact hd
    · obtain ⟨w, _, hw⟩ := List.mem_flatMap.mp hq
      split at hw
      · exact holdD_pos hd q hw
      · cases hw
  | hold h c u nn => exact holdD_pos hd q hq
  | move h o c nn =>
    have hq : q ∈ [((.ch "moved" h : Cell), d, -c), (.ch "moved" o, d, c)] := hq
    simp only [List.mem_cons, List.not_mem_nil, or_false] at hq
    rcases hq with rfl | rfl <;> exact hd
  | spend h c nn =>
    rcases List.mem_cons.mp hq with rfl | hq
    · exact hd
    · obtain ⟨k, _, rfl⟩ := List.mem_map.mp hq
      exact hd
  | promise x h c nn => cases hq
  | lessen x c nn => cases hq
  | out x c nn => cases hq
theorem flatMap_perm {α β : Type} {f : α → List β} {l m : List α} (h : l.Perm m) : (l.flatMap f).Perm (m.flatMap f) := List.Perm.flatMap_right _ h
/-- a cell of the run at a day -/
theorem runE_cum {y : Yr} {es : List (Int × En)} (hp : ∀ x ∈ es, plain x.2) (hd : ∀ x ∈ es, 0 ≤ x.1) {c : Cell} {d : Int} (h0 : 0 ≤ d) : psI ((runE y es).v c) d = cum (delE y es) c d := by
  have hg : ∀ r ∈ gone (numR es), plain r.2.2 := fun r hr => numR_plain hp r ((gone_perm _).mem_iff.mp hr)
  have B := by_rows (y := y) (s := TSt.zero) hg
  have P : ((gone (numR es)).flatMap (dels y)).Perm (delE y es) := by rw [← numR_dels]; exact flatMap_perm (gone_perm _)
  have e : (runE y es).v c = dsum ((gone (numR es)).flatMap (dels y)) c := funext fun d => by
    show (List.foldl (TSt.step y) TSt.zero (gone (numR es))).v c d = _
    rw [B.v]
    show (0 : Int) + _ = _
    omega
  rw [e, psI_dsum h0 (fun q hq => ?_), cum_perm P]
  obtain ⟨x, hx, hq⟩ := List.mem_flatMap.mp (P.mem_iff.mp hq)
  exact dels_pos (hd x hx) q hq
theorem runE_fa {y : Yr} {es : List (Int × En)} (hp : ∀ x ∈ es, plain x.2) : (runE y es).fa = [] ∧ (runE y es).pr = [] := by
  have hg : ∀ r ∈ gone (numR es), plain r.2.2 := fun r hr => numR_plain hp r ((gone_perm _).mem_iff.mp hr)
  have B := by_rows (y := y) (s := TSt.zero) hg
  exact ⟨B.fa, B.pr⟩
/-- a sum of the run, but left -/
theorem runE_sum {y : Yr} {es : List (Int × En)} (hp : ∀ x ∈ es, plain x.2) (hd : ∀ x ∈ es, 0 ≤ x.1) {n h : Str} {d : Int} (h0 : 0 ≤ d) (hn : n ≠ "left") : (runE y es).sum n h d = cum (delE y es) (.ch n h) d := by
  unfold TSt.sum sumV
  rw [if_neg hn, runE_cum hp hd h0]
theorem runE_left {y : Yr} {es : List (Int × En)} (hp : ∀ x ∈ es, plain x.2) (hd : ∀ x ∈ es, 0 ≤ x.1) {h : Str} {d : Int} (h0 : 0 ≤ d) :
    (runE y es).sum "left" h d = cum (delE y es) (.ch "given" h) d + cum (delE y es) (.ch "moved" h) d - cum (delE y es) (.ch "spent" h) d - cum (delE y es) (.ch "promised" h) d - cum (delE y es) (.ch "held" h) d := by
  unfold TSt.sum sumV
  rw [if_pos rfl, runE_cum hp hd h0, runE_cum hp hd h0, runE_cum hp hd h0, runE_cum hp hd h0, runE_cum hp hd h0]
/-- no place at any day -/
theorem breach_no {y : Yr} {s : TSt} (h : ∀ d, 1 ≤ d → d ≤ y.days → places y s d = []) : breach y s = none := by
  unfold breach
  rw [List.findSome?_eq_none_iff]
  intro i hi
  rw [List.mem_range] at hi
  rw [h _ (by omega) (by omega)]
  rfl
end KP
namespace KP
open PySem L2 KD KM KT

/-- Year(..), made -/
theorem mk_year {C : Addr} {Hx : Hp} {y : Yr} {c1 c2 c3 : Addr} {th tl tr : List Addr} (Q1 : RowsAt Hx c1 th (y.hs.map hv)) (Q2 : RowsAt Hx c2 tl (y.ls.map rv)) (Q3 : RowsAt Hx c3 tr (y.rs.map rv)) (ok : y.ok) {R : Addr → Hp → Prop}
    (k : ∀ (x : Addr) (H8 : Hp), Same Hx H8 → YearAt C [] H8 x y → R x H8) :
    ∀ x dx, Hx x = none → Hx dx = none → dx ≠ x → spYear C (.ref x :: ([.int y.days, .ref c1, .ref c2, .ref c3] ++ [])) (upd (upd Hx dx (.own x)) x (.ins C dx [])) (fun v H2 => v = .non ∧ R x H2) E0 := by
  intro x dx nx ndx nex
  have sm : Same Hx (upd (upd Hx dx (.own x)) x (.ins C dx [])) := fun b' o e => by
    rw [upd_ne (ne_of_none e nx), upd_ne (ne_of_none e ndx)]
    exact e
  refine ⟨x, dx, c1, c2, c3, th, tl, tr, y, rfl, upd_same, Q1.same sm, Q2.same sm, Q3.same sm, ok, fun H8 l1 l2 l3 hx8 R1 R2 R3 nl1 nl2 nl3 k8 => ⟨rfl, ?_⟩⟩
  exact k x H8 (Same.made nx ndx k8) ⟨dx, l1, l2, l3, th, tl, tr, hx8, R1, R2, R3, (fun z => nomatch z), (fun z => nomatch z), (fun z => nomatch z)⟩
/-- an entry, made -/
theorem mk_ent {C : Nat → Addr} {Hx : Hp} {e : En} (ok : e.ok) {R : Addr → Hp → Prop} (k : ∀ (x : Addr) (H8 : Hp), Same Hx H8 → EntAt C H8 x e → R x H8) :
    ∀ x dx, Hx x = none → Hx dx = none → dx ≠ x → spInit C e.k (.ref x :: (e.args ++ [])) (upd (upd Hx dx (.own x)) x (.ins (C e.k) dx [])) (fun v H2 => v = .non ∧ R x H2) E0 := by
  intro x dx nx ndx nex
  exact ⟨x, dx, e, by rw [List.append_nil], rfl, ok, upd_same, fun H8 h8 k8 => ⟨rfl, k x H8 (Same.made nx ndx k8) ⟨dx, h8⟩⟩⟩
/-- Dated(..), made -/
theorem mk_datN {CD Ct Cy : Addr} {C : Nat → Addr} {ks : List Nat} {Hx : Hp} {yp rs : Addr} {y : Yr} {ts : List Addr} {es : List (Int × En)} (hy : YearAt Cy [] Hx yp y) (ok : y.ok) (hrs : Hx rs = some (.lst (ts.map V.ref))) (hts : Paired (DatT C Hx) ts es) (h40 : es.length ≤ 40)
    (hes : ∀ x ∈ es, x.2.k ∈ ks ∧ x.2.ok ∧ x.2.fit (nms y.hs) y.days x.1 = true ∧ 1 ≤ x.1 ∧ x.1 ≤ y.days) {R : Addr → Hp → Prop} (k : ∀ (x : Addr) (H8 : Hp), Same Hx H8 → DatN CD Ct Cy Hx H8 x y es → R x H8) :
    ∀ x dx, Hx x = none → Hx dx = none → dx ≠ x → spDI CD Ct C Cy ks (.ref x :: ([.ref yp, .ref rs] ++ [])) (upd (upd Hx dx (.own x)) x (.ins CD dx [])) (fun v H2 => v = .non ∧ R x H2) E0 := by
  intro x dx nx ndx nex
  have sm : Same Hx (upd (upd Hx dx (.own x)) x (.ins CD dx [])) := fun b' o e => by
    rw [upd_ne (ne_of_none e nx), upd_ne (ne_of_none e ndx)]
    exact e
  exact ⟨x, dx, yp, rs, y, ts, es, rfl, upd_same, hy.same sm, ok, sm _ _ hrs, L2.Paired.mapP hts fun _ _ e => e.same sm, h40, hes, fun H8 k8 D8 => ⟨rfl, k x H8 (Same.made nx ndx k8) (D8.mono fun b n => by
    cases e : Hx b with
    | none => rfl
    | some o => rw [sm _ _ e] at n; cases n)⟩⟩
theorem mk_dat {CD Ct Cy : Addr} {C : Nat → Addr} {ks : List Nat} {Hx : Hp} {yp rs : Addr} {y : Yr} {ts : List Addr} {es : List (Int × En)} (hy : YearAt Cy [] Hx yp y) (ok : y.ok) (hrs : Hx rs = some (.lst (ts.map V.ref))) (hts : Paired (DatT C Hx) ts es) (h40 : es.length ≤ 40)
    (hes : ∀ x ∈ es, x.2.k ∈ ks ∧ x.2.ok ∧ x.2.fit (nms y.hs) y.days x.1 = true ∧ 1 ≤ x.1 ∧ x.1 ≤ y.days) {R : Addr → Hp → Prop} (k : ∀ (x : Addr) (H8 : Hp), Same Hx H8 → DatD CD Ct Cy H8 x y es → R x H8) :
    ∀ x dx, Hx x = none → Hx dx = none → dx ≠ x → spDI CD Ct C Cy ks (.ref x :: ([.ref yp, .ref rs] ++ [])) (upd (upd Hx dx (.own x)) x (.ins CD dx [])) (fun v H2 => v = .non ∧ R x H2) E0 :=
  mk_datN hy ok hrs hts h40 hes fun x H8 s d => k x H8 s d.d
/-- the rows handed in are no part of what was made of them -/
theorem TalE.clr {C Cy : Addr} {a : TAd} {dtk sb : Addr} {tk : Nat → Addr} {sd : Str → Addr} {sl : Str → Str → Addr} {H : Hp} {p : Addr} {y : Yr} {rows : List R3} {s : TSt} (T : TalE C Cy a dtk sb tk sd sl H p y rows s) {G : Addr} {us : List Addr} {o : HO}
    (hG : H G = some (.lst (us.map V.ref))) (ne : us ≠ []) (hu : ∀ t ∈ us, ∃ (d : Int) (q : Addr), H t = some (.tup [.int d, .ref q])) : TalE C Cy a dtk sb tk sd sl (upd H G o) p y rows s := by
  obtain ⟨u0, us', rfl⟩ : ∃ u0 us', us = u0 :: us' := by cases us with | nil => exact absurd rfl ne | cons u r => exact ⟨u, r, rfl⟩
  obtain ⟨d0, q0, hu0⟩ := hu u0 (List.mem_cons_self ..)
  have g : ∀ {b : Addr} {u : HO}, H b = some u → u ≠ .lst ((u0 :: us').map V.ref) → upd H G o b = some u := fun e n => by
    rw [upd_ne (fun z => by rw [z, hG] at e; exact n (Option.some.inj e).symm)]
    exact e
  -- a list of things whose first is no such row
  have gl : ∀ {b : Addr} {ts : List Addr}, H b = some (.lst (ts.map V.ref)) → (∀ t ts', ts = t :: ts' → ∃ u, H t = some u ∧ u ≠ .tup [.int d0, .ref q0]) → upd H G o b = some (.lst (ts.map V.ref)) := fun {b ts} e h => g e fun z => by
    injection z with z
    cases ts with
    | nil => simp at z
    | cons t ts =>
      obtain ⟨u, h1, h2⟩ := h t ts rfl
      have e0 : t = u0 := by simp only [List.map_cons, List.cons.injEq, V.ref.injEq] at z; exact z.1
      rw [e0, hu0] at h1
      exact h2 (Option.some.inj h1).symm
  have gi : ∀ {b : Addr} {f : Int → Int}, H b = some (.lst (chL y.days f)) → upd H G o b = some (.lst (chL y.days f)) := fun e => g e fun z => by
    injection z with z
    exact chL_ne_refs z
  have gr : ∀ {l : Addr} {ts : List Addr} {rs : List (List V)}, RowsAt H l ts rs → (∀ r ∈ rs, r ≠ [.int d0, .ref q0]) → RowsAt (upd H G o) l ts rs := fun {l ts rs} r n => ⟨gl r.1 (fun t ts' et => by
      subst et
      cases rs with
      | nil => exact nomatch r.2
      | cons r0 rs => 
        cases r.2 with
        | cons h _ => exact ⟨_, h, fun z => n r0 (List.mem_cons_self ..) (by injection z)⟩), paired_mono (fun b r e => g e (fun z => nomatch z)) r.2⟩
  obtain ⟨dy, l1, l2, l3, t1, t2, t3, hy, r1, r2, r3, n1, n2, n3⟩ := T.yr.ex
  have nh : ∀ r ∈ y.hs.map hv, r ≠ [.int d0, .ref q0] := fun r hr z => by
    obtain ⟨h, _, rfl⟩ := List.mem_map.mp hr
    unfold hv at z
    simp at z
  have n4 : ∀ (l : List Rw4), ∀ r ∈ l.map rv, r ≠ [.int d0, .ref q0] := fun l r hr z => by
    obtain ⟨h, _, rfl⟩ := List.mem_map.mp hr
    unfold rv at z
    simp at z
  refine ⟨g T.ins (fun z => nomatch z), T.ok, ⟨dy, l1, l2, l3, t1, t2, t3, g hy (fun z => nomatch z), gr r1 nh, gr r2 (n4 _), gr r3 (n4 _), n1, n2, n3⟩, gl T.rws (fun t ts' et => ?_), L2.Paired.mapP T.rwt (fun _ _ ⟨u, h1, h2⟩ => ⟨u, g h1 (fun z => nomatch z), g h2 (fun z => nomatch z)⟩), gl T.fl (fun t ts' et => ?_), L2.Paired.mapP T.flt (fun _ _ e => g e (fun z => nomatch z)), g T.dp (fun z => nomatch z), fun q h => g (T.dpt q h) (fun z => nomatch z), g T.dw (fun z => nomatch z), fun x h => gi (T.dwt x h), g T.dt (fun z => nomatch z), fun q h => g (T.dtt q h) (fun z => nomatch z), gl T.dtk (fun t ts' et => ?_), fun k h => gi (T.dtkt k h), g T.sb (fun z => nomatch z), fun h hh => ⟨g (T.sbt h hh).1 (fun z => nomatch z), fun n hn => gi ((T.sbt h hh).2 n hn)⟩, T.ndw, T.hds, T.ndt⟩
  · have := T.rwt
    rw [et] at this
    cases this with
    | cons h _ =>
      obtain ⟨u, h1, _⟩ := h
      exact ⟨_, h1, fun z => by injection z with z; simp at z⟩
  · have := T.flt
    rw [et] at this
    generalize s.fa = fa at this
    cases this with
    | cons h _ => exact ⟨_, h, fun z => by injection z with z; simp at z⟩
  · have hk : 0 < y.ls.length := by
      have := congrArg List.length et
      rw [List.length_map, List.length_range, List.length_cons] at this
      omega
    have e0 : t = tk 0 := by
      have := congrArg (fun l => l[0]?) et
      simp only [List.getElem?_map, List.getElem?_range hk, Option.map_some, List.getElem?_cons_zero, Option.some.injEq] at this
      exact this.symm
    rw [e0]
    exact ⟨_, T.dtkt 0 hk, fun z => nomatch z⟩
theorem DatD.clr {CD C Cy : Addr} {H : Hp} {p : Addr} {y : Yr} {es : List (Int × En)} {G : Addr} {us : List Addr} {o : HO} (hG : H G = some (.lst (us.map V.ref))) (ne : us ≠ []) (hu : ∀ t ∈ us, ∃ (d : Int) (q : Addr), H t = some (.tup [.int d, .ref q])) : DatD CD C Cy H p y es → DatD CD C Cy (upd H G o) p y es := fun ⟨dx, tp, v, h1, ⟨a, b, c, d, e, f, T⟩, h3⟩ => by
  have g : ∀ {b : Addr} {u : HO}, H b = some u → u ≠ .lst (us.map V.ref) → upd H G o b = some u := fun e n => by
    rw [upd_ne (fun z => by rw [z, hG] at e; exact n (Option.some.inj e).symm)]
    exact e
  refine ⟨dx, tp, v, g h1 (fun z => nomatch z), ⟨a, b, c, d, e, f, T.clr hG ne hu⟩, ?_⟩
  cases e : breach y (runE y es) with
  | none => rw [e] at h3; exact h3
  | some x =>
    rw [e] at h3
    obtain ⟨t, u, e1, h4, h5⟩ := h3
    exact ⟨t, u, e1, g h4 (fun z => nomatch z), g h5 (fun z => nomatch z)⟩
theorem Clear.none {y : Yr} {s : TSt} (h : breach y s = Option.none) (d : Int) : Clear y s d := fun b q e => by rw [h] at e; cases e
end KP
namespace KP
open PySem L2 KD KM KT
/-! ### errors with fields of their own -/
def oexB (K : PySem.W.Frag) (C : Addr) : Bool := match K.lookup C with
  | some o => (match o with
    | ⟨.type "type", _, .cls c, z⟩ => (match c.mro, z.toList with
      | .ref D :: l, [_, _, _, _, some (.builtin n), _] => (decide (D = C) && decide (n = "ValueError.__new__")) && (!c.hasDel && (c.hasDict && PySem.HandSPX.refsVE l))
      | _, _ => false)
    | _ => false)
  | none => false
theorem oexB_ok {K : PySem.W.Frag} {C : Addr} (q : oexB K C = true) : ∃ nm q N bs bm sn sub ab col dd k0 k1 k2 k3 k5, K.lookup C = some (excClassObj nm q C N bs bm true sn sub ab col dd k0 k1 k2 k3 k5 "ValueError.__new__") ∧ PySem.HandSPX.refsVE bm = true := by
  unfold oexB at q
  split at q
  · rename_i o ho
    split at q
    · rename_i dd cd sl
      split at q
      · rename_i D l k0 k1 k2 k3 n k5 hm hs
        simp only [Bool.and_eq_true, decide_eq_true_eq, Bool.not_eq_true'] at q
        obtain ⟨⟨rfl, rfl⟩, hdel, hd, hr⟩ := q
        obtain ⟨nm, bs, mro, ns, qn, hdct, sn, sub, ab, col, del⟩ := cd
        dsimp only at hm hdel hd
        subst hm hdel hd
        have hsl : sl = #[k0, k1, k2, k3, some (.builtin "ValueError.__new__"), k5] := by
          obtain ⟨z⟩ := sl
          simp only at hs
          rw [hs]
        subst hsl
        exact ⟨nm, qn, ns, bs, l, sn, sub, ab, col, dd, k0, k1, k2, k3, k5, ho, hr⟩
      · cases q
    · cases q
  · cases q
/-- a method that may raise -/
structure MetX (P : Program) (w : World) (K : PySem.W.Frag) (mg : Str → Option Value) (base : Heap) (k : Nat) (C : Addr) (m : Str) (sp : Sp) : Prop where
  ex : ∃ f fd ps, Cls K C ∧ Meth K C m f ∧ FnOk P w K mg base (L2.CX P w) k f fd ps sp ∧ Binds K fd ps []
section
variable {X : Cx} {k j : Nat} {m : Str} {C : Addr} {sp : Sp} {pos apos : Pos} {e o : Expr} {es : List Expr} {ta : TE} {t : TA} {E : L2.St → XK}
def tMethX (C : Addr) (m : Str) (sp : Sp) (E : L2.St → XK) (ta : TE) (t : TA) : TE := fun σ H Q => ta σ H fun x H1 => ∃ a dx fs, x = .ref a ∧ H1 a = some (.ins C dx fs) ∧ fs.lookup m = none ∧ t σ H1 fun vs H2 => sp (x :: vs) H2 Q (E σ)
theorem pe_mtX {pl : Sem Bool} (c : MetX X.prog X.w X.K X.mg X.base k C m sp) (hr : Room j X.A) (hk : k ≤ j) (hx : ∀ σ, PassesAt (L2.CX X.prog X.w) X σ (E σ)) (he : PE X o ta) (ha : PA X (e :: es) t)
    (hst : starEach (e :: es) X.env = (false, eval e X.env) :: starEach es X.env := by rfl) (hpl : (backTo pos (starEach es X.env)).any (·.1) = false := by rfl)
    (ht : eval (.Call (.Attribute o m apos) (e :: es) [] pos) X.env = (do
      let ov ← eval o X.env
      standAt apos.atName
      let (f, first) ← holding [ov] (getMethod ov m pl)
      callWith pos f first (backTo pos (starEach (e :: es) X.env)) (backToKw pos (keywordEach [] X.env))) := by rfl) :
    PE X (.Call (.Attribute o m apos) (e :: es) [] pos) (tMethX C m sp E ta t) := by
  obtain ⟨f, fd, ps, c, hm, F, b⟩ := c.ex
  refine ⟨fun pins s σ H Q I h => ?_⟩
  refine PySem.W.methodCall_KW (pl := pl) (thn (he.run pins s σ H _ I h) fun u s1 ⟨x, H1, I1, rx, a, dx, fs, ex, ea, l, q⟩ => ?_) ht
  subst ex
  obtain rfl : u = Value.ref a := rx
  refine getmeth_ok I1 ea c hm l ?_
  refine PySem.W.callWith_K (first := [.ref a]) (h₀ := X.base) I.ok.mod.kin hm.kp (thn (ha.run pos pins s1 σ H1 _ I1 q) fun us s2 ⟨vs, H2, I2, r, q2⟩ => ⟨I2.kIn, ?_⟩) hst hpl
  exact run_fnS (us := .ref a :: us) (vs := .ref a :: vs) F (hr.mono hk) b (hx σ) I2 (.cons rfl r) q2
end
section
variable {P : Program} {w : World} {K : PySem.W.Frag} {mg : Str → Option Value} {base : Heap} {C : Addr}
theorem metX {st : Stmt} {N ps : List Str} {m q : Str} {k : Nat} {sp : Sp} (c : Cls K C) (D : MethT K C m q st ps) (S : FnScope N ps (defScope st)) (len : ∀ vs H Q E, sp vs H Q E → vs.length = ps.length)
    (walk : ∀ (f : Addr) (cdv : Value) (A : Around) (outer : List Env) (s : Shared) (H : Hp) (vs : List V) (Q : VK) (E : XK), Room k (A.deeper (PyProof.Rows.envOfC q (defScope st) s.heap.objs.size f cdv)) → sp vs H Q E → ∃ t, PSs (cxOf (L2.CX P w) P w K mg base N q (defScope st) f cdv A outer s H E) (defBody st) t ∧ t { nx := fun _ H' => Q .non H', rt := Q } (start N vs) H) : MetX P w K mg base (k + 1) C m sp := by
  obtain ⟨f, fd, M, F, b⟩ := D.ex
  exact ⟨f, fd, ps, c, M, F.okX S len (walk f), b⟩
theorem calX {st : Stmt} {N ps : List Str} {x : Str} {k : Nat} {sp : Sp} (D : DefT K mg x st ps) (S : FnScope N ps (defScope st)) (len : ∀ vs H Q E, sp vs H Q E → vs.length = ps.length)
    (walk : ∀ (f : Addr) (cdv : Value) (A : Around) (outer : List Env) (s : Shared) (H : Hp) (vs : List V) (Q : VK) (E : XK), Room k (A.deeper (PyProof.Rows.envOfC x (defScope st) s.heap.objs.size f cdv)) → sp vs H Q E → ∃ t, PSs (cxOf (L2.CX P w) P w K mg base N x (defScope st) f cdv A outer s H E) (defBody st) t ∧ t { nx := fun _ H' => Q .non H', rt := Q } (start N vs) H) : CalX P w K mg base (k + 1) x sp := by
  obtain ⟨f, fd, F, b, m⟩ := D.ex
  exact ⟨f, fd, ps, F.okX S len (walk f), m, F.kp, b⟩
end
/-! ### isinstance of the error that a suite holds -/
/-- its class, its dict -/
def rIsX (K : PySem.W.Frag) (cls : Value) (d : Option Addr) (a : Addr) : List V → Hp → VK → Prop := fun xs H Q => ∃ (D : Addr) (c : V) (u : Value) (b : Bool), cls = .ref D ∧ (d = none ∨ ∃ dx fs, d = some dx ∧ H dx = some (.xd fs)) ∧ ExcC K D ∧ xs = [.ref a, c] ∧ ClsV c u ∧ PySem.W.kitOne K (.ref D) u = some b ∧ Q (.bl b) H
section
variable {X : Cx} {a : Addr} {oe : Obj} {pn : List (Addr × Obj)} {cls : Value} {d : Option Addr}
theorem inst_of {D : Addr} {pins : List (Addr × Obj)} {σ : L2.St} {H : Hp} {s : Shared} (hz : Zc (.ref D) d oe) (hd : d = none ∨ ∃ dx fs, d = some dx ∧ H dx = some (.xd fs)) (hf : ∃ vs, oe.data = .fields vs) (I : Inv (X.suite a ((a, oe) :: pn)) pins σ H s) : ∃ od, PySem.W.InstAt s.heap a oe D od := by
  obtain ⟨hget, _⟩ := I.pin (a, oe) (List.mem_append.mpr (.inl List.mem_cons_self))
  obtain ⟨vs, hv⟩ := hf
  obtain ⟨oc, od, oda, osl⟩ := oe
  obtain ⟨h1, h2⟩ := hz
  dsimp only at h1 h2 hv
  subst h1 h2 hv
  rcases hd with rfl | ⟨dx, fs, rfl, hx⟩
  · exact ⟨none, hget, rfl, rfl, trivial⟩
  · obtain ⟨u, hu⟩ := objOk_get (I.hok dx _ hx)
    exact ⟨some u, hget, rfl, rfl, hu⟩
theorem call_isX (hz : Zc cls d oe) (hf : ∃ vs, oe.data = .fields vs) : CallR (X.suite a ((a, oe) :: pn)) (.builtin "isinstance") (rIsX X.K cls d a) := by
  intro pins s σ H xs us Q I r h
  obtain ⟨D, c, u, b, rfl, hd, C, rfl, k, e, q⟩ := h
  obtain ⟨u1, u2, rfl, r1, r2⟩ := vals2 r
  have e2 := k.eq r2
  subst e2
  cases (show u1 = Value.ref a from r1)
  obtain ⟨od, J⟩ := inst_of hz hd hf I
  exact PySem.W.kia_one (PySem.W.kitx_exc (by obtain ⟨cd, hc, _⟩ := PySem.W.any_some C.hd; rw [hc]; rfl) C.hg C.hk C.hs C.ha C.hn C.ht C.hm) I.kIn J e (fun z => nomatch z) fun tk => ⟨.bl b, H, I.tok tk, rfl, q⟩
end
end KP
namespace KQ
open PySem PySem.Spec PyProof.Rows L2 PySem.SeqAt
/-! min(xs) of pairs of ints -/
def lePr (m x : Int × Int) : Prop := m.1 < x.1 ∨ (m.1 = x.1 ∧ m.2 ≤ x.2)
def tupP (x : Int × Int) : PyData := .tuple [.int x.1, .int x.2]
def minP (p : Int × Int) (ps : List (Int × Int)) : Int × Int := ps.foldl (fun a y => if y.1 < a.1 ∨ (y.1 = a.1 ∧ y.2 < a.2) then y else a) p
theorem minP_eq : ∀ (ps : List (Int × Int)) (p : Int × Int), PySem.W.minD (tupP p) (ps.map tupP) = tupP (minP p ps)
  | [], p => rfl
  | y :: ps, p => by
    have ih := minP_eq ps
    unfold PySem.W.minD minP at ih ⊢
    rw [List.map_cons, List.foldl_cons, List.foldl_cons, ← ih]
    congr 1
    show (if PySem.W.dataLt (.tuple [.int y.1, .int y.2]) (.tuple [.int p.1, .int p.2]) = true then tupP y else tupP p) = _
    rw [PySem.W.dataLt_ii]
    by_cases h : y.1 < p.1 ∨ (y.1 = p.1 ∧ y.2 < p.2)
    · rw [decide_eq_true h, if_pos rfl, if_pos h]
    · rw [decide_eq_false h, if_neg Bool.false_ne_true, if_neg h]
theorem minP_is : ∀ (ps : List (Int × Int)) (p : Int × Int), minP p ps ∈ p :: ps ∧ ∀ x ∈ p :: ps, lePr (minP p ps) x
  | [], p => ⟨List.mem_cons_self .., fun x hx => by rw [List.mem_singleton.mp hx]; exact .inr ⟨rfl, Int.le_refl _⟩⟩
  | y :: ps, p => by
    have e : minP p (y :: ps) = minP (if y.1 < p.1 ∨ (y.1 = p.1 ∧ y.2 < p.2) then y else p) ps := rfl
    by_cases h : y.1 < p.1 ∨ (y.1 = p.1 ∧ y.2 < p.2)
    · rw [e, if_pos h]
      obtain ⟨a, b⟩ := minP_is ps y
      refine ⟨List.mem_cons_of_mem _ a, fun x hx => ?_⟩
      rcases List.mem_cons.mp hx with rfl | hx
      · have := b y (List.mem_cons_self ..)
        unfold lePr at this ⊢
        omega
      · exact b x hx
    · rw [e, if_neg h]
      obtain ⟨a, b⟩ := minP_is ps p
      refine ⟨?_, fun x hx => ?_⟩
      · rcases List.mem_cons.mp a with a | a
        · rw [a]; exact List.mem_cons_self ..
        · exact List.mem_cons_of_mem _ (List.mem_cons_of_mem _ a)
      · rcases List.mem_cons.mp hx with rfl | hx
        · exact b x (List.mem_cons_self ..)
        · rcases List.mem_cons.mp hx with rfl | hx
          · have := b p (List.mem_cons_self ..)
            unfold lePr at this ⊢
            omega
          · exact b x (List.mem_cons_of_mem _ hx)
section
variable {X : Cx}
def rMinP (K : PySem.W.Frag) : List V → Hp → VK → Prop := fun vs H Q => ∃ (a : Addr) (ts : List Addr) (ps : List (Int × Int)), vs = [V.ref a] ∧ SqL K H a (ts.map V.ref) ∧ Paired (fun t p => H t = some (.tup [.int p.1, .int p.2])) ts ps ∧ ps ≠ [] ∧
  ∀ t m, H t = some (.tup [.int m.1, .int m.2]) → m ∈ ps → (∀ x ∈ ps, lePr m x) → Q (.ref t) H
theorem dp_pairs {K : PySem.W.Frag} {H : Hp} : ∀ {ts : List Addr} {ps : List (Int × Int)}, Paired (fun t p => H t = some (.tup [.int p.1, .int p.2])) ts ps → DpAll K H (ts.map V.ref) (ps.map tupP)
  | _, _, .nil => .nil
  | _, _, .cons h r => .cons (.tup (SqT.of h) (.cons (.int _) (.cons (.int _) .nil))) (dp_pairs r)
theorem depth_pairs : ∀ (ps : List (Int × Int)), PyData.depthAll (ps.map tupP) ≤ 8
  | [] => by decide
  | p :: ps => by
    have ih := depth_pairs ps
    show max (tupP p).depth (PyData.depthAll (ps.map tupP)) ≤ 8
    have : (tupP p).depth ≤ 8 := by show PyData.depth (.tuple [.int p.1, .int p.2]) ≤ 8; simp [PyData.depth, PyData.depthAll]
    omega
theorem cr_minP (hc : X.calm = true) (hu : X.A.units + 64 < cLine) : CallR X (.builtin "min") (rMinP X.K) := by
  intro pins s σ H vs us Q I r h
  obtain ⟨a, ts, ps, rfl, hs, hp, hne, q⟩ := h
  obtain ⟨its, rv, hl, _⟩ := I.list hs
  rw [Vals.ref1 r]
  cases ps with
  | nil => exact absurd rfl hne
  | cons p ps =>
    obtain ⟨as, ra⟩ := Dp.readsAll I _ _ _ (dp_pairs hp) rv
    have dd := depth_pairs (p :: ps)
    refine PySem.W.min_list_data (x := tupP p) (xs := ps.map tupP) (I.ok.hd hc) hl.isList (by rw [List.toList_toArray]; exact ra) ⟨fun x hx y hy => ?_, fun x hx => ?_⟩ (by rw [List.map_cons] at dd; omega) fun i v h' tk bs hv hr hk => ?_
    · have hx : x ∈ (p :: ps).map tupP := hx
      have hy : y ∈ (p :: ps).map tupP := hy
      obtain ⟨x', _, rfl⟩ := List.mem_map.mp hx
      obtain ⟨y', _, rfl⟩ := List.mem_map.mp hy
      rfl
    · have hx : x ∈ (p :: ps).map tupP := hx
      obtain ⟨x', _, rfl⟩ := List.mem_map.mp hx
      exact fun z => nomatch z
    · rw [minP_eq] at hr
      have e : its = ts.map Value.ref := vals_refs rv
      have hv : its[i]? = some v := by rw [← hv]; simp
      rw [e, List.getElem?_map] at hv
      cases et : ts[i]? with
      | none => rw [et] at hv; cases hv
      | some t =>
        rw [et] at hv
        obtain rfl := Option.some.inj hv
        obtain ⟨m, hm, ht⟩ := L2.paired_get hp et
        obtain ⟨as2, r2⟩ := Dp.reads I (tupP m) (.ref t) (.ref t) (.tup (SqT.of ht) (.cons (.int _) (.cons (.int _) .nil))) rfl
        have eq := Reads.unique (tupP m) _ _ _ _ rfl (PySem.W.reads_keeps hk r2) hr
        have eq : m = minP p ps := by
          unfold tupP at eq
          injection eq with eq
          injection eq with e1 eq
          injection eq with e2 eq
          injection e1 with e1
          injection e2 with e2
          exact Prod.ext e1 e2
        obtain ⟨k1, k2⟩ := minP_is ps p
        rw [← eq] at k1 k2
        exact ⟨.ref t, H, I.kept hk, rfl, q t m ht k1 k2⟩
end
end KQ
namespace KQ
open PySem PySem.Spec PyProof.Rows L2
/-! min of five ints: it is one of them -/
theorem args_min5 (a b c d e : Value) : argsOk "min" ⟨[a, b, c, d, e], []⟩ := by unfold argsOk; kernel_rfl
section
variable {prog : Program} {w : World} {A : Around} {E : Value → Shared → Prop} {s : Shared}
theorem min_five {a b c d e : Value} {Q : Value → Shared → Prop}
    (h : wpAny (model prog w) A.in1 (pyIter (.ref s.heap.objs.size)) (fun it s₂ => ∃ I fp wr n P St bt, it = .ref I ∧ Walks prog w A.in1 I fp wr n P St ∧ St 0 s₂.heap ∧ (∀ b ∈ fp, b < s₂.heap.objs.size) ∧ 0 < n ∧ CmpOf prog w A.in1 .Lt P bt ∧
      ∀ v h' tk, P (argBest bt (n - 1)) v → (∀ b o, b ∉ wr → s₂.heap.get? b = some o → h'.get? b = some o) → Q v { s₂ with heap := h', toks := tk }) E
      { s with heap := s.heap.push { cls := .type "tuple", data := .seq #[a, b, c, d, e] } }) :
    wpAny (model prog w) A (call (.builtin "min") [a, b, c, d, e]) Q E s := by
  have hname : (toString "min" ++ toString ".loop" : String) = "min.loop" := by decide
  refine call_function_tree F.kind_min F.plain_min F.entry_min (args_min5 _ _ _ _ _) ?_
  show wpAny _ A.in1 (Builtin.Builtins.bindParams "min" ["key", "default"] 0 ⟨[], []⟩ >>= _) _ _ s
  refine wpAny_bind (wpAny_of_eq (show Builtin.Builtins.bindParams "min" ["key", "default"] 0 ⟨[], []⟩ = pure [none, none] from rfl) ?_)
  show wpAny _ A.in1 (newTuple [a, b, c, d, e] >>= _) _ _ s
  refine wpAny_bind (wpAny_newObj_type ?_)
  refine wpAny_bind (wpAny_mono h (fun it s₂ h₂ => ?_) fun _ _ e => e)
  obtain ⟨I, fp, wr, n, P, St, bt, rfl, W, hst, hfp, hn, hcmp, hQ⟩ := h₂
  refine wpAny_bind (wpAny_newObj_type ?_)
  have hSf : s₂.heap.objs.size ∉ fp := fun hm => Nat.lt_irrefl _ (hfp _ hm)
  rw [hname]
  refine wpAny_pure ⟨plainId_quiet F.plain_min_loop _, codeAny_min_loop_first W bt hcmp s₂.heap.objs.size hSf hn (W.frame _ _ _ hst fun b _ o e => Heap.get?_push_of_some _ e) (Heap.get?_push_size _ rfl) fun v h' tk hP hk => ?_⟩
  exact hQ v h' tk hP fun b o hbw e => hk b o hbw (Nat.ne_of_lt (Heap.lt_size e)) (Heap.get?_push_of_some _ e)
theorem min_five_ints {a b c d e : Int} {t1 t2 t3 t4 t5 : Tok} {Q : Value → Shared → Prop} (hh : A.handled = none)
    (h : ∀ h' tk m t, m ∈ [a, b, c, d, e] → (∀ c o, s.heap.get? c = some o → h'.get? c = some o) → Q (.int m t) { s with heap := h', toks := tk }) :
    wpAny (model prog w) A (call (.builtin "min") [.int a t1, .int b t2, .int c t3, .int d t4, .int e t5]) Q E s := by
  have hT : (s.heap.push { cls := .type "tuple", data := .seq #[.int a t1, .int b t2, .int c t3, .int d t4, .int e t5] }).IsTuple s.heap.objs.size (intItems #[(a, t1), (b, t2), (c, t3), (d, t4), (e, t5)]) := ⟨_, Heap.get?_push_size _ rfl, rfl, 0, by simp [intItems]⟩
  refine min_five (wpAny_pyIter_tuple hT ?_)
  have hsz : (s.heap.push { cls := .type "tuple", data := .seq #[.int a t1, .int b t2, .int c t3, .int d t4, .int e t5] }).objs.size = s.heap.objs.size + 1 := Heap.size_push ..
  refine ⟨_, [_, s.heap.objs.size], [_], _, _, _, _, rfl, Walks.tuple (A := A.in1) hh _ s.heap.objs.size (by rw [hsz]; exact Nat.ne_of_lt (Nat.lt_succ_self _)) (intItems #[(a, t1), (b, t2), (c, t3), (d, t4), (e, t5)]),
    ⟨⟨_, Heap.get?_push_size _ rfl, rfl, rfl⟩, hT.push _⟩, fun c hc => ?_, by simp [intItems], CmpOf.ints_lt (numAt #[(a, t1), (b, t2), (c, t3), (d, t4), (e, t5)]) (fun _ _ => intItems_at), fun v h' tk hP hk => ?_⟩
  · show c < ((s.heap.push _).push _).objs.size
    rw [Heap.size_push, hsz]
    rcases List.mem_cons.mp hc with rfl | hc
    · rw [hsz]; exact Nat.lt_succ_self _
    · rcases List.mem_cons.mp hc with rfl | hc
      · exact Nat.lt_succ_of_lt (Nat.lt_succ_self _)
      · cases hc
  · have hold : ∀ c o, s.heap.get? c = some o → h'.get? c = some o := fun c o e => by
      refine hk c o (fun hm => ?_) (Heap.get?_push_of_some _ (Heap.get?_push_of_some _ e))
      rcases List.mem_cons.mp hm with e1 | hm
      · have := Heap.lt_size e; rw [e1, hsz] at this; exact Nat.lt_irrefl _ (Nat.lt_of_succ_lt this)
      · cases hm
    generalize argBest (fun i j => decide (numAt #[(a, t1), (b, t2), (c, t3), (d, t4), (e, t5)] i < numAt #[(a, t1), (b, t2), (c, t3), (d, t4), (e, t5)] j)) ((intItems #[(a, t1), (b, t2), (c, t3), (d, t4), (e, t5)]).size - 1) = i at hP
    have hv : ∃ m t, m ∈ [a, b, c, d, e] ∧ v = Value.int m t := by
      simp only [intItems] at hP
      have hm := Array.mem_of_getElem? hP
      rw [Array.mem_map] at hm
      obtain ⟨p, hp, rfl⟩ := hm
      refine ⟨p.1, p.2, ?_, rfl⟩
      simp only [List.mem_toArray, List.mem_cons, List.not_mem_nil, or_false] at hp
      rcases hp with rfl | rfl | rfl | rfl | rfl <;> simp
    obtain ⟨m, t, hm, rfl⟩ := hv
    exact h h' tk m t hm hold
end
section
variable {X : Cx}
theorem call_min5 (hc : X.calm = true) : CallR X (.builtin "min") (fun xs H Q => ∃ a b c d e : Int, xs = [.int a, .int b, .int c, .int d, .int e] ∧ ∀ m, m ∈ [a, b, c, d, e] → Q (.int m) H) := by
  intro pins s σ H xs us Q I r h
  obtain ⟨a, b, c, d, e, rfl, q⟩ := h
  cases r with | cons r1 r => cases r with | cons r2 r => cases r with | cons r3 r => cases r with | cons r4 r => cases r with | cons r5 r =>
  cases r
  obtain ⟨t1, rfl⟩ := r1
  obtain ⟨t2, rfl⟩ := r2
  obtain ⟨t3, rfl⟩ := r3
  obtain ⟨t4, rfl⟩ := r4
  obtain ⟨t5, rfl⟩ := r5
  exact min_five_ints (I.ok.hd hc) fun h' tk m t hm k => ⟨.int m, H, I.kept k, (show RelV (V.int m) (Value.int m t) from ⟨t, rfl⟩), q m hm⟩
end
end KQ
/-! ### defs that are handed the exception that is handled -/
namespace KEX
open PySem PySem.Spec PyProof.Rows L2 L2H
/-- what such a def promises: by the exception p -/
structure FnP (P : Program) (w : World) (K : PySem.W.Frag) (mg : Str → Option Value) (base : Heap) (CX : CXT) (k : Nat) (f : Addr) (fd : FuncData) (ps : List Str) (sp : Addr × Obj → Sp) : Prop where
  len : ∀ p vs H Q E, sp p vs H Q E → vs.length = ps.length
  run : ∀ (p : Addr × Obj) (A : Around) (outer : List Env) (s : Shared) (H : Hp) (args : Args) (us : List Value) (vs : List V) (Q : VK) (E : XK), RoomH k A → A.handled = some (.ref p.1) → PinOk outer H s p → Env0 P w K mg base A outer s H → BindsTo s fd args (ps.zip us) → Vals vs us → sp p vs H Q E →
    codeAny (model P w) A (.call (.ref f) args) (CR CX outer P w H s Q E) s
/-- from its body, walked with p pinned -/
theorem mark_self {A : Around} {v : Value} (h : A.handled = some v) : A.mark (some v) = A := by
  obtain ⟨a, b, c, d, e⟩ := A
  cases h
  rfl
theorem fnP {P : Program} {w : World} {K : PySem.W.Frag} {mg : Str → Option Value} {base : Heap} {k : Nat} {f : Addr} {fd : FuncData} {x qual : Str} {st : Stmt} {N ps : List Str} {sp : Addr × Obj → Sp} (F : Fun K x qual st f fd) (S : FnScope N ps (defScope st))
    (len : ∀ p vs H Q E, sp p vs H Q E → vs.length = ps.length)
    (walk : ∀ (p : Addr × Obj) (cdv : Value) (A : Around) (outer : List Env) (s : Shared) (H : Hp) (vs : List V) (Q : VK) (E : XK), RoomH k (A.deeper (envOfC qual (defScope st) s.heap.objs.size f cdv)) → A.handled = some (.ref p.1) → sp p vs H Q E →
      ∃ t, PSs ((cxOf CX0 P w K mg base N qual (defScope st) f cdv A outer s H E).suite p.1 [p]) (defBody st) t ∧ t { nx := fun _ H' => Q .non H', rt := Q } (start N vs) H) :
    FnP P w K mg base CX0 (k + 1) f fd ps sp := by
  obtain ⟨oc, od, kV, doc, pm, an, cdv, ct, osl, rfl, lk, hcd⟩ := F.ex
  refine ⟨len, fun p A outer s H args us vs Q E hr hh hpin e0 hb r hsp => ?_⟩
  have kin : K.In s.heap := e0.mod.kin.keeps fun b o e => (e0.bs b o e).1
  have seen : ∀ y ∈ ps.zip us, (defScope st).names.lookup y.1 = some .local ∨ ((defScope st).names.lookup y.1 = some .cell ∧ ((cellsFrom (s.heap.objs.size + 1) (defScope st).names []).lookup y.1).isSome = true) := fun y hy =>
    (S.par y.1 (List.of_mem_zip (a := y.1) (b := y.2) hy).1).imp_right fun q => ⟨q, PySem.W.cellsFrom_some _ _ _ (.inl q)⟩
  obtain ⟨t, ht, hq⟩ := walk p cdv A outer s H vs Q E (hr.deeper _) hh hsp
  have eA : (A.deeper (envOfC qual (defScope st) s.heap.objs.size f cdv)).mark (some (.ref p.1)) = A.deeper (envOfC qual (defScope st) s.heap.objs.size f cdv) := mark_self hh
  have ht : PSs (cxH CX0 P w K mg base N qual (defScope st) f cdv A outer s H E p).nox (defBody st) t := by
    unfold Cx.suite at ht
    dsimp only [cxOf] at ht
    rw [eA] at ht
    exact ht
  have ht := ht.nox
  refine codeAny_call_function hr.depth (kin _ _ lk) rfl S.co S.gen rfl (PySem.W.codeRec_of kin hcd) (hb _ _ _ _ (wpAny_newFunctionEnv_cells S.kind seen fun env he s1 x => ?_))
  subst he
  refine ⟨(e0.mod.nolimit.keeps fun b o e => (e0.bs b o e).1).keeps x.toInCall.keep, codeAny_func (wpAny_mono (ht.run [] s1 _ H _ (inv_startH S hpin e0 (len _ _ _ _ _ hsp) r x) hq) (fun fl s' hs => ?_) fun e s' hs => hs)⟩
  cases fl with
  | ret u => obtain ⟨v, σ', H', J, rv, q⟩ := hs; exact ⟨v, H', J.os, J.bare, J.base, J.hok, rv, q⟩
  | next => obtain ⟨σ', H', J, q⟩ := hs; exact ⟨V.non, H', J.os, J.bare, J.base, J.hok, rfl, q⟩
  | brk => obtain ⟨_, _, _, q⟩ := hs; exact q.elim
  | cont => obtain ⟨_, _, _, q⟩ := hs; exact q.elim
/-! ### the call -/
def tCallP (sp : Addr × Obj → Sp) (p : Addr × Obj) (E : XK) (t : TA) : TE := fun σ H Q => t σ H fun vs H1 => sp p vs H1 Q E
section
variable {X : Cx} {k j : Nat} {f : Addr} {fd : FuncData} {ps : List Str} {sp : Addr × Obj → Sp} {x : Str} {q pos : Pos} {e : Expr} {es : List Expr} {t : TA} {p : Addr × Obj} {CX : CXT} {E : XK}
theorem pe_callP (F : FnP X.prog X.w X.K X.mg X.base CX k f fd ps sp) (hr : RoomH k X.A) (hh : X.A.handled = some (.ref p.1)) (hp : p ∈ X.pn) (hg : Gl X x) (hm : X.mg x = some (.ref f)) (hk : PySem.W.keepIn X.K (.ref f) = true) (hb : Binds X.K fd ps []) (hx : Passes CX X E)
    (ha : PA X (e :: es) t) (hdb : (x == ("__debug__" : Str)) = false := by decide) (he : starEach (e :: es) X.env = (false, eval e X.env) :: starEach es X.env := by rfl) (hpl : (backTo pos (starEach es X.env)).any (·.1) = false := by rfl) :
    PE X (.Call (.Name x q) (e :: es) [] pos) (tCallP sp p E t) := by
  refine ⟨fun pins s σ H Q I h => wpAny_Call_Name_kw (ld_glob I hg hm ?_ hdb)⟩
  refine PySem.W.callWith_K (h₀ := X.base) I.ok.mod.kin hk (thn (ha.run pos pins s σ H _ I h) fun us s1 ⟨vs, H1, I1, r, qq⟩ => ⟨I1.kIn, ?_⟩) he hpl
  have b := hb s1 us I1.kIn (by rw [List.append_nil, ← r.length]; exact F.len _ _ _ _ _ qq)
  rw [List.append_nil] at b
  obtain ⟨g, fr, nl, nf, nc⟩ := I1.pin p (List.mem_append_left _ hp)
  have pin : PinOk X.stack H1 s1 p := ⟨g, fr, fun m => (List.mem_cons.mp (I1.stkSub p.1 m)).elim nl nf, nc⟩
  refine wpAny_call (codeAny_mono (F.run p X.A X.stack s1 H1 ⟨us, []⟩ us vs Q E hr hh pin I1.env0 b r qq) fun z s' hq => ?_)
  cases z with
  | error er => exact hx pins σ H1 s1 er s' I1 hq
  | ok fl =>
    cases fl with
    | ret u => exact I1.after hq
    | next => exact hq.elim
    | brk => exact hq.elim
    | cont => exact hq.elim
end
end KEX
/-! ### a list comprehension over a range where an exception is handled -/
namespace KEX
open PySem PySem.Spec PyProof.Rows L2 L2H
/-- the block's context: what is pinned stays so -/
abbrev blkP (X : Cx) (s : Shared) (H : Hp) (scope : Scope) (ce : Env) (fp : List Addr) : Cx := { X.blk s H scope ce fp with pn := X.pn }
section
variable {X : Cx} {pins : List (Addr × Obj)} {σ σ0 : L2.St} {H : Hp} {s s1 : Shared} {scope : Scope} {ce : Env} {fp : List Addr}
theorem blkP_inv (I : Inv X pins σ0 H s) (B : Inv (X.blk s H scope ce fp) [] σ H s1) (kp : ∀ b o, s.heap.get? b = some o → s1.heap.get? b = some o) (hL : ce.locals = s.heap.objs.size) : Inv (blkP X s H scope ce fp) [] σ H s1 := by
  have o := B.ok
  refine ⟨⟨o.mod, o.kind, o.glob, o.blt, o.above, o.inj, o.has, o.cab, o.hd, o.frames, o.stk, o.exf, o.bs, o.bsz, o.noex, o.exfs, o.funs, o.frf⟩, B.os, B.bare, B.base, B.loc, B.cell, B.free, B.freeC, fun p hp => ?_, B.hok, B.len⟩
  have hp : p ∈ X.pn := by
    have : p ∈ X.pn ++ ([] : List (Addr × Obj)) := hp
    rw [List.append_nil] at this
    exact this
  obtain ⟨g, fr, nl, nf, nc⟩ := I.pin p (List.mem_append_left _ hp)
  refine ⟨kp _ _ g, fr, fun z => ?_, fun m => (List.mem_cons.mp (I.stkSub p.1 m)).elim nl nf, nc⟩
  have z : p.1 = ce.locals := z
  have := Heap.lt_size g
  rw [z, hL] at this
  exact Nat.lt_irrefl _ this
theorem hotB (h : HotC X) : HotC (blkP X s H scope ce fp) := by
  obtain ⟨p, hp, m⟩ := h
  exact ⟨p, hp, m⟩
/-- what the loop keeps at its i-th turn -/
def LpI (X : Cx) (s : Shared) (H : Hp) (scope : Scope) (ce : Env) (fp : List Addr) (σb : L2.St) (tn : Nat → Heap → Prop) (W : Nat → Nat → Hp → Prop) (n : Nat) (s' : Shared) : Prop :=
  ∃ i H', Inv (blkP X s H scope ce fp) [] σb H' s' ∧ tn i s'.heap ∧ (∀ b ∈ fp, H' b = none) ∧ W i n H'
/-- of the iterator's objects, within the block -/
def FpS (X : Cx) (ce : Env) (fp : List Addr) : Prop := ∀ b ∈ fp, ∀ p ∈ X.pn, p.1 ≠ b
theorem fp_stat {H' : Hp} {σb : L2.St} {s' : Shared} (f : FpS X ce fp) (I' : Inv (blkP X s H scope ce fp) [] σb H' s') (hn : ∀ b ∈ fp, H' b = none) : ∀ b ∈ fp, FpOk (blkP X s H scope ce fp) [] H' b := fun b hb =>
  ⟨hn b hb, (I'.ok.exf b hb).1, I'.ok.exfs b hb, .inl hb, fun x c e => (I'.ok.exf b hb).2 x c e, fun p hp => by
    have hp : p ∈ X.pn ++ ([] : List (Addr × Obj)) := hp
    rw [List.append_nil] at hp
    exact f b hb p hp⟩
variable {elt tg iter : Expr} {ifs : List Expr} {pos : Pos} {it D : Addr} {tn : Nat → Heap → Prop} {J : It} {W : Nat → Nat → Hp → Prop} {R : Result → Shared → Prop} {g : TG} {tt : TT} {te : TE} {vs : List Nat} {Done : Hp → Prop}
/-- what a turn is to reach -/
def TurnTo (J : It) (W : Nat → Nat → Hp → Prop) (D : Addr) (g : TG) (tt : TT) (te : TE) (vs : List Nat) (σ : L2.St) (Done : Hp → Prop) : Prop := ∀ i m H, W i m H →
  (J.stop i H ∧ Done H) ∨ (J.go i H ∧ ∃ Nx : Hp → Prop, (∀ H', Nx H' → ∃ m', m' < m ∧ W (i + 1) m' H') ∧ ∀ x H', J.yld i H x H' → g x (wipe σ vs) H' fun σ2 H2 => wipe σ2 vs = wipe σ vs ∧ tt σ2 H2 fun b H3 =>
    if b = true then te σ2 H3 fun y H4 => ∃ acc, H4 D = some (.lst acc) ∧ acc.length < sizeLine ∧ Nx (upd H4 D (.lst (acc ++ [y]))) else Nx H3)
theorem loopP (hot : HotC X) (T : TurnH X.prog X.w X.K tg J fp it tn) (fs : FpS X ce fp) (pg : PG (blkP X s H scope ce fp) tg g) (pt : PTs (blkP X s H scope ce fp) ifs tt) (pe : PE (blkP X s H scope ce fp) elt te)
    (turn : TurnTo J W D g tt te vs σ Done) (fin : ∀ H' s', Inv (blkP X s H scope ce fp) [] (wipe σ vs) H' s' → Done H' → R (.ok .next) s') {n : Nat} (h : LpI X s H scope ce fp (wipe σ vs) tn W n s1) :
    codeAny (model X.prog X.w) X.A (.compLoop (.ListComp elt [⟨tg, iter, ifs, 0⟩] scope pos) 0 (.ref it) (.ref D) ce) R s1 := by
  refine compLoop_any (LpI X s H scope ce fp (wipe σ vs) tn W) (fun n s5 ⟨i, H5, I5, t5, n5, w5⟩ => ?_) n h
  have hB := hotB (s := s) (H := H) (scope := scope) (ce := ce) (fp := fp) hot
  rcases turn i n H5 w5 with ⟨stop, dn⟩ | ⟨go, Nx, hNx, step⟩
  · refine thnF (T.done (blkP X s H scope ce fp) rfl rfl rfl hB i [] s5 _ H5 (fun _ _ => False) I5 (fp_stat fs I5 n5) t5 stop) fun r s6 ⟨hr, I6⟩ => ?_
    subst hr
    exact fin H5 s6 I6 dn
  refine thnF (T.item (blkP X s H scope ce fp) rfl rfl rfl hB i [] s5 _ H5 (fun _ _ => False) I5 (fp_stat fs I5 n5) t5 go) fun r s6 ⟨u, hr, h6⟩ => ?_
  subst hr
  refine thnF h6 fun _ s7 ⟨x, H7, I7, r7, y7, t7, n7⟩ => ?_
  have I7' := I7.pinned (fp_stat fs I7 n7) (T.obj _ _ t7)
  -- behind a turn
  have next : ∀ {σ8 : L2.St} {s' : Shared} {H' : Hp}, Inv (blkP X s H scope ce fp) ([] ++ pinsAt fp s7.heap) σ8 H' s' → wipe σ8 vs = wipe σ vs → Nx H' → ∃ m, m < n ∧ LpI X s H scope ce fp (wipe σ vs) tn W m s' := fun {σ8 s' H'} I' hw nx => by
    obtain ⟨m', hm, w'⟩ := hNx H' nx
    have at_ : ∀ b ∈ fp, ∀ o, s7.heap.get? b = some o → s'.heap.get? b = some o ∧ H' b = none := fun b hb o e => by
      have z := I'.pin (b, o) (List.mem_append_right _ (List.mem_append_right _ (mem_pinsAt hb e)))
      exact ⟨z.1, z.2.1⟩
    refine ⟨m', hm, i + 1, H', (I'.unpinned (pins := [])).weak (by rw [← hw, wipe_length]) (fun j v e => ?_), T.keep _ _ _ t7 fun b hb o e => (at_ b hb o e).1, fun b hb => ?_, w'⟩
    · rw [← hw] at e
      exact (wipe_some e).1
    · obtain ⟨o, e, _⟩ := T.obj _ _ t7 b hb
      exact (at_ b hb o e).2
  refine thnF (pg.run _ s7 _ H7 x u _ I7' r7 (step x H7 y7)) fun _ s8 ⟨σ8, H8, I8, hw8, q8⟩ => ?_
  refine thnF (pt.run _ s8 σ8 H8 _ I8 q8) fun b s9 ⟨H9, I9, q9⟩ => ?_
  cases b with
  | false => exact next I9 hw8 q9
  | true => exact thnF (pe.run _ s9 σ8 H9 _ I9 q9) fun z s10 ⟨yv, H10, I10, r10, acc, hD, hz, nx⟩ => app_ok (X := blkP X s H scope ce fp) I10 hD hz r10 fun s11 I11 => next I11 hw8 nx
end
section
variable {X : Cx} {i : Nat} {y : Str} {py : Pos} {elt tg iter : Expr} {ifs : List Expr} {scope : Scope} {own : List (Str × Nat)} {pos spos : Pos} {wi : TI} {g : TG} {tt : TT} {te : TE}
theorem lcP {pins : List (Addr × Obj)} {s : Shared} {σ : L2.St} {H : Hp} {Q : VK} {pos' : Pos} {use : Option (Value → Sem Unit)} {Qf : Value → Shared → Prop} (hot : HotC X) (hN : X.N.Nodup) (I : Inv X pins σ H s) (hi : PIH X tg iter wi) (ok : BlkOk X.N X.env.scope scope own)
    (hg : ∀ (s : Shared) (H : Hp) (C : Addr) (cl : List (Str × Addr)) (fp : List Addr), PG (blkP X s H scope (compEnvC scope cl C X.env) fp) tg g) (ht : ∀ (s : Shared) (H : Hp) (C : Addr) (cl : List (Str × Addr)) (fp : List Addr), PTs (blkP X s H scope (compEnvC scope cl C X.env) fp) ifs tt)
    (he : ∀ (s : Shared) (H : Hp) (C : Addr) (cl : List (Str × Addr)) (fp : List Addr), PE (blkP X s H scope (compEnvC scope cl C X.env) fp) elt te) (hs : ∀ x, foldedSetIterable iter X.env x = pure x) (h : tLc wi g tt te (own.map (·.2)) σ H Q)
    (back : ∀ D C s' m H', Inv X pins σ H' s' → Q (.ref D) H' → s'.heap.Ns C m → FpOk X pins H' C → compPost (model X.prog X.w) X.A X.xe use Qf (.ref D) C (.ok .next) s') :
    wpAny (model X.prog X.w) X.A (comprehension (.ListComp elt [⟨tg, iter, ifs, 0⟩] scope pos) scope X.env pos' (newList []) false (eval iter X.env) use) Qf X.xe s := by
  have hfree : ∀ z ∈ scope.names, z.2 = .free → ∃ c, X.env.cells.lookup z.1 = some c := fun z hz e => (ok.free z hz e).elim (fun k => I.ok.has _ (.inl k)) fun k => I.ok.has _ (.inr k)
  refine wpAny_comprehension_free (use := use) rfl hs (closure_ok hfree) ok.kind (fun z hz e => by rw [ok.uniq z hz, e]) (thn (hi.run pins s σ H _ I h) fun xv s1 hx => thn hx fun itv s2 ⟨it, fp, tn, J, H2, e, I2, T, t2, f2, q⟩ => ?_)
  subst e
  refine wpAny_newObj_type (newEnv_comp ?_) (by show 0 ≤ sizeLine; decide)
  generalize hD : s2.heap.objs.size = D
  obtain ⟨W, ⟨m0, w0⟩, turn⟩ := q D (I2.hok.fresh (Nat.le_of_eq hD))
  generalize hs3 : ({ s2 with heap := s2.heap.push { cls := .type "list", data := .seq ([] : List Value).toArray } } : Shared) = s3
  have h3 : s3.heap = s2.heap.push { cls := .type "list", data := .seq ([] : List Value).toArray } := by rw [← hs3]
  have I3 : Inv X pins σ (upd H2 D (.lst [])) s3 := by
    subst hs3
    refine I2.laid (t' := s2.toks) (fun b o e => Heap.get?_push_of_some _ e) (Nat.le_of_eq hD) ⟨Nat.zero_le _, [], 0, .nil, ?_⟩
    rw [← hD]
    exact Heap.get?_push_size _ rfl
  have lt : ∀ b ∈ fp, b < s2.heap.objs.size := fun b hb => by
    obtain ⟨o, e, _⟩ := T.obj _ _ t2 b hb
    exact Heap.lt_size e
  have f3 : ∀ b ∈ fp, FpOk X pins (upd H2 D (.lst [])) b ∧ b < s3.heap.objs.size := fun b hb => by
    refine ⟨⟨?_, (f2 b hb).2⟩, by rw [h3, Heap.size_push]; exact Nat.lt_succ_of_lt (lt b hb)⟩
    rw [upd_ne (by rw [← hD]; exact Nat.ne_of_lt (lt b hb))]
    exact (f2 b hb).1
  have B := block_start I3 ok hN f3
  have kp : ∀ b o, s3.heap.get? b = some o → (pushCells (s3.heap.push { cls := .type "dict", data := .dict #[] }) scope.names).get? b = some o := fun b o e => pushCells_keeps _ _ _ _ (Heap.get?_push_of_some _ e)
  have BP := blkP_inv I3 B kp rfl
  have st : tn 0 (pushCells (s3.heap.push { cls := .type "dict", data := .dict #[] }) scope.names) := T.keep _ _ _ t2 fun b _ o e => kp b o (by rw [h3]; exact Heap.get?_push_of_some _ e)
  have fs : FpS X (compEnvC scope (cellsFrom (s3.heap.objs.size + 1) scope.names (cloFrom X.env.cells scope.names [])) s3.heap.objs.size X.env) fp := fun b hb p hp => (f2 b hb).2.2.2.2.2 p (List.mem_append_left _ hp)
  suffices loop : codeAny (model X.prog X.w) X.A (.compLoop (.ListComp elt [⟨tg, iter, ifs, 0⟩] scope pos) 0 (.ref it) (.ref D) (compEnvC scope (cellsFrom (s3.heap.objs.size + 1) scope.names (cloFrom X.env.cells scope.names [])) s3.heap.objs.size X.env)) (compPost (model X.prog X.w) X.A X.xe use Qf (.ref D) s3.heap.objs.size) { s3 with heap := pushCells (s3.heap.push { cls := .type "dict", data := .dict #[] }) scope.names } from
    codeAny_compStart_list loop (T.self X.A 0 _ _ _ st loop)
  refine loopP hot T fs (hg _ _ _ _ _) (ht _ _ _ _ _) (he _ _ _ _ _) turn (fun H' s' I6 dn => ?_) ⟨0, _, BP, st, fun b hb => (f3 b hb).1.1, w0⟩
  have I7 : Inv X pins σ H' s' := I3.call' (ch := fp) I6.os I6.base I6.hok I6.bare fun b hb => ⟨(f3 b hb).1.2.2.2.1, (f3 b hb).1.2.1, (f3 b hb).1.2.2.2.2.1, (f3 b hb).1.2.2.2.2.2⟩
  have nC : H' s3.heap.objs.size = none := I6.free
  obtain ⟨m, hn, _⟩ := I6.loc
  exact back D s3.heap.objs.size s' m H' I7 dn hn (I3.fpOk (Nat.le_refl _) nC)
/-- name = [..], the name a local -/
theorem ps_setLcP (hot : HotC X) (hN : X.N.Nodup) (hy : X.N[i]? = some y) (hyl : X.env.scope.names.lookup y = some .local) (hsw : swapsWith (.ListComp elt [⟨tg, iter, ifs, 0⟩] scope pos) (some (.Name y py)) spos.line X.env = pure true) (hi : PIH X tg iter wi) (ok : BlkOk X.N X.env.scope scope own)
    (hg : ∀ (s : Shared) (H : Hp) (C : Addr) (cl : List (Str × Addr)) (fp : List Addr), PG (blkP X s H scope (compEnvC scope cl C X.env) fp) tg g) (ht : ∀ (s : Shared) (H : Hp) (C : Addr) (cl : List (Str × Addr)) (fp : List Addr), PTs (blkP X s H scope (compEnvC scope cl C X.env) fp) ifs tt)
    (he : ∀ (s : Shared) (H : Hp) (C : Addr) (cl : List (Str × Addr)) (fp : List Addr), PE (blkP X s H scope (compEnvC scope cl C X.env) fp) elt te) (hs : ∀ x, foldedSetIterable iter X.env x = pure x := by intro _; rfl) :
    PS X (.Assign [.Name y py] (.ListComp elt [⟨tg, iter, ifs, 0⟩] scope pos) spos) (tAsg (tLc wi g tt te (own.map (·.2))) (gName i)) := by
  refine ⟨fun pins s σ H D I h => ?_⟩
  rw [exec_Assign_Name_used _ _ _ _ hsw]
  refine wpAny_bind (wpAny_standAt (wpAny_bind ?_))
  show wpAny _ X.A (do let _ ← comprehension (.ListComp elt [⟨tg, iter, ifs, 0⟩] scope pos) scope X.env (firstIterPos [⟨tg, iter, ifs, 0⟩] pos) (newList []) false (eval iter X.env) (some (assign (.Name y py) X.env))) _ _ s
  refine wpAny_bind (thn (lcP (Qf := fun _ s' => SP X pins D .next s') (Q := fun x H1 => gName i x σ H1 D.nx) hot hN I hi ok hg ht he hs h fun L C s' m H' I' q hn f => ?_) fun _ s' hq => wpAny_pure (wpAny_pure hq))
  show wpAny _ _ (assign (.Name y py) X.env (.ref L)) _ _ _
  obtain ⟨f0, f1, f2, f3, f4, f5⟩ := f
  refine wpAny_assign_Name (store_ok2 (v := V.ref L) I' hN hy (.inl hyl) rfl (fun s2 I2 ⟨a, sb, ha⟩ => ?_) (.inr hyl))
  have haC : C ≠ a := ha.elim (fun z => by rw [z]; exact f1) fun z e => f4 y a z e.symm
  exact ⟨m, hn.sameBut sb haC, fun h3 sb3 => ⟨_, H', I2.turned (t' := s2.toks) (fun b o hb e => (sb3.2 b hb).trans e) f0 f1 f3 f4 f5, q⟩⟩
end
end KEX
/-! ### an own error with fields, raised where nothing is handled: its context is None -/
namespace KEX
open PySem PySem.Spec PyProof.Rows L2 L2H
section
variable {X : Cx}
theorem pmk_oexN {CX : CXT} {x : Str} {e : Expr} {es : List Expr} {ta : TA} {p pos : Pos} {C fI : Addr} {k : Nat} {fd : FuncData} {ps : List Str} {sp : Sp} (T : OexC X.K C) (iC : PySem.W.findIn X.K (.ref C) "__init__" = some (some (.ref fI))) (tI : PySem.W.typeIn X.K (.ref fI) = some (.type "function"))
    (F1 : FnOk X.prog X.w X.K X.mg X.base CX k fI fd ps sp) (hr : Room (k + 1) X.A) (hb : Binds X.K fd ps []) (hx : Passes CX X (fun _ _ _ => False)) (hg : Gl X x) (hm : X.mg x = some (.ref C)) (ha : PA X (e :: es) ta)
    (hdb : (x == ("__debug__" : Str)) = false := by decide) (he : starEach (e :: es) X.env = (false, eval e X.env) :: starEach es X.env := by rfl) (hpl : (backTo pos (starEach es X.env)).any (·.1) = false := by rfl) :
    L2N.PMk X (.Call (.Name x p) (e :: es) [] pos) (tMkO C sp [] ta) := by
  intro pins s σ H Q I h
  obtain ⟨nm, q, N, bs, bm, sn, sub, ab, col, dd, k0, k1, k2, k3, k5, hC, hbm⟩ := T.cls
  refine wpAny_Call_Name_kw (ld_glob I hg hm (PySem.W.callWith_K (h₀ := X.base) I.ok.mod.kin T.kC (thn (ha.run pos pins s σ H _ I h) fun us s1 ⟨vs, H1, I1, r1, hz, q1⟩ => ⟨I1.kIn, ?_⟩) he hpl) hdb)
  obtain ⟨hp, g, dr, tk, os⟩ := s1
  have hget0 : ((hp.push (PySem.W.kdv_tup us)).push (PySem.HandSPX.excO C hp.objs.size)).get? (hp.objs.size + 1) = some (PySem.HandSPX.excO C hp.objs.size) := by heap_get
  let a := hp.objs.size + 1
  let hp2 := (hp.push (PySem.W.kdv_tup us)).push (PySem.HandSPX.excO C hp.objs.size)
  have up : hp.objs.size ≤ a := Nat.le_succ _
  have hq := q1 a (I1.hok.fresh up)
  have kk : ∀ b o, hp.get? b = some o → hp2.get? b = some o := fun b o e => Heap.get?_push_of_some _ (Heap.get?_push_of_some _ e)
  have hget : hp2.get? a = some (PySem.HandSPX.excO C hp.objs.size) := hget0
  have I2 : Inv X pins σ (upd H1 a (exo a C none)) ⟨hp2, g, dr, tk, os⟩ := I1.laid (t' := tk) (a := a) (o := exo a C none) (h' := hp2) kk up (exo_ok hget)
  have r2 : Vals (V.ref a :: (vs ++ [])) (Value.ref a :: us) := by rw [List.append_nil]; exact .cons rfl r1
  have b2 := hb ⟨hp2, g, dr, tk, os⟩ (Value.ref a :: us) I2.kIn (by rw [List.append_nil, ← r2.length]; exact F1.len _ _ _ _ hq)
  rw [List.append_nil] at b2
  refine wpAny_call (PySem.HandSPX.call_own F.excBase_ValueError (fun Y => PySem.HandSPX.refsVE_contains Y bm hbm) (I1.kIn _ _ hC) (PySem.W.looks_findIn I1.kIn iC) (fun self => PySem.W.bind_fn I1.kIn self tI) (by show us.length ≤ sizeLine; rw [← Paired.length r1, sizeLine_eq]; omega)
    (codeAny_mono (F1.run _ X.stack _ _ ⟨Value.ref a :: us, []⟩ (Value.ref a :: us) _ _ (fun _ _ _ => False) (hr.make C us []) (I2.env0.make C us []) b2 r2 hq) fun r s' hq' => ?_))
  cases r with
  | error er => exact hx pins σ _ _ er s' I2 hq'
  | ok fl =>
    cases fl with
    | ret u =>
      obtain ⟨v, H2, os2, bare2, un2, hok2, rv, ev, d, fs, ea, ed, hd1, q2⟩ := hq'
      subst ev
      obtain ⟨h2, g2, d2, t2, os'⟩ := s'
      obtain ⟨t0, G, J, kG, ge, hoe, na⟩ := mk_end0 (d2 := d2) (t2 := t2) I1 up kk un2 hok2 os2 bare2 ea ed hd1
      exact ⟨rv, a, _, _, ⟨G, g2, d2, t2, os'⟩, _, .ref C, some d, rfl, J, kG, ge, hoe, ⟨rfl, rfl, fun vs hv => by cases hv; rfl⟩, rfl, rfl, na, rfl, bare2, raises_own T.exC T.tyC, q2⟩
    | next => exact hq'.elim
    | brk => exact hq'.elim
    | cont => exact hq'.elim
/-- s * n -/
def rMulS : R2 := fun x y H Q => ∃ i n, x = .str i ∧ y = .int n ∧ MulOk i n ∧ Q (.str (Txt.mul i n)) H
theorem op_mul_str : OpR X (binaryOp .Mult) rMulS := by
  intro pins s σ H x y v u Q I rx ry h
  obtain ⟨i, n, rfl, rfl, hz, q⟩ := h
  obtain ⟨t, rfl⟩ := rx
  obtain ⟨t', rfl⟩ := ry
  exact SB.mul hz fun t' k => ⟨.str _, H, I.tok _, ⟨_, rfl⟩, q⟩
end
end KEX
namespace KP
open PySem L2 KD KM KT
open KEX
/-! ### defs that raise where nothing is handled: the error's context is None -/
theorem takes0N {X : Cx} : L2N.Takes X (fun _ _ _ _ => False) := fun _ _ ⟨_, _, _, _, _, _, _, _, _, _, _, _, _, _, _, _, w⟩ => w.elim
theorem Fun.okN {P : Program} {w : World} {K : PySem.W.Frag} {mg : Str → Option Value} {base : Heap} {x qual : Str} {st : Stmt} {f : Addr} {fd : FuncData} {N ps : List Str} {k : Nat} {sp : Sp} (F : Fun K x qual st f fd) (S : FnScope N ps (defScope st)) (len : ∀ vs H Q E, sp vs H Q E → vs.length = ps.length)
    (hbody : ∀ (cdv : Value) (A : Around) (outer : List Env) (s : Shared) (H : Hp) (vs : List V) (Q : VK) (E : XK), Room k (A.deeper (PyProof.Rows.envOfC qual (defScope st) s.heap.objs.size f cdv)) → sp vs H Q E →
      ∃ t, PSs (cxOf (L2N.CX P w) P w K mg base N qual (defScope st) f cdv A outer s H E) (defBody st) t ∧ t { nx := fun _ H' => Q .non H', rt := Q } (start N vs) H) : FnOk P w K mg base (L2N.CX P w) (k + 1) f fd ps sp := by
  obtain ⟨oc, od, kV, doc, pm, an, cdv, ct, osl, rfl, lk, hcd⟩ := F.ex
  exact fn_of lk hcd S len fun A outer s H vs Q E hr hsp => hbody cdv A outer s H vs Q E hr hsp
structure CalN (P : Program) (w : World) (K : PySem.W.Frag) (mg : Str → Option Value) (base : Heap) (k : Nat) (x : Str) (sp : Sp) : Prop where
  ex : ∃ f fd ps, FnOk P w K mg base (L2N.CX P w) k f fd ps sp ∧ mg x = some (.ref f) ∧ PySem.W.keepIn K (.ref f) = true ∧ Binds K fd ps []
structure MetN (P : Program) (w : World) (K : PySem.W.Frag) (mg : Str → Option Value) (base : Heap) (k : Nat) (C : Addr) (m : Str) (sp : Sp) : Prop where
  ex : ∃ f fd ps, Cls K C ∧ Meth K C m f ∧ FnOk P w K mg base (L2N.CX P w) k f fd ps sp ∧ Binds K fd ps []
/-- a def that is handed the error -/
structure CalP (P : Program) (w : World) (K : PySem.W.Frag) (mg : Str → Option Value) (base : Heap) (k : Nat) (x : Str) (sp : Addr × Obj → Sp) : Prop where
  ex : ∃ f fd ps, FnP P w K mg base CX0 k f fd ps sp ∧ mg x = some (.ref f) ∧ PySem.W.keepIn K (.ref f) = true ∧ Binds K fd ps []
section
variable {P : Program} {w : World} {K : PySem.W.Frag} {mg : Str → Option Value} {base : Heap} {C : Addr}
theorem calN {x : Str} {st : Stmt} {N ps : List Str} {k : Nat} {sp : Sp} (D : DefT K mg x st ps) (S : FnScope N ps (defScope st)) (len : ∀ vs H Q E, sp vs H Q E → vs.length = ps.length)
    (walk : ∀ (f : Addr) (cdv : Value) (A : Around) (outer : List Env) (s : Shared) (H : Hp) (vs : List V) (Q : VK) (E : XK), Room k (A.deeper (PyProof.Rows.envOfC x (defScope st) s.heap.objs.size f cdv)) → sp vs H Q E →
      ∃ t, PSs (cxOf (L2N.CX P w) P w K mg base N x (defScope st) f cdv A outer s H E) (defBody st) t ∧ t { nx := fun _ H' => Q .non H', rt := Q } (start N vs) H) : CalN P w K mg base (k + 1) x sp := by
  obtain ⟨f, fd, F, b, m⟩ := D.ex
  exact ⟨f, fd, ps, Fun.okN F S len (walk f), m, F.kp, b⟩
theorem metN {st : Stmt} {N ps : List Str} {m q : Str} {k : Nat} {sp : Sp} (c : Cls K C) (D : MethT K C m q st ps) (S : FnScope N ps (defScope st)) (len : ∀ vs H Q E, sp vs H Q E → vs.length = ps.length)
    (walk : ∀ (f : Addr) (cdv : Value) (A : Around) (outer : List Env) (s : Shared) (H : Hp) (vs : List V) (Q : VK) (E : XK), Room k (A.deeper (PyProof.Rows.envOfC q (defScope st) s.heap.objs.size f cdv)) → sp vs H Q E → ∃ t, PSs (cxOf (L2N.CX P w) P w K mg base N q (defScope st) f cdv A outer s H E) (defBody st) t ∧ t { nx := fun _ H' => Q .non H', rt := Q } (start N vs) H) : MetN P w K mg base (k + 1) C m sp := by
  obtain ⟨f, fd, M, F, b⟩ := D.ex
  exact ⟨f, fd, ps, c, M, Fun.okN F S len (walk f), b⟩
theorem calP {x : Str} {st : Stmt} {N ps : List Str} {k : Nat} {sp : Addr × Obj → Sp} (D : DefT K mg x st ps) (S : FnScope N ps (defScope st)) (len : ∀ p vs H Q E, sp p vs H Q E → vs.length = ps.length)
    (walk : ∀ (f : Addr) (p : Addr × Obj) (cdv : Value) (A : Around) (outer : List Env) (s : Shared) (H : Hp) (vs : List V) (Q : VK) (E : XK), L2H.RoomH k (A.deeper (PyProof.Rows.envOfC x (defScope st) s.heap.objs.size f cdv)) → A.handled = some (.ref p.1) → sp p vs H Q E →
      ∃ t, PSs ((cxOf CX0 P w K mg base N x (defScope st) f cdv A outer s H E).suite p.1 [p]) (defBody st) t ∧ t { nx := fun _ H' => Q .non H', rt := Q } (start N vs) H) : CalP P w K mg base (k + 1) x sp := by
  obtain ⟨f, fd, F, b, m⟩ := D.ex
  exact ⟨f, fd, ps, fnP F S len (walk f), m, F.kp, b⟩
end
section
variable {X : Cx} {k j : Nat} {x m : Str} {C : Addr} {sp : Sp} {p pos apos : Pos} {e o : Expr} {es : List Expr} {ta : TE} {t : TA} {E : L2.St → XK}
theorem pe_clN (c : CalN X.prog X.w X.K X.mg X.base k x sp) (hr : Room j X.A) (hk : k ≤ j) (hx : ∀ σ, PassesAt (L2N.CX X.prog X.w) X σ (E σ)) (hg : Gl X x) (ha : PA X (e :: es) t)
    (hdb : (x == ("__debug__" : Str)) = false := by decide) (he : starEach (e :: es) X.env = (false, eval e X.env) :: starEach es X.env := by rfl) (hpl : (backTo pos (starEach es X.env)).any (·.1) = false := by rfl) :
    PE X (.Call (.Name x p) (e :: es) [] pos) (tCallS sp E t) := by
  obtain ⟨f, fd, ps, F, m, kp, b⟩ := c.ex
  exact pe_callS F (hr.mono hk) hg m kp b hx ha hdb he hpl
theorem pe_mtN {pl : Sem Bool} (c : MetN X.prog X.w X.K X.mg X.base k C m sp) (hr : Room j X.A) (hk : k ≤ j) (hx : ∀ σ, PassesAt (L2N.CX X.prog X.w) X σ (E σ)) (he : PE X o ta) (ha : PA X (e :: es) t)
    (hst : starEach (e :: es) X.env = (false, eval e X.env) :: starEach es X.env := by rfl) (hpl : (backTo pos (starEach es X.env)).any (·.1) = false := by rfl)
    (ht : eval (.Call (.Attribute o m apos) (e :: es) [] pos) X.env = (do
      let ov ← eval o X.env
      standAt apos.atName
      let (f, first) ← holding [ov] (getMethod ov m pl)
      callWith pos f first (backTo pos (starEach (e :: es) X.env)) (backToKw pos (keywordEach [] X.env))) := by rfl) :
    PE X (.Call (.Attribute o m apos) (e :: es) [] pos) (tMethX C m sp E ta t) := by
  obtain ⟨f, fd, ps, c, hm, F, b⟩ := c.ex
  refine ⟨fun pins s σ H Q I h => ?_⟩
  refine PySem.W.methodCall_KW (pl := pl) (thn (he.run pins s σ H _ I h) fun u s1 ⟨x, H1, I1, rx, a, dx, fs, ex, ea, l, q⟩ => ?_) ht
  subst ex
  obtain rfl : u = Value.ref a := rx
  refine getmeth_ok I1 ea c hm l ?_
  refine PySem.W.callWith_K (first := [.ref a]) (h₀ := X.base) I.ok.mod.kin hm.kp (thn (ha.run pos pins s1 σ H1 _ I1 q) fun us s2 ⟨vs, H2, I2, r, q2⟩ => ⟨I2.kIn, ?_⟩) hst hpl
  exact run_fnS (us := .ref a :: us) (vs := .ref a :: vs) F (hr.mono hk) b (hx σ) I2 (.cons rfl r) q2
/-- the call within the suite that holds the error -/
theorem pe_clP {a : Addr} {oe : Obj} {pn : List (Addr × Obj)} {sp : Addr × Obj → Sp} (c : CalP X.prog X.w X.K X.mg X.base k x sp) (hr : Room j X.A) (hk : k ≤ j) (hg : Gl (X.suite a ((a, oe) :: pn)) x) (ha : PA (X.suite a ((a, oe) :: pn)) (e :: es) t)
    (hdb : (x == ("__debug__" : Str)) = false := by decide) (he : starEach (e :: es) X.env = (false, eval e X.env) :: starEach es X.env := by rfl) (hpl : (backTo pos (starEach es X.env)).any (·.1) = false := by rfl) :
    PE (X.suite a ((a, oe) :: pn)) (.Call (.Name x p) (e :: es) [] pos) (tCallP sp (a, oe) E0 t) := by
  obtain ⟨f, fd, ps, F, m, kp, b⟩ := c.ex
  exact pe_callP (X := X.suite a ((a, oe) :: pn)) (p := (a, oe)) F (L2H.roomH_mark (hr.mono hk) _) rfl List.mem_cons_self hg m kp b pass0 ha hdb he hpl
/-- .. of any error that has this class and dict, its context None -/
def tCallZ (sp : Addr × Obj → Sp) (a : Addr) (cls : Value) (d : Option Addr) (t : TA) : TE := fun σ H Q => ∀ oe, L2N.Zn cls d oe → (∃ ws, oe.data = .fields ws) → tCallP sp (a, oe) E0 t σ H Q
theorem pe_clZ {a : Addr} {oe : Obj} {cls : Value} {d : Option Addr} {pn : List (Addr × Obj)} {sp : Addr × Obj → Sp} (hz : L2N.Zn cls d oe) (hf : ∃ ws, oe.data = .fields ws) (c : CalP X.prog X.w X.K X.mg X.base k x sp) (hr : Room j X.A) (hk : k ≤ j) (hg : Gl (X.suite a ((a, oe) :: pn)) x) (ha : PA (X.suite a ((a, oe) :: pn)) (e :: es) t)
    (hdb : (x == ("__debug__" : Str)) = false := by decide) (he : starEach (e :: es) X.env = (false, eval e X.env) :: starEach es X.env := by rfl) (hpl : (backTo pos (starEach es X.env)).any (·.1) = false := by rfl) :
    PE (X.suite a ((a, oe) :: pn)) (.Call (.Name x p) (e :: es) [] pos) (tCallZ sp a cls d t) :=
  pe_le (pe_clP c hr hk hg ha hdb he hpl) fun _ _ _ h => h oe hz hf
end
end KP
namespace KP
open PySem L2 KD KM KT
open KEX
def KWS : List Str := ["year", "head", "entry", "day", "number", "promise", "taken", "full", "text", "row", "passed", "leaned"]
def KWd (i : Nat) : Str := KWS.getD i ""
structure KndF (K : PySem.W.Frag) (mg : Str → Option Value) (C : Nat → Addr) (is : List Nat) : Prop where
  m0 : mg "NoYear" = some (.ref (C 0))
  m1 : mg "NoHead" = some (.ref (C 1))
  m2 : mg "NoEntry" = some (.ref (C 2))
  m3 : mg "NoDay" = some (.ref (C 3))
  m4 : mg "NoNumber" = some (.ref (C 4))
  m5 : mg "NoPromise" = some (.ref (C 5))
  m6 : mg "Taken" = some (.ref (C 6))
  m7 : mg "Full" = some (.ref (C 7))
  m8 : mg "NoText" = some (.ref (C 8))
  m9 : mg "NoRow" = some (.ref (C 9))
  m10 : mg "Passed" = some (.ref (C 10))
  m11 : mg "Leaned" = some (.ref (C 11))
  ve : mg "ValueError" = none
  lt : ∀ i ∈ is, i < 12
  k : ∀ i ∈ is, ∀ j, j < 12 → PySem.W.kitOne K (.ref (C i)) (.ref (C j)) = some (decide (i = j))
  v : ∀ i ∈ is, PySem.W.kitOne K (.ref (C i)) (.type "ValueError") = some true
  x : ∀ i ∈ is, ExcC K (C i)
def DicX (d : Option Addr) (H : Hp) : Prop := d = none ∨ ∃ dx fs, d = some dx ∧ H dx = some (.xd fs)
theorem DicX.same {d : Option Addr} {H H' : Hp} (h : DicX d H) (s : Same H H') : DicX d H' := h.imp id fun ⟨dx, fs, a, b⟩ => ⟨dx, fs, a, s _ _ b⟩
/-- the error is of the i-th class, its context is None -/
def ErrI (C : Nat → Addr) (is : List Nat) (p : Addr × Obj) (i : Nat) (H : Hp) : Prop := i ∈ is ∧ p.2.cls = .ref (C i) ∧ DicX p.2.dict H ∧ ∃ ws, p.2.data = .fields ws ∧ ws[2]? = some .none
def spKnd (C : Nat → Addr) (is : List Nat) : Addr × Obj → Sp := fun p vs H Q _ => ∃ i, vs = [.ref p.1] ∧ ErrI C is p i H ∧ ∀ H', Same H H' → Q (.str (KWd i)) H'
instance {x : Str} {n : Int} : Decidable (MulOk x n) := by unfold MulOk; infer_instance
theorem kw_all : ∀ i : Nat, i < 12 → Txt.join " " [KWd i] = KWd i ∧ MulOk (KWd i) 1 ∧ Txt.mul (KWd i) 1 = KWd i ∧ (KWd i).length ≤ 8 := by decide +kernel
theorem kw_one : ∀ i : Nat, i < 12 → ((List.range 12).filterMap fun j => if i = j then some (KWd j) else none) = [KWd i] := by decide +kernel
def KBs (i n m : Nat) : List V := (List.range n).map fun j => .bl (decide (i = m + j))
section
variable {P : Program} {w : World} {K : PySem.W.Frag} {mg : Str → Option Value} {base : Heap} {C : Nat → Addr} {CD Ct Cy : Addr} {Ck : Nat → Addr} {is : List Nat}
abbrev sLKn : Stmt := top 66
abbrev nLKn : List Str := ["_law_e", "_law_kinds_here", "_law_words", "_law_found", "_law_k"]
theorem scLKn : FnScope nLKn ["_law_e"] (defScope sLKn) := ⟨rfl, rfl, rfl, by decide +kernel, rfl, by decide +kernel, by decide +kernel⟩
set_option maxHeartbeats 4000000 in
theorem c_lkn (B : Base K mg) (F : KndF K mg Ck is) (D : DefT K mg "_law_kinds" sLKn ["_law_e"]) : CalP P w K mg base 1 "_law_kinds" (spKnd Ck is) := by
  refine calP D scLKn (fun p vs H Q E h => ?_) (fun f p cdv A outer s H vs Q E hr hh h => ?_)
  · obtain ⟨i, rfl, _⟩ := h
    rfl
  · obtain ⟨a, oe⟩ := p
    obtain ⟨i, rfl, ⟨hi, hcl, hd, ws, hw, hw2⟩, k⟩ := h
    have hz' : sizeLine = 16777216 := by decide
    have hi12 := F.lt i hi
    have hcl : oe.cls = .ref (Ck i) := hcl
    have hd : DicX oe.dict H := hd
    have hw : oe.data = .fields ws := hw
    have hz : Zc oe.cls oe.dict oe := ⟨rfl, rfl⟩
    have hf : ∃ vs, oe.data = .fields vs := ⟨ws, hw⟩
    have hot : L2H.HotC ((cxOf CX0 P w K mg base nLKn "_law_kinds" (defScope sLKn) f cdv A outer s H E).suite a [(a, oe)]) := ⟨(a, oe), ⟨rfl, ws, hw, hw2⟩, List.mem_cons_self⟩
    refine ⟨_, (C8.pss_cut (ps_set (i := 1) scLKn.nd rfl (by first | exact Or.inl rfl | exact Or.inr rfl) (pe_lstW (pa_cons (pe_callB (call_isX hz hf) (by rfl) B.isi (by decide +kernel) (pa_cons (pv 0) (pa_cons (pe_glob (v := .ref (Ck 0)) rfl F.m0 rfl) pa_nil))) (pa_cons (pe_callB (call_isX hz hf) (by rfl) B.isi (by decide +kernel) (pa_cons (pv 0) (pa_cons (pe_glob (v := .ref (Ck 1)) rfl F.m1 rfl) pa_nil))) (pa_cons (pe_callB (call_isX hz hf) (by rfl) B.isi (by decide +kernel) (pa_cons (pv 0) (pa_cons (pe_glob (v := .ref (Ck 2)) rfl F.m2 rfl) pa_nil))) (pa_cons (pe_callB (call_isX hz hf) (by rfl) B.isi (by decide +kernel) (pa_cons (pv 0) (pa_cons (pe_glob (v := .ref (Ck 3)) rfl F.m3 rfl) pa_nil))) pa_nil))))))
        (C8.pss_cut (ps_set (i := 1) scLKn.nd rfl (by first | exact Or.inl rfl | exact Or.inr rfl) (pe_op op_catLW (pv 1) (pe_lstW (pa_cons (pe_callB (call_isX hz hf) (by rfl) B.isi (by decide +kernel) (pa_cons (pv 0) (pa_cons (pe_glob (v := .ref (Ck 4)) rfl F.m4 rfl) pa_nil))) (pa_cons (pe_callB (call_isX hz hf) (by rfl) B.isi (by decide +kernel) (pa_cons (pv 0) (pa_cons (pe_glob (v := .ref (Ck 5)) rfl F.m5 rfl) pa_nil))) (pa_cons (pe_callB (call_isX hz hf) (by rfl) B.isi (by decide +kernel) (pa_cons (pv 0) (pa_cons (pe_glob (v := .ref (Ck 6)) rfl F.m6 rfl) pa_nil))) (pa_cons (pe_callB (call_isX hz hf) (by rfl) B.isi (by decide +kernel) (pa_cons (pv 0) (pa_cons (pe_glob (v := .ref (Ck 7)) rfl F.m7 rfl) pa_nil))) pa_nil)))))))
        (C8.pss_cut (ps_set (i := 1) scLKn.nd rfl (by first | exact Or.inl rfl | exact Or.inr rfl) (pe_op op_catLW (pv 1) (pe_lstW (pa_cons (pe_callB (call_isX hz hf) (by rfl) B.isi (by decide +kernel) (pa_cons (pv 0) (pa_cons (pe_glob (v := .ref (Ck 8)) rfl F.m8 rfl) pa_nil))) (pa_cons (pe_callB (call_isX hz hf) (by rfl) B.isi (by decide +kernel) (pa_cons (pv 0) (pa_cons (pe_glob (v := .ref (Ck 9)) rfl F.m9 rfl) pa_nil))) (pa_cons (pe_callB (call_isX hz hf) (by rfl) B.isi (by decide +kernel) (pa_cons (pv 0) (pa_cons (pe_glob (v := .ref (Ck 10)) rfl F.m10 rfl) pa_nil))) (pa_cons (pe_callB (call_isX hz hf) (by rfl) B.isi (by decide +kernel) (pa_cons (pv 0) (pa_cons (pe_glob (v := .ref (Ck 11)) rfl F.m11 rfl) pa_nil))) pa_nil)))))))
        (C8.pss_cut (ps_set (i := 2) scLKn.nd rfl (by first | exact Or.inl rfl | exact Or.inr rfl) (pe_lstW (pa_cons pe_str (pa_cons pe_str (pa_cons pe_str (pa_cons pe_str (pa_cons pe_str (pa_cons pe_str (pa_cons pe_str (pa_cons pe_str (pa_cons pe_str (pa_cons pe_str (pa_cons pe_str (pa_cons pe_str pa_nil))))))))))))))
        (C8.pss_cut (KEX.ps_setLcP (i := 3) (own := [("_law_k", 4)]) (g := (gName 4)) (tt := (tB (tOp (rIxL K) (tVar 1) (tVar 4)))) (te := (tOp (rIxL K) (tVar 2) (tVar 4))) hot scLKn.nd rfl (by first | rfl | decide +kernel) (sw_true rfl (by first | rfl | decide +kernel) rfl (by decide +kernel)) (L2H.pi_range1H (by rfl) B.range (pa_cons pe_int pa_nil)) (blkOk_by (N := nLKn) (sc := defScope sLKn) (by decide +kernel)) (fun _ _ _ _ _ => (pg_name (i := 4) scLKn.nd rfl (by first | exact Or.inl rfl | exact Or.inr rfl))) (fun _ _ _ _ _ => pts_one (pt_val (pe_ix (show IxR _ (rIxL K) from ix_list) (pv 1) (pv 4) (fun _ _ => rfl)))) (fun _ _ _ _ _ => (pe_ix (show IxR _ (rIxL K) from ix_list) (pv 2) (pv 4) (fun _ _ => rfl))))
        (pss_one (ps_ret (pe_op KEX.op_mul_str (pe_join pe_str (pv 3)) (pe_callTy call_int1 (by rfl) B.int (by decide +kernel) (pa_cons (pe_callB (call_isX hz hf) (by rfl) B.isi (by decide +kernel) (pa_cons (pv 0) (pa_cons (pe_bltn (v := .ty "ValueError") (by rfl) F.ve (by decide +kernel) rfl) pa_nil))) pa_nil)))))))))), ?_⟩
    refine ⟨fun σ' H' => ∃ L : Addr, σ' = [some (.ref a), some (.ref L), none, none, none] ∧ H' L = some (.lst [.bl (decide (i = 0)), .bl (decide (i = 1)), .bl (decide (i = 2)), .bl (decide (i = 3))]) ∧ Same H H', ?_, ?_⟩
    · exact ⟨_, rfl, Ck i, .ref (Ck 0), .ref (Ck 0), decide (i = 0), hcl, hd.same (Same.refl _), F.x i hi, rfl, .own _, F.k i hi 0 (by decide), _, rfl, Ck i, .ref (Ck 1), .ref (Ck 1), decide (i = 1), hcl, hd.same (Same.refl _), F.x i hi, rfl, .own _, F.k i hi 1 (by decide), _, rfl, Ck i, .ref (Ck 2), .ref (Ck 2), decide (i = 2), hcl, hd.same (Same.refl _), F.x i hi, rfl, .own _, F.k i hi 2 (by decide), _, rfl, Ck i, .ref (Ck 3), .ref (Ck 3), decide (i = 3), hcl, hd.same (Same.refl _), F.x i hi, rfl, .own _, F.k i hi 3 (by decide), (by show 4 ≤ sizeLine; omega), fun L H1 s1 n1 h1 => ⟨L, rfl, h1, s1⟩⟩
    rintro _ H1 ⟨L1, rfl, h1, s1⟩
    refine ⟨fun σ' H' => ∃ L : Addr, σ' = [some (.ref a), some (.ref L), none, none, none] ∧ H' L = some (.lst ([.bl (decide (i = 0)), .bl (decide (i = 1)), .bl (decide (i = 2)), .bl (decide (i = 3))] ++ [.bl (decide (i = 4)), .bl (decide (i = 5)), .bl (decide (i = 6)), .bl (decide (i = 7))])) ∧ Same H H', ?_, ?_⟩
    · exact ⟨_, rfl, _, rfl, Ck i, .ref (Ck 4), .ref (Ck 4), decide (i = 4), hcl, hd.same s1, F.x i hi, rfl, .own _, F.k i hi 4 (by decide), _, rfl, Ck i, .ref (Ck 5), .ref (Ck 5), decide (i = 5), hcl, hd.same s1, F.x i hi, rfl, .own _, F.k i hi 5 (by decide), _, rfl, Ck i, .ref (Ck 6), .ref (Ck 6), decide (i = 6), hcl, hd.same s1, F.x i hi, rfl, .own _, F.k i hi 6 (by decide), _, rfl, Ck i, .ref (Ck 7), .ref (Ck 7), decide (i = 7), hcl, hd.same s1, F.x i hi, rfl, .own _, F.k i hi 7 (by decide), (by show 4 ≤ sizeLine; omega), fun L H2 s2 n2 h2 => ⟨L1, L, _, _, rfl, rfl, s2 _ _ h1, h2, (by show 4 + 4 ≤ sizeLine; omega), fun M H3 s3 n3 h3 => ⟨M, rfl, h3, (s1.trans s2).trans s3⟩⟩⟩
    rintro _ H2 ⟨L2, rfl, h2, s2⟩
    refine ⟨fun σ' H' => ∃ L : Addr, σ' = [some (.ref a), some (.ref L), none, none, none] ∧ H' L = some (.lst (([.bl (decide (i = 0)), .bl (decide (i = 1)), .bl (decide (i = 2)), .bl (decide (i = 3))] ++ [.bl (decide (i = 4)), .bl (decide (i = 5)), .bl (decide (i = 6)), .bl (decide (i = 7))]) ++ [.bl (decide (i = 8)), .bl (decide (i = 9)), .bl (decide (i = 10)), .bl (decide (i = 11))])) ∧ Same H H', ?_, ?_⟩
    · exact ⟨_, rfl, _, rfl, Ck i, .ref (Ck 8), .ref (Ck 8), decide (i = 8), hcl, hd.same s2, F.x i hi, rfl, .own _, F.k i hi 8 (by decide), _, rfl, Ck i, .ref (Ck 9), .ref (Ck 9), decide (i = 9), hcl, hd.same s2, F.x i hi, rfl, .own _, F.k i hi 9 (by decide), _, rfl, Ck i, .ref (Ck 10), .ref (Ck 10), decide (i = 10), hcl, hd.same s2, F.x i hi, rfl, .own _, F.k i hi 10 (by decide), _, rfl, Ck i, .ref (Ck 11), .ref (Ck 11), decide (i = 11), hcl, hd.same s2, F.x i hi, rfl, .own _, F.k i hi 11 (by decide), (by show 4 ≤ sizeLine; omega), fun L H3 s3 n3 h3 => ⟨L2, L, _, _, rfl, rfl, s3 _ _ h2, h3, (by show 8 + 4 ≤ sizeLine; omega), fun M H4 s4 n4 h4 => ⟨M, rfl, h4, (s2.trans s3).trans s4⟩⟩⟩
    rintro _ H3 ⟨L3, rfl, h3, s3⟩
    refine ⟨fun σ' H' => ∃ W : Addr, σ' = [some (.ref a), some (.ref L3), some (.ref W), none, none] ∧ H' W = some (.lst (KWS.map V.str)) ∧ Same H3 H', ?_, ?_⟩
    · exact ⟨(by show 12 ≤ sizeLine; omega), fun L H4 s4 n4 h4 => ⟨L, rfl, h4, s4⟩⟩
    rintro _ H4 ⟨W, rfl, h4, s4⟩
    have h34 := s4 _ _ h3
    have bs : ∀ j : Nat, j < 12 → atI (([.bl (decide (i = 0)), .bl (decide (i = 1)), .bl (decide (i = 2)), .bl (decide (i = 3))] ++ [.bl (decide (i = 4)), .bl (decide (i = 5)), .bl (decide (i = 6)), .bl (decide (i = 7))]) ++ [.bl (decide (i = 8)), .bl (decide (i = 9)), .bl (decide (i = 10)), .bl (decide (i = 11))]) (0 + (j : Int)) = some (V.bl (decide (i = j))) := fun j hj => by
      match j, hj with
      | 0, _ => rfl
      | 1, _ => rfl
      | 2, _ => rfl
      | 3, _ => rfl
      | 4, _ => rfl
      | 5, _ => rfl
      | 6, _ => rfl
      | 7, _ => rfl
      | 8, _ => rfl
      | 9, _ => rfl
      | 10, _ => rfl
      | 11, _ => rfl
      | n + 12, h => omega
    have wd : ∀ j : Nat, j < 12 → atI (KWS.map V.str) (0 + (j : Int)) = some (V.str (KWd j)) := fun j hj => by
      match j, hj with
      | 0, _ => rfl
      | 1, _ => rfl
      | 2, _ => rfl
      | 3, _ => rfl
      | 4, _ => rfl
      | 5, _ => rfl
      | 6, _ => rfl
      | 7, _ => rfl
      | 8, _ => rfl
      | 9, _ => rfl
      | 10, _ => rfl
      | 11, _ => rfl
      | n + 12, h => omega
    refine ⟨fun σ' H' => ∃ Fd : Addr, σ' = [some (.ref a), some (.ref L3), some (.ref W), some (.ref Fd), none] ∧ H' Fd = some (.lst [.str (KWd i)]) ∧ Same H4 H', ?_, ?_⟩
    · refine ⟨12, rfl, by decide, by decide, fun D1 nD => lc_it (walk_range (lo := 0) (n := (12 : Int).toNat)) (fun j H' => Same H4 H' ∧ H' D1 = some (.lst (((List.range j).filterMap fun q => if i = q then some (V.str (KWd q)) else none)))) ⟨same_new nD, upd_same⟩ (fun _ _ _ _ => trivial) ?_ ?_⟩
      · rintro j v H5 H6 hj ⟨s5, d5⟩ ⟨rfl, rfl⟩
        have hj : j < 12 := hj
        have ln : ((List.range j).filterMap fun q => if i = q then some (V.str (KWd q)) else none).length ≤ 12 := by
          have := List.length_filterMap_le (fun q => if i = q then some (V.str (KWd q)) else none) (List.range j)
          rw [List.length_range] at this
          omega
        refine ⟨rfl, _, rfl, _, rfl, L3, _, _, _, rfl, rfl, SqL.of (s5 _ _ h34), bs j hj, _, rfl, ?_⟩
        rw [List.range_succ, List.filterMap_append]
        by_cases e : i = j
        · rw [decide_eq_true e, show [j].filterMap (fun q => if i = q then some (V.str (KWd q)) else none) = [V.str (KWd j)] by rw [List.filterMap_cons, if_pos e]; rfl]
          refine iteT ⟨_, rfl, _, rfl, W, _, _, _, rfl, rfl, SqL.of (s5 _ _ h4), wd j hj, _, d5, by omega, fun b o eb => ?_, upd_same⟩
          rw [upd_ne (ne_of_none eb nD)]
          exact s5 _ _ eb
        · rw [decide_eq_false e, show [j].filterMap (fun q => if i = q then some (V.str (KWd q)) else none) = [] by rw [List.filterMap_cons, if_neg e]; rfl, List.append_nil]
          exact iteF ⟨s5, d5⟩
      · rintro H5 ⟨s5, d5⟩
        have e : ((List.range 12).filterMap fun q => if i = q then some (V.str (KWd q)) else none) = [V.str (KWd i)] := by
          have := congrArg (List.map V.str) (kw_one i hi12)
          rw [List.map_filterMap] at this
          rw [show [V.str (KWd i)] = List.map V.str [KWd i] from rfl, ← this]
          congr 1
          funext q
          split <;> rfl
        exact ⟨D1, rfl, by rw [← e]; exact d5, s5⟩
    rintro _ H5 ⟨Fd, rfl, h5, s5⟩
    obtain ⟨w1, w2, w3, w4⟩ := kw_all i hi12
    have s05 := (s3.trans s4).trans s5
    refine ⟨⟨_, rfl⟩, _, rfl, " ", Fd, [KWd i], rfl, rfl, .inl (SqL.of h5), (by have : (" " : Str).length = 1 := (by decide +kernel); simp only [List.map_cons, List.map_nil, List.sum_cons, List.sum_nil, List.length_cons, List.length_nil]; omega), ?_⟩
    rw [w1]
    refine ⟨_, rfl, Ck i, .ty "ValueError", _, true, hcl, hd.same s05, F.x i hi, rfl, .ty _, F.v i hi, .inr ⟨true, rfl, KWd i, 1, rfl, rfl, w2, ?_⟩⟩
    rw [w3]
    exact k H5 s05
end
end KP
namespace KP
open PySem L2 KD KM KT
open KEX
/-- a class whose making may raise -/
structure MakN (P : Program) (w : World) (K : PySem.W.Frag) (mg : Str → Option Value) (base : Heap) (k : Nat) (x : Str) (C : Addr) (sp : Sp) : Prop where
  ex : ∃ f fd ps, Mk K C f ∧ FnOk P w K mg base (L2N.CX P w) k f fd ps sp ∧ mg x = some (.ref C) ∧ Binds K fd ps []
section
open PySem.Spec PyProof.Rows
variable {X : Cx} {k j : Nat} {x : Str} {C : Addr} {sp : Sp} {p pos : Pos} {e : Expr} {es : List Expr} {t : TA} {E : L2.St → XK}
/-- a class made where errors are awaited by slots -/
def tMakS (C : Addr) (sp : Sp) (E : L2.St → XK) (t : TA) : TE := fun σ H Q => t σ H fun vs H1 => ∀ x dx, H1 x = none → H1 dx = none → dx ≠ x → sp (.ref x :: vs) (upd (upd H1 dx (.own x)) x (.ins C dx [])) (fun v H2 => v = .non ∧ Q (.ref x) H2) (E σ)
theorem pe_mkN (c : MakN X.prog X.w X.K X.mg X.base k x C sp) (hr : Room j X.A) (hk : k + 1 ≤ j) (hx : ∀ σ, PassesAt (L2N.CX X.prog X.w) X σ (E σ)) (hg : Gl X x) (ha : PA X (e :: es) t)
    (hdb : (x == ("__debug__" : Str)) = false := by decide) (he : starEach (e :: es) X.env = (false, eval e X.env) :: starEach es X.env := by rfl) (hpl : (backTo pos (starEach es X.env)).any (·.1) = false := by rfl) :
    PE X (.Call (.Name x p) (e :: es) [] pos) (tMakS C sp E t) := by
  obtain ⟨f, fd, ps, M, F, m, b⟩ := c.ex
  have hr1 := hr.mono hk
  refine ⟨fun pins s σ H Q I h => wpAny_Call_Name_kw (ld_glob I hg m ?_ hdb)⟩
  refine PySem.W.callWith_K (h₀ := X.base) I.ok.mod.kin M.kp (thn (ha.run pos pins s σ H _ I h) fun us s1 ⟨vs, H1, I1, r, q⟩ => ⟨I1.kIn, ?_⟩) he hpl
  have nA : H1 s1.heap.objs.size = none := I1.hok.fresh (Nat.le_refl _)
  have nB : H1 (s1.heap.objs.size + 1) = none := I1.hok.fresh (Nat.le_succ _)
  have q0 := q _ _ nB nA (Nat.ne_of_lt (Nat.lt_succ_self _))
  have J := Inv.made (C := C) I1
  have rv : Vals (V.ref (s1.heap.objs.size + 1) :: vs) (Value.ref (s1.heap.objs.size + 1) :: us) := .cons rfl r
  have hl : (Value.ref (s1.heap.objs.size + 1) :: us).length = ps.length := by rw [← rv.length]; exact F.len _ _ _ _ q0
  have bb := b _ (Value.ref (s1.heap.objs.size + 1) :: us) J.kIn (by rw [List.append_nil]; exact hl)
  rw [List.append_nil] at bb
  refine wpAny_call (make_map (f := f) I1.kIn M.makes M.init (beq_iff_eq.mp M.fn) (codeAny_mono (F.run _ X.stack _ _ ⟨Value.ref (s1.heap.objs.size + 1) :: us, []⟩ _ _ _ (E σ) (hr1.make C us []) (J.env0.make C us []) bb rv q0) fun z s' hz => ?_))
  cases z with
  | error e => exact hx σ pins _ _ e s' J hz
  | ok fl =>
    cases fl with
    | ret u =>
      obtain ⟨v, H', J', rr, ev, q3⟩ := J.after hz
      subst ev
      exact ⟨rr, ⟨V.ref (s1.heap.objs.size + 1), H', J', rfl, q3⟩⟩
    | next => exact hz.elim
    | brk => exact hz.elim
    | cont => exact hz.elim
end
end KP
namespace KP
open PySem L2 KD KM KT
open KEX
/-- what is no entry -/
def NoE (H : Hp) (v : V) : Prop := (∃ x : Str, v = .str x) ∨ v = .non ∨ (∃ i : Int, v = .int i) ∨ (∃ b : Bool, v = .bl b) ∨ ∃ (t : Addr) (xs : List V), v = .ref t ∧ H t = some (.tup xs)
theorem NoE.same {H H' : Hp} (s : Same H H') {v : V} : NoE H v → NoE H' v
  | .inl h => .inl h
  | .inr (.inl h) => .inr (.inl h)
  | .inr (.inr (.inl h)) => .inr (.inr (.inl h))
  | .inr (.inr (.inr (.inl h))) => .inr (.inr (.inr (.inl h)))
  | .inr (.inr (.inr (.inr ⟨t, xs, a, b⟩))) => .inr (.inr (.inr (.inr ⟨t, xs, a, s _ _ b⟩)))
def NoeT : List String := ["str", "NoneType", "int", "bool", "tuple"]
theorem NoE.ty {K : PySem.W.Frag} {H : Hp} {v : V} (h : NoE H v) : ∃ n ∈ NoeT, L2.TyX K H v (.type n) := by
  rcases h with ⟨x, rfl⟩ | rfl | ⟨i, rfl⟩ | ⟨b, rfl⟩ | ⟨t, xs, rfl, h⟩
  · exact ⟨"str", by simp [NoeT], .base (.str _)⟩
  · exact ⟨"NoneType", by simp [NoeT], .base .non⟩
  · exact ⟨"int", by simp [NoeT], .base (.int _)⟩
  · exact ⟨"bool", by simp [NoeT], .base (.bl _)⟩
  · exact ⟨"tuple", by simp [NoeT], .base (.tup h)⟩
/-- an entry as handed in -/
def EvAt (C : Nat → Addr) (H : Hp) (v : V) : Option En → Prop
  | none => NoE H v
  | some e => ∃ q, v = .ref q ∧ EntAt C H q e
theorem EvAt.same {C : Nat → Addr} {H H' : Hp} (s : Same H H') {v : V} : ∀ {oe : Option En}, EvAt C H v oe → EvAt C H' v oe
  | none, h => NoE.same s h
  | some _, ⟨q, a, dx, b⟩ => ⟨q, a, dx, s _ _ b⟩
def spTFtN (Ck : Nat → Addr) (C : Nat → Addr) (Cy : Addr) (ks : List Nat) : Sp := fun vs H Q E => ∃ (yp : Addr) (d : Int) (v : V) (oe : Option En) (y : Yr), vs = [.ref yp, .int d, v] ∧ YearAt Cy [] H yp y ∧ y.ok ∧ EvAt C H v oe ∧ (∀ e, oe = some e → e.k ∈ ks) ∧
  (∀ e, oe = some e → e.fit (nms y.hs) y.days d = true → ∀ (u : Addr) (H' : Hp), Same H H' → H u = none → H' u = some (.tup e.tup) → Q (.ref u) H') ∧ ((∀ e, oe = some e → e.fit (nms y.hs) y.days d = false) → ∀ H' : Hp, Same H H' → E (.ref (Ck 2)) none H')
/-! ### rows of a book -/
/-- a thing that may stand for a row, or in one -/
def ThG (C : Nat → Addr) (H : Hp) (v : V) : Prop := KD.Th H v ∨ ∃ (q : Addr) (e : En), v = .ref q ∧ EntAt C H q e ∧ e.k = 0
theorem ThG.same {C : Nat → Addr} {H H' : Hp} {v : V} (s : Same H H') : ThG C H v → ThG C H' v
  | .inl t => .inl (t.same s)
  | .inr ⟨q, e, a, ⟨dx, b⟩, c⟩ => .inr ⟨q, e, a, ⟨dx, s _ _ b⟩, c⟩
structure GKd (K : PySem.W.Frag) (C CE : Addr) : Prop where
  e : EntI K C CE
  kb : PySem.W.kitOne K (.ref C) (.type "bool") = some false
  ki : PySem.W.kitOne K (.ref C) (.type "int") = some false
  kt : PySem.W.kitOne K (.ref C) (.type "tuple") = some false
def isLs (H : Hp) : V → Bool
  | .ref a => match H a with | some (.lst _) => true | _ => false
  | _ => false
section
variable {K : PySem.W.Frag} {C : Nat → Addr} {CE : Addr}
theorem thG_bool (G : GKd K (C 0) CE) {H : Hp} {v : V} (t : ThG C H v) : ∃ u, L2.TyX K H v u ∧ PySem.W.kitOne K u (.type "bool") = some (isBl v) := by
  rcases t with t | ⟨q, e, rfl, ⟨dx, hq⟩, hk⟩
  · exact th_bool t
  · rw [hk] at hq
    exact ⟨_, .base (.ins hq G.e.cl G.e.ha G.e.hn G.e.htk G.e.hm), G.kb⟩
theorem thG_int (G : GKd K (C 0) CE) {H : Hp} {v : V} (t : ThG C H v) : ∃ u, L2.TyX K H v u ∧ PySem.W.kitOne K u (.type "int") = some (isBl v || isIn v) := by
  rcases t with t | ⟨q, e, rfl, ⟨dx, hq⟩, hk⟩
  · exact th_int t
  · rw [hk] at hq
    exact ⟨_, .base (.ins hq G.e.cl G.e.ha G.e.hn G.e.htk G.e.hm), G.ki⟩
theorem thG_tup (G : GKd K (C 0) CE) {H : Hp} {v : V} (t : ThG C H v) : ∃ u, L2.TyX K H v u ∧ PySem.W.kitOne K u (.type "tuple") = some (isTp H v) := by
  rcases t with t | ⟨q, e, rfl, ⟨dx, hq⟩, hk⟩
  · exact th_tup t
  · rw [hk] at hq
    exact ⟨_, .base (.ins hq G.e.cl G.e.ha G.e.hn G.e.htk G.e.hm), by rw [show isTp H (V.ref q) = false by simp only [isTp, hq]]; exact G.kt⟩
theorem th_ls {H : Hp} {v : V} (t : KD.Th H v) : ∃ u, L2.TyX K H v u ∧ PySem.W.kitOne K u (.type "list") = some (isLs H v) := by
  cases t with
  | non => exact ⟨_, .base .non, by first | exact kit_ty (r := true) (by decide +kernel) | exact kit_ty (r := false) (by decide +kernel)⟩
  | bl b => exact ⟨_, .base (.bl b), by first | exact kit_ty (r := true) (by decide +kernel) | exact kit_ty (r := false) (by decide +kernel)⟩
  | int i => exact ⟨_, .base (.int i), by first | exact kit_ty (r := true) (by decide +kernel) | exact kit_ty (r := false) (by decide +kernel)⟩
  | str x h => exact ⟨_, .base (.str x), by first | exact kit_ty (r := true) (by decide +kernel) | exact kit_ty (r := false) (by decide +kernel)⟩
  | lst h => exact ⟨_, .base (.lst h), by simp only [isLs, h]; first | exact kit_ty (r := true) (by decide +kernel) | exact kit_ty (r := false) (by decide +kernel)⟩
  | tup h => exact ⟨_, .base (.tup h), by simp only [isLs, h]; first | exact kit_ty (r := true) (by decide +kernel) | exact kit_ty (r := false) (by decide +kernel)⟩
  | dct h => exact ⟨_, .base (.dK h), by simp only [isLs, h]; first | exact kit_ty (r := true) (by decide +kernel) | exact kit_ty (r := false) (by decide +kernel)⟩
end
/-- a row that is good, and one that is none -/
def RwG (y : Yr) (C : Nat → Addr) (ks : List Nat) (H : Hp) (v : V) : Prop := ∃ (t : Addr) (x : Int × En), v = .ref t ∧ DatT C H t x ∧ x.2.k ∈ ks ∧ x.2.fit (nms y.hs) y.days x.1 = true ∧ 1 ≤ x.1 ∧ x.1 ≤ y.days
inductive RwB (y : Yr) (C : Nat → Addr) (ks : List Nat) (H : Hp) : V → Prop
  | no (v : V) : ThG C H v → isTp H v = false → RwB y C ks H v
  | len (t : Addr) (xs : List V) : H t = some (.tup xs) → xs.length ≠ 2 → RwB y C ks H (.ref t)
  | day (t : Addr) (x z : V) : H t = some (.tup [x, z]) → ThG C H x → wholeV 1 y.days x = false → RwB y C ks H (.ref t)
  | ent (t : Addr) (d : Int) (z : V) (oe : Option En) : H t = some (.tup [.int d, z]) → 1 ≤ d → d ≤ y.days → EvAt C H z oe → (∀ e, oe = some e → e.k ∈ ks ∧ e.fit (nms y.hs) y.days d = false) → RwB y C ks H (.ref t)
theorem isTp_same {C : Nat → Addr} {H H' : Hp} {v : V} (s : Same H H') (t : ThG C H v) : isTp H' v = isTp H v := by
  rcases t with t | ⟨q, e, rfl, ⟨dx, hq⟩, hk⟩
  · cases t with
    | lst h => simp only [isTp, h, s _ _ h]
    | tup h => simp only [isTp, h, s _ _ h]
    | dct h => simp only [isTp, h, s _ _ h]
    | _ => rfl
  · simp only [isTp, hq, s _ _ hq]
theorem RwG.same {y : Yr} {C : Nat → Addr} {ks : List Nat} {H H' : Hp} {v : V} (s : Same H H') : RwG y C ks H v → RwG y C ks H' v := fun ⟨t, x, e, h, r⟩ => ⟨t, x, e, h.same s, r⟩
theorem RwB.same {y : Yr} {C : Nat → Addr} {ks : List Nat} {H H' : Hp} {v : V} (s : Same H H') (h : RwB y C ks H v) : RwB y C ks H' v := by
  cases h with
  | no v t i => exact .no v (t.same s) (by rw [isTp_same s t]; exact i)
  | len t xs h l => exact .len t xs (s _ _ h) l
  | day t x z h th w => exact .day t x z (s _ _ h) (th.same s) w
  | ent t d z oe h d0 d1 ev hk => exact .ent t d z oe (s _ _ h) d0 d1 (ev.same s) hk
def BadRows (y : Yr) (C : Nat → Addr) (ks : List Nat) (H : Hp) (v : V) : Prop :=
  (KD.Th H v ∧ isLs H v = false) ∨ ∃ (rs : Addr) (xs : List V), v = .ref rs ∧ H rs = some (.lst xs) ∧ (40 < xs.length ∨ (xs.length ≤ 40 ∧ (∀ x ∈ xs, RwG y C ks H x ∨ RwB y C ks H x) ∧ ∃ x ∈ xs, RwB y C ks H x))
theorem BadRows.same {y : Yr} {C : Nat → Addr} {ks : List Nat} {H H' : Hp} {v : V} (s : Same H H') : BadRows y C ks H v → BadRows y C ks H' v := by
  rintro (⟨t, i⟩ | ⟨rs, xs, e, h, r⟩)
  · refine .inl ⟨t.same s, ?_⟩
    cases t with
    | lst h => simp only [isLs, h] at i; cases i
    | tup h => simp only [isLs, s _ _ h]
    | dct h => simp only [isLs, s _ _ h]
    | _ => rfl
  · refine .inr ⟨rs, xs, e, s _ _ h, ?_⟩
    rcases r with r | ⟨r1, r2, x, hx, r3⟩
    · exact .inl r
    · exact .inr ⟨r1, fun x hx => (r2 x hx).imp (fun z => z.same s) fun z => z.same s, x, hx, r3.same s⟩
def spListX : Sp := fun vs H Q _ => ∃ (v : V) (lo hi : Int), vs = [v, .int lo, .int hi] ∧ ((KD.Th H v ∧ isLs H v = false ∧ Q (.bl false) H) ∨ ∃ (l : Addr) (xs : List V), v = .ref l ∧ H l = some (.lst xs) ∧ Q (.bl (decide (lo ≤ (xs.length : Int) ∧ (xs.length : Int) ≤ hi))) H)
def spRowX (C : Nat → Addr) : Sp := fun vs H Q _ => ∃ (v : V) (m : Int), vs = [v, .int m] ∧ ((ThG C H v ∧ isTp H v = false ∧ Q (.bl false) H) ∨ ∃ (l : Addr) (xs : List V), v = .ref l ∧ H l = some (.tup xs) ∧ Q (.bl (decide ((xs.length : Int) = m))) H)
def spWholeX (C : Nat → Addr) : Sp := fun vs H Q _ => ∃ (v : V) (lo hi : Int), vs = [v, .int lo, .int hi] ∧ ThG C H v ∧ Q (.bl (wholeV lo hi v)) H
def spNumX (Ck : Nat → Addr) (C : Nat → Addr) (Cy : Addr) (ks : List Nat) : Sp := fun vs H _ E => ∃ (yp : Addr) (v : V) (y : Yr), vs = [.ref yp, v] ∧ YearAt Cy [] H yp y ∧ y.ok ∧ BadRows y C ks H v ∧ ∀ H', Same H H' → E (.ref (Ck 2)) none H'
def spDIX (Ck : Nat → Addr) (CD : Addr) (C : Nat → Addr) (Cy : Addr) (ks : List Nat) : Sp := fun vs H _ E => ∃ (p dx yp : Addr) (v : V) (y : Yr), vs = [.ref p, .ref yp, v] ∧ H p = some (.ins CD dx []) ∧ YearAt Cy [] H yp y ∧ y.ok ∧ BadRows y C ks H v ∧ ∀ H', Same H H' → E (.ref (Ck 2)) none H'
section
variable {P : Program} {w : World} {K : PySem.W.Frag} {mg : Str → Option Value} {base : Heap} {C Ck : Nat → Addr} {CD CE Cy Ct : Addr}
theorem c_listX (B : Base K mg) (D : DefT K mg "is_list" sList ["value", "least", "most"]) : Cal P w K mg base 1 "is_list" spListX := by
  refine cal D scList (fun vs H Q E h => ?_) (fun f cdv A outer s H vs Q E hr h => ?_)
  · obtain ⟨v, lo, hi, rfl, _⟩ := h
    rfl
  · obtain ⟨v, lo, hi, rfl, h⟩ := h
    refine ⟨_, (pss_one (ps_ret (pe_and (pe_callB call_isi (by rfl) B.isi (by decide +kernel) (pa_cons (pv 0) (pa_cons (pe_bltn (v := .ty "list") (by rfl) B.list (by decide +kernel) rfl) pa_nil))) (pe_one (pe_chain op_le op_le (pv 1) (pe_callB call_len_seq (by rfl) B.len (by decide +kernel) (pa_cons (pv 0) pa_nil)) (pv 2)))))), ?_⟩
    rcases h with ⟨t, i, k⟩ | ⟨l, xs, rfl, ha, k⟩
    · obtain ⟨u, tu, ku⟩ := th_ls (K := K) t
      refine ⟨_, rfl, _, _, _, _, _, rfl, .ty _, tu, ku, _, rfl, ?_⟩
      rw [i]
      exact iteF k
    · obtain ⟨u, tu, ku⟩ := th_ls (K := K) (.lst ha)
      refine ⟨_, rfl, _, _, _, _, _, rfl, .ty _, tu, ku, _, rfl, ?_⟩
      rw [show isLs H (V.ref l) = true by simp only [isLs, ha]]
      refine iteT ⟨_, rfl, _, rfl, l, _, rfl, .inl (SqL.of ha), _, _, rfl, rfl, _, rfl, ?_⟩
      by_cases h1 : lo ≤ (xs.length : Int)
      · rw [if_pos (decide_eq_true h1)]
        refine ⟨_, rfl, _, _, rfl, rfl, ?_⟩
        show Q (.bl (decide ((xs.length : Int) ≤ hi))) H
        rw [show decide ((xs.length : Int) ≤ hi) = decide (lo ≤ (xs.length : Int) ∧ (xs.length : Int) ≤ hi) by simp [h1]]
        exact k
      · rw [if_neg (by rw [decide_eq_false h1]; exact Bool.false_ne_true)]
        rw [decide_eq_false fun z => h1 z.1] at k
        exact k
theorem c_rowX (B : Base K mg) (G : GKd K (C 0) CE) (D : DefT K mg "is_row" sRow ["value", "many"]) : Cal P w K mg base 1 "is_row" (spRowX C) := by
  refine cal D scRow (fun vs H Q E h => ?_) (fun f cdv A outer s H vs Q E hr h => ?_)
  · obtain ⟨v, n, rfl, _⟩ := h
    rfl
  · obtain ⟨v, n, rfl, h⟩ := h
    refine ⟨_, (pss_one (ps_ret (pe_and (pe_callB call_isi (by rfl) B.isi (by decide +kernel) (pa_cons (pv 0) (pa_cons (pe_bltn (v := .ty "tuple") (by rfl) B.tuple (by decide +kernel) rfl) pa_nil))) (pe_one (pe_cmpR op_eq (pe_callB call_len_seq (by rfl) B.len (by decide +kernel) (pa_cons (pv 0) pa_nil)) (pv 1) (nomark _)))))), ?_⟩
    rcases h with ⟨t, i, k⟩ | ⟨l, xs, rfl, ha, k⟩
    · obtain ⟨u, tu, ku⟩ := thG_tup G t
      refine ⟨_, rfl, _, _, _, _, _, rfl, .ty _, tu, ku, _, rfl, ?_⟩
      rw [i]
      exact iteF k
    · obtain ⟨u, tu, ku⟩ := thG_tup G (.inl (.tup ha))
      refine ⟨_, rfl, _, _, _, _, _, rfl, .ty _, tu, ku, _, rfl, ?_⟩
      rw [show isTp H (V.ref l) = true by simp only [isTp, ha]]
      refine iteT ⟨_, rfl, l, _, rfl, .inr (SqT.of ha), _, rfl, rfl, ?_⟩
      rw [show decide (V.int ((xs.length : Nat) : Int) = V.int n) = decide ((xs.length : Int) = n) by simp]
      exact k
theorem c_wholeX (B : Base K mg) (G : GKd K (C 0) CE) (D : DefT K mg "is_whole" sWhole ["value", "least", "most"]) : Cal P w K mg base 1 "is_whole" (spWholeX C) := by
  refine cal D scWhole (fun vs H Q E h => ?_) (fun f cdv A outer s H vs Q E hr h => ?_)
  · obtain ⟨v, lo, hi, rfl, _⟩ := h
    rfl
  · obtain ⟨v, lo, hi, rfl, t, k⟩ := h
    refine ⟨_, pss_cons (ps_if (PW.pt (pw_or (pt_val (pe_callB call_isi (by rfl) B.isi (by decide +kernel) (pa_cons (pv 0) (pa_cons (pe_bltn (v := .ty "bool") (by rfl) B.bool (by decide +kernel) rfl) pa_nil))))
        (pw_or1 (pt_not (pt_val (pe_callB call_isi (by rfl) B.isi (by decide +kernel) (pa_cons (pv 0) (pa_cons (pe_bltn (v := .ty "int") (by rfl) B.int (by decide +kernel) rfl) pa_nil)))))))) (pss_one (ps_ret pe_bl)) pss_nil)
      (pss_one (ps_ret (pe_chain op_le op_le (pv 1) (pv 0) (pv 2)))), ?_⟩
    obtain ⟨u, tu, ku⟩ := thG_bool G t
    obtain ⟨u2, tu2, ku2⟩ := thG_int G t
    refine ⟨_, rfl, _, _, _, _, _, rfl, .ty _, tu, ku, _, rfl, ?_⟩
    cases hb : isBl v with
    | true =>
      refine iteT ?_
      have e : wholeV lo hi v = false := by cases v <;> first | rfl | exact absurd hb (by simp [isBl])
      rw [e] at k
      exact k
    | false =>
      refine iteF ⟨_, rfl, _, _, _, _, _, rfl, .ty _, tu2, ku2, _, rfl, ?_⟩
      rw [hb, Bool.false_or]
      cases hi2 : isIn v with
      | false =>
        refine iteT ?_
        have e : wholeV lo hi v = false := by cases v <;> first | rfl | exact absurd hi2 (by simp [isIn])
        rw [e] at k
        exact k
      | true =>
        obtain ⟨i, rfl⟩ : ∃ i, v = .int i := by cases v <;> first | exact ⟨_, rfl⟩ | exact absurd hi2 (by simp [isIn])
        refine iteF ⟨_, rfl, _, rfl, _, _, rfl, rfl, _, rfl, ?_⟩
        have k' : Q (.bl (decide (lo ≤ i ∧ i ≤ hi))) H := k
        by_cases h1 : lo ≤ i
        · rw [if_pos (decide_eq_true h1)]
          refine ⟨_, rfl, _, _, rfl, rfl, ?_⟩
          by_cases h2 : i ≤ hi
          · show Q (.bl (decide (i ≤ hi))) H
            rw [decide_eq_true h2]
            rw [decide_eq_true ⟨h1, h2⟩] at k'
            exact k'
          · show Q (.bl (decide (i ≤ hi))) H
            rw [decide_eq_false h2]
            rw [decide_eq_false fun z => h2 z.2] at k'
            exact k'
        · rw [if_neg (by rw [decide_eq_false h1]; exact Bool.false_ne_true)]
          rw [decide_eq_false fun z => h1 z.1] at k'
          exact k'
theorem c_tftN (B : Base K mg) (N : ErrF K mg "NoEntry" (Ck 2)) (mE : mg "Entry" = some (.ref CE)) {ks : List Nat} (hk0 : ks.headD 0 ∈ ks) (kE : ∀ n ∈ NoeT, PySem.W.kitOne K (.type n) (.ref CE) = some false) (Ei : ∀ k ∈ ks, EntI K (C k) CE) (Ft : ∀ k ∈ ks, MetT P w K mg base 2 (C k) "fits" (spFits C Cy k)) (To : ∀ k ∈ ks, MetT P w K mg base 1 (C k) "told" (spTold C k)) (D : DefT K mg "told_fitting" sTFt ["year", "date", "entry"]) : CalN P w K mg base 3 "told_fitting" (spTFtN Ck C Cy ks) := by
  refine calN D scTFt (fun vs H Q E h => ?_) (fun f cdv A outer s H vs Q E hr h => ?_)
  · obtain ⟨yp, d, v, oe, y, rfl, _⟩ := h
    rfl
  · obtain ⟨yp, d, v, oe, y, rfl, hy, ok, hv, hks, k1, k2⟩ := h
    cases oe with
    | some e =>
      obtain ⟨q, rfl, he⟩ := hv
      have hk := hks e rfl
      refine ⟨_, (pss_cons (ps_if (PW.pt (pw_or (pt_not (pt_val (pe_callB (call_isS (Ei e.k hk)) (by rfl) B.isi (by decide +kernel) (pa_cons (pv 2) (pa_cons (pe_glob (v := .ref CE) rfl mE rfl) pa_nil))))) (pw_or1 (pt_not (pt_val (pe_mtT (Ft e.k hk) hr (by decide) (pv 2) (pa_cons (pv 0) (pa_cons (pv 1) pa_nil)))))))) (pss_one (L2N.ps_raise rfl (L2N.takes_of rfl rfl rfl rfl) (L2N.pmk_own PySem.F.excBase_ValueError N.x N.g N.k (raises_own N.b N.t) rfl))) pss_nil)
        (pss_one (ps_ret (pe_mtT0 (To e.k hk) hr (by decide) (pv 2))))), ?_⟩
      obtain ⟨dx, hq⟩ := id he
      refine ⟨_, rfl, q, dx, _, rfl, hq, _, rfl, iteF ?_⟩
      refine ⟨_, rfl, q, dx, _, rfl, hq, en_fits, _, rfl, _, rfl, q, yp, e, y, d, rfl, rfl, he, hy, ok.h.l8, fun H1 s1 => ⟨_, rfl, ?_⟩⟩
      cases ef : e.fit (nms y.hs) y.days d with
      | true => exact iteF ⟨_, rfl, q, dx, _, rfl, s1 _ _ hq, en_told, q, e, rfl, rfl, ⟨dx, s1 _ _ hq⟩, fun u nu => k1 e rfl ef u _ (s1.trans (same_new nu)) (same_none s1 nu) upd_same⟩
      | false => exact iteT (k2 (fun e' he' => by injection he' with he'; rw [← he']; exact ef) H1 s1)
    | none =>
      obtain ⟨n, hn, hty⟩ := NoE.ty (K := K) hv
      refine ⟨_, (pss_cons (ps_if (PW.pt (pw_or (pt_not (pt_val (pe_callB call_isi (by rfl) B.isi (by decide +kernel) (pa_cons (pv 2) (pa_cons (pe_glob (v := .ref CE) rfl mE rfl) pa_nil))))) (pw_or1 (pt_not (pt_val (pe_mtT (Ft (ks.headD 0) hk0) hr (by decide) (pv 2) (pa_cons (pv 0) (pa_cons (pv 1) pa_nil)))))))) (pss_one (L2N.ps_raise rfl (L2N.takes_of rfl rfl rfl rfl) (L2N.pmk_own PySem.F.excBase_ValueError N.x N.g N.k (raises_own N.b N.t) rfl))) pss_nil)
        (pss_one (ps_ret (pe_mtT0 (To (ks.headD 0) hk0) hr (by decide) (pv 2))))), ?_⟩
      exact ⟨_, rfl, v, .ref CE, .type n, .ref CE, false, rfl, .own _, hty, kE n hn, _, rfl, iteT (k2 (fun e' he' => nomatch he') H (Same.refl _))⟩
abbrev sNNm : Stmt := top 43
abbrev nNNm : List Str := ["year", "rows", "found", "number", "row"]
theorem scNNm : FnScope nNNm ["year", "rows"] (defScope sNNm) := ⟨rfl, rfl, rfl, by decide +kernel, rfl, by decide +kernel, by decide +kernel⟩
set_option maxHeartbeats 2000000 in
theorem c_numX (B : Base K mg) (B2 : Base2 K mg) (Y : YearF K mg Cy) (N : ErrF K mg "NoEntry" (Ck 2)) {tM : _} (hM : mg "MOST_ROWS" = some (.int 40 tM)) {ks : List Nat} (Ls : Cal P w K mg base 1 "is_list" spListX) (Ro : Cal P w K mg base 1 "is_row" (spRowX C)) (Wh : Cal P w K mg base 1 "is_whole" (spWholeX C)) (Tf : CalN P w K mg base 3 "told_fitting" (spTFtN Ck C Cy ks)) (D : DefT K mg "numbered" sNNm ["year", "rows"]) : CalN P w K mg base 4 "numbered" (spNumX Ck C Cy ks) := by
  refine calN D scNNm (fun vs H Q E h => ?_) (fun f cdv A outer s H vs Q E hr h => ?_)
  · obtain ⟨yp, v, y, rfl, _⟩ := h
    rfl
  · obtain ⟨yp, v, y, rfl, hy, ok, bad, k⟩ := h
    have hz : sizeLine = 16777216 := by decide
    refine ⟨_, (pss_cons (ps_if (pt_not (pt_val (pe_cl Ls hr (by decide) (by rfl) (pa_cons (pv 1) (pa_cons pe_int (pa_cons (pe_glob (v := .int 40) rfl hM ⟨_, rfl⟩) pa_nil)))))) (pss_one (L2N.ps_raise rfl (L2N.takes_of rfl rfl rfl rfl) (L2N.pmk_own PySem.F.excBase_ValueError N.x N.g N.k (raises_own N.b N.t) rfl))) pss_nil)
        (pss_cons (ps_set (i := 2) scNNm.nd rfl (by first | exact Or.inl rfl | exact Or.inr rfl) (pe_lstW pa_nil))
        (pss_cons (ps_for (passes_of rfl) rfl (pi_enum (by rfl) B2.enumerate (pa_cons (pv 1) pa_nil)) (pg_tup rfl (pgs_cons (pg_name (i := 3) scNNm.nd rfl (by first | exact Or.inl rfl | exact Or.inr rfl)) (pgs_cons (pg_name (i := 4) scNNm.nd rfl (by first | exact Or.inl rfl | exact Or.inr rfl)) pgs_nil))) (pss_cons (ps_if (PW.pt (pw_or (pt_not (pt_val (pe_cl Ro hr (by decide) (by rfl) (pa_cons (pv 4) (pa_cons pe_int pa_nil))))) (pw_or1 (pt_not (pt_val (pe_cl Wh hr (by decide) (by rfl) (pa_cons (pe_ix ix_tup (pv 4) pe_int (fun _ _ => rfl)) (pa_cons pe_int (pa_cons (pe_fld (pv 0) rfl) pa_nil))))))))) (pss_one (L2N.ps_raise rfl (L2N.takes_of rfl rfl rfl rfl) (L2N.pmk_own PySem.F.excBase_ValueError N.x N.g N.k (raises_own N.b N.t) rfl))) pss_nil)
        (pss_one (ps_expr (pe_bm PySem.F.plainAttrs_list PySem.F.slot_list_append PySem.F.type_list_append mt_append (pv 2) (pa_cons (pe_tupW (pa_cons (pv 3) (pa_cons (pe_ix ix_tup (pv 4) pe_int (fun _ _ => rfl)) (pa_cons (pe_clN Tf hr (by decide) (fun σ => L2N.passAt (L2N.takes_of rfl rfl rfl rfl) σ) (by rfl) (pa_cons (pv 0) (pa_cons (pe_ix ix_tup (pv 4) pe_int (fun _ _ => rfl)) (pa_cons (pe_ix ix_tup (pv 4) pe_int (fun _ _ => rfl)) pa_nil)))) pa_nil)))) pa_nil))))))
        (pss_one (ps_ret (pv 2)))))), ?_⟩
    obtain ⟨dy, l1, l2, l3, t1, t2, t3, hyp, _⟩ := hy.ex
    rcases bad with ⟨t, i⟩ | ⟨rs, xs, rfl, hrs, r⟩
    · exact ⟨_, rfl, v, 0, 40, rfl, .inl ⟨t, i, _, rfl, iteT (k H (Same.refl _))⟩⟩
    by_cases l40 : xs.length ≤ 40
    rotate_left
    · refine ⟨_, rfl, _, 0, 40, rfl, .inr ⟨rs, xs, rfl, hrs, _, rfl, ?_⟩⟩
      rw [decide_eq_false (by omega)]
      exact iteT (k H (Same.refl _))
    obtain ⟨_, r2, xb, hxb, r3⟩ := r.resolve_left (by omega)
    refine ⟨_, rfl, _, 0, 40, rfl, .inr ⟨rs, xs, rfl, hrs, _, rfl, ?_⟩⟩
    rw [decide_eq_true (by omega)]
    refine iteF ⟨(by show 0 ≤ sizeLine; omega), fun L H1 s1 nL hL => ?_⟩
    refine ⟨_, rfl, rs, _, rfl, SqL.of (s1 _ _ hrs), for_it walk_enum (fun i σ H' => ∃ v3 v4, σ = [some (.ref yp), some (.ref rs), some (.ref L), v3, v4] ∧ Same H H' ∧ (∃ us : List V, H' L = some (.lst us) ∧ us.length = i) ∧ ∀ x ∈ xs.take i, ¬ RwB y C ks H x) ⟨_, _, rfl, s1, ⟨[], hL, rfl⟩, fun x hx => nomatch hx⟩ (fun i σ H' _ ⟨_, _, _, z, _⟩ => SqL.of (z _ _ hrs)) ?_ ?_⟩
    · rintro i v σ H4 H5 hi ⟨v3, v4, rfl, s4, ⟨us, d4, ul⟩, hg⟩ ⟨Tt, x, z, rfl, nT, rfl, ex, ez⟩
      cases ex
      have hi : i < xs.length := hi
      have ez : xs[i]? = some z := ez
      have zm := List.mem_of_getElem? ez
      have sT : Same H4 (upd H4 Tt (.tup [.int (i : Nat), z])) := same_new nT
      have hT5 : upd H4 Tt (.tup [.int (i : Nat), z]) Tt = some (.tup [.int (i : Nat), z]) := upd_same
      generalize upd H4 Tt (.tup [.int (i : Nat), z]) = H5 at sT hT5
      have s5 := s4.trans sT
      have hyp5 := s5 _ _ hyp
      refine ⟨Tt, _, rfl, SqT.of hT5, rfl, _, _, rfl, _, _, rfl, rfl, ?_⟩
      have at0 : ∀ {x z : V}, atI [x, z] 0 = some x := (show atI _ ((0 : Nat) : Int) = _ from atI_nat rfl)
      have at1 : ∀ {x z : V}, atI [x, z] 1 = some z := (show atI _ ((1 : Nat) : Int) = _ from atI_nat rfl)
      rcases (show (RwG y C ks H z ∧ ¬ RwB y C ks H z) ∨ RwB y C ks H z from (Classical.em (RwB y C ks H z)).elim .inr fun n => .inl ⟨(r2 z zm).resolve_right n, n⟩) with ⟨g, gn⟩ | b
      · obtain ⟨t, xe, rfl, ⟨q, ht, hq⟩, g1, g2, g3, g4⟩ := id g
        obtain ⟨dx, hq⟩ := hq
        refine ⟨_, rfl, _, _, rfl, .inr ⟨t, _, rfl, s5 _ _ ht, _, rfl, ?_⟩⟩
        rw [decide_eq_true (by rfl)]
        refine iteF ⟨_, rfl, t, _, _, _, rfl, rfl, SqT.of (s5 _ _ ht), at0, _, rfl, yp, Cy, dy, _, .int y.days, rfl, hyp5, Y.cl, Y.nd, rfl, _, _, _, rfl, .inl (.int _), _, rfl, ?_⟩
        rw [show wholeV 1 y.days (V.int xe.1) = true from decide_eq_true ⟨g3, g4⟩]
        refine iteF ?_
        have hL5 := sT _ _ d4
        refine ⟨_, rfl, .inl ⟨rfl, _, SqL.of hL5⟩, _, rfl, _, rfl, t, _, _, _, rfl, rfl, SqT.of (s5 _ _ ht), at0, _, rfl, _, rfl, t, _, _, _, rfl, rfl, SqT.of (s5 _ _ ht), at0, _, rfl, t, _, _, _, rfl, rfl, SqT.of (s5 _ _ ht), at1, yp, xe.1, .ref q, some xe.2, y, rfl, hy.same s5, ok, ⟨q, rfl, dx, s5 _ _ hq⟩, (fun e he => by injection he with he; rw [← he]; exact g1), (fun e he _ u H6 s6 nu hu => ⟨(by show 3 ≤ sizeLine; omega), fun t' H7 s7 n7 h7 => ⟨L, _, _, rfl, rfl, s7 _ _ (s6 _ _ hL5), by omega, _, _, rfl, fun b o e => ?_, ⟨us ++ [.ref t'], ?_, ?_⟩, ?_⟩⟩), fun z => absurd (z xe.2 rfl) (by rw [g2]; decide)⟩
        · rw [upd_ne (ne_of_none e nL)]
          exact s7 _ _ (s6 _ _ (s5 _ _ e))
        · rw [upd_same]
        · rw [List.length_append, ul]; rfl
        · intro x hx
          rw [List.take_add_one, ez] at hx
          rcases List.mem_append.mp hx with hx | hx
          · exact hg x hx
          · rw [List.mem_singleton.mp hx]; exact gn
      · have kk : ∀ H', Same H5 H' → E (.ref (Ck 2)) none H' := fun H' s' => k H' (s5.trans s')
        have b5 := b.same s5
        cases b5 with
        | no v th ht => exact ⟨_, rfl, _, _, rfl, .inl ⟨th, ht, _, rfl, iteT (kk _ (Same.refl _))⟩⟩
        | len t ys ht l2 =>
          refine ⟨_, rfl, _, _, rfl, .inr ⟨t, _, rfl, ht, _, rfl, ?_⟩⟩
          rw [decide_eq_false (by omega)]
          exact iteT (kk _ (Same.refl _))
        | day t x z ht th wx =>
          refine ⟨_, rfl, _, _, rfl, .inr ⟨t, _, rfl, ht, _, rfl, ?_⟩⟩
          rw [decide_eq_true (by rfl)]
          refine iteF ⟨_, rfl, t, _, _, _, rfl, rfl, SqT.of ht, at0, _, rfl, yp, Cy, dy, _, .int y.days, rfl, hyp5, Y.cl, Y.nd, rfl, _, _, _, rfl, th, _, rfl, ?_⟩
          rw [wx]
          exact iteT (kk _ (Same.refl _))
        | ent t d z oe ht d0 d1 ev hk =>
          refine ⟨_, rfl, _, _, rfl, .inr ⟨t, _, rfl, ht, _, rfl, ?_⟩⟩
          rw [decide_eq_true (by rfl)]
          refine iteF ⟨_, rfl, t, _, _, _, rfl, rfl, SqT.of ht, at0, _, rfl, yp, Cy, dy, _, .int y.days, rfl, hyp5, Y.cl, Y.nd, rfl, _, _, _, rfl, .inl (.int _), _, rfl, ?_⟩
          rw [show wholeV 1 y.days (V.int d) = true from decide_eq_true ⟨d0, d1⟩]
          refine iteF ?_
          have hL5 := sT _ _ d4
          exact ⟨_, rfl, .inl ⟨rfl, _, SqL.of hL5⟩, _, rfl, _, rfl, t, _, _, _, rfl, rfl, SqT.of ht, at0, _, rfl, _, rfl, t, _, _, _, rfl, rfl, SqT.of ht, at0, _, rfl, t, _, _, _, rfl, rfl, SqT.of ht, at1, yp, d, z, oe, y, rfl, hy.same s5, ok, ev, (fun e he => (hk e he).1), (fun e he ef => absurd ef (by rw [(hk e he).2]; decide)), fun _ H6 s6 => kk H6 s6⟩
    · rintro σ H4 ⟨v3, v4, rfl, s4, _, hg⟩
      exfalso
      have g := hg xb (by rw [List.take_length]; exact hxb)
      exact g r3
end
end KP
namespace KP
open PySem L2 KD KM KT
open KEX
def spRfB (C : Nat → Addr) (Cy : Addr) (ks : List Nat) : Sp := fun vs H Q _ => ∃ (yp : Addr) (v : V) (y : Yr), vs = [.ref yp, v] ∧ YearAt Cy [] H yp y ∧ y.ok ∧ BadRows y C ks H v ∧ ∀ H', Same H H' → Q (.str "entry") H'
def spRfG (C : Nat → Addr) (Cy : Addr) (ks : List Nat) : Sp := fun vs H Q _ => ∃ (yp rs : Addr) (y : Yr) (ts : List Addr) (es : List (Int × En)), vs = [.ref yp, .ref rs] ∧ YearAt Cy [] H yp y ∧ y.ok ∧ H rs = some (.lst (ts.map V.ref)) ∧ Paired (DatT C H) ts es ∧ es.length ≤ 40 ∧ (∀ x ∈ es, x.2.k ∈ ks ∧ x.2.ok ∧ x.2.fit (nms y.hs) y.days x.1 = true ∧ 1 ≤ x.1 ∧ x.1 ≤ y.days) ∧ ∀ H', Same H H' → Q (.str "made") H'
section
variable {P : Program} {w : World} {K : PySem.W.Frag} {mg : Str → Option Value} {base : Heap} {C Ck : Nat → Addr} {CD CE Cy Ct Cq : Addr} {is : List Nat}
theorem c_diX (DF : DatF K mg CD) {ks : List Nat} (Nu : CalN P w K mg base 4 "numbered" (spNumX Ck C Cy ks)) (Ti : MakT P w K mg base 7 "Tally" Ct (spTI Ct Cy)) (D : InitT K CD "Dated.__init__" sDI ["self", "year", "rows"]) : MakN P w K mg base 9 "Dated" CD (spDIX Ck CD C Cy ks) := by
  obtain ⟨f, fd, M, F, b⟩ := D.ex
  refine ⟨f, fd, _, M, Fun.okN F scDI (fun vs H Q E h => ?_) (fun cdv A outer s H vs Q E hr h => ?_), DF.mgC, b⟩
  · obtain ⟨p, dx, yp, v, y, rfl, _⟩ := h
    rfl
  · obtain ⟨p, dx, yp, v, y, rfl, hp, hy, ok, bad, k⟩ := h
    refine ⟨_, (pss_cons (ps_fld (pv 0) (pe_mkT Ti hr (by decide) (by rfl) (pa_cons (pv 1) (pa_cons (pe_clN Nu hr (by decide) (fun σ => L2N.passAt (L2N.takes_of rfl rfl rfl rfl) σ) (by rfl) (pa_cons (pv 1) (pa_cons (pv 2) pa_nil))) pa_nil))) rfl)
        (pss_one ps_never)), ?_⟩
    exact ⟨_, rfl, _, rfl, _, rfl, yp, v, y, rfl, hy, ok, bad, k⟩
abbrev sNRf : Stmt := top 70
abbrev nNRf : List Str := ["_law_year", "_law_rows", "_law_e"]
theorem scNRf : FnScope nNRf ["_law_year", "_law_rows"] (defScope sNRf) := ⟨rfl, rfl, rfl, by decide +kernel, rfl, by decide +kernel, by decide +kernel⟩
theorem c_rfB (Mq : mg "PurseError" = some (.ref Cq)) (e2 : PySem.W.exmOne K (.ref (Ck 2)) (.ref Cq) = some true) (h2 : 2 ∈ is) {ks : List Nat} (Md : MakN P w K mg base 9 "Dated" CD (spDIX Ck CD C Cy ks)) (Kn : CalP P w K mg base 1 "_law_kinds" (spKnd Ck is)) (D : DefT K mg "_law_refused" sNRf ["_law_year", "_law_rows"]) : Cal P w K mg base 11 "_law_refused" (spRfB C Cy ks) := by
  refine cal D scNRf (fun vs H Q E h => ?_) (fun f cdv A outer st H vs Q E hr h => ?_)
  · obtain ⟨yp, v, y, rfl, _⟩ := h
    rfl
  · obtain ⟨yp, v, y, rfl, hy, ok, bad, k⟩ := h
    refine ⟨_, (pss_cons (L2N.ps_try_as (i := 2) rfl rfl scNRf.nd rfl rfl ⟨rfl, by decide, .inl Mq⟩ takes0N (fun W pn xe tk _ => (pss_one (ps_expr (pe_mkN Md hr (by decide) (fun σ => L2N.passAt tk σ) (by rfl) (pa_cons (pv 0) (pa_cons (pv 1) pa_nil)))))) (fun a oe cls d pn hz hf => (pss_one (ps_ret (pe_clZ hz hf Kn hr (by decide) (by rfl) (pa_cons (pv 2) pa_nil))))))
      (pss_one (ps_ret pe_str))), ?_⟩
    refine ⟨_, rfl, _, rfl, fun x dx nx ndx ne => ?_⟩
    have s2 : Same H (upd (upd H dx (.own x)) x (.ins CD dx [])) := fun b o e => by
      rw [upd_ne (ne_of_none e nx), upd_ne (ne_of_none e ndx)]
      exact e
    exact ⟨x, dx, yp, v, y, rfl, upd_same, hy.same s2, ok, bad.same s2, fun H5 s5 => ⟨true, e2, fun _ a ha => fun oe hz hf => ⟨_, rfl, 2, rfl, ⟨h2, hz.1, .inl hz.2.1, hf.elim fun ws e => ⟨ws, e, hz.2.2 ws e⟩⟩, fun H6 s6 => k H6 ((s2.trans s5).trans s6)⟩, fun q => nomatch q⟩⟩
theorem c_rfG (Mq : mg "PurseError" = some (.ref Cq)) {ks : List Nat} (Md : MakT P w K mg base 9 "Dated" CD (spDI CD Ct C Cy ks)) (Kn : CalP P w K mg base 1 "_law_kinds" (spKnd Ck is)) (D : DefT K mg "_law_refused" sNRf ["_law_year", "_law_rows"]) : Cal P w K mg base 11 "_law_refused" (spRfG C Cy ks) := by
  refine cal D scNRf (fun vs H Q E h => ?_) (fun f cdv A outer st H vs Q E hr h => ?_)
  · obtain ⟨yp, rs, y, ts, es, rfl, _⟩ := h
    rfl
  · obtain ⟨yp, rs, y, ts, es, rfl, hy, ok, hrs, hts, h40, hes, k⟩ := h
    refine ⟨_, (pss_cons (L2N.ps_try_as (i := 2) rfl rfl scNRf.nd rfl rfl ⟨rfl, by decide, .inl Mq⟩ takes0N (fun W pn xe tk _ => (pss_one (ps_expr (pe_mkT Md hr (by decide) (by rfl) (pa_cons (pv 0) (pa_cons (pv 1) pa_nil)))))) (fun a oe cls d pn hz hf => (pss_one (ps_ret (pe_clZ hz hf Kn hr (by decide) (by rfl) (pa_cons (pv 2) pa_nil))))))
      (pss_one (ps_ret pe_str))), ?_⟩
    refine ⟨_, rfl, _, rfl, ?_⟩
    refine mk_dat hy ok hrs hts h40 hes fun p H1 s1 _ => k H1 s1
end
end KP
namespace KP
open PySem L2 KD KM KT
theorem at_str {ns : List Str} {r : Int} (r0 : 0 ≤ r) (r1 : r < (ns.length : Int)) : ∃ h, atI (ns.map V.str) r = some (.str h) ∧ h ∈ ns := by
  obtain ⟨v, hv, hm⟩ := get_lt (l := ns.map V.str) r0 (by rw [List.length_map]; exact r1)
  obtain ⟨x, hx, rfl⟩ := List.mem_map.mp hm
  exact ⟨x, hv, hx⟩
theorem WellAt.same {H H' : Hp} {a : Addr} (w : WellAt H a) (s : Same H H') : WellAt H' a := by
  obtain ⟨x, y, z, e⟩ := w
  exact ⟨x, y, z, s _ _ e⟩
theorem WellAt.nstrs {H : Hp} {a p : Addr} {xs : List Str} (w : WellAt H a) (h : H p = some (.lst (xs.map V.str))) : p ≠ a := fun z => by
  obtain ⟨x, y, u, e⟩ := w
  rw [z, e] at h
  injection h with h
  injection h with h
  cases xs with
  | nil => simp at h
  | cons x xs => simp at h
end KP
namespace KP
open PySem L2 KD KM KT
/-- a row made: of a give or a hold -/
def GhOk (ns : List Str) (d : Int) (x : Int × En) : Prop := x.2.ok ∧ x.2.k ∈ [0, 1] ∧ x.2.fit ns d x.1 = true ∧ 1 ≤ x.1 ∧ x.1 ≤ d
def spLRw (C : Nat → Addr) : Sp := fun vs H Q _ => ∃ (a p : Addr) (ns : List Str) (d : Int), vs = [.ref a, .ref p, .int d] ∧ WellAt H a ∧ H p = some (.lst (ns.map V.str)) ∧ 1 ≤ ns.length ∧ ns.length ≤ 8 ∧ (∀ x ∈ ns, IsW x) ∧ 1 ≤ d ∧ d ≤ 30 ∧
  ∀ (t : Addr) (x : Int × En) (H' : Hp), GhOk ns d x → DatT C H' t x → H t = none → WellAt H' a → SameB a H H' → Q (.ref t) H'
section
variable {P : Program} {w : World} {K : PySem.W.Frag} {mg : Str → Option Value} {base : Heap} {C : Nat → Addr}
abbrev sLRw : Stmt := top 68
abbrev nLRw : List Str := ["_law_well_here", "_law_names_here", "_law_days", "_law_date", "_law_head"]
theorem scLRw : FnScope nLRw ["_law_well_here", "_law_names_here", "_law_days"] (defScope sLRw) := ⟨rfl, rfl, rfl, by decide +kernel, rfl, by decide +kernel, by decide +kernel⟩
set_option maxHeartbeats 2000000 in
theorem c_lrw (B : Base K mg) (Dr : Cal P w K mg base 2 "_law_draw" spDraw) (Gi : MakT P w K mg base 4 "Give" (C 0) (spInit C 0)) (Ho : MakT P w K mg base 4 "Hold" (C 1) (spInit C 1)) (D : DefT K mg "_law_row" sLRw ["_law_well_here", "_law_names_here", "_law_days"]) : Cal P w K mg base 6 "_law_row" (spLRw C) := by
  refine cal D scLRw (fun vs H Q E h => ?_) (fun f cdv A outer s H vs Q E hr h => ?_)
  · obtain ⟨a, p, ns, d, rfl, _⟩ := h
    rfl
  · obtain ⟨a, p, ns, d, rfl, ha, hp, n1, n8, nw, d1, d30, k⟩ := h
    have hz : sizeLine = 16777216 := by decide
    have pa := ha.nstrs hp
    refine ⟨_, (pss_cons (ps_set (i := 3) scLRw.nd rfl (by first | exact Or.inl rfl | exact Or.inr rfl) (pe_op op_add pe_int (pe_cl Dr hr (by decide) (by rfl) (pa_cons (pv 0) (pa_cons (pv 2) pa_nil)))))
        (pss_cons (ps_set (i := 4) scLRw.nd rfl (by first | exact Or.inl rfl | exact Or.inr rfl) (pe_ix ix_list (pv 1) (pe_cl Dr hr (by decide) (by rfl) (pa_cons (pv 0) (pa_cons (pe_callB call_len_seq (by rfl) B.len (by decide +kernel) (pa_cons (pv 1) pa_nil)) pa_nil))) (fun _ _ => rfl)))
        (pss_cons (ps_if (pt_cmpR op_eq (pe_cl Dr hr (by decide) (by rfl) (pa_cons (pv 0) (pa_cons pe_int pa_nil))) pe_int (nomark _)) (pss_one (ps_ret (pe_tupW (pa_cons (pv 3) (pa_cons (pe_mkT Gi hr (by decide) (by rfl) (pa_cons (pv 4) (pa_cons (pe_op op_add pe_int (pe_cl Dr hr (by decide) (by rfl) (pa_cons (pv 0) (pa_cons (pe_op op_pow pe_int pe_int) pa_nil)))) (pa_cons pe_str pa_nil)))) pa_nil))))) pss_nil)
        (pss_one (ps_ret (pe_tupW (pa_cons (pv 3) (pa_cons (pe_mkT Ho hr (by decide) (by rfl) (pa_cons (pv 4) (pa_cons (pe_op op_add pe_int (pe_cl Dr hr (by decide) (by rfl) (pa_cons (pv 0) (pa_cons pe_int pa_nil)))) (pa_cons (pe_op op_add (pe_op op_add (pv 3) pe_int) (pe_cl Dr hr (by decide) (by rfl) (pa_cons (pv 0) (pa_cons (pe_op op_add (pe_op op_sub (pv 2) (pv 3)) pe_int) pa_nil)))) (pa_cons pe_str pa_nil))))) pa_nil)))))))), ?_⟩
    refine ⟨_, rfl, _, rfl, a, d, rfl, ha, by omega, by omega, fun e H1 e0 e1 w1 s1 => ⟨_, _, rfl, rfl, ?_⟩⟩
    have he : 1 ≤ 1 + e ∧ 1 + e ≤ d := by omega
    show gName 3 (V.int (1 + e)) _ _ _
    generalize 1 + e = e at he ⊢
    refine ⟨_, rfl, _, rfl, _, rfl, p, _, rfl, .inl (SqL.of (s1 _ _ hp pa)), a, _, rfl, w1, by rw [List.length_map]; omega, by rw [List.length_map]; omega, fun r2 H2 r20 r21 w2 s2 => ?_⟩
    rw [List.length_map] at r21
    obtain ⟨h, hat, hh⟩ := at_str r20 r21
    have s02 := s1.trans s2
    have hw := nw h hh
    refine ⟨p, _, r2, .str h, rfl, rfl, SqL.of (s02 _ _ hp pa), hat, _, rfl, a, 2, rfl, w2, by decide, by decide, fun way H3 _ _ w3 s3 => ⟨rfl, _, rfl, ite2 (fun _ => ?_) (fun _ => ?_)⟩⟩
    · have s03 := s02.trans s3
      refine ⟨_, rfl, _, rfl, _, rfl, _, _, rfl, rfl, ⟨by decide, by decide, by decide⟩, a, 10 ^ (12 : Int).toNat, rfl, w3, by decide, by decide, fun c H4 c0 c1 w4 s4 => ⟨_, _, rfl, rfl, ?_⟩⟩
      have s04 := s03.trans s4
      have e12 : (10 : Int) ^ (12 : Int).toNat = 1000000000000 := by decide
      have eok : (En.give h (1 + c) "").ok := ⟨hw, ⟨by omega, by omega⟩, .inl rfl⟩
      refine mk_ent (e := .give h (1 + c) "") eok fun q H5 s5 hq => ⟨(by show 2 ≤ sizeLine; decide), fun t H6 s6 n6 h6 => ?_⟩
      have w6 := (w4.same s5).same s6
      have s06 := s04.trans (SameB.of (s5.trans s6))
      exact k t (e, .give h (1 + c) "") H6 ⟨eok, by simp [En.k], by simp [En.fit, hh], he.1, he.2⟩ ⟨q, h6, hq.choose, s6 _ _ hq.choose_spec⟩ (free_ofB w4 s04 (same_none s5 n6)) w6 s06
    · have s03 := s02.trans s3
      refine ⟨_, rfl, _, rfl, _, rfl, a, 99, rfl, w3, by decide, by decide, fun c H4 c0 c1 w4 s4 => ⟨_, _, rfl, rfl, ?_⟩⟩
      have s04 := s03.trans s4
      refine ⟨_, rfl, _, _, rfl, rfl, _, rfl, _, rfl, _, rfl, _, _, rfl, rfl, _, _, rfl, rfl, a, _, rfl, w4, by omega, by omega, fun u H5 u0 u1 w5 s5 => ⟨_, _, rfl, rfl, ?_⟩⟩
      have s05 := s04.trans s5
      have eok : (En.hold h (1 + c) (e + 1 + u) "").ok := ⟨hw, ⟨by omega, by omega⟩, ⟨by omega, by omega⟩, .inl rfl⟩
      refine mk_ent (e := .hold h (1 + c) (e + 1 + u) "") eok fun q H6 s6 hq => ⟨(by show 2 ≤ sizeLine; decide), fun t H7 s7 n7 h7 => ?_⟩
      exact k t (e, .hold h (1 + c) (e + 1 + u) "") H7 ⟨eok, by simp [En.k], by simp only [En.fit, Bool.and_eq_true, decide_eq_true_eq]; exact ⟨hh, by omega, by omega⟩, he.1, he.2⟩ ⟨q, h7, hq.choose, s7 _ _ hq.choose_spec⟩ (free_ofB w5 s05 (same_none s6 n7)) ((w5.same s6).same s7) (s05.trans (SameB.of (s6.trans s7)))
end
end KP
namespace KP
open PySem L2 KD KM KT
def spLHd2 : Sp := fun vs H Q _ => ∃ a : Addr, vs = [.ref a] ∧ WellAt H a ∧ ∀ (t q : Addr) (ts : List Addr) (hs : List Hd) (st : Str) (H' : Hp), VH hs → RowsAt H' q ts (hs.map hv) → H' t = some (.tup [.ref q, .str st]) → st ∉ nms hs → IsW st → WellAt H' a → SameB a H H' → Q (.ref t) H'
section
variable {P : Program} {w : World} {K : PySem.W.Frag} {mg : Str → Option Value} {base : Heap}
abbrev sLHd : Stmt := top 67
abbrev nLHd : List Str := ["_law_well_here", "_law_many", "_law_names_here", "_law_k"]
theorem scLHd : FnScope nLHd ["_law_well_here"] (defScope sLHd) := ⟨rfl, rfl, rfl, by decide +kernel, rfl, by decide +kernel, by decide +kernel⟩
set_option maxHeartbeats 2000000 in
theorem c_lhd2 (B : Base K mg) (Dr : Cal P w K mg base 2 "_law_draw" spDraw) (Nms : Cal P w K mg base 3 "_law_names" spNames) (D : DefT K mg "_law_heads" sLHd ["_law_well_here"]) : Cal P w K mg base 4 "_law_heads" spLHd2 := by
  refine cal D scLHd (fun vs H Q E h => ?_) (fun f cdv A outer s H vs Q E hr h => ?_)
  · obtain ⟨a, rfl, _⟩ := h
    rfl
  · obtain ⟨a, rfl, ha, k⟩ := h
    have hz : sizeLine = 16777216 := by decide
    refine ⟨_, (pss_cons (ps_set (i := 1) scLHd.nd rfl (by first | exact Or.inl rfl | exact Or.inr rfl) (pe_op op_add pe_int (pe_cl Dr hr (by decide) (by rfl) (pa_cons (pv 0) (pa_cons pe_int pa_nil)))))
        (pss_cons (ps_set (i := 2) scLHd.nd rfl (by first | exact Or.inl rfl | exact Or.inr rfl) (pe_cl Nms hr (by decide) (by rfl) (pa_cons (pv 0) (pa_cons (pe_op op_add (pv 1) pe_int) pa_nil))))
        (pss_one (ps_ret (pe_tupW (pa_cons (pe_lc (own := [("_law_k", 3)]) (g := (gName 3)) (tt := tYes) rfl scLHd.nd (pi_range1 (by rfl) B.range (pa_cons (pv 1) pa_nil)) (blkOk_by (N := nLHd) (sc := defScope sLHd) (by decide +kernel)) (fun _ _ _ _ _ => (pg_name (i := 3) scLHd.nd rfl (by first | exact Or.inl rfl | exact Or.inr rfl))) (fun _ _ _ _ _ => pts_nil) (fun _ _ _ _ _ => (pe_tupW (pa_cons (pe_ix (show IxR _ (rIxL K) from ix_list) (pv 2) (pv 3) (fun _ _ => rfl)) (pa_cons (pe_ix (show IxR _ (rIxL K) from ix_list) (pe_op op_catLW (pe_lstW (pa_cons pe_str pa_nil)) (pe_slice (show SlR _ (rSlLW K) from sl_listW) (pv 2) po_none (po_some (pv 3)))) (pe_cl Dr hr (by decide) (by rfl) (pa_cons (pv 0) (pa_cons (pe_op op_add (pv 3) pe_int) pa_nil))) (fun _ _ => rfl)) pa_nil))))) (pa_cons (pe_ix ix_list (pv 2) (pv 1) (fun _ _ => rfl)) pa_nil))))))), ?_⟩
    refine ⟨_, rfl, a, 8, rfl, ha, by decide, by decide, fun r1 H1 r10 r11 w1 s1 => ⟨_, _, rfl, rfl, ?_⟩⟩
    obtain ⟨m, hm, em⟩ : ∃ m : Nat, (1 ≤ m ∧ m ≤ 8) ∧ 1 + r1 = (m : Int) := ⟨(1 + r1).toNat, by omega, by omega⟩
    show gName 1 (V.int (1 + r1)) _ _ _
    rw [em]
    refine ⟨_, rfl, _, rfl, _, _, rfl, rfl, a, m + 1, rfl, w1, by omega, fun p xs H3 xl xw xn np hp w3 s3 => ?_⟩
    have s3' : SameB a H H3 := s1.trans s3
    have pa : p ≠ a := fun z => by subst z; obtain ⟨_, _, _, e⟩ := w1; rw [np] at e; cases e
    refine ⟨_, rfl, _, rfl, by omega, by omega, fun G hG => lc_range (lo := 0) (n := ((m : Nat) : Int).toNat)
      (fun i H' => ∃ (ts : List Addr) (hs : List Hd), hs.length = i ∧ nms hs = xs.take i ∧ (∀ (j : Nat) (r : Hd), hs[j]? = some r → r.2 = "" ∨ ∃ j', j' < j ∧ xs[j']? = some r.2) ∧ RowsAt H' G ts (hs.map hv) ∧ H' p = some (.lst (xs.map V.str)) ∧ WellAt H' a ∧ SameB a H H')
      ⟨[], [], rfl, rfl, (fun j r h => by simp at h), ⟨upd_same, .nil⟩, same_new hG _ _ hp, w3.new hG, s3'.trans (SameB.of (same_new hG))⟩ ?_ ?_⟩
    · have aG : a ≠ G := w3.ne hG
      have pG : p ≠ G := ne_of_none hp hG
      rintro i H4 hi ⟨ts, hs, hlen, hnm, hup, R, hp4, w4, s4⟩
      rw [Int.toNat_natCast] at hi
      have tl : ts.length = i := by rw [R.len, List.length_map, hlen]
      obtain ⟨x, hx⟩ : ∃ x, xs[i]? = some x := ⟨xs[i], List.getElem?_eq_getElem (by omega)⟩
      have hat1 : atI (xs.map V.str) (0 + (i : Int)) = some (.str x) := at_of (j := i) (by omega) (by rw [List.getElem?_map, hx]; rfl)
      refine ⟨rfl, yes (iteT ⟨_, rfl, _, rfl, p, _, _, _, rfl, rfl, SqL.of hp4, hat1, (by show 1 ≤ sizeLine; decide), fun l1 G1 t1 nl1 hl1 => ?_⟩)⟩
      refine ⟨_, rfl, _, rfl, _, rfl, p, _, rfl, SqL.of (t1 _ _ hp4), fun l2 G2 t2 nl2 hl2 => ?_⟩
      have ecut : cutV (xs.map V.str) none (some (0 + (i : Int))) = (xs.take i).map V.str := by
        rw [cut_take (by omega), List.map_take]
        congr 1
        omega
      rw [ecut] at hl2
      refine ⟨l1, l2, _, _, rfl, rfl, t2 _ _ hl1, hl2, (by rw [List.length_map, List.length_take]; show 1 + _ ≤ _; omega), fun l3 H5 t3 nl3 hl5 => ?_⟩
      have sm5 : Same H4 H5 := (t1.trans t2).trans t3
      obtain ⟨x5, y5, z5, e5⟩ := id w4
      have w5 : WellAt H5 a := ⟨_, _, _, sm5 _ _ e5⟩
      refine ⟨_, rfl, _, rfl, _, _, rfl, rfl, a, _, rfl, w5, (by omega), (by omega), fun r3 H6 r30 r31 w6 s6 => ?_⟩
      have l3a : l3 ≠ a := fun z => by subst z; obtain ⟨_, _, _, e⟩ := w5; rw [hl5] at e; injection e with e; injection e with e; simp at e
      have hl6 := s6 _ _ hl5 l3a
      obtain ⟨v, hvat, hvm⟩ : ∃ v, atI ([V.str ""] ++ (xs.take i).map V.str) r3 = some (.str v) ∧ (v = "" ∨ ∃ j', j' < i ∧ xs[j']? = some v) := by
        obtain ⟨j, rfl⟩ : ∃ j : Nat, r3 = (j : Int) := ⟨r3.toNat, by omega⟩
        cases j with
        | zero => exact ⟨"", atI_nat (j := 0) rfl, .inl rfl⟩
        | succ j =>
          have hj : j < i := by omega
          obtain ⟨v, hv⟩ : ∃ v, xs[j]? = some v := ⟨xs[j], List.getElem?_eq_getElem (by omega)⟩
          refine ⟨v, atI_nat (j := j + 1) ?_, .inr ⟨j, hj, hv⟩⟩
          show ((xs.take i).map V.str)[j]? = some (.str v)
          rw [List.getElem?_map, List.getElem?_take, if_pos hj, hv]
          rfl
      refine ⟨l3, _, r3, .str v, rfl, rfl, SqL.of hl6, hvat, (by show 2 ≤ sizeLine; decide), fun t H7 t7s nt t7 => ?_⟩
      have R6 : RowsAt H6 G ts (hs.map hv) := (R.same sm5).keepB w5 s6 aG.symm
      have R7 := R6.same t7s
      have s7 : SameB a H H7 := ((s4.trans (SameB.of sm5)).trans s6).trans (SameB.of t7s)
      obtain ⟨x6, y6, z6, e6⟩ := id w6
      have w7 : WellAt H7 a := ⟨_, _, _, t7s _ _ e6⟩
      have p7 := t7s _ _ (s6 _ _ (sm5 _ _ hp4) pa)
      have t7 : H7 t = some (.tup (hv (x, v))) := t7
      have tG : t ≠ G := ne_of t7 R7.1 (fun z => nomatch z)
      refine ⟨_, R7.1, (by rw [List.length_map]; omega), ts ++ [t], hs ++ [(x, v)], by rw [List.length_append, hlen]; rfl, ?_, ?_, ⟨by rw [upd_same, List.map_append]; rfl, ?_⟩, by rw [upd_ne pG]; exact p7, w7.up aG, ?_⟩
      · unfold nms at hnm ⊢
        rw [List.map_append, hnm, take_more hx]
        rfl
      · intro j r hjr
        by_cases hj : j < hs.length
        · rw [List.getElem?_append_left hj] at hjr
          exact hup j r hjr
        · rw [List.getElem?_append_right (by omega)] at hjr
          have hj0 : j - hs.length = 0 := by
            by_cases h0 : j - hs.length = 0
            · exact h0
            · rw [List.getElem?_eq_none (by simp; omega)] at hjr; cases hjr
          rw [hj0] at hjr
          have e := Option.some.inj hjr
          subst e
          have hji : j = i := by omega
          rcases hvm with e | ⟨j', h1, h2⟩
          · exact .inl e
          · exact .inr ⟨j', by omega, h2⟩
      · rw [List.map_append]
        refine paired_snoc (by rw [upd_ne tG]; exact t7) (paired_mono (fun b r e => ?_) R7.2)
        rw [upd_ne (ne_of e R7.1 (fun z => nomatch z))]
        exact e
      · exact SameB.newD (H2 := H) (free_ofB w3 s3' hG) s7
    · rintro H4 ⟨ts, hs, hlen, hnm, hup, R, hp4, w4, s4⟩
      rw [Int.toNat_natCast] at hlen hnm
      obtain ⟨st, hst⟩ : ∃ x, xs[m]? = some x := ⟨xs[m], List.getElem?_eq_getElem (by omega)⟩
      have sp : xs = xs.take m ++ [st] := by
        have := take_more hst
        rw [List.take_of_length_le (by omega)] at this
        exact this
      have xn' : (xs.take m).Nodup ∧ st ∉ xs.take m := by
        rw [sp] at xn
        obtain ⟨a1, _, a3⟩ := List.nodup_append.mp xn
        exact ⟨a1, fun z => a3 st z st (List.mem_singleton.mpr rfl) rfl⟩
      have hat : atI (xs.map V.str) (m : Int) = some (.str st) := atI_nat (by rw [List.getElem?_map, hst]; rfl)
      refine ⟨_, rfl, _, rfl, p, _, _, _, rfl, rfl, SqL.of hp4, hat, (by show 2 ≤ sizeLine; decide), fun t H5 s5 n5 h5 => ?_⟩
      have hG := R.1
      refine k t G ts hs st H5 ⟨by rw [hnm]; exact xn'.1, by rw [hnm]; exact fun x hx => xw x (List.mem_of_mem_take hx), fun i r h => ?_, by omega, by omega⟩ (R.same s5) h5 (by rw [hnm]; exact xn'.2) (xw st (List.mem_of_getElem? hst)) (w4.same s5) (s4.trans (SameB.of s5))
      rcases hup i r h with e | ⟨j', h1, h2⟩
      · exact .inl e
      · have il : i < hs.length := (List.getElem?_eq_some_iff.mp h).1
        exact .inr ⟨j', h1, by rw [hnm, List.getElem?_take, if_pos (by omega)]; exact h2⟩
end
end KP
namespace KP
open PySem L2 KD KM KT
open KEX
theorem e40 : (30 : Int) < 10 ^ (40 : Int).toNat := by decide
def KS4 : List Nat := [0, 1, 2, 4]
/-- none, whatever the well gives -/
def RwS (a : Addr) (y : Yr) (C : Nat → Addr) (ks : List Nat) (H : Hp) (v : V) : Prop := ∀ H', SameB a H H' → RwB y C ks H' v
theorem ent_same {C : Nat → Addr} {H H' : Hp} {q : Addr} {e : En} (s : Same H H') : EntAt C H q e → EntAt C H' q e := fun ⟨dx, h⟩ => ⟨dx, s _ _ h⟩
section
variable {a : Addr} {y : Yr} {C : Nat → Addr} {ks : List Nat} {H H' : Hp} {t q : Addr} {e : En} {d : Int} {x z v : V} {xs : List V}
theorem RwS.same (s : Same H H') (h : RwS a y C ks H v) : RwS a y C ks H' v := fun H2 s2 => h H2 ((SameB.of s).trans s2)
theorem RwS.sameB (s : SameB a H H') (h : RwS a y C ks H v) : RwS a y C ks H' v := fun H2 s2 => h H2 (s.trans s2)
theorem kT (w : WellAt H a) (h : H t = some (.tup xs)) : ∀ H', SameB a H H' → H' t = some (.tup xs) := fun H' s => s _ _ h (fun z => by
  obtain ⟨_, _, _, e⟩ := w
  rw [← z, h] at e; cases e)
theorem kE (w : WellAt H a) (h : EntAt C H q e) : ∀ H', SameB a H H' → EntAt C H' q e := fun H' s => by
  obtain ⟨dx, h⟩ := h
  exact ⟨dx, s _ _ h (fun z => by
    obtain ⟨_, _, _, e⟩ := w
    rw [← z, h] at e; cases e)⟩
theorem rs_ent (w : WellAt H a) (h : H t = some (.tup [.int d, .ref q])) (he : EntAt C H q e) (d1 : 1 ≤ d) (d2 : d ≤ y.days) (hk : e.k ∈ ks) (hf : e.fit (nms y.hs) y.days d = false) : RwS a y C ks H (.ref t) := fun H' s =>
  .ent t d (.ref q) (some e) (kT w h H' s) d1 d2 ⟨q, rfl, kE w he H' s⟩ fun e' h' => by injection h' with h'; rw [← h']; exact ⟨hk, hf⟩
theorem rs_day (w : WellAt H a) (h : H t = some (.tup [x, z])) (hx : ∀ H', ThG C H' x) (hw : wholeV 1 y.days x = false) : RwS a y C ks H (.ref t) := fun H' s => .day t x z (kT w h H' s) (hx H') hw
theorem rs_dayI {i : Int} (w : WellAt H a) (h : H t = some (.tup [.int i, z])) (hi : ¬ (1 ≤ i ∧ i ≤ y.days)) : RwS a y C ks H (.ref t) := rs_day w h (fun _ => .inl (.int _)) (decide_eq_false hi)
theorem same_put {H0 H : Hp} {P : Addr} {o : HO} (s : Same H0 H) (n : H0 P = none) : Same H0 (upd H P o) := fun b u e => by
  rw [upd_ne (ne_of_none e n)]
  exact s _ _ e
theorem rs_late (w : WellAt H a) (h : H t = some (.tup [.int d, .ref q])) (he : EntAt C H q e) (d1 : 1 ≤ d) (hk : e.k ∈ ks) (hf : e.fit (nms y.hs) y.days d = false) : RwS a y C ks H (.ref t) := by
  by_cases d2 : d ≤ y.days
  · exact rs_ent w h he d1 d2 hk hf
  · exact rs_day w h (fun _ => .inl (.int _)) (decide_eq_false fun z => d2 z.2)
theorem rs_flat (w : WellAt H a) (h : H t = some (.tup [.int d, z])) (d1 : 1 ≤ d) (d2 : d ≤ y.days) (hz : ∀ {H' : Hp}, NoE H' z) : RwS a y C ks H (.ref t) := fun H' s => .ent t d z none (kT w h H' s) d1 d2 hz fun e' h' => nomatch h'
theorem rs_tup {u : Addr} {us : List V} (w : WellAt H a) (h : H t = some (.tup [.int d, .ref u])) (hu : H u = some (.tup us)) (d1 : 1 ≤ d) (d2 : d ≤ y.days) : RwS a y C ks H (.ref t) := fun H' s => .ent t d (.ref u) none (kT w h H' s) d1 d2 (.inr (.inr (.inr (.inr ⟨u, us, rfl, kT w hu H' s⟩)))) fun e' h' => nomatch h'
theorem rs_len (w : WellAt H a) (h : H t = some (.tup xs)) (hl : xs.length ≠ 2) : RwS a y C ks H (.ref t) := fun H' s => .len t xs (kT w h H' s) hl
theorem rs_th (w : WellAt H a) (h : ∀ H', KD.Th H' v) (hi : ∀ H', isTp H' v = false) : RwS a y C ks H v := fun H' s => .no v (.inl (h H')) (hi H')
theorem rs_ins (w : WellAt H a) (h : EntAt C H q e) (hk : e.k = 0) : RwS a y C ks H (.ref q) := fun H' s => by
  obtain ⟨dx, h'⟩ := kE w h H' s
  exact .no _ (.inr ⟨q, e, rfl, ⟨dx, h'⟩, hk⟩) (by simp only [isTp, h'])
theorem rs_gv (w : WellAt H a) (h : H t = some (.tup [.ref q, z])) (he : EntAt C H q e) (hk : e.k = 0) : RwS a y C ks H (.ref t) := fun H' s => .day t (.ref q) z (kT w h H' s) (.inr ⟨q, e, rfl, kE w he H' s, hk⟩) rfl
theorem rs_lst (w : WellAt H a) (h : H t = some (.lst [x, z])) : RwS a y C ks H (.ref t) := fun H' s => by
  have h' := s _ _ h (fun z => by
    obtain ⟨_, _, _, e⟩ := w
    rw [← z, h] at e; cases e)
  exact .no _ (.inl (.lst h')) (by simp only [isTp, h'])
theorem rs_dct (w : WellAt H a) (h : H t = some (.dK [])) : RwS a y C ks H (.ref t) := fun H' s => by
  have h' := s _ _ h (fun z => by
    obtain ⟨_, _, _, e⟩ := w
    rw [← z, h] at e; cases e)
  exact .no _ (.inl (.dct h')) (by simp only [isTp, h'])
end
def spLNo (C : Nat → Addr) : Sp := fun vs H Q _ => ∃ (a p : Addr) (st : Str) (y : Yr), vs = [.ref a, .ref p, .str st, .int y.days] ∧ WellAt H a ∧ y.ok ∧ H p = some (.lst ((nms y.hs).map V.str)) ∧ IsW st ∧ st ∉ nms y.hs ∧ ∀ (v : V) (H' : Hp), RwS a y C KS4 H' v → WellAt H' a → SameB a H H' → Q v H'
section
variable {P : Program} {w : World} {K : PySem.W.Frag} {mg : Str → Option Value} {base : Heap} {C : Nat → Addr}
abbrev sLNo : Stmt := top 69
abbrev nLNo : List Str := ["_law_well_here", "_law_names_here", "_law_strange", "_law_days", "_law_date", "_law_head", "_law_give", "_law_some", "_law_late"]
theorem scLNo : FnScope nLNo ["_law_well_here", "_law_names_here", "_law_strange", "_law_days"] (defScope sLNo) := ⟨rfl, rfl, rfl, by decide +kernel, rfl, by decide +kernel, by decide +kernel⟩
set_option maxHeartbeats 8000000 in
theorem c_lno (B : Base K mg) (Dr : Cal P w K mg base 2 "_law_draw" spDraw) (Gi : MakT P w K mg base 4 "Give" (C 0) (spInit C 0)) (Ho : MakT P w K mg base 4 "Hold" (C 1) (spInit C 1)) (Mo : MakT P w K mg base 4 "Move" (C 2) (spInit C 2)) (Pr : MakT P w K mg base 4 "Promise" (C 4) (spInit C 4)) (D : DefT K mg "_law_none" sLNo ["_law_well_here", "_law_names_here", "_law_strange", "_law_days"]) : Cal P w K mg base 6 "_law_none" (spLNo C) := by
  refine cal D scLNo (fun vs H Q E h => ?_) (fun f cdv A outer s H vs Q E hr h => ?_)
  · obtain ⟨a, p, st, y, rfl, _⟩ := h
    rfl
  · obtain ⟨a, p, st, y, rfl, ha, ok, hp, sw, hst, k⟩ := h
    have hz : sizeLine = 16777216 := by decide
    have pa := ha.nstrs hp
    have dd := ok.d
    have l8 : (nms y.hs).length ≤ 8 := by unfold nms; rw [List.length_map]; exact ok.h.l8
    have l1 : 1 ≤ (nms y.hs).length := by unfold nms; rw [List.length_map]; exact ok.h.l1
    refine ⟨_, (C8.pss_cut (ps_set (i := 4) scLNo.nd rfl (by first | exact Or.inl rfl | exact Or.inr rfl) (pe_op op_add pe_int (pe_cl Dr hr (by decide) (by rfl) (pa_cons (pv 0) (pa_cons (pv 3) pa_nil)))))
        (C8.pss_cut (ps_set (i := 5) scLNo.nd rfl (by first | exact Or.inl rfl | exact Or.inr rfl) (pe_ix ix_list (pv 1) (pe_cl Dr hr (by decide) (by rfl) (pa_cons (pv 0) (pa_cons (pe_callB call_len_seq (by rfl) B.len (by decide +kernel) (pa_cons (pv 1) pa_nil)) pa_nil))) (fun _ _ => rfl)))
        (C8.pss_cut (ps_set (i := 6) scLNo.nd rfl (by first | exact Or.inl rfl | exact Or.inr rfl) (pe_mkT Gi hr (by decide) (by rfl) (pa_cons (pv 5) (pa_cons pe_int (pa_cons pe_str pa_nil)))))
        (C8.pss_cut (ps_set (i := 7) scLNo.nd rfl (by first | exact Or.inl rfl | exact Or.inr rfl) (pe_lstW (pa_cons (pe_tupW (pa_cons (pv 4) (pa_cons (pe_mkT Gi hr (by decide) (by rfl) (pa_cons (pv 2) (pa_cons pe_int (pa_cons pe_str pa_nil)))) pa_nil))) (pa_cons (pe_tupW (pa_cons (pv 4) (pa_cons (pe_mkT Mo hr (by decide) (by rfl) (pa_cons (pv 5) (pa_cons (pv 2) (pa_cons pe_int (pa_cons pe_str pa_nil))))) pa_nil))) (pa_cons (pe_tupW (pa_cons (pv 4) (pa_cons (pe_mkT Mo hr (by decide) (by rfl) (pa_cons (pv 2) (pa_cons (pv 5) (pa_cons pe_int (pa_cons pe_str pa_nil))))) pa_nil))) pa_nil)))))
        (C8.pss_cut (ps_set (i := 7) scLNo.nd rfl (by first | exact Or.inl rfl | exact Or.inr rfl) (pe_op op_catLW (pv 7) (pe_lstW (pa_cons (pe_tupW (pa_cons (pv 4) (pa_cons (pe_mkT Pr hr (by decide) (by rfl) (pa_cons pe_str (pa_cons (pv 2) (pa_cons pe_int (pa_cons pe_str pa_nil))))) pa_nil))) (pa_cons (pe_tupW (pa_cons (pv 4) (pa_cons (pe_mkT Ho hr (by decide) (by rfl) (pa_cons (pv 2) (pa_cons pe_int (pa_cons pe_int (pa_cons pe_str pa_nil))))) pa_nil))) pa_nil)))))
        (C8.pss_cut (ps_set (i := 8) scLNo.nd rfl (by first | exact Or.inl rfl | exact Or.inr rfl) (pe_callB (call_max2 rfl) (by rfl) B.max (by decide +kernel) (pa_cons pe_int (pa_cons (pv 4) pa_nil))))
        (C8.pss_cut (ps_set (i := 7) scLNo.nd rfl (by first | exact Or.inl rfl | exact Or.inr rfl) (pe_op op_catLW (pv 7) (pe_lstW (pa_cons (pe_tupW (pa_cons (pv 8) (pa_cons (pe_mkT Ho hr (by decide) (by rfl) (pa_cons (pv 5) (pa_cons pe_int (pa_cons (pv 8) (pa_cons pe_str pa_nil))))) pa_nil))) (pa_cons (pe_tupW (pa_cons pe_int (pa_cons (pe_mkT Ho hr (by decide) (by rfl) (pa_cons (pv 5) (pa_cons pe_int (pa_cons pe_int (pa_cons pe_str pa_nil))))) pa_nil))) (pa_cons (pe_tupW (pa_cons pe_int (pa_cons (pe_mkT Ho hr (by decide) (by rfl) (pa_cons (pv 5) (pa_cons pe_int (pa_cons pe_int (pa_cons pe_str pa_nil))))) pa_nil))) pa_nil))))))
        (C8.pss_cut (ps_set (i := 7) scLNo.nd rfl (by first | exact Or.inl rfl | exact Or.inr rfl) (pe_op op_catLW (pv 7) (pe_lstW (pa_cons (pe_tupW (pa_cons (pv 4) (pa_cons (pe_tupW (pa_cons pe_str (pa_cons (pv 5) (pa_cons pe_int (pa_cons pe_str pa_nil))))) pa_nil))) (pa_cons (pe_tupW (pa_cons (pv 4) (pa_cons pe_non pa_nil))) (pa_cons (pe_tupW (pa_cons (pv 4) (pa_cons pe_str pa_nil))) (pa_cons (pe_tupW (pa_cons pe_int (pa_cons (pv 6) pa_nil))) (pa_cons (pe_tupW (pa_cons (pe_op op_add (pv 3) pe_int) (pa_cons (pv 6) pa_nil))) pa_nil))))))))
        (C8.pss_cut (ps_set (i := 7) scLNo.nd rfl (by first | exact Or.inl rfl | exact Or.inr rfl) (pe_op op_catLW (pv 7) (pe_lstW (pa_cons (pe_tupW (pa_cons (pe_un un_neg pe_int) (pa_cons (pv 6) pa_nil))) (pa_cons (pe_tupW (pa_cons (pv 4) (pa_cons pe_int pa_nil))) pa_nil)))))
        (C8.pss_cut (ps_set (i := 7) scLNo.nd rfl (by first | exact Or.inl rfl | exact Or.inr rfl) (pe_op op_catLW (pv 7) (pe_lstW (pa_cons (pe_tupW (pa_cons pe_bl (pa_cons (pv 6) pa_nil))) (pa_cons (pe_tupW (pa_cons pe_str (pa_cons (pv 6) pa_nil))) (pa_cons (pe_tupW (pa_cons pe_non (pa_cons (pv 6) pa_nil))) (pa_cons (pe_tupW (pa_cons (pe_op op_pow pe_int pe_int) (pa_cons (pv 6) pa_nil))) (pa_cons (pe_tupW (pa_cons (pv 4) pa_nil)) (pa_cons (pe_tupW (pa_cons (pv 4) (pa_cons (pv 6) (pa_cons pe_int pa_nil)))) (pa_cons (pe_lstW (pa_cons (pv 4) (pa_cons (pv 6) pa_nil))) pa_nil))))))))))
        (C8.pss_cut (ps_set (i := 7) scLNo.nd rfl (by first | exact Or.inl rfl | exact Or.inr rfl) (pe_op op_catLW (pv 7) (pe_lstW (pa_cons pe_non (pa_cons pe_int (pa_cons (pv 6) (pa_cons (pe_tupW pa_nil) (pa_cons pe_str (pa_cons pe_dnewK (pa_cons (pe_tupW (pa_cons (pv 6) (pa_cons (pv 4) pa_nil))) pa_nil))))))))))
        (C8.pss_cut (ps_if (pt_cmpR op_lt (pv 3) pe_int (nomark _)) (pss_one (ps_expr (pe_bm PySem.F.plainAttrs_list PySem.F.slot_list_append PySem.F.type_list_append mt_append (pv 7) (pa_cons (pe_tupW (pa_cons (pv 4) (pa_cons (pe_mkT Ho hr (by decide) (by rfl) (pa_cons (pv 5) (pa_cons pe_int (pa_cons (pe_op op_add (pv 3) pe_int) (pa_cons pe_str pa_nil))))) pa_nil))) pa_nil)))) pss_nil)
        (pss_one (ps_ret (pe_ix ix_list (pv 7) (pe_cl Dr hr (by decide) (by rfl) (pa_cons (pv 0) (pa_cons (pe_callB call_len_seq (by rfl) B.len (by decide +kernel) (pa_cons (pv 7) pa_nil)) pa_nil))) (fun _ _ => rfl)))))))))))))))), ?_⟩
    refine ⟨fun σ' H' => ∃ d : Int, σ' = [some (.ref a), some (.ref p), some (.str st), some (.int y.days), some (.int d), none, none, none, none] ∧ WellAt H' a ∧ SameB a H H' ∧ 1 ≤ d ∧ d ≤ y.days, ?_, ?_⟩
    · exact ⟨_, rfl, _, rfl, a, y.days, rfl, ha, by omega, by omega, fun e H1 e0 e1 w1 s1 => ⟨_, _, rfl, rfl, _, rfl, w1, s1, by omega, by omega⟩⟩
    rintro _ H1 ⟨d, rfl, w1, s01, d1, d2⟩
    refine ⟨fun σ' H' => ∃ h : Str, σ' = [some (.ref a), some (.ref p), some (.str st), some (.int y.days), some (.int d), some (.str h), none, none, none] ∧ WellAt H' a ∧ SameB a H H' ∧ h ∈ nms y.hs, ?_, ?_⟩
    · refine ⟨_, rfl, _, rfl, _, rfl, p, _, rfl, .inl (SqL.of (s01 _ _ hp pa)), a, _, rfl, w1, by rw [List.length_map]; omega, by rw [List.length_map]; omega, fun r2 H2 r20 r21 w2 s2 => ?_⟩
      rw [List.length_map] at r21
      obtain ⟨h, hat, hh⟩ := at_str r20 r21
      exact ⟨p, _, r2, .str h, rfl, rfl, SqL.of ((s01.trans s2) _ _ hp pa), hat, h, rfl, w2, s01.trans s2, hh⟩
    rintro _ H2 ⟨h, rfl, w2, s02, hh⟩
    have hw := ok.h.w h hh
    have hne : h ≠ st := fun z => hst (by rw [← z]; exact hh)
    have c5 : Coin 5 := ⟨by decide, by decide⟩
    have gok : (En.give h 5 "").ok := ⟨hw, c5, .inl rfl⟩
    refine ⟨fun σ' H' => ∃ gv : Addr, σ' = [some (.ref a), some (.ref p), some (.str st), some (.int y.days), some (.int d), some (.str h), some (.ref gv), none, none] ∧ Same H2 H' ∧ EntAt C H' gv (.give h 5 ""), ⟨_, rfl, mk_ent (e := .give h 5 "") gok fun q H3 s3 hq => ⟨q, rfl, s3, hq⟩⟩, ?_⟩
    rintro _ H3 ⟨gv, rfl, s3, hgv3⟩
    have w3 := w2.same s3
    have s03 := s02.trans (SameB.of s3)
    have n1 : IsW "word" := isW_of (by decide +kernel)
    have nn : IsN "" := .inl rfl
    refine ⟨fun σ' H' => ∃ (L : Addr) (vs : List V), σ' = [some (.ref a), some (.ref p), some (.str st), some (.int y.days), some (.int d), some (.str h), some (.ref gv), some (.ref L), none] ∧ Same H3 H' ∧ H' L = some (.lst vs) ∧ (∀ x ∈ vs, RwS a y C KS4 H' x) ∧ vs.length = 3, ?_, ?_⟩
    · refine ⟨_, rfl, _, rfl, mk_ent (e := .give st 5 "") ⟨sw, c5, nn⟩ fun q0 Hq0 sq0 e0 => ⟨(by show 2 ≤ sizeLine; decide), fun t0 Ht0 st0 nt0 h0 => ?_⟩⟩
      refine ⟨_, rfl, _, rfl, _, rfl, mk_ent (e := .move h st 5 "") ⟨hw, sw, hne, c5, nn⟩ fun q1 Hq1 sq1 e1 => ⟨(by show 2 ≤ sizeLine; decide), fun t1 Ht1 st1 nt1 h1 => ?_⟩⟩
      refine ⟨_, rfl, _, rfl, _, rfl, mk_ent (e := .move st h 5 "") ⟨sw, hw, fun z => hne z.symm, c5, nn⟩ fun q2 Hq2 sq2 e2 => ⟨(by show 2 ≤ sizeLine; decide), fun t2 Ht2 st2 nt2 h2 => ?_⟩⟩
      refine ⟨(by show 3 ≤ sizeLine; decide), fun Lq Hz sz nz hz => ?_⟩
      have sall := ((((sq0.trans st0).trans (sq1.trans st1)).trans (sq2.trans st2)).trans sz)
      have wz : WellAt Hz a := w3.same sall
      have c2 := sz
      have c1 := ((sq2.trans st2).trans c2)
      have c0 := ((sq1.trans st1).trans c1)
      have rz : ∀ x ∈ [V.ref t0, V.ref t1, V.ref t2], RwS a y C KS4 Hz x := fun x hx => by
        simp only [List.mem_cons, List.not_mem_nil, or_false] at hx
        rcases hx with rfl | rfl | rfl
        · exact rs_ent wz (c0 _ _ h0) (ent_same (st0.trans c0) e0) d1 d2 (by simp [En.k, KS4]) (by simp [En.fit, hst])
        · exact rs_ent wz (c1 _ _ h1) (ent_same (st1.trans c1) e1) d1 d2 (by simp [En.k, KS4]) (by simp [En.fit, hst])
        · exact rs_ent wz (c2 _ _ h2) (ent_same (st2.trans c2) e2) d1 d2 (by simp [En.k, KS4]) (by simp [En.fit, hst])
      exact ⟨Lq, _, rfl, sall, hz, rz, rfl⟩
    rintro _ H4 ⟨L, vs4, rfl, s4, hL4, rL4, vl4⟩
    have w4 := w3.same s4
    have s04 := s03.trans (SameB.of s4)
    have hgv4 := ent_same s4 hgv3
    refine ⟨fun σ' H' => ∃ (L : Addr) (vs : List V), σ' = [some (.ref a), some (.ref p), some (.str st), some (.int y.days), some (.int d), some (.str h), some (.ref gv), some (.ref L), none] ∧ Same H4 H' ∧ H' L = some (.lst vs) ∧ (∀ x ∈ vs, RwS a y C KS4 H' x) ∧ vs.length = 5, ?_, ?_⟩
    · refine ⟨_, rfl, _, rfl, _, rfl, mk_ent (e := .promise "word" st 5 "") ⟨n1, sw, c5, nn⟩ fun q0 Hq0 sq0 e0 => ⟨(by show 2 ≤ sizeLine; decide), fun t0 Ht0 st0 nt0 h0 => ?_⟩⟩
      refine ⟨_, rfl, _, rfl, mk_ent (e := .hold st 5 31 "") ⟨sw, c5, ⟨by decide, by decide⟩, nn⟩ fun q1 Hq1 sq1 e1 => ⟨(by show 2 ≤ sizeLine; decide), fun t1 Ht1 st1 nt1 h1 => ?_⟩⟩
      refine ⟨(by show 2 ≤ sizeLine; decide), fun Lq Hz sz nz hz => ?_⟩
      have sall := (((sq0.trans st0).trans (sq1.trans st1)).trans sz)
      have wz : WellAt Hz a := w4.same sall
      have c1 := sz
      have c0 := ((sq1.trans st1).trans c1)
      have rz : ∀ x ∈ [V.ref t0, V.ref t1], RwS a y C KS4 Hz x := fun x hx => by
        simp only [List.mem_cons, List.not_mem_nil, or_false] at hx
        rcases hx with rfl | rfl
        · exact rs_ent wz (c0 _ _ h0) (ent_same (st0.trans c0) e0) d1 d2 (by simp [En.k, KS4]) (by simp [En.fit, hst])
        · exact rs_ent wz (c1 _ _ h1) (ent_same (st1.trans c1) e1) d1 d2 (by simp [En.k, KS4]) (by simp [En.fit, hst])
      refine ⟨L, Lq, _, _, rfl, rfl, sall _ _ hL4, hz, (by show _ + 2 ≤ sizeLine; rw [vl4]; decide), fun Lr Hr sr nr hr => ⟨Lr, _, rfl, sall.trans sr, hr, fun x hx => ?_, by rw [List.length_append, vl4]; rfl⟩⟩
      · rcases List.mem_append.mp hx with hx | hx
        · exact (rL4 x hx).same (sall.trans sr)
        · exact (rz x hx).same sr
    rintro _ H5 ⟨L, vs5, rfl, s5, hL5, rL5, vl5⟩
    have w5 := w4.same s5
    have s05 := s04.trans (SameB.of s5)
    have hgv5 := ent_same s5 hgv4
    refine ⟨fun σ' H' => ∃ l : Int, σ' = [some (.ref a), some (.ref p), some (.str st), some (.int y.days), some (.int d), some (.str h), some (.ref gv), some (.ref L), some (.int l)] ∧ H5 = H' ∧ 2 ≤ l ∧ l ≤ 30, ?_, ?_⟩
    · refine ⟨_, rfl, _, _, rfl, _, rfl, rfl, ?_, ?_⟩ <;> (split <;> omega)
    rintro _ _ ⟨l, rfl, rfl, l2, l30⟩
    refine ⟨fun σ' H' => ∃ (L : Addr) (vs : List V), σ' = [some (.ref a), some (.ref p), some (.str st), some (.int y.days), some (.int d), some (.str h), some (.ref gv), some (.ref L), some (.int l)] ∧ Same H5 H' ∧ H' L = some (.lst vs) ∧ (∀ x ∈ vs, RwS a y C KS4 H' x) ∧ vs.length = 8, ?_, ?_⟩
    · refine ⟨_, rfl, _, rfl, _, rfl, _, rfl, mk_ent (e := .hold h 5 l "") ⟨hw, c5, ⟨by omega, by omega⟩, nn⟩ fun q0 Hq0 sq0 e0 => ⟨(by show 2 ≤ sizeLine; decide), fun t0 Ht0 st0 nt0 h0 => ?_⟩⟩
      refine ⟨_, rfl, mk_ent (e := .hold h 5 2 "") ⟨hw, c5, ⟨by decide, by decide⟩, nn⟩ fun q1 Hq1 sq1 e1 => ⟨(by show 2 ≤ sizeLine; decide), fun t1 Ht1 st1 nt1 h1 => ?_⟩⟩
      refine ⟨_, rfl, mk_ent (e := .hold h 5 2 "") ⟨hw, c5, ⟨by decide, by decide⟩, nn⟩ fun q2 Hq2 sq2 e2 => ⟨(by show 2 ≤ sizeLine; decide), fun t2 Ht2 st2 nt2 h2 => ?_⟩⟩
      refine ⟨(by show 3 ≤ sizeLine; decide), fun Lq Hz sz nz hz => ?_⟩
      have sall := ((((sq0.trans st0).trans (sq1.trans st1)).trans (sq2.trans st2)).trans sz)
      have wz : WellAt Hz a := w5.same sall
      have c2 := sz
      have c1 := ((sq2.trans st2).trans c2)
      have c0 := ((sq1.trans st1).trans c1)
      have rz : ∀ x ∈ [V.ref t0, V.ref t1, V.ref t2], RwS a y C KS4 Hz x := fun x hx => by
        simp only [List.mem_cons, List.not_mem_nil, or_false] at hx
        rcases hx with rfl | rfl | rfl
        · exact rs_late wz (c0 _ _ h0) (ent_same (st0.trans c0) e0) (by omega) (by simp [En.k, KS4]) (by simp [En.fit])
        · exact rs_late wz (c1 _ _ h1) (ent_same (st1.trans c1) e1) (by omega) (by simp [En.k, KS4]) (by simp [En.fit])
        · exact rs_late wz (c2 _ _ h2) (ent_same (st2.trans c2) e2) (by omega) (by simp [En.k, KS4]) (by simp [En.fit])
      refine ⟨L, Lq, _, _, rfl, rfl, sall _ _ hL5, hz, (by show _ + 3 ≤ sizeLine; rw [vl5]; decide), fun Lr Hr sr nr hr => ⟨Lr, _, rfl, sall.trans sr, hr, fun x hx => ?_, by rw [List.length_append, vl5]; rfl⟩⟩
      · rcases List.mem_append.mp hx with hx | hx
        · exact (rL5 x hx).same (sall.trans sr)
        · exact (rz x hx).same sr
    rintro _ H6 ⟨L, vs6, rfl, s6, hL6, rL6, vl6⟩
    have w6 := w5.same s6
    have s06 := s05.trans (SameB.of s6)
    have hgv6 := ent_same s6 hgv5
    refine ⟨fun σ' H' => ∃ (L : Addr) (vs : List V), σ' = [some (.ref a), some (.ref p), some (.str st), some (.int y.days), some (.int d), some (.str h), some (.ref gv), some (.ref L), some (.int l)] ∧ Same H6 H' ∧ H' L = some (.lst vs) ∧ (∀ x ∈ vs, RwS a y C KS4 H' x) ∧ vs.length = 13, ?_, ?_⟩
    · refine ⟨_, rfl, _, rfl, _, rfl, (by show 4 ≤ sizeLine; decide), fun u0 Hu0 su0 nu0 g0 => ⟨(by show 2 ≤ sizeLine; decide), fun t0 Ht0 st0 nt0 h0 => ?_⟩⟩
      refine ⟨_, rfl, (by show 2 ≤ sizeLine; decide), fun t1 Ht1 st1 nt1 h1 => ?_⟩
      refine ⟨_, rfl, (by show 2 ≤ sizeLine; decide), fun t2 Ht2 st2 nt2 h2 => ?_⟩
      refine ⟨_, rfl, (by show 2 ≤ sizeLine; decide), fun t3 Ht3 st3 nt3 h3 => ?_⟩
      refine ⟨_, rfl, _, _, rfl, rfl, _, rfl, (by show 2 ≤ sizeLine; decide), fun t4 Ht4 st4 nt4 h4 => ?_⟩
      refine ⟨(by show 5 ≤ sizeLine; decide), fun Lq Hz sz nz hz => ?_⟩
      have sall := ((((((su0.trans st0).trans st1).trans st2).trans st3).trans st4).trans sz)
      have wz : WellAt Hz a := w6.same sall
      have c4 := sz
      have c3 := (st4.trans c4)
      have c2 := (st3.trans c3)
      have c1 := (st2.trans c2)
      have c0 := (st1.trans c1)
      have rz : ∀ x ∈ [V.ref t0, V.ref t1, V.ref t2, V.ref t3, V.ref t4], RwS a y C KS4 Hz x := fun x hx => by
        simp only [List.mem_cons, List.not_mem_nil, or_false] at hx
        rcases hx with rfl | rfl | rfl | rfl | rfl
        · exact rs_tup wz (c0 _ _ h0) ((st0.trans c0) _ _ g0) d1 d2
        · exact rs_flat wz (c1 _ _ h1) d1 d2 (.inr (.inl rfl))
        · exact rs_flat wz (c2 _ _ h2) d1 d2 (.inl ⟨_, rfl⟩)
        · exact rs_dayI wz (c3 _ _ h3) (by omega)
        · exact rs_dayI wz (c4 _ _ h4) (by omega)
      refine ⟨L, Lq, _, _, rfl, rfl, sall _ _ hL6, hz, (by show _ + 5 ≤ sizeLine; rw [vl6]; decide), fun Lr Hr sr nr hr => ⟨Lr, _, rfl, sall.trans sr, hr, fun x hx => ?_, by rw [List.length_append, vl6]; rfl⟩⟩
      · rcases List.mem_append.mp hx with hx | hx
        · exact (rL6 x hx).same (sall.trans sr)
        · exact (rz x hx).same sr
    rintro _ H7 ⟨L, vs7, rfl, s7, hL7, rL7, vl7⟩
    have w7 := w6.same s7
    have s07 := s06.trans (SameB.of s7)
    have hgv7 := ent_same s7 hgv6
    refine ⟨fun σ' H' => ∃ (L : Addr) (vs : List V), σ' = [some (.ref a), some (.ref p), some (.str st), some (.int y.days), some (.int d), some (.str h), some (.ref gv), some (.ref L), some (.int l)] ∧ Same H7 H' ∧ H' L = some (.lst vs) ∧ (∀ x ∈ vs, RwS a y C KS4 H' x) ∧ vs.length = 15, ?_, ?_⟩
    · refine ⟨_, rfl, _, rfl, _, rfl, (by show 2 ≤ sizeLine; decide), fun t0 Ht0 st0 nt0 h0 => ?_⟩
      refine ⟨_, rfl, (by show 2 ≤ sizeLine; decide), fun t1 Ht1 st1 nt1 h1 => ?_⟩
      refine ⟨(by show 2 ≤ sizeLine; decide), fun Lq Hz sz nz hz => ?_⟩
      have sall := ((st0.trans st1).trans sz)
      have wz : WellAt Hz a := w7.same sall
      have c1 := sz
      have c0 := (st1.trans c1)
      have rz : ∀ x ∈ [V.ref t0, V.ref t1], RwS a y C KS4 Hz x := fun x hx => by
        simp only [List.mem_cons, List.not_mem_nil, or_false] at hx
        rcases hx with rfl | rfl
        · exact rs_dayI (i := -1) wz (c0 _ _ h0) (by omega)
        · exact rs_flat wz (c1 _ _ h1) d1 d2 (.inr (.inr (.inl ⟨_, rfl⟩)))
      refine ⟨L, Lq, _, _, rfl, rfl, sall _ _ hL7, hz, (by show _ + 2 ≤ sizeLine; rw [vl7]; decide), fun Lr Hr sr nr hr => ⟨Lr, _, rfl, sall.trans sr, hr, fun x hx => ?_, by rw [List.length_append, vl7]; rfl⟩⟩
      · rcases List.mem_append.mp hx with hx | hx
        · exact (rL7 x hx).same (sall.trans sr)
        · exact (rz x hx).same sr
    rintro _ H8 ⟨L, vs8, rfl, s8, hL8, rL8, vl8⟩
    have w8 := w7.same s8
    have s08 := s07.trans (SameB.of s8)
    have hgv8 := ent_same s8 hgv7
    refine ⟨fun σ' H' => ∃ (L : Addr) (vs : List V), σ' = [some (.ref a), some (.ref p), some (.str st), some (.int y.days), some (.int d), some (.str h), some (.ref gv), some (.ref L), some (.int l)] ∧ Same H8 H' ∧ H' L = some (.lst vs) ∧ (∀ x ∈ vs, RwS a y C KS4 H' x) ∧ vs.length = 22, ?_, ?_⟩
    · refine ⟨_, rfl, _, rfl, (by show 2 ≤ sizeLine; decide), fun t0 Ht0 st0 nt0 h0 => ?_⟩
      refine ⟨_, rfl, (by show 2 ≤ sizeLine; decide), fun t1 Ht1 st1 nt1 h1 => ?_⟩
      refine ⟨_, rfl, (by show 2 ≤ sizeLine; decide), fun t2 Ht2 st2 nt2 h2 => ?_⟩
      refine ⟨_, _, rfl, rfl, ⟨by decide, by decide, by decide⟩, _, rfl, (by show 2 ≤ sizeLine; decide), fun t3 Ht3 st3 nt3 h3 => ?_⟩
      refine ⟨_, rfl, (by show 1 ≤ sizeLine; decide), fun t4 Ht4 st4 nt4 h4 => ?_⟩
      refine ⟨_, rfl, _, rfl, (by show 3 ≤ sizeLine; decide), fun t5 Ht5 st5 nt5 h5 => ?_⟩
      refine ⟨_, rfl, _, rfl, (by show 2 ≤ sizeLine; decide), fun t6 Ht6 st6 nt6 h6 => ?_⟩
      refine ⟨(by show 7 ≤ sizeLine; decide), fun Lq Hz sz nz hz => ?_⟩
      have sall := (((((((st0.trans st1).trans st2).trans st3).trans st4).trans st5).trans st6).trans sz)
      have wz : WellAt Hz a := w8.same sall
      have c6 := sz
      have c5 := (st6.trans c6)
      have c4 := (st5.trans c5)
      have c3 := (st4.trans c4)
      have c2 := (st3.trans c3)
      have c1 := (st2.trans c2)
      have c0 := (st1.trans c1)
      have rz : ∀ x ∈ [V.ref t0, V.ref t1, V.ref t2, V.ref t3, V.ref t4, V.ref t5, V.ref t6], RwS a y C KS4 Hz x := fun x hx => by
        simp only [List.mem_cons, List.not_mem_nil, or_false] at hx
        rcases hx with rfl | rfl | rfl | rfl | rfl | rfl | rfl
        · exact rs_day wz (c0 _ _ h0) (fun _ => .inl (.bl _)) rfl
        · exact rs_day wz (c1 _ _ h1) (fun _ => .inl (.str _ (by decide +kernel))) rfl
        · exact rs_day wz (c2 _ _ h2) (fun _ => .inl .non) rfl
        · exact rs_dayI wz (c3 _ _ h3) (by have := e40; omega)
        · exact rs_len wz (c4 _ _ h4) (show 1 ≠ 2 by decide)
        · exact rs_len wz (c5 _ _ h5) (show 3 ≠ 2 by decide)
        · exact rs_lst wz (c6 _ _ h6)
      refine ⟨L, Lq, _, _, rfl, rfl, sall _ _ hL8, hz, (by show _ + 7 ≤ sizeLine; rw [vl8]; decide), fun Lr Hr sr nr hr => ⟨Lr, _, rfl, sall.trans sr, hr, fun x hx => ?_, by rw [List.length_append, vl8]; rfl⟩⟩
      · rcases List.mem_append.mp hx with hx | hx
        · exact (rL8 x hx).same (sall.trans sr)
        · exact (rz x hx).same sr
    rintro _ H9 ⟨L, vs9, rfl, s9, hL9, rL9, vl9⟩
    have w9 := w8.same s9
    have s09 := s08.trans (SameB.of s9)
    have hgv9 := ent_same s9 hgv8
    refine ⟨fun σ' H' => ∃ (L : Addr) (vs : List V), σ' = [some (.ref a), some (.ref p), some (.str st), some (.int y.days), some (.int d), some (.str h), some (.ref gv), some (.ref L), some (.int l)] ∧ Same H9 H' ∧ H' L = some (.lst vs) ∧ (∀ x ∈ vs, RwS a y C KS4 H' x) ∧ vs.length = 29 ∧ ∃ Hm, Same H9 Hm ∧ Same Hm H' ∧ Hm L = none ∧ ∀ x ∈ vs, RwS a y C KS4 Hm x, ?_, ?_⟩
    · refine ⟨_, rfl, _, rfl, (by show 0 ≤ sizeLine; decide), fun t3 Ht3 st3 nt3 h3 => ?_⟩
      refine fun t5 nt5 => ?_
      have st5 : Same Ht3 (upd Ht3 t5 (.dK [])) := same_new nt5
      have h5 : (upd Ht3 t5 (.dK [])) t5 = some (.dK []) := upd_same
      refine ⟨_, rfl, _, rfl, (by show 2 ≤ sizeLine; decide), fun t6 Ht6 st6 nt6 h6 => ?_⟩
      refine ⟨(by show 7 ≤ sizeLine; decide), fun Lq Hz sz nz hz => ?_⟩
      have sall := (((st3.trans st5).trans st6).trans sz)
      have wz : WellAt Hz a := w9.same sall
      have c6 := sz
      have c5 := (st6.trans c6)
      have c3 := (st5.trans c5)
      have rz : ∀ x ∈ [V.non, V.int 7, V.ref gv, V.ref t3, V.str "row", V.ref t5, V.ref t6], RwS a y C KS4 Hz x := fun x hx => by
        simp only [List.mem_cons, List.not_mem_nil, or_false] at hx
        rcases hx with rfl | rfl | rfl | rfl | rfl | rfl | rfl
        · exact rs_th wz (fun _ => .non) (fun _ => rfl)
        · exact rs_th wz (fun _ => .int _) (fun _ => rfl)
        · exact rs_ins wz (ent_same sall hgv9) rfl
        · exact rs_len wz (c3 _ _ h3) (show 0 ≠ 2 by decide)
        · exact rs_th wz (fun _ => .str _ (by decide +kernel)) (fun _ => rfl)
        · exact rs_dct wz (c5 _ _ h5)
        · exact rs_gv wz (c6 _ _ h6) (ent_same sall hgv9) rfl
      refine ⟨L, Lq, _, _, rfl, rfl, sall _ _ hL9, hz, (by show _ + 7 ≤ sizeLine; rw [vl9]; decide), fun Lr Hr sr nr hr => ⟨Lr, _, rfl, sall.trans sr, hr, fun x hx => ?_, by rw [List.length_append, vl9]; rfl, Hz, sall, sr, nr, fun x hx => ?_⟩⟩
      · rcases List.mem_append.mp hx with hx | hx
        · exact (rL9 x hx).same (sall.trans sr)
        · exact (rz x hx).same sr
      · rcases List.mem_append.mp hx with hx | hx
        · exact (rL9 x hx).same sall
        · exact rz x hx
    rintro _ H10 ⟨L, vs10, rfl, s10, hL10, rL10, vl10, Hm, sm1, sm2, nL, rm⟩
    have w10 := w9.same s10
    have s010 := s09.trans (SameB.of s10)
    have hgv10 := ent_same s10 hgv9
    refine ⟨fun σ' H' => ∃ (vs : List V), σ' = [some (.ref a), some (.ref p), some (.str st), some (.int y.days), some (.int d), some (.str h), some (.ref gv), some (.ref L), some (.int l)] ∧ SameB a H H' ∧ WellAt H' a ∧ H' L = some (.lst vs) ∧ (∀ x ∈ vs, RwS a y C KS4 H' x) ∧ 29 ≤ vs.length ∧ vs.length ≤ 40, ?_, ?_⟩
    · refine ⟨_, rfl, _, _, rfl, rfl, _, rfl, ?_⟩
      by_cases e30 : y.days < 30
      rotate_left
      · rw [decide_eq_false e30]
        exact iteF ⟨vs10, rfl, s010, w10, hL10, rL10, by omega, by omega⟩
      rw [decide_eq_true e30]
      refine iteT ⟨_, rfl, .inl ⟨rfl, _, SqL.of hL10⟩, _, rfl, _, rfl, _, rfl, _, _, rfl, rfl, mk_ent (e := .hold h 5 (y.days + 2) "") ⟨hw, c5, ⟨by omega, by omega⟩, nn⟩ fun q Ha sa ea => ⟨(by show 2 ≤ sizeLine; decide), fun t Hb sb nb hb => ⟨L, _, _, rfl, rfl, (sa.trans sb) _ _ hL10, ?_, ?_⟩⟩⟩
      · rw [vl10]; decide
      · have sab := sa.trans sb
        have smc : Same Hm (upd Hb L (.lst (vs10 ++ [.ref t]))) := same_put (sm2.trans sab) nL
        have wm : WellAt Hm a := w9.same sm1
        have tL : t ≠ L := fun z => by
          have e := sab _ _ hL10
          rw [← z, hb] at e; cases e
        have qL : q ≠ L := fun z => by
          obtain ⟨dx, e'⟩ := ea
          have e := sa _ _ hL10
          rw [← z, e'] at e; cases e
        have ht : (upd Hb L (.lst (vs10 ++ [.ref t]))) t = some (.tup [.int d, .ref q]) := by rw [upd_ne tL]; exact hb
        have hq : EntAt C (upd Hb L (.lst (vs10 ++ [.ref t]))) q (.hold h 5 (y.days + 2) "") := by
          obtain ⟨dx, e⟩ := ea
          exact ⟨dx, by rw [upd_ne qL]; exact sb _ _ e⟩
        have wc := wm.same smc
        refine ⟨vs10 ++ [.ref t], rfl, (s09.trans (SameB.of sm1)).trans (SameB.of smc), wc, upd_same, fun x hx => ?_, ?_, ?_⟩
        · rcases List.mem_append.mp hx with hx | hx
          · exact (rm x hx).same smc
          · rw [List.mem_singleton.mp hx]
            exact rs_ent wc ht hq d1 d2 (by simp [En.k, KS4]) (by
              have e3 : ¬ (d < y.days + 2 ∧ y.days + 2 ≤ y.days + 1) := by omega
              simp only [En.fit]
              rw [decide_eq_false e3, Bool.and_false])
        · rw [List.length_append, vl10]; show 29 ≤ 30; decide
        · rw [List.length_append, vl10]; show 30 ≤ 40; decide
    rintro _ H11 ⟨vs, rfl, s011, w11, hL11, rL11, v1, v40⟩
    refine ⟨_, rfl, _, rfl, _, rfl, L, _, rfl, .inl (SqL.of hL11), a, _, rfl, w11, by omega, by omega, fun r H12 r0 r1 w12 s12 => ?_⟩
    have La : L ≠ a := fun z => by
      obtain ⟨x1, x2, x3, e⟩ := w11
      rw [← z, hL11] at e
      have e := Option.some.inj e
      injection e with e
      have := congrArg List.length e
      have e3 : [V.int x1, V.int x2, V.int x3].length = 3 := rfl
      omega
    obtain ⟨v, hv, hat⟩ : ∃ v ∈ vs, atI vs r = some v := by
      have hr' : r.toNat < vs.length := by omega
      refine ⟨vs[r.toNat], List.getElem_mem hr', at_of (j := r.toNat) (by omega) (List.getElem?_eq_getElem hr')⟩
    exact ⟨L, _, r, v, rfl, rfl, SqL.of (s12 _ _ hL11 La), hat, k v H12 ((rL11 v hv).sameB s12) w12 (s011.trans s12)⟩
end
end KP
namespace KP
open PySem L2 KD KM KT
open KEX
theorem sql_same {K : PySem.W.Frag} {H H' : Hp} {a : Addr} {xs : List V} (h : SqL K H a xs) (e : Same H H') : SqL K H' a xs :=
  h.elim (fun h => .inl (h.elim (fun h => .inl (e _ _ h)) fun ⟨o, h⟩ => .inr ⟨o, e _ _ h⟩)) fun h => .inr h
theorem same_of_B {a : Addr} {H H' : Hp} (n : H a = none) (s : SameB a H H') : Same H H' := fun b o e => s b o e (ne_of_none e n)
theorem paired_take {α β : Type} {R : α → β → Prop} : ∀ {xs : List α} {ys : List β} {n : Nat}, Paired R xs ys → Paired R (xs.take n) (ys.take n)
  | _, _, 0, p => by rw [List.take_zero, List.take_zero]; exact .nil
  | _, _, n + 1, .nil => .nil
  | _, _, n + 1, .cons h p => .cons h (paired_take p)
theorem paired_rep {α β : Type} {R : α → β → Prop} {x : α} {y : β} (h : R x y) : ∀ {n : Nat}, Paired R (List.replicate n x) (List.replicate n y)
  | 0 => .nil
  | n + 1 => .cons h (paired_rep h)
section
open PySem.Spec PyProof.Rows
theorem op_eqR {X : Cx} (hu : X.A.units + 64 < cLine) : OpR X (compareOp .Eq) (fun x y H Q => ∃ a b ts, x = .ref a ∧ y = .ref b ∧ H a = some (.lst (List.map V.ref ts)) ∧ H b = some (.lst (List.map V.ref ts)) ∧ Q (.bl true) H) := by
  intro pins s σ H x y v u Q I rx ry h
  obtain ⟨a, b, ts, rfl, rfl, ha, hb, q⟩ := h
  cases rx
  cases ry
  obtain ⟨its, r, ⟨o, n, e, hc, hd, hs⟩, _⟩ := I.list (SqL.of ha)
  obtain ⟨its2, r2, ⟨o2, n2, e2, hc2, hd2, hs2⟩, _⟩ := I.list (SqL.of hb)
  have e3 := (KQ.vals_refs r).trans (KQ.vals_refs r2).symm
  subst e3
  refine SeqAt.RcAt.lists (items := its.toArray) (items2 := its.toArray) (e := fun _ => true) ⟨o, e, hc, n, hs⟩ ⟨o2, e2, hc2, n2, hs2⟩ rfl (by omega) (fun j h1 h2 => SeqAt.EqAt.same _) X.prog X.w X.xe _ ⟨.bl true, H, I, ?_, q⟩
  show _ = _
  simp
end
def plD : Pl → PyData
  | .pr n => .tuple [.str "promise", .int n]
  | .lf h => .tuple [.str "left", .str h]
  | .lm k => .tuple [.str "limit", .int (k : Int)]
def brD : Option (Int × Pl) → PyData
  | none => .none
  | some (d, q) => .tuple [.int d, plD q]
theorem BrAt.dp {K : PySem.W.Frag} {H : Hp} {v : V} : ∀ {b : Option (Int × Pl)}, BrAt H v b → L2.Dp K H v (brD b)
  | none, h => by
    have h : v = .non := h
    rw [h]
    exact .non
  | some (d, q), ⟨t, u, e, h1, h2⟩ => by
    rw [e]
    refine .tup (SqT.of h1) (.cons (.int _) (.cons ?_ .nil))
    cases q with
    | pr n => exact .tup (SqT.of (show H u = some (.tup [.str "promise", .int n]) from h2)) (.cons (.str _) (.cons (.int _) .nil))
    | lf h => exact .tup (SqT.of (show H u = some (.tup [.str "left", .str h]) from h2)) (.cons (.str _) (.cons (.str _) .nil))
    | lm k => exact .tup (SqT.of (show H u = some (.tup [.str "limit", .int (k : Int)]) from h2)) (.cons (.str _) (.cons (.int _) .nil))
theorem breach_has {y : Yr} {s : TSt} {b : Int} {q : Pl} (h : breach y s = some (b, q)) : (1 ≤ b ∧ b ≤ y.days) ∧ (places y s b).head? = some q ∧ ∀ d, 1 ≤ d → d < b → places y s d = [] := by
  unfold breach at h
  obtain ⟨l1, i, l2, e, hi, hn⟩ := List.findSome?_eq_some_iff.mp h
  cases e2 : (places y s (1 + (i : Int))).head? with
  | none => rw [e2] at hi; cases hi
  | some z =>
    rw [e2] at hi
    have hi := Option.some.inj hi
    injection hi with e3 e4
    subst e3 e4
    have el : l1.length < y.days.toNat := by
      have := congrArg List.length e
      rw [List.length_range, List.length_append, List.length_cons] at this
      omega
    have gi : ∀ j, j < l1.length → l1[j]? = some j := fun j hj => by
      have := congrArg (·[j]?) e
      simp only [List.getElem?_append_left hj] at this
      rw [← this, List.getElem?_range (by omega)]
    have ei : i = l1.length := by
      have := congrArg (·[l1.length]?) e
      simp only [List.getElem?_append_right (Nat.le_refl _), Nat.sub_self] at this
      rw [List.getElem?_range el] at this
      exact (Option.some.inj this).symm
    refine ⟨by omega, e2, fun d d1 d2 => ?_⟩
    obtain ⟨j, hj⟩ : ∃ j : Nat, d = 1 + (j : Int) := ⟨(d - 1).toNat, by omega⟩
    have jl : j < l1.length := by omega
    have := hn j (List.mem_of_getElem? (gi j jl))
    rw [← hj] at this
    cases z : places y s d with
    | nil => rfl
    | cons a t => rw [z] at this; cases this
/-- no fault: no breach has such a place -/
theorem breach_lf {y : Yr} {s : TSt} {b : Int} {h : Str} (e : breach y s = some (b, .lf h)) : h ∈ nms y.hs := by
  have m := List.mem_of_mem_head? (breach_has e).2.1
  unfold places at m
  rcases List.mem_append.mp m with m | m
  · rcases List.mem_append.mp m with m | m
    · unfold plF at m
      obtain ⟨x, _, z⟩ := List.mem_map.mp m
      cases z
    · unfold plH at m
      obtain ⟨x, hx, z⟩ := List.mem_map.mp m
      injection z with z
      rw [← z]
      exact (List.mem_filter.mp hx).1
  · unfold plL at m
    obtain ⟨x, _, z⟩ := List.mem_map.mp m
    cases z
theorem lay_br {y : Yr} (ok : y.ok) {s : TSt} : lay 2 (brD (breach y s)) := by
  cases e : breach y s with
  | none => exact ⟨rfl, Nat.zero_le _⟩
  | some z =>
    obtain ⟨d, q⟩ := z
    refine lay_tup fun x hx => ?_
    simp only [List.mem_cons, List.not_mem_nil, or_false] at hx
    rcases hx with rfl | rfl
    · exact lay_int
    · cases q with
      | pr n =>
        refine lay_tup fun x hx => ?_
        simp only [List.mem_cons, List.not_mem_nil, or_false] at hx
        rcases hx with rfl | rfl
        · exact lay_str (by decide +kernel)
        · exact lay_int
      | lf h =>
        refine lay_tup fun x hx => ?_
        simp only [List.mem_cons, List.not_mem_nil, or_false] at hx
        rcases hx with rfl | rfl
        · exact lay_str (by decide +kernel)
        · exact lay_str (strOk_W (ok.h.w _ (breach_lf e)))
      | lm k =>
        refine lay_tup fun x hx => ?_
        simp only [List.mem_cons, List.not_mem_nil, or_false] at hx
        rcases hx with rfl | rfl
        · exact lay_str (by decide +kernel)
        · exact lay_int
theorem cut_dropV {xs : List V} {k : Nat} (h : k ≤ xs.length) : cutV xs (some (k : Int)) none = xs.drop k := by
  unfold cutV
  rw [HT.sIx_nat, HT.sIx_none]
  rw [List.take_of_length_le (by rw [List.length_drop]; omega)]
  rw [show min k xs.length = k by omega]
/-- all but the well and the list stay -/
def Kp2 (wl bd : Addr) (H H' : Hp) : Prop := ∀ c o, H c = some o → c ≠ wl → c ≠ bd → H' c = some o
section
variable {wl bd : Addr} {y : Yr} {C : Nat → Addr} {ks : List Nat} {H H' : Hp} {x v : V} {us us' : List V}
theorem k2T (k : Kp2 wl bd H H') (w : WellAt H wl) (hb : H bd = some (.lst us)) {t : Addr} {xs : List V} (h : H t = some (.tup xs)) : H' t = some (.tup xs) := k _ _ h (fun z => by
  obtain ⟨_, _, _, e⟩ := w
  rw [← z, h] at e; cases e) (fun z => by rw [z, hb] at h; cases h)
theorem k2E (k : Kp2 wl bd H H') (w : WellAt H wl) (hb : H bd = some (.lst us)) {q : Addr} {e : En} : EntAt C H q e → EntAt C H' q e := fun ⟨dx, h⟩ => ⟨dx, k _ _ h (fun z => by
  obtain ⟨_, _, _, e⟩ := w
  rw [← z, h] at e; cases e) (fun z => by rw [z, hb] at h; cases h)⟩
theorem k2Th (k : Kp2 wl bd H H') (w : WellAt H wl) (w' : WellAt H' wl) (hb : H bd = some (.lst us)) (hb' : H' bd = some (.lst us')) (t : KD.Th H v) : KD.Th H' v ∧ isTp H' v = isTp H v ∧ isLs H' v = isLs H v := by
  cases t with
  | non => exact ⟨.non, rfl, rfl⟩
  | bl b => exact ⟨.bl b, rfl, rfl⟩
  | int i => exact ⟨.int i, rfl, rfl⟩
  | str x h => exact ⟨.str x h, rfl, rfl⟩
  | tup h =>
    have h' := k2T k w hb h
    exact ⟨.tup h', by simp only [isTp, h, h'], by simp only [isLs, h, h']⟩
  | dct h =>
    have h' := k _ _ h (fun z => by
      obtain ⟨_, _, _, e⟩ := w
      rw [← z, h] at e; cases e) (fun z => by rw [z, hb] at h; cases h)
    exact ⟨.dct h', by simp only [isTp, h, h'], by simp only [isLs, h, h']⟩
  | @lst l xs h =>
    have h' : ∃ ys, H' l = some (.lst ys) := by
      by_cases z1 : l = wl
      · obtain ⟨_, _, _, e⟩ := w'
        rw [z1]; exact ⟨_, e⟩
      by_cases z2 : l = bd
      · rw [z2]; exact ⟨_, hb'⟩
      exact ⟨_, k _ _ h z1 z2⟩
    obtain ⟨ys, h'⟩ := h'
    exact ⟨.lst h', by simp only [isTp, h, h'], by simp only [isLs, h, h']⟩
theorem k2G (k : Kp2 wl bd H H') (w : WellAt H wl) (w' : WellAt H' wl) (hb : H bd = some (.lst us)) (hb' : H' bd = some (.lst us')) (t : ThG C H v) : ThG C H' v ∧ isTp H' v = isTp H v := by
  rcases t with t | ⟨q, e, rfl, he, hk⟩
  · have := k2Th k w w' hb hb' t
    exact ⟨.inl this.1, this.2.1⟩
  · obtain ⟨dx, h'⟩ := k2E k w hb he
    obtain ⟨dx0, h0⟩ := he
    exact ⟨.inr ⟨q, e, rfl, ⟨dx, h'⟩, hk⟩, by simp only [isTp, h0, h']⟩
theorem RwB.keep (k : Kp2 wl bd H H') (w : WellAt H wl) (w' : WellAt H' wl) (hb : H bd = some (.lst us)) (hb' : H' bd = some (.lst us')) (h : RwB y C ks H v) : RwB y C ks H' v := by
  cases h with
  | no v t i =>
    have := k2G k w w' hb hb' t
    exact .no v this.1 (by rw [this.2]; exact i)
  | len t xs h l => exact .len t xs (k2T k w hb h) l
  | day t x z h th wx => exact .day t x z (k2T k w hb h) (k2G k w w' hb hb' th).1 wx
  | ent t d z oe h d0 d1 ev hk =>
    refine .ent t d z oe (k2T k w hb h) d0 d1 ?_ hk
    cases oe with
    | none =>
      rcases ev with e | e | e | e | ⟨u, xs, e, hu⟩
      · exact .inl e
      · exact .inr (.inl e)
      · exact .inr (.inr (.inl e))
      · exact .inr (.inr (.inr (.inl e)))
      · exact .inr (.inr (.inr (.inr ⟨u, xs, e, k2T k w hb hu⟩)))
    | some e =>
      obtain ⟨q, e1, e2⟩ := ev
      exact ⟨q, e1, k2E k w hb e2⟩
theorem RwG.keep (k : Kp2 wl bd H H') (w : WellAt H wl) (hb : H bd = some (.lst us)) : RwG y C ks H v → RwG y C ks H' v := fun ⟨t, x, e, ⟨q, h1, h2⟩, r⟩ => ⟨t, x, e, ⟨q, k2T k w hb h1, k2E k w hb h2⟩, r⟩
/-- no list of rows; too many -/
def VB (wl bd : Addr) (H : Hp) (x : V) : Prop := (KD.Th H x ∧ isLs H x = false) ∨ ∃ (l : Addr) (xs : List V), x = .ref l ∧ H l = some (.lst xs) ∧ 40 < xs.length ∧ l ≠ wl ∧ l ≠ bd
theorem VB.keep (k : Kp2 wl bd H H') (w : WellAt H wl) (w' : WellAt H' wl) (hb : H bd = some (.lst us)) (hb' : H' bd = some (.lst us')) : VB wl bd H x → VB wl bd H' x
  | .inl ⟨t, i⟩ => by
    have := k2Th k w w' hb hb' t
    exact .inl ⟨this.1, by rw [this.2.2]; exact i⟩
  | .inr ⟨l, xs, e, h, z, n1, n2⟩ => .inr ⟨l, xs, e, k _ _ h n1 n2, z, n1, n2⟩
theorem VB.bad : VB wl bd H x → BadRows y C ks H x
  | .inl t => .inl t
  | .inr ⟨l, xs, e, h, z, _⟩ => .inr ⟨l, xs, e, h, .inl z⟩
/-- rows with one that is none, if there is room -/
def LB (wl bd : Addr) (y : Yr) (C : Nat → Addr) (n : Nat) (H : Hp) (x : V) : Prop := ∃ (l : Addr) (xs : List V), x = .ref l ∧ H l = some (.lst xs) ∧ xs.length ≤ 40 ∧ l ≠ wl ∧ l ≠ bd ∧ (∀ z ∈ xs, RwG y C KS4 H z ∨ RwB y C KS4 H z) ∧ (n < xs.length → ∃ z ∈ xs, RwB y C KS4 H z)
theorem LB.keep {n : Nat} (k : Kp2 wl bd H H') (w : WellAt H wl) (w' : WellAt H' wl) (hb : H bd = some (.lst us)) (hb' : H' bd = some (.lst us')) : LB wl bd y C n H x → LB wl bd y C n H' x := fun ⟨l, xs, e, h, x40, n1, n2, h1, h2⟩ =>
  ⟨l, xs, e, k _ _ h n1 n2, x40, n1, n2, fun z hz => (h1 z hz).imp (fun g => g.keep k w hb) fun g => g.keep k w w' hb hb', fun lt => (h2 lt).imp fun z hz => ⟨hz.1, hz.2.keep k w w' hb hb'⟩⟩
end
theorem cut_le40 {xs : List Int} : ∃ ys : List Int, cutV (xs.map V.int) (some 2) (some 42) = ys.map V.int ∧ ys.length ≤ 40 := by
  refine ⟨(xs.drop (min 2 xs.length)).take (min 42 xs.length - min 2 xs.length), ?_, ?_⟩
  · unfold cutV
    rw [show (some (2 : Int)) = some ((2 : Nat) : Int) from rfl, show (some (42 : Int)) = some ((42 : Nat) : Int) from rfl, HT.sIx_nat, HT.sIx_nat, List.length_map, List.map_take, List.map_drop]
  · rw [List.length_take]
    omega
def spLaw (K : PySem.W.Frag) : Sp := fun vs H Q _ => ∃ (a : Addr) (ns : List Int), vs = [.ref a] ∧ SqL K H a (ns.map V.int) ∧ ns.length ≤ 63 ∧ ∀ H', Q (.bl true) H'
section
variable {P : Program} {w : World} {K : PySem.W.Frag} {mg : Str → Option Value} {base : Heap} {C : Nat → Addr} {CD Ct Cy : Addr}
abbrev sLaw : Stmt := top 71
abbrev nLaw : List Str := ["_law_script", "_law_well_here", "_law_days", "_law_heads_here", "_law_strange", "_law_names_here", "_law_year", "_law_rows", "_law_kept", "_law_full", "_law_bad", "_law_k", "_law_at", "_law_thing", "_law_turn", "_law_head", "_law_above", "_law_cell"]
theorem scLaw : FnScope nLaw ["_law_script"] (defScope sLaw) := ⟨rfl, rfl, rfl, by decide +kernel, rfl, by decide +kernel, by decide +kernel⟩
set_option maxHeartbeats 8000000 in
theorem ok_law {f : Addr} {fd : FuncData} (F : Fun K "law" "law" sLaw f fd) (B : Base K mg) (We : Cal P w K mg base 1 "_law_well" spWell) (Ce : Cal P w K mg base 1 "_law_cell_at" (spCell K)) (Dr : Cal P w K mg base 2 "_law_draw" spDraw) (Hds : Cal P w K mg base 4 "_law_heads" spLHd2) (Rw : Cal P w K mg base 6 "_law_row" (spLRw C)) (No : Cal P w K mg base 6 "_law_none" (spLNo C)) (Gi : MakT P w K mg base 4 "Give" (C 0) (spInit C 0)) (Ye : MakT P w K mg base 4 "Year" Cy (spYear Cy)) (Da : MakT P w K mg base 9 "Dated" CD (spDI CD Ct C Cy KS4))
    (Br : MetT P w K mg base 1 CD "breach" (spDB CD Ct Cy)) (RfG : Cal P w K mg base 11 "_law_refused" (spRfG C Cy KS4)) (RfB : Cal P w K mg base 11 "_law_refused" (spRfB C Cy KS4)) :
    FnOk P w K mg base CX0 13 f fd ["_law_script"] (spLaw K) := by
  refine F.ok scLaw (fun vs H Q E h => ?_) (fun cdv A outer st H vs Q E2 hr h => ?_)
  · obtain ⟨a, ns, rfl, _⟩ := h
    rfl
  · obtain ⟨a, ns, rfl, hS, hlen, k⟩ := h
    have hz : sizeLine = 16777216 := by decide
    refine ⟨_, (C8.pss_cut (ps_set (i := 1) scLaw.nd rfl (by first | exact Or.inl rfl | exact Or.inr rfl) (pe_cl We hr (by decide) (by rfl) (pa_cons (pe_cl Ce hr (by decide) (by rfl) (pa_cons (pv 0) (pa_cons pe_int pa_nil))) pa_nil)))
        (C8.pss_cut (ps_set (i := 2) scLaw.nd rfl (by first | exact Or.inl rfl | exact Or.inr rfl) (pe_op op_add pe_int (pe_cl Dr hr (by decide) (by rfl) (pa_cons (pv 1) (pa_cons pe_int pa_nil)))))
        (C8.pss_cut (ps_asg (pe_cl Hds hr (by decide) (by rfl) (pa_cons (pv 1) pa_nil)) (pg_tup rfl (pgs_cons (pg_name (i := 3) scLaw.nd rfl (by first | exact Or.inl rfl | exact Or.inr rfl)) (pgs_cons (pg_name (i := 4) scLaw.nd rfl (by first | exact Or.inl rfl | exact Or.inr rfl)) pgs_nil))))
        (C8.pss_cut (ps_set (i := 5) scLaw.nd rfl (by first | exact Or.inl rfl | exact Or.inr rfl) (pe_lc (own := [("_law_head", 15), ("_law_above", 16)]) (g := (gTup K 2 (gCons (gName 15) (gCons (gName 16) gNil)))) (tt := tYes) rfl scLaw.nd (pi_list (pv 3)) (blkOk_by (N := nLaw) (sc := defScope sLaw) (by decide +kernel)) (fun _ _ _ _ _ => (pg_tup rfl (pgs_cons (pg_name (i := 15) scLaw.nd rfl (by first | exact Or.inl rfl | exact Or.inr rfl)) (pgs_cons (pg_name (i := 16) scLaw.nd rfl (by first | exact Or.inl rfl | exact Or.inr rfl)) pgs_nil)))) (fun _ _ _ _ _ => pts_nil) (fun _ _ _ _ _ => (pv 15))))
        (C8.pss_cut (ps_set (i := 6) scLaw.nd rfl (by first | exact Or.inl rfl | exact Or.inr rfl) (pe_mkT Ye hr (by decide) (by rfl) (pa_cons (pv 2) (pa_cons (pv 3) (pa_cons (pe_lstW pa_nil) (pa_cons (pe_lstW pa_nil) pa_nil))))))
        (C8.pss_cut (ps_setLc (i := 7) (own := [("_law_cell", 17)]) (g := (gName 17)) (tt := tYes) rfl scLaw.nd rfl (by first | rfl | decide +kernel) (sw_true rfl (by first | rfl | decide +kernel) rfl (by decide +kernel)) (pi_list (pe_slice sl_listW (pv 0) (po_some pe_int) (po_some pe_int))) (blkOk_by (N := nLaw) (sc := defScope sLaw) (by decide +kernel)) (fun _ _ _ _ _ => (pg_name (i := 17) scLaw.nd rfl (by first | exact Or.inl rfl | exact Or.inr rfl))) (fun _ _ _ _ _ => pts_nil) (fun _ _ _ _ _ => (pe_cl Rw hr (by decide) (by rfl) (pa_cons (pe_cl We hr (by decide) (by rfl) (pa_cons (pv 17) pa_nil)) (pa_cons (pv 5) (pa_cons (pv 2) pa_nil))))))
        (C8.pss_cut (ps_set (i := 8) scLaw.nd rfl (by first | exact Or.inl rfl | exact Or.inr rfl) (pe_callTy call_listW (by rfl) B.list (by decide +kernel) (pa_cons (pv 7) pa_nil)))
        (C8.pss_cut (ps_if (PW.pt (pw_or (pt_cmpR (op_neD hr.units) (pe_mtT0 Br hr (by decide) (pe_mkT Da hr (by decide) (by rfl) (pa_cons (pv 6) (pa_cons (pv 7) pa_nil)))) (pe_mtT0 Br hr (by decide) (pe_mkT Da hr (by decide) (by rfl) (pa_cons (pv 6) (pa_cons (pv 7) pa_nil)))) (nomark _)) (pw_or1 (pt_cmpR (KQ.op_neR hr.units) (pv 7) (pv 8) (nomark _))))) (pss_one (ps_ret pe_bl)) pss_nil)
        (C8.pss_cut (ps_set (i := 9) scLaw.nd rfl (by first | exact Or.inl rfl | exact Or.inr rfl) (pe_slice sl_listW (pe_op op_catLW (pv 7) (pe_op op_rep (pe_lstW (pa_cons (pe_tupW (pa_cons pe_int (pa_cons (pe_mkT Gi hr (by decide) (by rfl) (pa_cons (pe_ix ix_list (pv 5) pe_int (fun _ _ => rfl)) (pa_cons pe_int (pa_cons pe_str pa_nil)))) pa_nil))) pa_nil)) pe_int)) po_none (po_some pe_int)))
        (C8.pss_cut (ps_if (PW.pt (pw_or (pt_cmpR op_ne (pe_cl RfG hr (by decide) (by rfl) (pa_cons (pv 6) (pa_cons (pv 9) pa_nil))) pe_str (nomark _)) (pw_or1 (pt_cmpR op_ne (pe_cl RfG hr (by decide) (by rfl) (pa_cons (pv 6) (pa_cons (pe_lstW pa_nil) pa_nil))) pe_str (nomark _))))) (pss_one (ps_ret pe_bl)) pss_nil)
        (C8.pss_cut (ps_set (i := 1) scLaw.nd rfl (by first | exact Or.inl rfl | exact Or.inr rfl) (pe_cl We hr (by decide) (by rfl) (pa_cons (pe_cl Ce hr (by decide) (by rfl) (pa_cons (pv 0) (pa_cons pe_int pa_nil))) pa_nil)))
        (C8.pss_cut (ps_set (i := 10) scLaw.nd rfl (by first | exact Or.inl rfl | exact Or.inr rfl) (pe_lstW (pa_cons (pe_op op_catLW (pv 9) (pe_slice sl_listW (pv 9) po_none (po_some pe_int))) (pa_cons (pe_callTy call_tupleW (by rfl) B.tuple (by decide +kernel) (pa_cons (pv 7) pa_nil)) (pa_cons pe_dnewK (pa_cons pe_str (pa_cons pe_int (pa_cons pe_non (pa_cons pe_bl (pa_cons (pe_tupW (pa_cons pe_int (pa_cons (pe_mkT Gi hr (by decide) (by rfl) (pa_cons (pe_ix ix_list (pv 5) pe_int (fun _ _ => rfl)) (pa_cons pe_int (pa_cons pe_str pa_nil)))) pa_nil))) pa_nil))))))))))
        (C8.pss_cut (ps_for PassesOwn.never rfl (pi_range1 (by rfl) B.range (pa_cons pe_int pa_nil)) (pg_name (i := 11) scLaw.nd rfl (by first | exact Or.inl rfl | exact Or.inr rfl)) (C8.pss_cut (ps_set (i := 12) scLaw.nd rfl (by first | exact Or.inl rfl | exact Or.inr rfl) (pe_cl Dr hr (by decide) (by rfl) (pa_cons (pv 1) (pa_cons (pe_op op_add (pe_callB call_len_seq (by rfl) B.len (by decide +kernel) (pa_cons (pv 7) pa_nil)) pe_int) pa_nil))))
        (pss_one (ps_expr (pe_bm PySem.F.plainAttrs_list PySem.F.slot_list_append PySem.F.type_list_append mt_append (pv 10) (pa_cons (pe_slice sl_listW (pe_op op_catLW (pe_op op_catLW (pe_slice sl_listW (pv 7) po_none (po_some (pv 12))) (pe_lstW (pa_cons (pe_cl No hr (by decide) (by rfl) (pa_cons (pv 1) (pa_cons (pv 5) (pa_cons (pv 4) (pa_cons (pv 2) pa_nil))))) pa_nil))) (pe_slice sl_listW (pv 7) (po_some (pv 12)) po_none)) po_none (po_some pe_int)) pa_nil))))))
        (C8.pss_cut (ps_for PassesOwn.never rfl (pi_list (pe_op op_catLW (pe_slice sl_listW (pv 10) po_none (po_some pe_int)) (pe_lc (own := [("_law_rows", 7)]) (g := (gName 7)) rfl scLaw.nd (pi_list (pe_slice sl_listW (pv 10) (po_some pe_int) po_none)) (blkOk_by (N := nLaw) (sc := defScope sLaw) (by decide +kernel)) (fun _ _ _ _ _ => (pg_name (i := 7) scLaw.nd rfl (by first | exact Or.inl rfl | exact Or.inr rfl))) (fun _ _ _ _ _ => pts_one (pt_cmpR op_gt (pe_callB (show CallR _ (.builtin "len") (fun xs H Q => ∃ p ys, xs = [.ref p] ∧ (SqL K H p ys ∨ SqT K H p ys) ∧ Q (.int (ys.length : Nat)) H) from call_len_seq) (by rfl) B.len (by decide +kernel) (pa_cons (pv 7) pa_nil)) (pe_callB (show CallR _ (.builtin "len") (fun xs H Q => ∃ p ys, xs = [.ref p] ∧ (SqL K H p ys ∨ SqT K H p ys) ∧ Q (.int (ys.length : Nat)) H) from call_len_seq) (by rfl) B.len (by decide +kernel) (pa_cons (pv 8) pa_nil)) (nomark _))) (fun _ _ _ _ _ => (pv 7))))) (pg_name (i := 13) scLaw.nd rfl (by first | exact Or.inl rfl | exact Or.inr rfl)) (pss_one (ps_for PassesOwn.never rfl (pi_range1 (by rfl) B.range (pa_cons pe_int pa_nil)) (pg_name (i := 14) scLaw.nd rfl (by first | exact Or.inl rfl | exact Or.inr rfl)) (pss_one (ps_if (pt_cmpR op_ne (pe_cl RfB hr (by decide) (by rfl) (pa_cons (pv 6) (pa_cons (pv 13) pa_nil))) pe_str (nomark _)) (pss_one (ps_ret pe_bl)) pss_nil)))))
        (pss_one (ps_ret (pe_cmpR (op_eqR hr.units) (pv 7) (pv 8) (nomark _)))))))))))))))))), ?_⟩
    -- the well
    refine ⟨fun σ' H' => ∃ wl, σ' = [some (.ref a), some (.ref wl), none, none, none, none, none, none, none, none, none, none, none, none, none, none, none, none] ∧ Same H H' ∧ H wl = none ∧ WellAt H' wl, ?_, ?_⟩
    · exact ⟨_, rfl, a, ns, 0, rfl, hS, by decide, fun c => ⟨_, rfl, fun wl H1 s1 n1 w1 => ⟨wl, rfl, s1, n1, w1⟩⟩⟩
    rintro _ G1 ⟨wl, rfl, s1, nwl, w1⟩
    -- the days
    refine ⟨fun σ' H' => ∃ d : Int, σ' = [some (.ref a), some (.ref wl), some (.int d), none, none, none, none, none, none, none, none, none, none, none, none, none, none, none] ∧ (1 ≤ d ∧ d ≤ 30) ∧ Same H H' ∧ WellAt H' wl, ?_, ?_⟩
    · exact ⟨_, rfl, wl, 30, rfl, w1, by decide, by decide, fun r H2 r0 r1 w2 s2 => ⟨_, _, rfl, rfl, 1 + r, rfl, by omega, same_of_B nwl (SameB.trans (SameB.of s1) s2), w2⟩⟩
    rintro _ G2 ⟨d, rfl, dd, s2, w2⟩
    -- the heads
    refine ⟨fun σ' H' => ∃ (lh : Addr) (th : List Addr) (hs : List Hd) (st : Str), σ' = [some (.ref a), some (.ref wl), some (.int d), some (.ref lh), some (.str st), none, none, none, none, none, none, none, none, none, none, none, none, none] ∧ VH hs ∧ RowsAt H' lh th (hs.map hv) ∧ st ∉ nms hs ∧ IsW st ∧ Same H H' ∧ WellAt H' wl, ?_, ?_⟩
    · exact ⟨_, rfl, wl, rfl, w2, fun t q th hs st H3 vh R3 ht hst sw w3 s3 => ⟨t, _, rfl, SqT.of ht, rfl, _, _, rfl, _, _, rfl, rfl, q, th, hs, st, rfl, vh, R3, hst, sw, same_of_B nwl (SameB.trans (SameB.of s2) s3), w3⟩⟩
    rintro _ G3 ⟨lh, th, hs, st, rfl, vh, R3, hst, sw, s3, w3⟩
    have n8 : (nms hs).length ≤ 8 := by unfold nms; rw [List.length_map]; exact vh.l8
    have n1 : 1 ≤ (nms hs).length := by unfold nms; rw [List.length_map]; exact vh.l1
    have thl : th.length = hs.length := by rw [R3.len, List.length_map]
    -- their names
    refine ⟨fun σ' H' => ∃ p : Addr, σ' = [some (.ref a), some (.ref wl), some (.int d), some (.ref lh), some (.str st), some (.ref p), none, none, none, none, none, none, none, none, none, none, none, none] ∧ H' p = some (.lst ((nms hs).map V.str)) ∧ Same G3 H' ∧ G3 p = none, ?_, ?_⟩
    · refine ⟨_, rfl, lh, rfl, ⟨_, SqL.of R3.1⟩, fun D1 nD => lc_it (walk_list (xs := th.map V.ref)) (fun i H' => Same G3 H' ∧ H' D1 = some (.lst (((nms hs).take i).map V.str))) ⟨same_new nD, upd_same⟩ (fun i H' _ e => SqL.of (e.1 _ _ R3.1)) ?_ ?_⟩
      · rintro i v H4 H5 hi ⟨s4, d4⟩ ⟨rfl, hv'⟩
        rw [List.getElem?_map] at hv'
        cases et : th[i]? with
        | none => rw [et] at hv'; cases hv'
        | some t =>
          rw [et] at hv'
          obtain rfl := Option.some.inj hv'
          obtain ⟨r, hr', ht⟩ := L2.paired_get R3.2 et
          rw [List.getElem?_map] at hr'
          cases eh : hs[i]? with
          | none => rw [eh] at hr'; cases hr'
          | some x =>
            rw [eh] at hr'
            obtain rfl := Option.some.inj hr'
            refine ⟨t, _, rfl, SqT.of (s4 _ _ ht), rfl, _, _, rfl, _, _, rfl, rfl, rfl, yes (iteT ⟨_, rfl, _, d4, by rw [List.length_map, List.length_take]; omega, fun b o eb => ?_, ?_⟩)⟩
            · rw [upd_ne (ne_of_none eb nD)]
              exact s4 _ _ eb
            · rw [upd_same, List.take_add_one, nms_get eh, List.map_append]
              rfl
      · rintro H4 ⟨s4, d4⟩
        rw [List.length_map, thl, show hs.length = (nms hs).length by unfold nms; rw [List.length_map], List.take_length] at d4
        exact ⟨D1, rfl, d4, s4, nD⟩
    rintro _ G4 ⟨p, rfl, hp, s34, np⟩
    have w4 := w3.same s34
    have R4 := R3.same s34
    have s4 := s3.trans s34
    -- the year
    obtain ⟨y, hy0, hyd, hyh⟩ : ∃ y : Yr, y.ok ∧ y.days = d ∧ y.hs = hs ∧ y.ls = [] ∧ y.rs = [] := ⟨⟨d, hs, [], []⟩, ⟨dd, vh, (fun r hr => nomatch hr), Nat.zero_le _, (fun r hr => nomatch hr), Nat.zero_le _, fun x => (by decide : ((0 : Int) ≤ 1))⟩, rfl, rfl, rfl, rfl⟩
    obtain ⟨hyh, hyl, hyr⟩ := hyh
    refine ⟨fun σ' H' => ∃ yp, σ' = [some (.ref a), some (.ref wl), some (.int d), some (.ref lh), some (.str st), some (.ref p), some (.ref yp), none, none, none, none, none, none, none, none, none, none, none] ∧ Same G4 H' ∧ YearAt Cy [] H' yp y, ?_, ?_⟩
    · refine ⟨_, rfl, _, rfl, (by show 0 ≤ sizeLine; decide), fun e1 Ha sa na ha => ⟨(by show 0 ≤ sizeLine; decide), fun e2 Hb sb nb hb => ?_⟩⟩
      have q := mk_year (C := Cy) (Hx := Hb) (y := y) (c1 := lh) (c2 := e1) (c3 := e2) (th := th) (tl := []) (tr := []) (by rw [hyh]; exact R4.same (sa.trans sb)) (by rw [hyl]; exact ⟨sb _ _ ha, .nil⟩) (by rw [hyr]; exact ⟨hb, .nil⟩) hy0 (R := fun x H8 => ∃ yp, ([some (.ref a), some (.ref wl), some (.int d), some (.ref lh), some (.str st), some (.ref p), some (.ref x), none, none, none, none, none, none, none, none, none, none, none] : List (Option V)) = [some (.ref a), some (.ref wl), some (.int d), some (.ref lh), some (.str st), some (.ref p), some (.ref yp), none, none, none, none, none, none, none, none, none, none, none] ∧ Same G4 H8 ∧ YearAt Cy [] H8 yp y) fun x H8 s8 hy8 => ⟨x, rfl, (sa.trans sb).trans s8, hy8⟩
      rw [hyd] at q
      exact q
    rintro _ G5 ⟨yp, rfl, s45, hyp⟩
    have w5 := w4.same s45
    have s5 := s4.trans s45
    have hp5 : G5 p = some (.lst ((nms y.hs).map V.str)) := by rw [hyh]; exact s45 _ _ hp
    have hS5 := sql_same hS s5
    rw [← hyh] at n1 n8 hst
    have nw : ∀ x ∈ nms y.hs, IsW x := fun x hx => hy0.h.w x hx
    -- the rows
    refine ⟨fun σ' H' => ∃ (rs : Addr) (ts : List Addr) (es : List (Int × En)), σ' = [some (.ref a), some (.ref wl), some (.int d), some (.ref lh), some (.str st), some (.ref p), some (.ref yp), some (.ref rs), none, none, none, none, none, none, none, none, none, none] ∧ Same G5 H' ∧ G5 rs = none ∧ H' rs = some (.lst (ts.map V.ref)) ∧ Paired (DatT C H') ts es ∧ (∀ x ∈ es, GhOk (nms y.hs) y.days x) ∧ es.length ≤ 40, ?_, ?_⟩
    · obtain ⟨cs, ec, cl⟩ := cut_le40 (xs := ns)
      refine ⟨_, rfl, _, rfl, _, rfl, a, _, rfl, hS5, fun Cl H7 s7 n7 h7 => ?_⟩
      have h7 : H7 Cl = some (.lst (cs.map V.int)) := by rw [h7, ← ec]
      refine ⟨Cl, rfl, ⟨_, SqL.of h7⟩, fun D1 nD => lc_it (walk_list (xs := cs.map V.int)) (fun j H' => Same H7 H' ∧ ∃ (ts : List Addr) (es : List (Int × En)), H' D1 = some (.lst (ts.map V.ref)) ∧ Paired (DatT C H') ts es ∧ (∀ x ∈ es, GhOk (nms y.hs) y.days x) ∧ es.length = min j cs.length) ⟨same_new nD, [], [], upd_same, .nil, (fun x hx => nomatch hx), by rw [Nat.zero_min]; rfl⟩ (fun i H' _ z => SqL.of (z.1 _ _ h7)) ?_ ?_⟩
      · rintro j v H4 H5 hj ⟨s4', ts, es, d4, P4, ok4, el⟩ ⟨rfl, hv⟩
        rw [List.getElem?_map] at hv
        cases ej : cs[j]? with
        | none => rw [ej] at hv; cases hv
        | some c =>
        rw [ej] at hv
        obtain rfl := Option.some.inj hv
        have jl := (List.getElem?_eq_some_iff.mp ej).1
        have tl : ts.length = es.length := Paired.length P4
        refine ⟨rfl, yes ⟨_, rfl, c, rfl, fun w' Hw sw' nw' ww => ⟨_, rfl, _, rfl, w', p, nms y.hs, y.days, by rw [hyd]; rfl, ww, sw' _ _ (s4' _ _ (s7 _ _ hp5)), n1, n8, nw, by rw [hyd]; exact dd.1, by rw [hyd]; exact dd.2, fun t x H6 gx dt nt w6 s6 => ?_⟩⟩⟩
        have s46 : Same H5 H6 := same_of_B nw' (SameB.trans (SameB.of sw') s6)
        have tD : t ≠ D1 := fun z => by rw [z, sw' _ _ d4] at nt; cases nt
        have up : ∀ {b : Addr} {xs : List V}, H6 b = some (.tup xs) → upd H6 D1 (.lst (ts.map V.ref ++ [.ref t])) b = some (.tup xs) := fun {b xs} e => by
          rw [upd_ne (fun z => by rw [z, s46 _ _ d4] at e; cases e)]
          exact e
        have upE : ∀ {q : Addr} {e : En}, EntAt C H6 q e → EntAt C (upd H6 D1 (.lst (ts.map V.ref ++ [.ref t]))) q e := fun {q e} ⟨dx, h⟩ => ⟨dx, by
          rw [upd_ne (fun z => by rw [z, s46 _ _ d4] at h; cases h)]
          exact h⟩
        refine ⟨_, s46 _ _ d4, ?_, fun b o eb => ?_, ts ++ [t], es ++ [x], ?_, ?_, fun z hz => ?_, ?_⟩
        · rw [List.length_map]; omega
        · rw [upd_ne (ne_of_none eb nD)]; exact s46 _ _ (s4' _ _ eb)
        · rw [upd_same, List.map_append]; rfl
        · obtain ⟨q, h1, h2⟩ := dt
          exact paired_app (L2.Paired.mapP P4 fun t' x' ⟨q', h1', h2'⟩ => ⟨q', up (s46 _ _ h1'), upE (ent_same s46 h2')⟩) (.cons ⟨q, up h1, upE h2⟩ .nil)
        · rcases List.mem_append.mp hz with hz | hz
          · exact ok4 z hz
          · rw [List.mem_singleton.mp hz]; exact gx
        · rw [List.length_append, el]; show _ + 1 = _; omega
      · rintro H4 ⟨s4', ts, es, d4, P4, ok4, el⟩
        exact ⟨D1, ts, es, rfl, s7.trans s4', same_none s7 nD, d4, P4, ok4, by rw [el]; omega⟩
    rintro _ G6 ⟨rs, ts, es, rfl, s56, nrs, hrs, Pd, gh, e40⟩
    have tsl : ts.length = es.length := Paired.length Pd
    have hyp6 := hyp.same s56
    have hp6 := s56 _ _ hp5
    have w6 := w5.same s56
    have good : ∀ {E : List (Int × En)}, (∀ x ∈ E, GhOk (nms y.hs) y.days x) → ∀ x ∈ E, x.2.k ∈ KS4 ∧ x.2.ok ∧ x.2.fit (nms y.hs) y.days x.1 = true ∧ 1 ≤ x.1 ∧ x.1 ≤ y.days := fun {E} hE x hx => by
      obtain ⟨h1, h2, h3, h4, h5⟩ := hE x hx
      refine ⟨?_, h1, h3, h4, h5⟩
      simp only [List.mem_cons, List.not_mem_nil, or_false] at h2
      rcases h2 with e | e <;> rw [e] <;> decide
    -- kept
    refine ⟨fun σ' H' => ∃ kp : Addr, σ' = [some (.ref a), some (.ref wl), some (.int d), some (.ref lh), some (.str st), some (.ref p), some (.ref yp), some (.ref rs), some (.ref kp), none, none, none, none, none, none, none, none, none] ∧ Same G6 H' ∧ H' kp = some (.lst (ts.map V.ref)), ⟨_, rfl, rs, _, rfl, .inl (SqL.of hrs), fun l H7 s7 n7 h7 => ⟨l, rfl, s7, h7⟩⟩, ?_⟩
    rintro _ G7 ⟨kp, rfl, s67, hkp⟩
    have hrs7 := s67 _ _ hrs
    have Pd7 := L2.Paired.mapP Pd fun t x (z : DatT C G6 t x) => z.same s67
    have hyp7 := hyp6.same s67
    -- told alike
    refine ⟨fun σ' H' => σ' = [some (.ref a), some (.ref wl), some (.int d), some (.ref lh), some (.str st), some (.ref p), some (.ref yp), some (.ref rs), some (.ref kp), none, none, none, none, none, none, none, none, none] ∧ Same G7 H', ?_, ?_⟩
    · refine ⟨_, rfl, _, rfl, mk_dat hyp7 hy0 hrs7 Pd7 e40 (good gh) fun x1 H8 s8 D8 => ?_⟩
      obtain ⟨dx1, tp1, vd1, hD1, _, _⟩ := id D8
      refine ⟨x1, dx1, _, rfl, hD1, look_no (by show ("breach" : Str) ∉ (["tally", "first_breach"] : List Str); decide +kernel), x1, y, es, rfl, D8, fun v1 br1 => ?_⟩
      refine ⟨_, rfl, _, rfl, mk_dat (hyp7.same s8) hy0 (s8 _ _ hrs7) (L2.Paired.mapP Pd7 fun t x (z : DatT C G7 t x) => z.same s8) e40 (good gh) fun x2 H9 s9 D9 => ?_⟩
      obtain ⟨dx2, tp2, vd2, hD2, _, _⟩ := id D9
      refine ⟨x2, dx2, _, rfl, hD2, look_no (by show ("breach" : Str) ∉ (["tally", "first_breach"] : List Str); decide +kernel), x2, y, es, rfl, D9, fun v2 br2 => ?_⟩
      have shB : SeqAt.shaped (brD (breach y (runE y es))) = true := (lay_br hy0).shaped (by decide)
      refine ⟨_, _, (br1.same s9).dp, br2.dp, shB, shB, _, rfl, ?_⟩
      rw [eqv_self shB]
      have s79 := s8.trans s9
      exact iteF ⟨_, rfl, _, rfl, rs, kp, ts, rfl, rfl, s79 _ _ hrs7, s79 _ _ hkp, _, rfl, iteF ⟨rfl, s79⟩⟩
    rintro _ G8 ⟨rfl, s78⟩
    have s68 := s67.trans s78
    have hrs8 := s78 _ _ hrs7
    have hkp8 := s78 _ _ hkp
    have Pd8 := L2.Paired.mapP Pd7 fun t x (z : DatT C G7 t x) => z.same s78
    have hyp8 := hyp7.same s78
    have hp8 := s68 _ _ hp6
    have w8 := w6.same s68
    obtain ⟨nm0, hn0, ha0⟩ : ∃ nm ∈ nms y.hs, atI ((nms y.hs).map V.str) 0 = some (V.str nm) := at_str (by decide) (by omega) |>.elim fun h q => ⟨h, q.2, q.1⟩
    have gok : (En.give nm0 1 "").ok := ⟨nw nm0 hn0, ⟨by decide, by decide⟩, .inl rfl⟩
    -- forty rows
    refine ⟨fun σ' H' => ∃ (fu : Addr) (tf : List Addr) (ef : List (Int × En)), σ' = [some (.ref a), some (.ref wl), some (.int d), some (.ref lh), some (.str st), some (.ref p), some (.ref yp), some (.ref rs), some (.ref kp), some (.ref fu), none, none, none, none, none, none, none, none] ∧ Same G8 H' ∧ H' fu = some (.lst (tf.map V.ref)) ∧ Paired (DatT C H') tf ef ∧ (∀ x ∈ ef, GhOk (nms y.hs) y.days x) ∧ ef.length = 40, ?_, ?_⟩
    · refine ⟨_, rfl, _, rfl, p, _, _, _, rfl, rfl, SqL.of hp8, ha0, mk_ent (e := .give nm0 1 "") gok fun q Ha sa eq => ⟨(by show 2 ≤ sizeLine; decide), fun t Hb sb nb hb => ⟨(by show 1 ≤ sizeLine; decide), fun Lo Hc sc nc hc => ⟨Lo, 40, _, rfl, rfl, hc, by decide, by decide, (by show 1 * 40 ≤ sizeLine; decide), fun Lr nr => ?_⟩⟩⟩⟩
      have sr : Same Hc (upd Hc Lr (.lst (List.replicate ((40 : Nat) : Int).toNat [V.ref t]).flatten)) := same_new nr
      have hr' : (upd Hc Lr (.lst (List.replicate ((40 : Nat) : Int).toNat [V.ref t]).flatten)) Lr = some (.lst ((List.replicate 40 t).map V.ref)) := upd_same
      generalize (upd Hc Lr (.lst (List.replicate ((40 : Nat) : Int).toNat [V.ref t]).flatten)) = Hd at sr hr'
      have s8d := ((sa.trans sb).trans sc).trans sr
      refine ⟨rs, Lr, _, _, rfl, rfl, s8d _ _ hrs8, hr', (by rw [List.length_map, List.length_map, List.length_replicate]; show _ ≤ 16777216; omega), fun Lc He se ne he => ⟨_, rfl, Lc, _, rfl, SqL.of he, fun fu Hf sf nf hf => ?_⟩⟩
      have s8f := (s8d.trans se).trans sf
      have dt : DatT C Hf t (1, .give nm0 1 "") := ⟨q, (((sc.trans sr).trans se).trans sf) _ _ hb, ent_same ((((sb.trans sc).trans sr).trans se).trans sf) eq⟩
      have go : GhOk (nms y.hs) y.days (1, .give nm0 1 "") := ⟨gok, by simp [En.k], by simp [En.fit, hn0], Int.le_refl 1, by show 1 ≤ y.days; rw [hyd]; exact dd.1⟩
      have cf : cutV ((ts ++ List.replicate 40 t).map V.ref) none (some 40) = ((ts ++ List.replicate 40 t).take 40).map V.ref := by
        rw [cut_take (k := 40) (by decide), List.map_take]; rfl
      have hf : Hf fu = some (.lst (((ts ++ List.replicate 40 t).take 40).map V.ref)) := by rw [hf, ← cf, List.map_append]
      refine ⟨fu, _, (es ++ List.replicate 40 ((1 : Int), En.give nm0 1 "")).take 40, rfl, s8f, hf, ?_, fun x hx => ?_, ?_⟩
      · refine paired_take (paired_app (L2.Paired.mapP Pd8 fun t x (z : DatT C G8 t x) => z.same s8f) (paired_rep dt))
      · rcases List.mem_append.mp (List.mem_of_mem_take hx) with h | h
        · exact gh x h
        · rw [List.eq_of_mem_replicate h]; exact go
      · rw [List.length_take, List.length_append, List.length_replicate]; omega
    rintro _ G9 ⟨fu, tf, ef, rfl, s89, hfu, Pf, gf, f40⟩
    have tfl : tf.length = 40 := by rw [Paired.length Pf, f40]
    have hyp9 := hyp8.same s89
    -- both are made
    refine ⟨fun σ' H' => σ' = [some (.ref a), some (.ref wl), some (.int d), some (.ref lh), some (.str st), some (.ref p), some (.ref yp), some (.ref rs), some (.ref kp), some (.ref fu), none, none, none, none, none, none, none, none] ∧ Same G9 H', ?_, ?_⟩
    · refine ⟨_, rfl, _, rfl, yp, fu, y, tf, ef, rfl, hyp9, hy0, hfu, Pf, by omega, good gf, fun Ha sa => ⟨rfl, _, rfl, ?_⟩⟩
      rw [show (!decide (V.str "made" = V.str "made")) = false by rw [decide_eq_true rfl]; rfl]
      refine iteF ⟨_, rfl, (by show 0 ≤ sizeLine; decide), fun L0 Hb sb nb hb => ⟨yp, L0, y, [], [], rfl, (hyp9.same sa).same sb, hy0, hb, .nil, Nat.zero_le _, (fun x hx => nomatch hx), fun Hc sc => ⟨rfl, _, rfl, ?_⟩⟩⟩
      rw [show (!decide (V.str "made" = V.str "made")) = false by rw [decide_eq_true rfl]; rfl]
      exact iteF ⟨rfl, (sa.trans sb).trans sc⟩
    rintro _ G10 ⟨rfl, s910⟩
    have hfu10 := s910 _ _ hfu
    have s810 := s89.trans s910
    have hrs10 := s810 _ _ hrs8
    have hkp10 := s810 _ _ hkp8
    have hp10 := s810 _ _ hp8
    have hyp10 := hyp8.same s810
    have Pd10 := L2.Paired.mapP Pd8 fun t x (z : DatT C G8 t x) => z.same s810
    have rg10 : ∀ x ∈ ts.map V.ref, RwG y C KS4 G10 x := fun x hx => by
      obtain ⟨t, ht, rfl⟩ := List.mem_map.mp hx
      obtain ⟨i, hi⟩ := List.getElem?_of_mem ht
      obtain ⟨xe, hxe, dt⟩ := L2.paired_get Pd10 hi
      obtain ⟨g1, g2, g3, g4, g5⟩ := good gh xe (List.mem_of_getElem? hxe)
      exact ⟨t, xe, rfl, dt, g1, g3, g4, g5⟩
    -- another well
    refine ⟨fun σ' H' => ∃ wl : Addr, σ' = [some (.ref a), some (.ref wl), some (.int d), some (.ref lh), some (.str st), some (.ref p), some (.ref yp), some (.ref rs), some (.ref kp), some (.ref fu), none, none, none, none, none, none, none, none] ∧ Same G10 H' ∧ G10 wl = none ∧ WellAt H' wl, ?_, ?_⟩
    · exact ⟨_, rfl, a, ns, 1, rfl, sql_same hS5 (s56.trans (s68.trans s810)), by decide, fun c => ⟨_, rfl, fun wl H1 s1 n1 w1 => ⟨wl, rfl, s1, n1, w1⟩⟩⟩
    clear w8 w6 w5 w4 w3 w2 w1
    rintro _ G11 ⟨wl, rfl, s1011, nwl, w11⟩
    -- what is no list of rows
    refine ⟨fun σ' H' => ∃ (bd : Addr) (vs8 : List V), σ' = [some (.ref a), some (.ref wl), some (.int d), some (.ref lh), some (.str st), some (.ref p), some (.ref yp), some (.ref rs), some (.ref kp), some (.ref fu), some (.ref bd), none, none, none, none, none, none, none] ∧ Same G11 H' ∧ G11 bd = none ∧ H' bd = some (.lst vs8) ∧ vs8.length = 8 ∧ ∀ x ∈ vs8, VB wl bd H' x, ?_, ?_⟩
    · refine ⟨_, rfl, _, rfl, _, rfl, fu, _, rfl, SqL.of (s1011 _ _ hfu10), fun l1 Ha sa na ha => ⟨fu, l1, _, _, rfl, rfl, (s1011.trans sa) _ _ hfu10, ha, (by rw [cut_take (k := 1) (by decide), List.length_take, List.length_map, tfl]; decide), fun l2 Hb sb nb hb => ?_⟩⟩
      refine ⟨_, rfl, rs, _, rfl, .inl (.inl (sb _ _ (sa _ _ (s1011 _ _ hrs10)))), fun t2 Hc sc nc hc => ?_⟩
      refine fun t3 n3 => ?_
      have s3 : Same Hc (upd Hc t3 (.dK [])) := same_new n3
      have h3 : (upd Hc t3 (.dK [])) t3 = some (.dK []) := upd_same
      generalize upd Hc t3 (.dK []) = Hd at s3 h3
      have s9d := ((sa.trans sb).trans sc).trans s3
      refine ⟨_, rfl, p, _, _, _, rfl, rfl, SqL.of (s9d _ _ (s1011 _ _ hp10)), ha0, mk_ent (e := .give nm0 1 "") gok fun q He se eq => ⟨(by show 2 ≤ sizeLine; decide), fun t8 Hf sf nf hf => ⟨(by show 8 ≤ sizeLine; decide), fun bd Hg sg ng hg => ?_⟩⟩⟩
      have sdf := (se.trans sf).trans sg
      have nb' : ∀ c, (∃ o, Hf c = some o) → c ≠ bd := fun c ⟨o, e⟩ z => by rw [z, ng] at e; cases e
      have w2' := w11.same (((s9d.trans se).trans sf))
      have hb2 : Hg l2 = some _ := (sc.trans (s3.trans sdf)) _ _ hb
      refine ⟨bd, _, rfl, (s9d.trans se).trans (sf.trans sg), same_none ((s9d.trans se).trans sf) ng, hg, rfl, fun x hx => ?_⟩
      simp only [List.mem_cons, List.not_mem_nil, or_false] at hx
      rcases hx with rfl | rfl | rfl | rfl | rfl | rfl | rfl | rfl
      · refine .inr ⟨l2, _, rfl, hb2, ?_, ?_, nb' l2 ⟨_, (sc.trans (s3.trans (se.trans sf))) _ _ hb⟩⟩
        · rw [cut_take (k := 1) (by decide), List.length_append, List.length_take, List.length_map, tfl]; decide
        · exact fun z => (w11.same sa).ne nb z.symm
      · exact .inl ⟨.tup ((s3.trans sdf) _ _ hc), by simp only [isLs, (s3.trans sdf) _ _ hc]⟩
      · exact .inl ⟨.dct (sdf _ _ h3), by simp only [isLs, sdf _ _ h3]⟩
      · exact .inl ⟨.str _ (by decide +kernel), rfl⟩
      · exact .inl ⟨.int _, rfl⟩
      · exact .inl ⟨.non, rfl⟩
      · exact .inl ⟨.bl _, rfl⟩
      · exact .inl ⟨.tup (sg _ _ hf), by simp only [isLs, sg _ _ hf]⟩
    rintro _ G12 ⟨bd, vs8, rfl, s1112, nbd, hbd, v8l, hv8⟩
    have w12 := w11.same s1112
    have s1012 := s1011.trans s1112
    have wb : wl ≠ bd := w11.ne nbd
    have nbd10 : G10 bd = none := same_none s1011 nbd
    -- six lists of rows
    refine ⟨fun σ' H' => ∃ (bs : List V) (v11 v12 : Option V), σ' = [some (.ref a), some (.ref wl), some (.int d), some (.ref lh), some (.str st), some (.ref p), some (.ref yp), some (.ref rs), some (.ref kp), some (.ref fu), some (.ref bd), v11, v12, none, none, none, none, none] ∧ Same G10 H' ∧ WellAt H' wl ∧ H' bd = some (.lst (vs8 ++ bs)) ∧ (∀ x ∈ vs8, VB wl bd H' x) ∧ (∀ x ∈ bs, LB wl bd y C ts.length H' x) ∧ bs.length ≤ 6, ?_, ?_⟩
    · refine ⟨_, rfl, by decide, by decide, for_range (lo := 0) (n := (6 : Int).toNat) (fun i σ H' => ∃ (bs : List V) (v11 v12 : Option V), σ = [some (.ref a), some (.ref wl), some (.int d), some (.ref lh), some (.str st), some (.ref p), some (.ref yp), some (.ref rs), some (.ref kp), some (.ref fu), some (.ref bd), v11, v12, none, none, none, none, none] ∧ Same G10 H' ∧ WellAt H' wl ∧ H' bd = some (.lst (vs8 ++ bs)) ∧ (∀ x ∈ vs8, VB wl bd H' x) ∧ (∀ x ∈ bs, LB wl bd y C ts.length H' x) ∧ bs.length ≤ i) ⟨[], none, none, rfl, s1012, w12, by rw [List.append_nil]; exact hbd, hv8, (fun x hx => nomatch hx), Nat.le_refl _⟩ ?_ (fun σ H' z => z)⟩
      rintro i σ H4 hi ⟨bs, v11, v12, rfl, s4, w4, hb4, hv4, hl4, bl⟩
      have i6 : i < 6 := hi
      have hrs4 := s4 _ _ hrs10
      refine ⟨fun σ' H' => ∃ m : Nat, σ' = [some (.ref a), some (.ref wl), some (.int d), some (.ref lh), some (.str st), some (.ref p), some (.ref yp), some (.ref rs), some (.ref kp), some (.ref fu), some (.ref bd), some (.int (0 + ((i : Nat) : Int))), some (.int (m : Int)), none, none, none, none, none] ∧ SameB wl H4 H' ∧ WellAt H' wl ∧ m ≤ ts.length, ?_, ?_⟩
      · refine ⟨_, rfl, _, rfl, rs, _, rfl, .inl (SqL.of hrs4), _, _, rfl, rfl, wl, _, rfl, w4, by omega, by rw [List.length_map]; omega, fun r H5 r0 r1 w5 s5 => ?_⟩
        rw [List.length_map] at r1
        obtain ⟨m, rfl⟩ : ∃ m : Nat, r = (m : Int) := ⟨r.toNat, by omega⟩
        exact ⟨m, rfl, s5, w5, by omega⟩
      rintro _ H5 ⟨m, rfl, s45', w5, ml⟩
      have g5 : Same G10 H5 := fun c o e => s45' _ _ (s4 _ _ e) (ne_of_none e nwl)
      have hb5 : H5 bd = some (.lst (vs8 ++ bs)) := s45' _ _ hb4 wb.symm
      refine ⟨_, rfl, .inl ⟨rfl, _, SqL.of hb5⟩, _, rfl, _, rfl, _, rfl, rs, _, rfl, SqL.of (g5 _ _ hrs10), fun l1 Ha sa na ha => ?_⟩
      have wa := w5.same sa
      have l1w : l1 ≠ wl := fun z => w5.ne na z.symm
      refine ⟨_, rfl, _, rfl, _, rfl, _, rfl, wl, p, st, y, by rw [hyd]; rfl, wa, hy0, sa _ _ (g5 _ _ hp10), sw, hst, fun v Hb rv wb' sb => ⟨(by show 1 ≤ sizeLine; decide), fun l2 Hc sc nc hc => ⟨l1, l2, _, _, rfl, rfl, sc _ _ (sb _ _ ha l1w), hc, ?_, fun l3 Hd sd nd hd => ?_⟩⟩⟩
      · rw [cut_take (by omega), List.length_take, List.length_map]; show _ + 1 ≤ 16777216; omega
      have ga : Same G10 Ha := g5.trans sa
      have gb : Same G10 Hb := fun c o e => sb _ _ (ga _ _ e) (ne_of_none e nwl)
      have gd := (gb.trans sc).trans sd
      refine ⟨_, rfl, _, rfl, _, rfl, rs, _, rfl, SqL.of (gd _ _ hrs10), fun l4 He se ne he => ⟨l3, l4, _, _, rfl, rfl, se _ _ hd, he, ?_, fun l5 Hf sf nf hf => ⟨_, rfl, l5, _, rfl, SqL.of hf, fun l6 Hg sg ng hg => ?_⟩⟩⟩
      · rw [cut_take (by omega), cut_dropV (by rw [List.length_map]; exact ml), List.length_append, List.length_take, List.length_drop, List.length_map]; show _ + 1 + _ ≤ 16777216; omega
      rw [cut_take (xs := ts.map V.ref) (k := (m : Int)) (by omega), cut_dropV (by rw [List.length_map]; exact ml), cut_take (k := 40) (by decide), Int.toNat_natCast] at hg
      have sbg := (((sc.trans sd).trans se).trans sf).trans sg
      have hbb : Hb bd = some (.lst (vs8 ++ bs)) := sb _ _ (sa _ _ hb5) wb.symm
      have hbg := sbg _ _ hbb
      have wg := wb'.same sbg
      have gg := gb.trans sbg
      have ll : (vs8 ++ bs).length = 8 + bs.length := by rw [List.length_append, v8l]
      have l6b : l6 ≠ bd := fun z => by rw [z, (((sc.trans sd).trans se).trans sf) _ _ hbb] at ng; cases ng
      have l6w : l6 ≠ wl := fun z => (wb'.same (((sc.trans sd).trans se).trans sf)).ne ng z.symm
      have kk : Kp2 wl bd H4 (upd Hg bd (.lst (vs8 ++ bs ++ [.ref l6]))) := fun c o e n1 n2 => by
        rw [upd_ne n2]
        exact sbg _ _ (sb _ _ (sa _ _ (s45' _ _ e n1)) n1)
      have kg : Kp2 wl bd Hg (upd Hg bd (.lst (vs8 ++ bs ++ [.ref l6]))) := fun c o e n1 n2 => by
        rw [upd_ne n2]; exact e
      have ge : Same G10 (upd Hg bd (.lst (vs8 ++ bs ++ [.ref l6]))) := fun c o e => by
        rw [upd_ne (ne_of_none e nbd10)]; exact gg _ _ e
      have we : WellAt (upd Hg bd (.lst (vs8 ++ bs ++ [.ref l6]))) wl := by
        obtain ⟨z1, z2, z3, e⟩ := wg
        exact ⟨z1, z2, z3, by rw [upd_ne wb]; exact e⟩
      have he' : (upd Hg bd (.lst (vs8 ++ bs ++ [.ref l6]))) bd = some (.lst (vs8 ++ bs ++ [.ref l6])) := upd_same
      refine ⟨bd, _, _, rfl, rfl, hbg, by rw [ll]; show _ ≤ 16777216; omega, bs ++ [.ref l6], _, _, rfl, ge, we, by rw [← List.append_assoc]; exact he', fun x hx => (hv4 x hx).keep kk w4 we hb4 he', fun x hx => ?_, by rw [List.length_append]; show bs.length + 1 ≤ _; omega⟩
      rcases List.mem_append.mp hx with hx | hx
      · exact (hl4 x hx).keep kk w4 we hb4 he'
      · rw [List.mem_singleton.mp hx]
        refine ⟨l6, _, rfl, by rw [upd_ne l6b]; exact hg, by rw [List.length_take]; omega, l6w, l6b, fun x hx => ?_, fun lt => ⟨v, ?_, ?_⟩⟩
        · have hx := List.mem_of_mem_take hx
          rcases List.mem_append.mp hx with hx | hx
          · rcases List.mem_append.mp hx with hx | hx
            · exact .inl ((rg10 x (List.mem_of_mem_take hx)).same ge)
            · rw [List.mem_singleton.mp hx]
              exact .inr (((rv Hb (fun _ _ e _ => e)).same sbg).keep kg wg we hbg he')
          · exact .inl ((rg10 x (List.mem_of_mem_drop hx)).same ge)
        · have e40' : ts.length < 40 := by
            rw [List.length_take] at lt; omega
          rw [List.take_of_length_le (by simp only [List.length_append, List.length_take, List.length_drop, List.length_map, List.length_cons, List.length_nil]; omega)]
          exact List.mem_append_left _ (List.mem_append_right _ (List.mem_singleton.mpr rfl))
        · exact ((rv Hb (fun _ _ e _ => e)).same sbg).keep kg wg we hbg he'
    rintro _ G13 ⟨bs, v11, v12, rfl, s13, w13, hb13, hv13, hl13, bl⟩
    have hyp13 := hyp10.same s13
    have bad8 : ∀ x ∈ vs8, BadRows y C KS4 G13 x := fun x hx => (hv13 x hx).bad
    -- each is refused
    refine ⟨fun σ' H' => ∃ v13 v14 : Option V, σ' = [some (.ref a), some (.ref wl), some (.int d), some (.ref lh), some (.str st), some (.ref p), some (.ref yp), some (.ref rs), some (.ref kp), some (.ref fu), some (.ref bd), v11, v12, v13, v14, none, none, none] ∧ Same G13 H', ?_, ?_⟩
    · refine ⟨_, rfl, _, rfl, bd, _, rfl, SqL.of hb13, fun c1 Ha sa na ha => ?_⟩
      rw [cut_take (k := 8) (by decide), show (8 : Int).toNat = vs8.length by rw [v8l]; rfl, List.take_left] at ha
      refine ⟨_, rfl, _, rfl, bd, _, rfl, SqL.of (sa _ _ hb13), fun c2 Hb sb nb hb => ?_⟩
      have hb : Hb c2 = some (.lst bs) := by
        rw [hb, show (some (8 : Int)) = some ((vs8.length : Nat) : Int) by rw [v8l]; rfl, cut_dropV (by rw [List.length_append]; omega), List.drop_left]
      refine ⟨c2, rfl, ⟨_, SqL.of hb⟩, fun D1 nD => lc_it (walk_list (xs := bs)) (fun j H' => Same Hb H' ∧ ∃ fs : List V, H' D1 = some (.lst fs) ∧ fs.length ≤ j ∧ ∀ x ∈ fs, BadRows y C KS4 G13 x) ⟨same_new nD, [], upd_same, Nat.le_refl _, fun x hx => nomatch hx⟩ (fun i H' _ z => SqL.of (z.1 _ _ hb)) ?_ ?_⟩
      · rintro j v H4 H5 hj ⟨s4, fs, d4, fl, hf⟩ ⟨rfl, hv⟩
        have vm := List.mem_of_getElem? hv
        obtain ⟨l, xs, rfl, hl, x40, _, _, hx, hb'⟩ := hl13 v vm
        have s13' : Same G13 H5 := (sa.trans sb).trans s4
        have jl := (List.getElem?_eq_some_iff.mp hv).1
        refine ⟨rfl, _, rfl, l, _, rfl, .inl (SqL.of (s13' _ _ hl)), _, rfl, kp, _, rfl, .inl (SqL.of (s13' _ _ (s13 _ _ hkp10))), _, _, rfl, rfl, _, rfl, ?_⟩
        by_cases gt : (xs.length : Int) > ((ts.map V.ref).length : Nat)
        · rw [decide_eq_true gt]
          rw [List.length_map] at gt
          obtain ⟨xb, hxb, rb⟩ := hb' (by omega)
          refine iteT ⟨_, rfl, _, d4, by show fs.length < 16777216; omega, fun b o eb => ?_, fs ++ [.ref l], upd_same, by rw [List.length_append]; show fs.length + 1 ≤ j + 1; omega, fun x hx' => ?_⟩
          · rw [upd_ne (ne_of_none eb nD)]; exact s4 _ _ eb
          · rcases List.mem_append.mp hx' with hx' | hx'
            · exact hf x hx'
            · rw [List.mem_singleton.mp hx']
              exact .inr ⟨l, xs, rfl, hl, .inr ⟨x40, hx, xb, hxb, rb⟩⟩
        · rw [decide_eq_false gt]
          exact iteF ⟨s4, fs, d4, by omega, hf⟩
      rintro H4 ⟨s4, fs, d4, fl, hf⟩
      refine ⟨c1, D1, _, _, rfl, rfl, s4 _ _ (sb _ _ ha), d4, (by rw [v8l]; show 8 + fs.length ≤ 16777216; omega), fun Lc Hc sc nc hc => ?_⟩
      have s13c := ((sa.trans sb).trans s4).trans sc
      refine ⟨Lc, rfl, ⟨_, SqL.of hc⟩, for_list (K := K) (a := Lc) (xs := vs8 ++ fs) (fun i σ H' => ∃ v13 v14 : Option V, σ = [some (.ref a), some (.ref wl), some (.int d), some (.ref lh), some (.str st), some (.ref p), some (.ref yp), some (.ref rs), some (.ref kp), some (.ref fu), some (.ref bd), v11, v12, v13, v14, none, none, none] ∧ Same Hc H') ⟨none, none, rfl, Same.refl _⟩ (fun i σ H' _ ⟨_, _, _, z⟩ => SqL.of (z _ _ hc)) ?_ (fun σ H' ⟨v13, v14, e, z⟩ => ⟨v13, v14, e, s13c.trans z⟩)⟩
      rintro i x σ H5 hi ⟨v13, v14, rfl, s5⟩
      have bx : BadRows y C KS4 G13 x := (List.mem_append.mp (List.mem_of_getElem? hi)).elim (bad8 x) (hf x)
      refine ⟨_, rfl, by decide, by decide, for_range (lo := 0) (n := (2 : Int).toNat) (fun i σ H' => ∃ v14 : Option V, σ = [some (.ref a), some (.ref wl), some (.int d), some (.ref lh), some (.str st), some (.ref p), some (.ref yp), some (.ref rs), some (.ref kp), some (.ref fu), some (.ref bd), v11, v12, some x, v14, none, none, none] ∧ Same Hc H') ⟨v14, rfl, s5⟩ ?_ (fun σ H' ⟨v14, e, z⟩ => ⟨some x, v14, e, z⟩)⟩
      rintro i σ H6 hi ⟨v14, rfl, s6⟩
      have s13x := s13c.trans s6
      refine ⟨_, rfl, _, rfl, yp, x, y, rfl, hyp13.same s13x, hy0, bx.same s13x, fun H7 s7 => ⟨rfl, _, rfl, ?_⟩⟩
      rw [show (!decide (V.str "entry" = V.str "entry")) = false by rw [decide_eq_true rfl]; rfl]
      exact iteF ⟨_, rfl, s6.trans s7⟩
    rintro _ G14 ⟨v13, v14, rfl, s1314⟩
    exact ⟨_, rfl, _, rfl, rs, kp, ts, rfl, rfl, s1314 _ _ (s13 _ _ hrs10), s1314 _ _ (s13 _ _ hkp10), k _⟩
end
end KP
set_option maxHeartbeats 0
namespace KP
open PySem PySem.Spec PyProof.Rows L2
/-- law itself -/
structure LawT (K : PySem.W.Frag) (mg : Str → Option Value) : Prop where
  ex : ∃ f fd, Fun K "law" "law" sLaw f fd ∧ mg "law" = some (.ref f) ∧ ∀ (s : Shared) (v : Value), BindsTo s fd ⟨[v], []⟩ [("_law_script", v)]
section
variable {fa : List He.Fa} {xs : List KH.Xf} {fn : List He.FnD} {K : PySem.W.Frag} {h : Heap} {mg : Str → Option Value}
theorem defX {x : Str} {st : Stmt} {ps : List Str} (X : K.In h) (G : h.Ns mainGlobals mg) (c : KH.SaysX fa xs fn K) (i : Nat) (e : fn[i]? = some (KH.mkD x st))
    (hb : ∀ (kV doc pm : Value) (an : Option Addr) (cdv ct : Value) (us : List Value), us.length = ps.length → bindArgs (PySem.W.fnOf x x (defArgs st) (defBody st) (defScope st) .none kV doc pm an cdv ct) ⟨us, []⟩ = pure (ps.zip us)) : DefT K mg x st ps := by
  obtain ⟨kV, dc, pm, an, cd, ct, F⟩ := c.fun_ i e
  exact ⟨_, _, F, F.binds hb, PySem.W.mg_of X G (c.glo i e)⟩
theorem lawX (X : K.In h) (G : h.Ns mainGlobals mg) (c : KH.SaysX fa xs fn K) (i : Nat) (e : fn[i]? = some (KH.mkD "law" sLaw)) : LawT K mg := by
  obtain ⟨kV, dc, pm, an, cd, ct, F⟩ := c.fun_ i e
  exact ⟨_, _, F, PySem.W.mg_of X G (c.glo i e), fun s v => .of_eq rfl⟩
theorem methX {C m q : Str} {st : Stmt} {ps : List Str} (c : KH.SaysX fa xs fn K) (i : Nat) (e : fn[i]? = some (KH.mkM C m q st))
    (hb : ∀ (kV doc pm : Value) (an : Option Addr) (cdv ct : Value) (us : List Value), us.length = ps.length → bindArgs (PySem.W.fnOf m q (defArgs st) (defBody st) (defScope st) .none kV doc pm an cdv ct) ⟨us, []⟩ = pure (ps.zip us)) : MethT K (He.ga K C) m q st ps := by
  obtain ⟨kV, dc, pm, an, cd, ct, F⟩ := c.funM i e
  exact ⟨_, _, ⟨(c.met i e).1, (c.met i e).2, c.keep i e⟩, F, F.binds hb⟩
theorem initX {C q : Str} {st : Stmt} {ps : List Str} (mk : (PySem.W.makesIn K (He.ga K C) && PySem.W.keepIn K (.ref (He.ga K C))) = true) (c : KH.SaysX fa xs fn K) (i : Nat) (e : fn[i]? = some (KH.mkM C "__init__" q st))
    (hb : ∀ (kV doc pm : Value) (an : Option Addr) (cdv ct : Value) (us : List Value), us.length = ps.length → bindArgs (PySem.W.fnOf "__init__" q (defArgs st) (defBody st) (defScope st) .none kV doc pm an cdv ct) ⟨us, []⟩ = pure (ps.zip us)) : InitT K (He.ga K C) q st ps := by
  obtain ⟨kV, dc, pm, an, cd, ct, F⟩ := c.funM i e
  exact ⟨_, _, ⟨(He.ba mk).1, (c.met i e).1, (c.met i e).2, (He.ba mk).2⟩, F, F.binds hb⟩
end
theorem hEnd {P : Program} {w : World} {K : PySem.W.Frag} {h : Heap} {mg : Str → Option Value} {f : Addr} (X : K.In h) (G : h.Ns mainGlobals mg) (hfa : mg ("law" : Str) = some (.ref f)) (cT : KH.SaysXT hFa hXs hFn hTs w K) :
    ∃ fd : FuncData, (∀ (s : Shared) (v : Value), BindsTo s fd ⟨[v], []⟩ [("_law_script", v)]) ∧ ∀ base : Heap, K.In base → base.Ns mainGlobals mg → FnOk P w K mg base CX0 13 f fd ["_law_script"] (spLaw K) := by
  have c := cT.x
  obtain ⟨f', fd, F, hm, hb⟩ := ((lawX X G c 64 rfl) : LawT K mg).ex
  have ef : f = f' := by
    have e := hfa.symm.trans hm
    injection e with e
    injection e
  subst ef
  refine ⟨fd, hb, fun base _ _ => ?_⟩
  let CC : Nat → Addr := (fun k => match k with | 0 => (He.ga K "Give") | 1 => (He.ga K "Hold") | 2 => (He.ga K "Move") | _ => (He.ga K "Promise"))
  have B : Base K mg := { isi := (He.free_ok X G (c.fact 0 rfl)), bool := (He.free_ok X G (c.fact 1 rfl)), int := (He.free_ok X G (c.fact 2 rfl)), str := (He.free_ok X G (c.fact 3 rfl)), tuple := (He.free_ok X G (c.fact 4 rfl)), len := (He.free_ok X G (c.fact 5 rfl)), all := (He.free_ok X G (c.fact 6 rfl)), range := (He.free_ok X G (c.fact 7 rfl)), letters := (He.str_ok X G (c.fact 8 rfl)), mostL := (He.int_ok X G (c.fact 9 rfl)), list := (He.free_ok X G (c.fact 10 rfl)), dict := (He.free_ok X G (c.fact 11 rfl)), mostD := (He.int_ok X G (c.fact 12 rfl)), mostH := (He.int_ok X G (c.fact 13 rfl)), mostLi := (He.int_ok X G (c.fact 14 rfl)), mostR := (He.int_ok X G (c.fact 15 rfl)), mostM := (He.int_ok X G (c.fact 16 rfl)), mostW := (He.int_ok X G (c.fact 17 rfl)), mostC := (He.int_ok X G (c.fact 18 rfl)), leastU := (He.int_ok X G (c.fact 19 rfl)), mostU := (He.int_ok X G (c.fact 20 rfl)), max := (He.free_ok X G (c.fact 21 rfl)), min := (He.free_ok X G (c.fact 22 rfl)) }
  have B2 : Base2 K mg := ⟨(He.free_ok X G (c.fact 23 rfl)), (He.free_ok X G (c.fact 22 rfl)), (He.free_ok X G (c.fact 24 rfl)), (He.free_ok X G (c.fact 25 rfl)), (He.free_ok X G (c.fact 26 rfl))⟩
  have YF : YearF K mg (He.ga K "Year") := ⟨(He.cls_ok (c.fact 27 rfl)), (He.glo_ok X G (c.fact 28 rfl)), (He.noat_ok (c.fact 29 rfl)), (He.noat_ok (c.fact 30 rfl)), (He.noat_ok (c.fact 31 rfl)), (He.noat_ok (c.fact 32 rfl))⟩
  have TF : TalF K mg (He.ga K "Tally") := ⟨(He.cls_ok (c.fact 33 rfl)), (He.glo_ok X G (c.fact 34 rfl)), by
    intro f hf
    simp only [tKeys, List.mem_cons, List.not_mem_nil, or_false] at hf
    rcases hf with rfl | rfl | rfl | rfl | rfl | rfl | rfl | rfl | rfl | rfl
    · exact (He.noat_ok (c.fact 35 rfl))
    · exact (He.noat_ok (c.fact 36 rfl))
    · exact (He.noat_ok (c.fact 37 rfl))
    · exact (He.noat_ok (c.fact 38 rfl))
    · exact (He.noat_ok (c.fact 39 rfl))
    · exact (He.noat_ok (c.fact 40 rfl))
    · exact (He.noat_ok (c.fact 41 rfl))
    · exact (He.noat_ok (c.fact 42 rfl))
    · exact (He.noat_ok (c.fact 43 rfl))
    · exact (He.noat_ok (c.fact 44 rfl))⟩
  have DF : DatF K mg (He.ga K "Dated") := ⟨(He.cls_ok (c.fact 45 rfl)), (He.glo_ok X G (c.fact 46 rfl)), (He.noat_ok (c.fact 47 rfl)), (He.noat_ok (c.fact 48 rfl))⟩
  have TU : TurnF K w mg := ⟨by
    obtain ⟨es, n, hD⟩ := cT.tab 0
    refine ⟨_, es, n, hD, (He.glo_ok X G (c.fact 49 rfl)), fun en => ?_⟩
    cases en with
    | give => exact ⟨none, He.eqO_ok (c.xf 0 rfl), rfl⟩
    | hold => exact ⟨none, He.eqO_ok (c.xf 1 rfl), rfl⟩
    | move => exact ⟨none, He.eqO_ok (c.xf 2 rfl), rfl⟩
    | spend => exact ⟨none, He.eqO_ok (c.xf 3 rfl), rfl⟩
    | promise => exact (by obtain ⟨t, ht⟩ := KH.nsI_ok (c.xf 4 rfl); exact ⟨some (.int 0 t), ht, ⟨t, rfl⟩⟩)
    | lessen => exact (by obtain ⟨t, ht⟩ := KH.nsI_ok (c.xf 5 rfl); exact ⟨some (.int 1 t), ht, ⟨t, rfl⟩⟩)
    | out => exact (by obtain ⟨t, ht⟩ := KH.nsI_ok (c.xf 6 rfl); exact ⟨some (.int 2 t), ht, ⟨t, rfl⟩⟩), (He.int_ok X G (c.fact 50 rfl))⟩
  have SF : SumsF K mg := ⟨_, (He.glo_ok X G (c.fact 51 rfl)), fun H => KH.tupS_ok (c.xf 7 rfl) H⟩
  obtain ⟨tM, hM⟩ := ((He.int_ok X G (c.fact 53 rfl)) : ∃ t, mg "MOST_ROWS" = some (.int 40 t))
  have Ei : ∀ k ∈ [0, 1, 2, 4], EntI K (CC k) (He.ga K "Entry") := (by
    intro k hk
    simp only [List.mem_cons, List.not_mem_nil, or_false] at hk
    rcases hk with rfl | rfl | rfl | rfl
    · exact ⟨(He.cls_ok (c.fact 54 rfl)), (of_decide_eq_true (c.xf 8 rfl)), (of_decide_eq_true (c.xf 9 rfl)), (of_decide_eq_true (c.xf 10 rfl)), (of_decide_eq_true (c.xf 11 rfl)), (of_decide_eq_true (c.xf 12 rfl))⟩
    · exact ⟨(He.cls_ok (c.fact 55 rfl)), (of_decide_eq_true (c.xf 13 rfl)), (of_decide_eq_true (c.xf 9 rfl)), (of_decide_eq_true (c.xf 10 rfl)), (of_decide_eq_true (c.xf 14 rfl)), (of_decide_eq_true (c.xf 15 rfl))⟩
    · exact ⟨(He.cls_ok (c.fact 56 rfl)), (of_decide_eq_true (c.xf 16 rfl)), (of_decide_eq_true (c.xf 9 rfl)), (of_decide_eq_true (c.xf 10 rfl)), (of_decide_eq_true (c.xf 17 rfl)), (of_decide_eq_true (c.xf 18 rfl))⟩
    · exact ⟨(He.cls_ok (c.fact 57 rfl)), (of_decide_eq_true (c.xf 19 rfl)), (of_decide_eq_true (c.xf 9 rfl)), (of_decide_eq_true (c.xf 10 rfl)), (of_decide_eq_true (c.xf 20 rfl)), (of_decide_eq_true (c.xf 21 rfl))⟩)
  have k_c_yn := c_yn (C := (He.ga K "Year")) (P := P) (w := w) (base := base) YF (methX c 0 rfl (fun _ _ _ _ _ _ us hl => match us, hl with | [_], _ => rfl))
  have cls_Give : ClsT K mg "Give" "Give.__init__" "Give.told" (CC 0) sIGive sTGive ["self", "head", "coins", "note"] ["head", "coins", "note"] := ⟨(He.cls_ok (c.fact 54 rfl)), (He.glo_ok X G (c.fact 58 rfl)), (((initX (c.xf 22 rfl) c 1 rfl (fun _ _ _ _ _ _ us hl => match us, hl with | [_, _, _, _], _ => rfl)) : InitT K (He.ga K "Give") "Give.__init__" sIGive ["self", "head", "coins", "note"])).ex, (((methX c 2 rfl (fun _ _ _ _ _ _ us hl => match us, hl with | [_], _ => rfl)) : MethT K (He.ga K "Give") "told" "Give.told" sTGive ["self"])).ex, by
    intro f hf
    simp only [List.mem_cons, List.not_mem_nil, or_false] at hf
    rcases hf with rfl | rfl | rfl
    · exact (He.noat_ok (c.fact 59 rfl))
    · exact (He.noat_ok (c.fact 60 rfl))
    · exact (He.noat_ok (c.fact 61 rfl))⟩
  have k_f_give := f_give (C := CC) (Cy := (He.ga K "Year")) (P := P) (w := w) (base := base) YF k_c_yn cls_Give (methX c 3 rfl (fun _ _ _ _ _ _ us hl => match us, hl with | [_, _, _], _ => rfl))
  have cls_Hold : ClsT K mg "Hold" "Hold.__init__" "Hold.told" (CC 1) sIHold sTHold ["self", "head", "coins", "until", "note"] ["head", "coins", "until", "note"] := ⟨(He.cls_ok (c.fact 55 rfl)), (He.glo_ok X G (c.fact 62 rfl)), (((initX (c.xf 23 rfl) c 4 rfl (fun _ _ _ _ _ _ us hl => match us, hl with | [_, _, _, _, _], _ => rfl)) : InitT K (He.ga K "Hold") "Hold.__init__" sIHold ["self", "head", "coins", "until", "note"])).ex, (((methX c 5 rfl (fun _ _ _ _ _ _ us hl => match us, hl with | [_], _ => rfl)) : MethT K (He.ga K "Hold") "told" "Hold.told" sTHold ["self"])).ex, by
    intro f hf
    simp only [List.mem_cons, List.not_mem_nil, or_false] at hf
    rcases hf with rfl | rfl | rfl | rfl
    · exact (He.noat_ok (c.fact 63 rfl))
    · exact (He.noat_ok (c.fact 64 rfl))
    · exact (He.noat_ok (c.fact 65 rfl))
    · exact (He.noat_ok (c.fact 66 rfl))⟩
  have k_f_hold := f_hold (C := CC) (Cy := (He.ga K "Year")) (P := P) (w := w) (base := base) YF k_c_yn cls_Hold (methX c 6 rfl (fun _ _ _ _ _ _ us hl => match us, hl with | [_, _, _], _ => rfl))
  have cls_Move : ClsT K mg "Move" "Move.__init__" "Move.told" (CC 2) sIMove sTMove ["self", "head", "other", "coins", "note"] ["head", "other", "coins", "note"] := ⟨(He.cls_ok (c.fact 56 rfl)), (He.glo_ok X G (c.fact 67 rfl)), (((initX (c.xf 24 rfl) c 7 rfl (fun _ _ _ _ _ _ us hl => match us, hl with | [_, _, _, _, _], _ => rfl)) : InitT K (He.ga K "Move") "Move.__init__" sIMove ["self", "head", "other", "coins", "note"])).ex, (((methX c 8 rfl (fun _ _ _ _ _ _ us hl => match us, hl with | [_], _ => rfl)) : MethT K (He.ga K "Move") "told" "Move.told" sTMove ["self"])).ex, by
    intro f hf
    simp only [List.mem_cons, List.not_mem_nil, or_false] at hf
    rcases hf with rfl | rfl | rfl | rfl
    · exact (He.noat_ok (c.fact 68 rfl))
    · exact (He.noat_ok (c.fact 69 rfl))
    · exact (He.noat_ok (c.fact 70 rfl))
    · exact (He.noat_ok (c.fact 71 rfl))⟩
  have k_f_move := f_move (C := CC) (Cy := (He.ga K "Year")) (P := P) (w := w) (base := base) YF k_c_yn cls_Move (methX c 9 rfl (fun _ _ _ _ _ _ us hl => match us, hl with | [_, _, _], _ => rfl))
  have cls_Promise : ClsT K mg "Promise" "Promise.__init__" "Promise.told" (CC 4) sIPromise sTPromise ["self", "word", "head", "coins", "note"] ["word", "head", "coins", "note"] := ⟨(He.cls_ok (c.fact 57 rfl)), (He.glo_ok X G (c.fact 72 rfl)), (((initX (c.xf 25 rfl) c 10 rfl (fun _ _ _ _ _ _ us hl => match us, hl with | [_, _, _, _, _], _ => rfl)) : InitT K (He.ga K "Promise") "Promise.__init__" sIPromise ["self", "word", "head", "coins", "note"])).ex, (((methX c 11 rfl (fun _ _ _ _ _ _ us hl => match us, hl with | [_], _ => rfl)) : MethT K (He.ga K "Promise") "told" "Promise.told" sTPromise ["self"])).ex, by
    intro f hf
    simp only [List.mem_cons, List.not_mem_nil, or_false] at hf
    rcases hf with rfl | rfl | rfl | rfl
    · exact (He.noat_ok (c.fact 73 rfl))
    · exact (He.noat_ok (c.fact 74 rfl))
    · exact (He.noat_ok (c.fact 75 rfl))
    · exact (He.noat_ok (c.fact 76 rfl))⟩
  have k_f_promise := f_promise (C := CC) (Cy := (He.ga K "Year")) (P := P) (w := w) (base := base) YF k_c_yn cls_Promise (methX c 12 rfl (fun _ _ _ _ _ _ us hl => match us, hl with | [_, _, _], _ => rfl))
  have Ft : ∀ k ∈ [0, 1, 2, 4], MetT P w K mg base 2 (CC k) "fits" (spFits CC (He.ga K "Year") k) := (by
    intro k hk
    simp only [List.mem_cons, List.not_mem_nil, or_false] at hk
    rcases hk with rfl | rfl | rfl | rfl
    · exact k_f_give
    · exact k_f_hold
    · exact k_f_move
    · exact k_f_promise)
  have k_t_give := t_give (C := CC) (P := P) (w := w) (base := base) cls_Give
  have k_t_hold := t_hold (C := CC) (P := P) (w := w) (base := base) cls_Hold
  have k_t_move := t_move (C := CC) (P := P) (w := w) (base := base) cls_Move
  have k_t_promise := t_promise (C := CC) (P := P) (w := w) (base := base) cls_Promise
  have To : ∀ k ∈ [0, 1, 2, 4], MetT P w K mg base 1 (CC k) "told" (spTold CC k) := (by
    intro k hk
    simp only [List.mem_cons, List.not_mem_nil, or_false] at hk
    rcases hk with rfl | rfl | rfl | rfl
    · exact k_t_give
    · exact k_t_hold
    · exact k_t_move
    · exact k_t_promise)
  let CK : Nat → Addr := fun k => match k with | 0 => (He.ga K "NoYear") | 1 => (He.ga K "NoHead") | 2 => (He.ga K "NoEntry") | 3 => (He.ga K "NoDay") | 4 => (He.ga K "NoNumber") | 5 => (He.ga K "NoPromise") | 6 => (He.ga K "Taken") | 7 => (He.ga K "Full") | 8 => (He.ga K "NoText") | 9 => (He.ga K "NoRow") | 10 => (He.ga K "Passed") | _ => (He.ga K "Leaned")
  have KN : KndF K mg CK [2] := ⟨(He.glo_ok X G (c.fact 77 rfl)), (He.glo_ok X G (c.fact 78 rfl)), (He.glo_ok X G (c.fact 79 rfl)), (He.glo_ok X G (c.fact 80 rfl)), (He.glo_ok X G (c.fact 81 rfl)), (He.glo_ok X G (c.fact 82 rfl)), (He.glo_ok X G (c.fact 83 rfl)), (He.glo_ok X G (c.fact 84 rfl)), (He.glo_ok X G (c.fact 85 rfl)), (He.glo_ok X G (c.fact 86 rfl)), (He.glo_ok X G (c.fact 87 rfl)), (He.glo_ok X G (c.fact 88 rfl)), (He.free_ok X G (c.fact 89 rfl)), (by decide), (by
    intro i hi
    simp only [List.mem_cons, List.not_mem_nil, or_false] at hi
    rcases hi with rfl
    · exact fun j hj => match j, hj with
        | 0, _ => (of_decide_eq_true (c.xf 26 rfl))
        | 1, _ => (of_decide_eq_true (c.xf 27 rfl))
        | 2, _ => (of_decide_eq_true (c.xf 28 rfl))
        | 3, _ => (of_decide_eq_true (c.xf 29 rfl))
        | 4, _ => (of_decide_eq_true (c.xf 30 rfl))
        | 5, _ => (of_decide_eq_true (c.xf 31 rfl))
        | 6, _ => (of_decide_eq_true (c.xf 32 rfl))
        | 7, _ => (of_decide_eq_true (c.xf 33 rfl))
        | 8, _ => (of_decide_eq_true (c.xf 34 rfl))
        | 9, _ => (of_decide_eq_true (c.xf 35 rfl))
        | 10, _ => (of_decide_eq_true (c.xf 36 rfl))
        | 11, _ => (of_decide_eq_true (c.xf 37 rfl))
        | q + 12, h => absurd h (by omega)), (by
    intro i hi
    simp only [List.mem_cons, List.not_mem_nil, or_false] at hi
    rcases hi with rfl
    · exact (of_decide_eq_true (c.xf 38 rfl))), (by
    intro i hi
    simp only [List.mem_cons, List.not_mem_nil, or_false] at hi
    rcases hi with rfl
    · exact ⟨(of_decide_eq_true (c.xf 39 rfl)), (of_decide_eq_true (c.xf 40 rfl)), (of_decide_eq_true (c.xf 41 rfl)), (c.xf 42 rfl), (of_decide_eq_true (c.xf 43 rfl)), (of_decide_eq_true (c.xf 9 rfl)), (of_decide_eq_true (c.xf 10 rfl)), (of_decide_eq_true (c.xf 44 rfl))⟩)⟩
  have EE : ∀ i ∈ [2], PySem.W.exmOne K (.ref (CK i)) (.ref (He.ga K "PurseError")) = some true := (by
    intro i hi
    simp only [List.mem_cons, List.not_mem_nil, or_false] at hi
    rcases hi with rfl
    · exact (of_decide_eq_true (c.xf 45 rfl)))
  have GK : GKd K (CC 0) (He.ga K "Entry") := ⟨Ei 0 (by decide), (of_decide_eq_true (c.xf 46 rfl)), (of_decide_eq_true (c.xf 47 rfl)), (of_decide_eq_true (c.xf 48 rfl))⟩
  have k_c_well := c_well (P := P) (w := w) (base := base) (defX X G c 13 rfl (fun _ _ _ _ _ _ us hl => match us, hl with | [_], _ => rfl))
  have k_c_cell := c_cell (P := P) (w := w) (base := base) B (defX X G c 14 rfl (fun _ _ _ _ _ _ us hl => match us, hl with | [_, _], _ => rfl))
  have k_c_mix := c_mix (P := P) (w := w) (base := base) (defX X G c 15 rfl (fun _ _ _ _ _ _ us hl => match us, hl with | [_, _], _ => rfl))
  have k_c_draw := c_draw (P := P) (w := w) (base := base) k_c_mix (defX X G c 16 rfl (fun _ _ _ _ _ _ us hl => match us, hl with | [_, _], _ => rfl))
  have k_c_names := c_names (P := P) (w := w) (base := base) B k_c_draw (defX X G c 17 rfl (fun _ _ _ _ _ _ us hl => match us, hl with | [_, _], _ => rfl))
  have k_c_lhd2 := c_lhd2 (P := P) (w := w) (base := base) B k_c_draw k_c_names (defX X G c 18 rfl (fun _ _ _ _ _ _ us hl => match us, hl with | [_], _ => rfl))
  have k_c_whole := c_whole (P := P) (w := w) (base := base) B (defX X G c 19 rfl (fun _ _ _ _ _ _ us hl => match us, hl with | [_, _, _], _ => rfl))
  have k_c_word := c_word (P := P) (w := w) (base := base) B (defX X G c 20 rfl (fun _ _ _ _ _ _ us hl => match us, hl with | [_], _ => rfl))
  have k_c_note := c_note (P := P) (w := w) (base := base) B k_c_word (defX X G c 21 rfl (fun _ _ _ _ _ _ us hl => match us, hl with | [_], _ => rfl))
  have k_c_check := c_check (P := P) (w := w) (base := base) B k_c_whole k_c_word k_c_note (defX X G c 22 rfl (fun _ _ _ _ _ _ us hl => match us, hl with | [_, _, _], _ => rfl))
  have k_i_give := i_give (C := CC) (P := P) (w := w) (base := base) B k_c_whole k_c_check cls_Give
  have k_i_hold := i_hold (C := CC) (P := P) (w := w) (base := base) B k_c_whole k_c_check cls_Hold
  have k_c_lrw := c_lrw (C := CC) (P := P) (w := w) (base := base) B k_c_draw k_i_give k_i_hold (defX X G c 23 rfl (fun _ _ _ _ _ _ us hl => match us, hl with | [_, _, _], _ => rfl))
  have k_i_move := i_move (C := CC) (P := P) (w := w) (base := base) B k_c_whole k_c_check cls_Move
  have k_i_promise := i_promise (C := CC) (P := P) (w := w) (base := base) B k_c_whole k_c_check cls_Promise
  have k_c_lno := c_lno (C := CC) (P := P) (w := w) (base := base) B k_c_draw k_i_give k_i_hold k_i_move k_i_promise (defX X G c 24 rfl (fun _ _ _ _ _ _ us hl => match us, hl with | [_, _, _, _], _ => rfl))
  have k_c_list := c_list (P := P) (w := w) (base := base) B (defX X G c 25 rfl (fun _ _ _ _ _ _ us hl => match us, hl with | [_, _, _], _ => rfl))
  have k_c_row := c_row (P := P) (w := w) (base := base) B (defX X G c 26 rfl (fun _ _ _ _ _ _ us hl => match us, hl with | [_, _], _ => rfl))
  have k_c_headsP := c_headsP (P := P) (w := w) (base := base) B k_c_list k_c_row k_c_word (defX X G c 27 rfl (fun _ _ _ _ _ _ us hl => match us, hl with | [_], _ => rfl))
  have k_c_limit := c_limit (P := P) (w := w) (base := base) B k_c_row k_c_whole (defX X G c 28 rfl (fun _ _ _ _ _ _ us hl => match us, hl with | [_, _, _], _ => rfl))
  have k_c_limitsP := c_limitsP (P := P) (w := w) (base := base) B k_c_list k_c_limit (defX X G c 29 rfl (fun _ _ _ _ _ _ us hl => match us, hl with | [_, _, _], _ => rfl))
  have k_c_rule := c_rule (P := P) (w := w) (base := base) B k_c_row k_c_whole (defX X G c 30 rfl (fun _ _ _ _ _ _ us hl => match us, hl with | [_, _, _], _ => rfl))
  have k_c_one := c_one (P := P) (w := w) (base := base) (defX X G c 31 rfl (fun _ _ _ _ _ _ us hl => match us, hl with | [_, _], _ => rfl))
  have k_c_rulesP := c_rulesP (P := P) (w := w) (base := base) B k_c_list k_c_rule k_c_one (defX X G c 32 rfl (fun _ _ _ _ _ _ us hl => match us, hl with | [_, _, _], _ => rfl))
  have k_c_year := c_year (C := (He.ga K "Year")) (P := P) (w := w) (base := base) B YF k_c_whole k_c_headsP k_c_limitsP k_c_rulesP (initX (c.xf 54 rfl) c 33 rfl (fun _ _ _ _ _ _ us hl => match us, hl with | [_, _, _, _, _], _ => rfl))
  have k_c_tft := c_tft (ks := [0, 1, 2, 4]) (C := CC) (CE := (He.ga K "Entry")) (Cy := (He.ga K "Year")) (P := P) (w := w) (base := base) B (He.glo_ok X G (c.fact 52 rfl)) Ei Ft To (defX X G c 34 rfl (fun _ _ _ _ _ _ us hl => match us, hl with | [_, _, _], _ => rfl))
  have k_c_num := c_num (tM := tM) (ks := [0, 1, 2, 4]) (C := CC) (Cy := (He.ga K "Year")) (P := P) (w := w) (base := base) B B2 YF hM k_c_list k_c_row k_c_whole k_c_tft (defX X G c 35 rfl (fun _ _ _ _ _ _ us hl => match us, hl with | [_, _], _ => rfl))
  have k_c_ds := c_ds (P := P) (w := w) (base := base) (defX X G c 36 rfl (fun _ _ _ _ _ _ us hl => match us, hl with | [_], _ => rfl))
  have k_c_tn := c_tn (C := (He.ga K "Tally")) (Cy := (He.ga K "Year")) (P := P) (w := w) (base := base) YF TF (methX c 37 rfl (fun _ _ _ _ _ _ us hl => match us, hl with | [_], _ => rfl))
  have k_c_turn := c_turn (P := P) (w := w) (base := base) TU (defX X G c 38 rfl (fun _ _ _ _ _ _ us hl => match us, hl with | [_], _ => rfl))
  have k_c_tgo := c_tgo (C := (He.ga K "Tally")) (P := P) (w := w) (base := base) B2 TF k_c_turn (methX c 39 rfl (fun _ _ _ _ _ _ us hl => match us, hl with | [_], _ => rfl))
  have k_c_tc := c_tc (C := (He.ga K "Tally")) (Cy := (He.ga K "Year")) (P := P) (w := w) (base := base) TF (methX c 40 rfl (fun _ _ _ _ _ _ us hl => match us, hl with | [_, _, _, _, _], _ => rfl))
  have k_c_th := c_th (C := (He.ga K "Tally")) (Cy := (He.ga K "Year")) (P := P) (w := w) (base := base) TF k_c_tc (methX c 41 rfl (fun _ _ _ _ _ _ us hl => match us, hl with | [_, _, _, _, _], _ => rfl))
  have k_c_tg := c_tg (C := (He.ga K "Tally")) (Cy := (He.ga K "Year")) (P := P) (w := w) (base := base) YF TF k_c_tc k_c_th (methX c 42 rfl (fun _ _ _ _ _ _ us hl => match us, hl with | [_, _, _, _], _ => rfl))
  have k_c_ya := c_ya (C := (He.ga K "Year")) (P := P) (w := w) (base := base) YF (methX c 43 rfl (fun _ _ _ _ _ _ us hl => match us, hl with | [_, _], _ => rfl))
  have k_c_yk := c_yk (C := (He.ga K "Year")) (P := P) (w := w) (base := base) YF k_c_ya (methX c 44 rfl (fun _ _ _ _ _ _ us hl => match us, hl with | [_, _], _ => rfl))
  have k_c_tk := c_tk (C := (He.ga K "Tally")) (Cy := (He.ga K "Year")) (P := P) (w := w) (base := base) B2 YF TF k_c_yk (methX c 45 rfl (fun _ _ _ _ _ _ us hl => match us, hl with | [_, _, _], _ => rfl))
  have k_c_tt := c_tt (C := (He.ga K "Tally")) (Cy := (He.ga K "Year")) (P := P) (w := w) (base := base) TF k_c_tk (methX c 46 rfl (fun _ _ _ _ _ _ us hl => match us, hl with | [_, _, _, _, _], _ => rfl))
  have k_c_tm := c_tm (C := (He.ga K "Tally")) (Cy := (He.ga K "Year")) (P := P) (w := w) (base := base) TF k_c_tc (methX c 47 rfl (fun _ _ _ _ _ _ us hl => match us, hl with | [_, _, _, _], _ => rfl))
  have k_c_tp := c_tp (C := (He.ga K "Tally")) (Cy := (He.ga K "Year")) (P := P) (w := w) (base := base) TF k_c_tn k_c_tm k_c_tt (methX c 48 rfl (fun _ _ _ _ _ _ us hl => match us, hl with | [_, _, _, _, _, _], _ => rfl))
  have k_c_tl := c_tl (C := (He.ga K "Tally")) (Cy := (He.ga K "Year")) (P := P) (w := w) (base := base) B2 TF k_c_tm k_c_tt (methX c 49 rfl (fun _ _ _ _ _ _ us hl => match us, hl with | [_, _, _, _, _], _ => rfl))
  have k_c_to := c_to (C := (He.ga K "Tally")) (Cy := (He.ga K "Year")) (P := P) (w := w) (base := base) B2 TF k_c_tc k_c_tm k_c_tt (methX c 50 rfl (fun _ _ _ _ _ _ us hl => match us, hl with | [_, _, _, _, _], _ => rfl))
  have k_c_tgt := c_tgt (C := (He.ga K "Tally")) (Cy := (He.ga K "Year")) (P := P) (w := w) (base := base) TF k_c_tg k_c_th k_c_tc k_c_tt k_c_tp k_c_tl k_c_to (methX c 51 rfl (fun _ _ _ _ _ _ us hl => match us, hl with | [_, _, _, _], _ => rfl))
  have k_c_ts := c_ts (C := (He.ga K "Tally")) (P := P) (w := w) (base := base) B2 SF TF k_c_ds (methX c 52 rfl (fun _ _ _ _ _ _ us hl => match us, hl with | [_, _], _ => rfl))
  have k_c_ti := c_ti (C := (He.ga K "Tally")) (Cy := (He.ga K "Year")) (P := P) (w := w) (base := base) B SF YF TF k_c_ds k_c_yn k_c_tn k_c_tgo k_c_tgt k_c_ts (initX (c.xf 55 rfl) c 53 rfl (fun _ _ _ _ _ _ us hl => match us, hl with | [_, _, _], _ => rfl))
  have k_c_tsa := c_tsa (C := (He.ga K "Tally")) (Cy := (He.ga K "Year")) (P := P) (w := w) (base := base) TF (methX c 54 rfl (fun _ _ _ _ _ _ us hl => match us, hl with | [_, _, _, _], _ => rfl))
  have k_c_tta := c_tta (C := (He.ga K "Tally")) (Cy := (He.ga K "Year")) (P := P) (w := w) (base := base) TF (methX c 55 rfl (fun _ _ _ _ _ _ us hl => match us, hl with | [_, _, _], _ => rfl))
  have k_c_tps := c_tps (C := (He.ga K "Tally")) (Cy := (He.ga K "Year")) (P := P) (w := w) (base := base) YF TF k_c_tta (methX c 56 rfl (fun _ _ _ _ _ _ us hl => match us, hl with | [_, _, _], _ => rfl))
  have k_c_tpl := c_tpl (C := (He.ga K "Tally")) (Cy := (He.ga K "Year")) (P := P) (w := w) (base := base) B B2 YF TF k_c_yn k_c_tsa k_c_tps (methX c 57 rfl (fun _ _ _ _ _ _ us hl => match us, hl with | [_, _], _ => rfl))
  have k_c_tbr := c_tbr (C := (He.ga K "Tally")) (Cy := (He.ga K "Year")) (P := P) (w := w) (base := base) B YF TF k_c_tpl (methX c 58 rfl (fun _ _ _ _ _ _ us hl => match us, hl with | [_], _ => rfl))
  have k_c_di := c_di (ks := [0, 1, 2, 4]) (C := CC) (CD := (He.ga K "Dated")) (Ct := (He.ga K "Tally")) (Cy := (He.ga K "Year")) (P := P) (w := w) (base := base) DF TF k_c_num k_c_ti k_c_tbr (initX (c.xf 56 rfl) c 59 rfl (fun _ _ _ _ _ _ us hl => match us, hl with | [_, _, _], _ => rfl))
  have k_c_db := c_db (CD := (He.ga K "Dated")) (Ct := (He.ga K "Tally")) (Cy := (He.ga K "Year")) (P := P) (w := w) (base := base) DF (methX c 60 rfl (fun _ _ _ _ _ _ us hl => match us, hl with | [_], _ => rfl))
  have k_c_lkn := c_lkn (Ck := CK) (is := [2]) (P := P) (w := w) (base := base) B KN (defX X G c 61 rfl (fun _ _ _ _ _ _ us hl => match us, hl with | [_], _ => rfl))
  have k_c_rfG := c_rfG (ks := KS4) (C := CC) (CD := (He.ga K "Dated")) (Ct := (He.ga K "Tally")) (Cy := (He.ga K "Year")) (Ck := CK) (is := [2]) (Cq := (He.ga K "PurseError")) (P := P) (w := w) (base := base) (He.glo_ok X G (c.fact 90 rfl)) k_c_di k_c_lkn (defX X G c 62 rfl (fun _ _ _ _ _ _ us hl => match us, hl with | [_, _], _ => rfl))
  have k_c_listX := c_listX (P := P) (w := w) (base := base) B (defX X G c 25 rfl (fun _ _ _ _ _ _ us hl => match us, hl with | [_, _, _], _ => rfl))
  have k_c_rowX := c_rowX (C := CC) (CE := (He.ga K "Entry")) (P := P) (w := w) (base := base) B GK (defX X G c 26 rfl (fun _ _ _ _ _ _ us hl => match us, hl with | [_, _], _ => rfl))
  have k_c_wholeX := c_wholeX (C := CC) (CE := (He.ga K "Entry")) (P := P) (w := w) (base := base) B GK (defX X G c 19 rfl (fun _ _ _ _ _ _ us hl => match us, hl with | [_, _, _], _ => rfl))
  have k_c_tftN := c_tftN (ks := KS4) (C := CC) (Cy := (He.ga K "Year")) (CE := (He.ga K "Entry")) (Ck := CK) (P := P) (w := w) (base := base) B ⟨(He.glo_ok X G (c.fact 79 rfl)), (He.exc_ok (c.fact 94 rfl)).1, (He.exc_ok (c.fact 94 rfl)).2.1, (He.exc_ok (c.fact 94 rfl)).2.2.1, (He.exc_ok (c.fact 94 rfl)).2.2.2⟩ (He.glo_ok X G (c.fact 52 rfl)) (by decide) (by
    intro n hn
    simp only [NoeT, List.mem_cons, List.not_mem_nil, or_false] at hn
    rcases hn with rfl | rfl | rfl | rfl | rfl
    · exact (of_decide_eq_true (c.xf 49 rfl))
    · exact (of_decide_eq_true (c.xf 50 rfl))
    · exact (of_decide_eq_true (c.xf 51 rfl))
    · exact (of_decide_eq_true (c.xf 52 rfl))
    · exact (of_decide_eq_true (c.xf 53 rfl))) Ei Ft To (defX X G c 34 rfl (fun _ _ _ _ _ _ us hl => match us, hl with | [_, _, _], _ => rfl))
  have k_c_numX := c_numX (tM := tM) (ks := KS4) (C := CC) (Cy := (He.ga K "Year")) (Ck := CK) (P := P) (w := w) (base := base) B B2 YF ⟨(He.glo_ok X G (c.fact 79 rfl)), (He.exc_ok (c.fact 94 rfl)).1, (He.exc_ok (c.fact 94 rfl)).2.1, (He.exc_ok (c.fact 94 rfl)).2.2.1, (He.exc_ok (c.fact 94 rfl)).2.2.2⟩ hM k_c_listX k_c_rowX k_c_wholeX k_c_tftN (defX X G c 63 rfl (fun _ _ _ _ _ _ us hl => match us, hl with | [_, _], _ => rfl))
  have k_c_diX := c_diX (ks := KS4) (C := CC) (CD := (He.ga K "Dated")) (Ct := (He.ga K "Tally")) (Cy := (He.ga K "Year")) (Ck := CK) (P := P) (w := w) (base := base) DF k_c_numX k_c_ti (initX (c.xf 56 rfl) c 59 rfl (fun _ _ _ _ _ _ us hl => match us, hl with | [_, _, _], _ => rfl))
  have k_c_rfB := c_rfB (ks := KS4) (C := CC) (CD := (He.ga K "Dated")) (Cy := (He.ga K "Year")) (Ck := CK) (is := [2]) (Cq := (He.ga K "PurseError")) (P := P) (w := w) (base := base) (He.glo_ok X G (c.fact 90 rfl)) (of_decide_eq_true (c.xf 45 rfl)) (by decide) k_c_diX k_c_lkn (defX X G c 62 rfl (fun _ _ _ _ _ _ us hl => match us, hl with | [_, _], _ => rfl))
  have k_ok_law := ok_law (C := CC) (CD := (He.ga K "Dated")) (Ct := (He.ga K "Tally")) (Cy := (He.ga K "Year")) (P := P) (w := w) (base := base) F B k_c_well k_c_cell k_c_draw k_c_lhd2 k_c_lrw k_c_lno k_i_give k_c_year k_c_di k_c_db k_c_rfG k_c_rfB
  exact k_ok_law
end KP
open PySem PySem.W PySem.Calls PyProof.Rows
theorem PySem.Challenge.cw_knotpurse_k21_rows_that_are_none_holds : PySem.Challenge.rw_knotpurse_k21_rows_that_are_none.Holds := by
  w_on; o_law
  refine HandSHeadRun.head_any (r := OpenLaw.row PySem.Challenge.rw_knotpurse_k21_rows_that_are_none) (q := view (OpenLaw.row PySem.Challenge.rw_knotpurse_k21_rows_that_are_none).prog [71]) (H := KP.hK) (ob := KP.hOb) (M := 40000) (loose := KP.hNm) (d := HandSHeadRun.topDef (OpenLaw.row PySem.Challenge.rw_knotpurse_k21_rows_that_are_none).prog 71) (kwd := []) KP.hOb_eq
    (by kernel_rfl) (fun s => by kernel_rfl) KP.hRun (by kernel_rfl) (by kernel_rfl) (by kernel_rfl) (by rfl) (by first | assumption | decide +kernel) (by decide +kernel) ⟨rfl, rfl, rfl, rfl, rfl, by decide +kernel⟩ ?hw ?hc
  case hw => w_witness2
  case hc =>
    refine L2.walk_ofE (l := PySem.Challenge.rw_knotpurse_k21_rows_that_are_none) (n := 63) (k := 13) (x := "_law_script") (CX := L2.CX0) rfl (by decide) (by kernel_rfl) ⟨rfl, by decide, by decide⟩ ?F (fun _ _ _ _ z => z)
    intro w mg fa h Y G hmg0
    obtain ⟨K, KX, c⟩ := Y
    have hmg : mg ("law" : PySem.Str) = some (.ref fa) := by
      have e : (HandSHeadRun.topDef (OpenLaw.row PySem.Challenge.rw_knotpurse_k21_rows_that_are_none).prog 71).name = ("law" : PySem.Str) := by kernel_rfl
      rw [← e]
      exact hmg0
    obtain ⟨fd, hb, hF⟩ := KP.hEnd (P := (PySem.Challenge.rw_knotpurse_k21_rows_that_are_none).prog) (w := w) KX G hmg c
    exact ⟨K, fd, KP.spLaw K, KX, hb, fun H a ns hl _ hS => ⟨a, ns, rfl, hS, hl, fun _ => rfl⟩, hF⟩
