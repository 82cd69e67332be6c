import PyProof.Rows.All
import Wide.All
import OpenK.AllK
import Wide.FinOn
import HandS.ForMost
import HandS.Walk
import HandS.Wide
import HandS.IsInst
import HandS.NoneIn
import HandS.Style
import HandS.Codes
import PyProof.Rows.MatchSeqLen
import PySem.Challenge.RW_knotpurse_k04_entries_told
set_option Elab.async false
set_option maxRecDepth 100000
set_option linter.all false
/-! the statement match over a tuple: cases whose first part is a written text and whose other parts are names -/
namespace KM
open PySem PySem.Spec PyProof.Rows L2
/-- the patterns ps, each a bare name of ns in turn -/
structure Caps (env : Env) (ps : List Pattern) (ns : List Str) : Prop where
  run : ∀ {M : Model} {A : Around} {E : Value → Shared → Prop} (us : List Value) (s : Shared) (Q : Option (List (Str × Value)) → Shared → Prop), us.length = ns.length → Q (some (ns.zip us)) s → wpAny M A (matchEach ps env us) Q E s
theorem caps_nil {env : Env} : Caps env [] [] := ⟨fun us s Q hl h => by
  cases us with
  | nil => exact wpAny_matchEach_nil h
  | cons u r => exact absurd hl (by simp)⟩
theorem caps_cons {env : Env} {n : Str} {pos : Pos} {ps : List Pattern} {ns : List Str} (c : Caps env ps ns) : Caps env (.MatchAs none (some n) pos :: ps) (n :: ns) := ⟨fun us s Q hl h => by
  cases us with
  | nil => exact absurd hl (by simp)
  | cons u r =>
    refine wpAny_matchEach_cons (wpAny_matchPattern_Capture ?_)
    refine c.run r s _ (by simpa using hl) ?_
    exact h⟩
/-- the slots js take the values vs in turn -/
def setAll : L2.St → List Nat → List V → L2.St
  | σ, j :: js, v :: vs => setAll (σ.set j (some v)) js vs
  | σ, _, _ => σ
structure Stor (X : Cx) (ns : List Str) (js : List Nat) : Prop where
  run : ∀ {M : Model} {A : Around} {E : Value → Shared → Prop} (pins : List (Addr × Obj)) (s : Shared) (σ : L2.St) (H : Hp) (vs : List V) (us : List Value) (Q : Unit → Shared → Prop), Inv X pins σ H s → Vals vs us → us.length = ns.length →
    (∀ s', Inv X pins (setAll σ js vs) H s' → Q () s') → wpAny M A (assignInOrder ((ns.zip us).map fun (n, _) => bindName X.env n) ((ns.zip us).map (·.2))) Q E s
theorem stores_nil {X : Cx} : Stor X [] [] := ⟨fun pins s σ H vs us Q I r hl h => by
  cases r with
  | nil => exact wpAny_assignInOrder_none (h s I)
  | cons r t => exact absurd hl (by simp)⟩
theorem stores_cons {X : Cx} {i : Nat} {x : Str} {ns : List Str} {js : List Nat} (hN : X.N.Nodup) (c : Stor X ns js) (hi : X.N[i]? = some x) (hx : Loc X.env.scope x)
    (hf : X.fn x = true ∨ X.env.scope.names.lookup x = some .local := by first | exact .inl rfl | exact .inr rfl | assumption) : Stor X (x :: ns) (i :: js) := ⟨fun pins s σ H vs us Q I r hl h => by
  cases r with
  | nil => exact absurd hl (by simp)
  | cons r t =>
    refine wpAny_assignInOrder_more (wpAny_bindName (store_ok I hN hi hx r (fun s' I' => ?_) hf))
    exact c.run pins s' _ H _ _ Q I' t (by simpa using hl) h⟩
/-- the cases, of a subject's value -/
structure PM (X : Cx) (cs : List MatchCase) (t : V → TS) : Prop where
  run : ∀ (first : Bool) (pins : List (Addr × Obj)) (s : Shared) (σ : L2.St) (H : Hp) (D : Ends) (v : V) (u : Value), Inv X pins σ H s → RelV v u → t v D σ H → wpAny (model X.prog X.w) X.A (matchCases cs X.env u first) (SP X pins D) X.xe s
def mNil : V → TS := fun _ D σ H => D.nx σ H
theorem pm_nil {X : Cx} : PM X [] mNil := ⟨fun _ _ s σ H _ _ _ I _ h => wpAny_matchCases_nil ⟨σ, H, I, h⟩⟩
/-- case ("k", a, b, ..): n names, r the rule of == -/
def mCase (K : PySem.W.Frag) (r : R2) (k : Str) (n : Nat) (js : List Nat) (tb : TS) (rest : V → TS) : V → TS := fun v D σ H => ∃ a xs, v = .ref a ∧ SqT K H a xs ∧
  ((xs.length ≠ n + 1 ∧ rest v D σ H) ∨ (xs.length = n + 1 ∧ ∃ y ys, xs = y :: ys ∧ r y (.str k) H fun z H1 => ∃ b, z = .bl b ∧ if b = true then tb D (setAll σ js ys) H1 else rest v D σ H1))
theorem pm_case {X : Cx} {r : R2} {k : Str} {j : Nat} {p1 p2 p3 : Pos} {ps : List Pattern} {ns : List Str} {js : List Nat} {n : Nat} {body : List Stmt} {cs : List MatchCase} {tb : TS} {rest : V → TS}
    (hc : X.calm = true) (ho : OpR X (compareOp .Eq) r) (hp : Caps X.env ps ns) (hs : Stor X ns js) (hb : PSs X body tb) (hr : PM X cs rest) (hn : ns.length = n := by rfl) (hpn : ps.length = n := by rfl)
    (hstar : (Pattern.MatchValue (.Constant (.str k) j p1) p2 :: ps).findIdx? (·.isStar) = none := by rfl)
    (hwild : ((Pattern.MatchValue (.Constant (.str k) j p1) p2 :: ps).all fun p => p.isWildcard || (p.isStar && p.names.isEmpty)) = false := by rfl) :
    PM X (⟨.MatchSequence (.MatchValue (.Constant (.str k) j p1) p2 :: ps) p3, none, body⟩ :: cs) (mCase X.K r k n js tb rest) := by
  refine ⟨fun first pins s σ H D v u I rv h => ?_⟩
  obtain ⟨a, xs, rfl, hq, h⟩ := h
  cases rv
  obtain ⟨its, rx, ht, hz⟩ := I.tuple hq
  have hsz : its.toArray.size = xs.length := by simp [rx.length]
  have hfit : ((its.toArray.size : Nat) : Int) < 2 ^ 63 := by
    have : xs.length ≤ sizeLine := hz
    have e : sizeLine = 16777216 := by decide
    omega
  refine wpAny_matchCases_cons ?_
  rcases h with ⟨hne, h⟩ | ⟨hlen, y, ys, rfl, h⟩
  · refine matchSeq_tuple_miss ht hfit (by rw [hsz, List.length_cons, hpn]; exact hne) ?_ hstar hwild
    exact hr.run false pins _ σ H D (.ref a) (.ref a) (I.tok _) rfl h
  · refine matchSeq_tuple_hit ht hfit (by rw [hsz, hlen]; show n + 1 = ps.length + 1; rw [hpn]) ?_ hstar hwild
    have I1 : Inv X pins σ H { s with toks := s.toks + 1 + 1 } := I.tok _
    have hl2 : (Pattern.MatchValue (.Constant (.str k) j p1) p2 :: ps).length = its.toArray.size := by rw [hsz, hlen]; show ps.length + 1 = n + 1; rw [hpn]
    rw [hl2]
    refine unpackItems_tuple (I.ok.hd hc) (show IsTup ({ s with toks := s.toks + 1 + 1 } : Shared).heap a its.toArray from ht) fun h' hx' => ?_
    have I2 := I1.kept (h' := h') (t' := s.toks + 1 + 1) fun b o e => hx' b o (Nat.ne_of_lt (Heap.lt_size e)) e
    cases rx with
    | @cons _ u0 _ us r0 rr =>
    show wpAny _ _ (matchEach _ _ (u0 :: us)) _ _ _
    refine wpAny_matchEach_cons (wpAny_matchPattern_Value (Calls.Constant_str ?_))
    have I3 := I2.tok (s.toks + 1 + 1 + 1)
    refine thn (ho pins _ σ H y (.str k) u0 _ _ I3 r0 ⟨_, rfl⟩ h) fun c s3 ⟨z, H1, I4, rz, q⟩ => ?_
    obtain ⟨b, rfl, q⟩ := q
    cases rz
    refine wpAny_truthy_bool ?_
    cases b with
    | false =>
      rw [if_neg Bool.false_ne_true]
      exact hr.run false pins _ σ H1 D (.ref a) (.ref a) I4 rfl q
    | true =>
      rw [if_pos rfl]
      have hul : us.length = ns.length := by
        have h1 := rr.length
        have h2 : ys.length = n := by simpa using hlen
        omega
      refine hp.run us _ _ hul ?_
      refine hs.run pins _ σ H1 ys us _ I4 rr hul fun s5 I5 => ?_
      exact hb.run pins s5 _ H1 D I5 q
def tMatch (te : TE) (t : V → TS) : TS := fun D σ H => te σ H fun v H1 => t v D σ H1
theorem ps_match {X : Cx} {e : Expr} {cs : List MatchCase} {pos : Pos} {te : TE} {t : V → TS} (he : PE X e te) (hm : PM X cs t) : PS X (.Match e cs pos) (tMatch te t) := by
  refine ⟨fun pins s σ H D I h => ?_⟩
  refine wpAny_Match (thn (he.run pins s σ H _ I h) fun v s1 ⟨x, H1, I1, r1, q1⟩ => ?_)
  exact hm.run true pins s1 σ H1 D x v I1 r1 q1
end KM
namespace KP
open PySem L2 KM
def top (i : Nat) : Stmt := PySem.Challenge.pw_knotpurse_k04_entries_told.main.body.getD i (.Pass ⟨0, 0, 0, 0⟩)
/-! ### how a def of the text is known, and called -/
structure DefT (K : PySem.W.Frag) (mg : Str → Option Value) (x : Str) (st : Stmt) (ps : List Str) : Prop where
  ex : ∃ f fd, Fun K x x st f fd ∧ Binds K fd ps [] ∧ mg x = some (.ref f)
structure Cal (P : Program) (w : World) (K : PySem.W.Frag) (mg : Str → Option Value) (base : Heap) (k : Nat) (x : Str) (sp : Sp) : Prop where
  ex : ∃ f fd ps, FnOk P w K mg base CX0 k f fd ps sp ∧ mg x = some (.ref f) ∧ PySem.W.keepIn K (.ref f) = true ∧ Binds K fd ps []
section
variable {P : Program} {w : World} {K : PySem.W.Frag} {mg : Str → Option Value} {base : Heap}
theorem cal {x : Str} {st : Stmt} {N ps : List Str} {k : Nat} {sp : Sp} (D : DefT K mg x st ps) (S : FnScope N ps (defScope st)) (len : ∀ vs H Q E, sp vs H Q E → vs.length = ps.length)
    (hbody : ∀ (f : Addr) (cdv : Value) (A : Around) (outer : List Env) (s : Shared) (H : Hp) (vs : List V) (Q : VK) (E : XK), Room k (A.deeper (PyProof.Rows.envOfC x (defScope st) s.heap.objs.size f cdv)) → sp vs H Q E →
      ∃ t, PSs (cxOf CX0 P w K mg base N x (defScope st) f cdv A outer s H E).nox (defBody st) t ∧ t { nx := fun _ H' => Q .non H', rt := Q } (start N vs) H) : Cal P w K mg base (k + 1) x sp := by
  obtain ⟨f, fd, F, b, m⟩ := D.ex
  exact ⟨f, fd, ps, F.ok S len (hbody f), m, F.kp, b⟩
end
section
variable {X : Cx} {k j : Nat} {x : Str} {sp : Sp} {p pos : Pos} {e : Expr} {es : List Expr} {t : TA}
/-- f(e, ..) -/
theorem pe_cl (c : Cal X.prog X.w X.K X.mg X.base k x sp) (hr : Room j X.A) (hk : k ≤ j) (hg : Gl X x) (ha : PA X (e :: es) t)
    (hdb : (x == ("__debug__" : Str)) = false := by decide) (he : starEach (e :: es) X.env = (false, eval e X.env) :: starEach es X.env := by rfl) (hpl : (backTo pos (starEach es X.env)).any (·.1) = false := by rfl) :
    PE X (.Call (.Name x p) (e :: es) [] pos) (tCall sp [] E0 t) := by
  obtain ⟨f, fd, ps, F, m, kp, b⟩ := c.ex
  exact pe_call F (hr.mono hk) hg m kp b .nil pass0 ha hdb he hpl
end
theorem yes {σ : L2.St} {H : Hp} {Q : Bool → Hp → Prop} (h : Q true H) : tYes σ H Q := h
/-! ### texts of letters -/
def letters : Str := "abcdefghijklmnopqrstuvwxyz"
def Ltr (c : Nat) : Prop := c ∈ letters.cps.toList
def IsW (x : Str) : Prop := (∀ c ∈ x.cps.toList, Ltr c) ∧ 1 ≤ x.length ∧ x.length ≤ 8
def IsN (x : Str) : Prop := x = "" ∨ IsW x
/-! ### the written part: what of it the walk asks -/
structure Base (K : PySem.W.Frag) (mg : Str → Option Value) : Prop where
  isi : mg "isinstance" = none
  bool : mg "bool" = none
  int : mg "int" = none
  str : mg "str" = none
  tuple : mg "tuple" = none
  len : mg "len" = none
  all : mg "all" = none
  range : mg "range" = none
  letters : ∃ t, mg "LETTERS" = some (.str letters t)
  mostL : ∃ t, mg "MOST_LETTERS" = some (.int 8 t)
  mostC : ∃ t, mg "MOST_COINS" = some (.int 1000000000000 t)
  leastU : ∃ t, mg "LEAST_UNTIL" = some (.int 2 t)
  mostU : ∃ t, mg "MOST_UNTIL" = some (.int 31 t)
abbrev sWhole : Stmt := top 6
abbrev sWord : Stmt := top 7
abbrev sNote : Stmt := top 8
abbrev sCheck : Stmt := top 13
def spWhole : Sp := fun vs H Q _ => ∃ v lo hi : Int, vs = [.int v, .int lo, .int hi] ∧ Q (.bl (decide (lo ≤ v ∧ v ≤ hi))) H
def spWord : Sp := fun vs H Q _ => ∃ x : Str, vs = [.str x] ∧ IsW x ∧ ∀ H', Same H H' → Q (.bl true) H'
def spNote : Sp := fun vs H Q _ => ∃ x : Str, vs = [.str x] ∧ IsN x ∧ ∀ H', Same H H' → Q (.bl true) H'
def spCheck : Sp := fun vs H Q _ => ∃ (a : Addr) (ws : List Str) (c : Int) (n : Str), vs = [.ref a, .int c, .str n] ∧ H a = some (.lst (ws.map V.str)) ∧ (∀ x ∈ ws, IsW x) ∧ ws.length ≤ 2 ∧ 1 ≤ c ∧ c ≤ 1000000000000 ∧ IsN n ∧ ∀ H', Same H H' → Q .non H'
section
variable {P : Program} {w : World} {K : PySem.W.Frag} {mg : Str → Option Value} {base : Heap}
theorem scWhole : FnScope ["value", "least", "most"] ["value", "least", "most"] (defScope sWhole) := ⟨rfl, rfl, rfl, by decide +kernel, rfl, by decide +kernel, by decide +kernel⟩
theorem c_whole (B : Base K mg) (D : DefT K mg "is_whole" sWhole ["value", "least", "most"]) : Cal P w K mg base 1 "is_whole" spWhole := by
  refine cal D scWhole (fun vs H Q E h => ?_) (fun f cdv A outer s H vs Q E hr h => ?_)
  · obtain ⟨v, lo, hi, rfl, _⟩ := h
    rfl
  · obtain ⟨v, lo, hi, rfl, k⟩ := h
    refine ⟨_, pss_cons (ps_if (PW.pt (pw_or (pt_val (pe_callB call_isi (by rfl) B.isi (by decide +kernel) (pa_cons (pv 0) (pa_cons (pe_bltn (v := .ty "bool") (by rfl) B.bool (by decide +kernel) rfl) pa_nil))))
        (pw_or1 (pt_not (pt_val (pe_callB call_isi (by rfl) B.isi (by decide +kernel) (pa_cons (pv 0) (pa_cons (pe_bltn (v := .ty "int") (by rfl) B.int (by decide +kernel) rfl) pa_nil)))))))) (pss_one (ps_ret pe_bl)) pss_nil)
      (pss_one (ps_ret (pe_chain op_le op_le (pv 1) (pv 0) (pv 2)))), ?_⟩
    refine ⟨_, rfl, _, _, _, _, false, rfl, .ty _, .base (.int _), kit_ty (by decide +kernel), _, rfl, iteF ?_⟩
    refine ⟨_, rfl, _, _, _, _, true, rfl, .ty _, .base (.int _), kit_ty (by decide +kernel), _, rfl, iteF ?_⟩
    refine ⟨_, rfl, _, rfl, _, _, rfl, rfl, _, rfl, ?_⟩
    by_cases h1 : lo ≤ v
    · rw [if_pos (decide_eq_true h1)]
      refine ⟨_, rfl, _, _, rfl, rfl, ?_⟩
      by_cases h2 : v ≤ hi
      · show Q (.bl (decide (v ≤ hi))) H
        rw [decide_eq_true h2]
        rw [decide_eq_true ⟨h1, h2⟩] at k
        exact k
      · show Q (.bl (decide (v ≤ hi))) H
        rw [decide_eq_false h2]
        rw [decide_eq_false fun z => h2 z.2] at k
        exact k
    · rw [if_neg (by rw [decide_eq_false h1]; exact Bool.false_ne_true)]
      rw [decide_eq_false fun z => h1 z.1] at k
      exact k
/-- a new object leaves the rest as it was -/
theorem same_new {H : Hp} {a : Addr} {o : HO} (h : H a = none) : Same H (upd H a o) := fun b u e => by
  rw [upd_ne (ne_of_none e h)]
  exact e
theorem map_rep {n : Nat} : (List.replicate n true).map V.bl = List.replicate n (V.bl true) := by simp
theorem all_rep {n : Nat} : (List.replicate n true).all id = true := by
  rw [List.all_eq_true]
  intro x hx
  exact (List.mem_replicate.mp hx).2
theorem scWord : FnScope ["value", "sign"] ["value"] (defScope sWord) := ⟨rfl, rfl, rfl, by decide +kernel, rfl, by decide +kernel, by decide +kernel⟩
theorem c_word (B : Base K mg) (D : DefT K mg "is_word" sWord ["value"]) : Cal P w K mg base 1 "is_word" spWord := by
  obtain ⟨tL, hL⟩ := B.letters
  obtain ⟨tM, hM⟩ := B.mostL
  refine cal D scWord (fun vs H Q E h => ?_) (fun f cdv A outer s H vs Q E hr h => ?_)
  · obtain ⟨x, rfl, _⟩ := h
    rfl
  · obtain ⟨x, rfl, ⟨hl, h1, h8⟩, k⟩ := h
    refine ⟨_, pss_cons (ps_if (PW.pt (pw_or (pt_not (pt_val (pe_callB call_isi (by rfl) B.isi (by decide +kernel) (pa_cons (pv 0) (pa_cons (pe_bltn (v := .ty "str") (by rfl) B.str (by decide +kernel) rfl) pa_nil)))))
        (pw_or1 (pt_not (pt_chain op_le op_le pe_int (pe_callB call_len_str (by rfl) B.len (by decide +kernel) (pa_cons (pv 0) pa_nil)) (pe_glob (v := .int 8) rfl hM ⟨_, rfl⟩)))))) (pss_one (ps_ret pe_bl)) pss_nil)
      (pss_one (ps_ret (pe_callB (cr_all rfl) (by rfl) B.all (by decide +kernel) (pa_cons (pe_lc (own := [("sign", 1)]) (g := gName 1) (tt := tYes) rfl scWord.nd (pi_str (pv 0)) (blkOk_by (N := ["value", "sign"]) (sc := defScope sWord) (by decide +kernel))
        (fun _ _ _ _ _ => pg_name (i := 1) scWord.nd rfl (Or.inl rfl)) (fun _ _ _ _ _ => pts_nil) (fun _ _ _ _ _ => pe_cmpR op_in_sign (pv 1) (pe_glob (v := .str letters) rfl hL ⟨_, rfl⟩) rfl)) pa_nil)))), ?_⟩
    refine ⟨_, rfl, _, _, _, _, true, rfl, .ty _, .base (.str _), kit_ty (by decide +kernel), _, rfl, iteF ?_⟩
    have hs : x.length ≤ sizeLine := Nat.le_trans h8 (by decide)
    refine ⟨_, rfl, _, rfl, hs, _, _, rfl, rfl, _, rfl, ?_⟩
    rw [if_pos (decide_eq_true (show (1 : Int) ≤ ((x.length : Nat) : Int) by omega))]
    refine ⟨_, _, rfl, rfl, _, rfl, ?_⟩
    have e8 : decide (((x.length : Nat) : Int) ≤ 8) = true := decide_eq_true (by omega)
    rw [e8]
    refine iteF ?_
    refine ⟨_, rfl, x, rfl, fun D hD => lc_it walk_str (fun i H' => H' = upd H D (.lst (List.replicate i (V.bl true)))) rfl (fun _ _ _ _ => trivial) ?_ ?_⟩
    · rintro i v H1 H2 hi rfl ⟨rfl, c, hc, rfl⟩
      refine ⟨rfl, yes (iteT ⟨_, rfl, c, letters, rfl, rfl, _, upd_same, ?_, ?_⟩)⟩
      · rw [List.length_replicate]
        have : x.cps.size ≤ 8 := h8
        have e : sizeLine = 16777216 := by decide
        omega
      · have ec : decide (c ∈ letters.cps.toList) = true := decide_eq_true (hl c (by
          have := Array.mem_of_getElem? hc
          simpa using this))
        rw [ec, upd_upd]
        congr 2
        exact (List.replicate_succ' (n := i) (a := V.bl true)).symm ▸ rfl
    · rintro H1 rfl
      refine ⟨D, List.replicate x.cps.size true, rfl, SqL.of (by rw [upd_same, map_rep]), ?_⟩
      rw [all_rep]
      exact k _ (same_new hD)
theorem scNote : FnScope ["value"] ["value"] (defScope sNote) := ⟨rfl, rfl, rfl, by decide +kernel, rfl, by decide +kernel, by decide +kernel⟩
theorem c_note (B : Base K mg) (W : Cal P w K mg base 1 "is_word" spWord) (D : DefT K mg "is_note" sNote ["value"]) : Cal P w K mg base 2 "is_note" spNote := by
  refine cal D scNote (fun vs H Q E h => ?_) (fun f cdv A outer s H vs Q E hr h => ?_)
  · obtain ⟨x, rfl, _⟩ := h
    rfl
  · obtain ⟨x, rfl, hx, k⟩ := h
    refine ⟨_, pss_one (ps_ret (pe_or (pe_cmpR op_eq (pv 0) pe_str (nomark _)) (pe_one (pe_cl W hr (by decide) (by rfl) (pa_cons (pv 0) pa_nil))))), ?_⟩
    refine ⟨_, rfl, rfl, _, rfl, ?_⟩
    refine ite2 (fun c => ?_) (fun c => ?_)
    · exact k _ (Same.refl _)
    · have hn : ¬ x = "" := fun e => c (by rw [e]; exact decide_eq_true rfl)
      rcases hx with e | hx
      · exact absurd e hn
      · exact ⟨_, rfl, x, rfl, hx, k⟩
theorem scCheck : FnScope ["words", "coins", "note", "word"] ["words", "coins", "note"] (defScope sCheck) := ⟨rfl, rfl, rfl, by decide +kernel, rfl, by decide +kernel, by decide +kernel⟩
theorem c_check (B : Base K mg) (Wh : Cal P w K mg base 1 "is_whole" spWhole) (W : Cal P w K mg base 1 "is_word" spWord) (N : Cal P w K mg base 2 "is_note" spNote) (D : DefT K mg "check_fields" sCheck ["words", "coins", "note"]) :
    Cal P w K mg base 3 "check_fields" spCheck := by
  obtain ⟨tC, hC⟩ := B.mostC
  refine cal D scCheck (fun vs H Q E h => ?_) (fun f cdv A outer s H vs Q E hr h => ?_)
  · obtain ⟨a, ws, c, n, rfl, _⟩ := h
    rfl
  · obtain ⟨a, ws, c, n, rfl, ha, hw, hwl, c1, c2, hn, k⟩ := h
    refine ⟨_, pss_cons (ps_if (pt_not (pt_val (pe_callB (cr_all rfl) (by rfl) B.all (by decide +kernel) (pa_cons (pe_lc (own := [("word", 3)]) (g := gName 3) (tt := tYes) rfl scCheck.nd (pi_list (pv 0)) (blkOk_by (N := ["words", "coins", "note", "word"]) (sc := defScope sCheck) (by decide +kernel))
        (fun _ _ _ _ _ => pg_name (i := 3) scCheck.nd rfl (Or.inl rfl)) (fun _ _ _ _ _ => pts_nil) (fun _ _ _ _ _ => pe_cl W hr (by decide) (by rfl) (pa_cons (pv 3) pa_nil))) pa_nil)))) (pss_one ps_never) pss_nil)
      (pss_cons (ps_if (pt_not (pt_val (pe_cl Wh hr (by decide) (by rfl) (pa_cons (pv 1) (pa_cons pe_int (pa_cons (pe_glob (v := .int 1000000000000) rfl hC ⟨_, rfl⟩) pa_nil)))))) (pss_one ps_never) pss_nil)
      (pss_one (ps_if (pt_not (pt_val (pe_cl N hr (by decide) (by rfl) (pa_cons (pv 2) pa_nil)))) (pss_one ps_never) pss_nil))), ?_⟩
    refine ⟨_, rfl, a, rfl, ⟨_, SqL.of ha⟩, fun D hD => lc_it (walk_list (xs := ws.map V.str)) (fun i H' => Same H H' ∧ H' D = some (.lst (List.replicate i (V.bl true)))) ⟨same_new hD, upd_same⟩ (fun i H' _ p => SqL.of (p.1 _ _ ha)) ?_ ?_⟩
    · rintro i v H1 H2 hi ⟨s1, d1⟩ ⟨rfl, hv⟩
      obtain ⟨x, hx, rfl⟩ : ∃ x, ws[i]? = some x ∧ v = V.str x := by
        rw [List.getElem?_map] at hv
        cases e : ws[i]? with
        | none => rw [e] at hv; cases hv
        | some x => rw [e] at hv; exact ⟨x, rfl, (Option.some.inj hv).symm⟩
      refine ⟨rfl, yes (iteT ⟨_, rfl, x, rfl, hw x (List.mem_of_getElem? hx), fun H3 s3 => ⟨_, s3 _ _ d1, ?_, ?_, ?_⟩⟩)⟩
      · rw [List.length_replicate]
        rw [List.length_map] at hi
        have e : sizeLine = 16777216 := by decide
        omega
      · intro b o e
        have hb : b ≠ D := ne_of_none e hD
        rw [upd_ne hb]
        exact s3 _ _ (s1 _ _ e)
      · rw [upd_same]
        congr 2
        exact (List.replicate_succ' (n := i) (a := V.bl true)).symm ▸ rfl
    · rintro H1 ⟨s1, d1⟩
      refine ⟨D, List.replicate (ws.map V.str).length true, rfl, SqL.of (by rw [d1, map_rep]), _, rfl, ?_⟩
      rw [all_rep]
      refine iteF ?_
      refine ⟨_, rfl, c, 1, 1000000000000, rfl, _, rfl, ?_⟩
      rw [decide_eq_true ⟨c1, c2⟩]
      refine iteF ?_
      exact ⟨_, rfl, n, rfl, hn, fun H2 s2 => ⟨_, rfl, iteF (k _ (s1.trans s2))⟩⟩
end
end KP
namespace KP
open PySem L2 KM
/-! ### entries -/
inductive En where
  | give (h : Str) (c : Int) (n : Str) | hold (h : Str) (c u : Int) (n : Str) | move (h o : Str) (c : Int) (n : Str) | spend (h : Str) (c : Int) (n : Str)
  | promise (x h : Str) (c : Int) (n : Str) | lessen (x : Str) (c : Int) (n : Str) | out (x : Str) (c : Int) (n : Str)
def Coin (c : Int) : Prop := 1 ≤ c ∧ c ≤ 1000000000000
def En.k : En → Nat
  | .give .. => 0 | .hold .. => 1 | .move .. => 2 | .spend .. => 3 | .promise .. => 4 | .lessen .. => 5 | .out .. => 6
def En.kind : En → Str
  | .give .. => "give" | .hold .. => "hold" | .move .. => "move" | .spend .. => "spend" | .promise .. => "promise" | .lessen .. => "lessen" | .out .. => "out"
def En.args : En → List V
  | .give h c n => [.str h, .int c, .str n] | .hold h c u n => [.str h, .int c, .int u, .str n] | .move h o c n => [.str h, .str o, .int c, .str n] | .spend h c n => [.str h, .int c, .str n]
  | .promise x h c n => [.str x, .str h, .int c, .str n] | .lessen x c n => [.str x, .int c, .str n] | .out x c n => [.str x, .int c, .str n]
def En.fs : En → List (Str × V)
  | .give h c n => [("head", .str h), ("coins", .int c), ("note", .str n)] | .hold h c u n => [("head", .str h), ("coins", .int c), ("until", .int u), ("note", .str n)]
  | .move h o c n => [("head", .str h), ("other", .str o), ("coins", .int c), ("note", .str n)] | .spend h c n => [("head", .str h), ("coins", .int c), ("note", .str n)]
  | .promise x h c n => [("word", .str x), ("head", .str h), ("coins", .int c), ("note", .str n)] | .lessen x c n => [("word", .str x), ("coins", .int c), ("note", .str n)] | .out x c n => [("word", .str x), ("coins", .int c), ("note", .str n)]
def En.ok : En → Prop
  | .give h c n => IsW h ∧ Coin c ∧ IsN n | .hold h c u n => IsW h ∧ Coin c ∧ (2 ≤ u ∧ u ≤ 31) ∧ IsN n | .move h o c n => IsW h ∧ IsW o ∧ h ≠ o ∧ Coin c ∧ IsN n | .spend h c n => IsW h ∧ Coin c ∧ IsN n
  | .promise x h c n => IsW x ∧ IsW h ∧ Coin c ∧ IsN n | .lessen x c n => IsW x ∧ Coin c ∧ IsN n | .out x c n => IsW x ∧ Coin c ∧ IsN n
def En.tup (e : En) : List V := .str e.kind :: e.args
/-- the entry e stands at p -/
def EntAt (C : Nat → Addr) (H : Hp) (p : Addr) (e : En) : Prop := ∃ dx, H p = some (.ins (C e.k) dx e.fs)
def spInit (C : Nat → Addr) (k : Nat) : Sp := fun vs H Q _ => ∃ (p dx : Addr) (e : En), vs = .ref p :: e.args ∧ e.k = k ∧ e.ok ∧ H p = some (.ins (C k) dx []) ∧
  ∀ H' : Hp, H' p = some (.ins (C k) dx e.fs) → (∀ b o, H b = some o → b ≠ p → H' b = some o) → Q .non H'
def spTold (C : Nat → Addr) (k : Nat) : Sp := fun vs H Q _ => ∃ (p : Addr) (e : En), vs = [.ref p] ∧ e.k = k ∧ EntAt C H p e ∧ ∀ q, H q = none → Q (.ref q) (upd H q (.tup e.tup))
theorem ne_s {a b : Str} (h : (a == b) = false) : a ≠ b := by
  intro e
  subst e
  simp at h
theorem put1 (a : Str) (x : V) : putF a x [] = [(a, x)] := rfl
theorem put2 {a b : Str} (h : a ≠ b) (x y : V) : putF b y [(a, x)] = [(a, x), (b, y)] := by
  show (if a = b then (a, y) :: [] else (a, x) :: putF b y []) = _
  rw [if_neg h]
  rfl
theorem put3 {a b c : Str} (h : a ≠ c) (h2 : b ≠ c) (x y z : V) : putF c z [(a, x), (b, y)] = [(a, x), (b, y), (c, z)] := by
  show (if a = c then _ else (a, x) :: putF c z [(b, y)]) = _
  rw [if_neg h, put2 h2]
theorem put4 {a b c d : Str} (h : a ≠ d) (h2 : b ≠ d) (h3 : c ≠ d) (x y z u : V) : putF d u [(a, x), (b, y), (c, z)] = [(a, x), (b, y), (c, z), (d, u)] := by
  show (if a = d then _ else (a, x) :: putF d u [(b, y), (c, z)]) = _
  rw [if_neg h, put3 h2 h3]
/-! ### how a class of the text is known -/
structure MakT (P : Program) (w : World) (K : PySem.W.Frag) (mg : Str → Option Value) (base : Heap) (k : Nat) (x : Str) (C : Addr) (sp : Sp) : Prop where
  ex : ∃ f fd ps, Mk K C f ∧ FnOk P w K mg base CX0 k f fd ps sp ∧ mg x = some (.ref C) ∧ Binds K fd ps []
structure MetT (P : Program) (w : World) (K : PySem.W.Frag) (mg : Str → Option Value) (base : Heap) (k : Nat) (C : Addr) (m : Str) (sp : Sp) : Prop where
  ex : ∃ f fd ps, Cls K C ∧ Meth K C m f ∧ FnOk P w K mg base CX0 k f fd ps sp ∧ Binds K fd ps []
structure ClsT (K : PySem.W.Frag) (mg : Str → Option Value) (x qI qT : Str) (C : Addr) (sI sT : Stmt) (psI fl : List Str) : Prop where
  cl : Cls K C
  mgC : mg x = some (.ref C)
  init : ∃ f fd, Mk K C f ∧ Fun K "__init__" qI sI f fd ∧ Binds K fd psI []
  told : ∃ f fd, Meth K C "told" f ∧ Fun K "told" qT sT f fd ∧ Binds K fd ["self"] []
  nF : ∀ f ∈ fl, NoAttr K C f
section
variable {X : Cx} {k j : Nat} {x m : Str} {C : Addr} {sp : Sp} {p pos apos : Pos} {e o : Expr} {es : List Expr} {ta : TE} {t : TA}
theorem pe_mkT (c : MakT X.prog X.w X.K X.mg X.base k x C sp) (hr : Room j X.A) (hk : k + 1 ≤ j) (hg : Gl X x) (ha : PA X (e :: es) t)
    (hdb : (x == ("__debug__" : Str)) = false := by decide) (he : starEach (e :: es) X.env = (false, eval e X.env) :: starEach es X.env := by rfl) (hpl : (backTo pos (starEach es X.env)).any (·.1) = false := by rfl) :
    PE X (.Call (.Name x p) (e :: es) [] pos) (tMake C sp [] E0 t) := by
  obtain ⟨f, fd, ps, M, F, m, b⟩ := c.ex
  exact pe_make M F (hr.mono hk) hg m b .nil pass0 ha hdb he hpl
theorem pe_mtT0 {pl : Sem Bool} (c : MetT X.prog X.w X.K X.mg X.base k C m sp) (hr : Room j X.A) (hk : k ≤ j) (he : PE X o ta)
    (ht : eval (.Call (.Attribute o m apos) [] [] pos) X.env = (do
      let ov ← eval o X.env
      standAt apos.atName
      let (f, first) ← holding [ov] (getMethod ov m pl)
      callWith pos f first (backTo pos (starEach [] X.env)) (backToKw pos (keywordEach [] X.env))) := by rfl) :
    PE X (.Call (.Attribute o m apos) [] [] pos) (tMeth C m sp [] E0 ta tNil) := by
  obtain ⟨f, fd, ps, c, hm, F, b⟩ := c.ex
  exact pe_meth0 he c hm F (hr.mono hk) b .nil pass0 ht
end
section
variable {P : Program} {w : World} {K : PySem.W.Frag} {mg : Str → Option Value} {base : Heap}

abbrev sIGive : Stmt := inClass (top 15) 0
abbrev sTGive : Stmt := inClass (top 15) 1
theorem scIGive : FnScope ["self", "head", "coins", "note"] ["self", "head", "coins", "note"] (defScope sIGive) := ⟨rfl, rfl, rfl, by decide +kernel, rfl, by decide +kernel, by decide +kernel⟩
theorem scTGive : FnScope ["self"] ["self"] (defScope sTGive) := ⟨rfl, rfl, rfl, by decide +kernel, rfl, by decide +kernel, by decide +kernel⟩
theorem i_give {C : Nat → Addr} (B : Base K mg) (Wh : Cal P w K mg base 1 "is_whole" spWhole) (Ck : Cal P w K mg base 3 "check_fields" spCheck) (T : ClsT K mg "Give" "Give.__init__" "Give.told" (C 0) sIGive sTGive ["self", "head", "coins", "note"] ["head", "coins", "note"]) : MakT P w K mg base 4 "Give" (C 0) (spInit C 0) := by
  obtain ⟨f, fd, M, F, b⟩ := T.init
  obtain ⟨tLU, hLU⟩ := B.leastU
  obtain ⟨tMU, hMU⟩ := B.mostU
  refine ⟨f, fd, _, M, F.ok scIGive (fun vs H Q E h => ?_) (fun cdv A outer s H vs Q E hr h => ?_), T.mgC, b⟩
  · obtain ⟨p, dx, e, rfl, hk, _⟩ := h
    cases e <;> first | rfl | (cases hk; done)
  · obtain ⟨p, dx, e, rfl, hk, hok, hp, k⟩ := h
    cases e <;> first | (cases hk; done) | skip
    rename_i x0 x1 x2
    obtain ⟨hw1, hc, hn⟩ := hok
    refine ⟨_, pss_cons (ps_expr (pe_cl Ck hr (by decide) (by rfl) (pa_cons (pe_lst (pa_cons (pv 1) pa_nil)) (pa_cons (pv 2) (pa_cons (pv 3) pa_nil)))))
      (pss_cons (ps_fld (pv 0) (pv 1) rfl)
      (pss_cons (ps_fld (pv 0) (pv 2) rfl)
      (pss_one (ps_fld (pv 0) (pv 3) rfl)))), ?_⟩
    refine ⟨_, rfl, (by show 1 ≤ sizeLine; decide), fun l hl => ⟨_, rfl, _, rfl, l, [x0], _, _, rfl, upd_same, (by intro z hz; simp at hz; subst hz; exact hw1), (by simp), hc.1, hc.2, hn, fun H1 s1 => ?_⟩⟩
    have pl : p ≠ l := ne_of_none hp hl
    have hp1 : H1 p = some (.ins (C 0) dx []) := s1 _ _ (by rw [upd_ne pl]; exact hp)
    have e12 : ("head" : Str) ≠ "coins" := by decide +kernel
    have e13 : ("head" : Str) ≠ "note" := by decide +kernel
    have e23 : ("coins" : Str) ≠ "note" := by decide +kernel
    refine ⟨_, rfl, _, rfl, p, _, dx, _, rfl, hp1, T.cl, T.nF _ (by simp), (by show 0 < 1000; decide), _, rfl, _, rfl, p, _, dx, _, rfl, upd_same, T.cl, T.nF _ (by simp), (by show 1 < 1000; decide), _, rfl, _, rfl, p, _, dx, _, rfl, upd_same, T.cl, T.nF _ (by simp), (by rw [put1, put2 e12]; show 2 < 1000; decide), ?_⟩
    refine k _ (by rw [upd_same, put1, put2 e12, put3 e13 e23]; rfl) fun b o e hb => ?_
    rw [upd_ne hb, upd_ne hb, upd_ne hb]
    exact s1 _ _ (by rw [upd_ne (ne_of_none e hl)]; exact e)
theorem t_give {C : Nat → Addr} (T : ClsT K mg "Give" "Give.__init__" "Give.told" (C 0) sIGive sTGive ["self", "head", "coins", "note"] ["head", "coins", "note"]) : MetT P w K mg base 1 (C 0) "told" (spTold C 0) := by
  obtain ⟨f, fd, M, F, b⟩ := T.told
  refine ⟨f, fd, _, T.cl, M, F.ok scTGive (fun vs H Q E h => ?_) (fun cdv A outer s H vs Q E hr h => ?_), b⟩
  · obtain ⟨p, e, rfl, _⟩ := h
    rfl
  · obtain ⟨p, e, rfl, hk, ⟨dx, hp⟩, k⟩ := h
    cases e <;> first | (cases hk; done) | skip
    rename_i x0 x1 x2
    refine ⟨_, pss_one (ps_ret (pe_tup (pa_cons pe_str (pa_cons (pe_fld (pv 0) rfl) (pa_cons (pe_fld (pv 0) rfl) (pa_cons (pe_fld (pv 0) rfl) pa_nil)))))), ?_⟩
    refine ⟨_, rfl, p, _, dx, _, _, rfl, hp, T.cl, T.nF _ (by simp), rfl, _, rfl, p, _, dx, _, _, rfl, hp, T.cl, T.nF _ (by simp), rfl, _, rfl, p, _, dx, _, _, rfl, hp, T.cl, T.nF _ (by simp), rfl, (by show 4 ≤ sizeLine; decide), fun q hq => k q hq⟩
abbrev sIHold : Stmt := inClass (top 16) 0
abbrev sTHold : Stmt := inClass (top 16) 1
theorem scIHold : FnScope ["self", "head", "coins", "until", "note"] ["self", "head", "coins", "until", "note"] (defScope sIHold) := ⟨rfl, rfl, rfl, by decide +kernel, rfl, by decide +kernel, by decide +kernel⟩
theorem scTHold : FnScope ["self"] ["self"] (defScope sTHold) := ⟨rfl, rfl, rfl, by decide +kernel, rfl, by decide +kernel, by decide +kernel⟩
theorem i_hold {C : Nat → Addr} (B : Base K mg) (Wh : Cal P w K mg base 1 "is_whole" spWhole) (Ck : Cal P w K mg base 3 "check_fields" spCheck) (T : ClsT K mg "Hold" "Hold.__init__" "Hold.told" (C 1) sIHold sTHold ["self", "head", "coins", "until", "note"] ["head", "coins", "until", "note"]) : MakT P w K mg base 4 "Hold" (C 1) (spInit C 1) := by
  obtain ⟨f, fd, M, F, b⟩ := T.init
  obtain ⟨tLU, hLU⟩ := B.leastU
  obtain ⟨tMU, hMU⟩ := B.mostU
  refine ⟨f, fd, _, M, F.ok scIHold (fun vs H Q E h => ?_) (fun cdv A outer s H vs Q E hr h => ?_), T.mgC, b⟩
  · obtain ⟨p, dx, e, rfl, hk, _⟩ := h
    cases e <;> first | rfl | (cases hk; done)
  · obtain ⟨p, dx, e, rfl, hk, hok, hp, k⟩ := h
    cases e <;> first | (cases hk; done) | skip
    rename_i x0 x1 x2 x3
    obtain ⟨hw1, hc, hu, hn⟩ := hok
    refine ⟨_, pss_cons (ps_expr (pe_cl Ck hr (by decide) (by rfl) (pa_cons (pe_lst (pa_cons (pv 1) pa_nil)) (pa_cons (pv 2) (pa_cons (pv 4) pa_nil)))))
      (pss_cons (ps_if (pt_not (pt_val (pe_cl Wh hr (by decide) (by rfl) (pa_cons (pv 3) (pa_cons (pe_glob (v := .int 2) rfl hLU ⟨_, rfl⟩) (pa_cons (pe_glob (v := .int 31) rfl hMU ⟨_, rfl⟩) pa_nil)))))) (pss_one ps_never) pss_nil)
      (pss_cons (ps_fld (pv 0) (pv 1) rfl)
      (pss_cons (ps_fld (pv 0) (pv 2) rfl)
      (pss_cons (ps_fld (pv 0) (pv 3) rfl)
      (pss_one (ps_fld (pv 0) (pv 4) rfl)))))), ?_⟩
    refine ⟨_, rfl, (by show 1 ≤ sizeLine; decide), fun l hl => ⟨_, rfl, _, rfl, l, [x0], _, _, rfl, upd_same, (by intro z hz; simp at hz; subst hz; exact hw1), (by simp), hc.1, hc.2, hn, fun H1 s1 => ?_⟩⟩
    have pl : p ≠ l := ne_of_none hp hl
    have hp1 : H1 p = some (.ins (C 1) dx []) := s1 _ _ (by rw [upd_ne pl]; exact hp)
    refine ⟨_, rfl, _, 2, 31, rfl, _, rfl, ?_⟩
    rw [decide_eq_true hu]
    refine iteF ?_
    have e12 : ("head" : Str) ≠ "coins" := by decide +kernel
    have e13 : ("head" : Str) ≠ "until" := by decide +kernel
    have e14 : ("head" : Str) ≠ "note" := by decide +kernel
    have e23 : ("coins" : Str) ≠ "until" := by decide +kernel
    have e24 : ("coins" : Str) ≠ "note" := by decide +kernel
    have e34 : ("until" : Str) ≠ "note" := by decide +kernel
    refine ⟨_, rfl, _, rfl, p, _, dx, _, rfl, hp1, T.cl, T.nF _ (by simp), (by show 0 < 1000; decide), _, rfl, _, rfl, p, _, dx, _, rfl, upd_same, T.cl, T.nF _ (by simp), (by show 1 < 1000; decide), _, rfl, _, rfl, p, _, dx, _, rfl, upd_same, T.cl, T.nF _ (by simp), (by rw [put1, put2 e12]; show 2 < 1000; decide), _, rfl, _, rfl, p, _, dx, _, rfl, upd_same, T.cl, T.nF _ (by simp), (by rw [put1, put2 e12, put3 e13 e23]; show 3 < 1000; decide), ?_⟩
    refine k _ (by rw [upd_same, put1, put2 e12, put3 e13 e23, put4 e14 e24 e34]; rfl) fun b o e hb => ?_
    rw [upd_ne hb, upd_ne hb, upd_ne hb, upd_ne hb]
    exact s1 _ _ (by rw [upd_ne (ne_of_none e hl)]; exact e)
theorem t_hold {C : Nat → Addr} (T : ClsT K mg "Hold" "Hold.__init__" "Hold.told" (C 1) sIHold sTHold ["self", "head", "coins", "until", "note"] ["head", "coins", "until", "note"]) : MetT P w K mg base 1 (C 1) "told" (spTold C 1) := by
  obtain ⟨f, fd, M, F, b⟩ := T.told
  refine ⟨f, fd, _, T.cl, M, F.ok scTHold (fun vs H Q E h => ?_) (fun cdv A outer s H vs Q E hr h => ?_), b⟩
  · obtain ⟨p, e, rfl, _⟩ := h
    rfl
  · obtain ⟨p, e, rfl, hk, ⟨dx, hp⟩, k⟩ := h
    cases e <;> first | (cases hk; done) | skip
    rename_i x0 x1 x2 x3
    refine ⟨_, pss_one (ps_ret (pe_tup (pa_cons pe_str (pa_cons (pe_fld (pv 0) rfl) (pa_cons (pe_fld (pv 0) rfl) (pa_cons (pe_fld (pv 0) rfl) (pa_cons (pe_fld (pv 0) rfl) pa_nil))))))), ?_⟩
    refine ⟨_, rfl, p, _, dx, _, _, rfl, hp, T.cl, T.nF _ (by simp), rfl, _, rfl, p, _, dx, _, _, rfl, hp, T.cl, T.nF _ (by simp), rfl, _, rfl, p, _, dx, _, _, rfl, hp, T.cl, T.nF _ (by simp), rfl, _, rfl, p, _, dx, _, _, rfl, hp, T.cl, T.nF _ (by simp), rfl, (by show 5 ≤ sizeLine; decide), fun q hq => k q hq⟩
abbrev sIMove : Stmt := inClass (top 17) 0
abbrev sTMove : Stmt := inClass (top 17) 1
theorem scIMove : FnScope ["self", "head", "other", "coins", "note"] ["self", "head", "other", "coins", "note"] (defScope sIMove) := ⟨rfl, rfl, rfl, by decide +kernel, rfl, by decide +kernel, by decide +kernel⟩
theorem scTMove : FnScope ["self"] ["self"] (defScope sTMove) := ⟨rfl, rfl, rfl, by decide +kernel, rfl, by decide +kernel, by decide +kernel⟩
theorem i_move {C : Nat → Addr} (B : Base K mg) (Wh : Cal P w K mg base 1 "is_whole" spWhole) (Ck : Cal P w K mg base 3 "check_fields" spCheck) (T : ClsT K mg "Move" "Move.__init__" "Move.told" (C 2) sIMove sTMove ["self", "head", "other", "coins", "note"] ["head", "other", "coins", "note"]) : MakT P w K mg base 4 "Move" (C 2) (spInit C 2) := by
  obtain ⟨f, fd, M, F, b⟩ := T.init
  obtain ⟨tLU, hLU⟩ := B.leastU
  obtain ⟨tMU, hMU⟩ := B.mostU
  refine ⟨f, fd, _, M, F.ok scIMove (fun vs H Q E h => ?_) (fun cdv A outer s H vs Q E hr h => ?_), T.mgC, b⟩
  · obtain ⟨p, dx, e, rfl, hk, _⟩ := h
    cases e <;> first | rfl | (cases hk; done)
  · obtain ⟨p, dx, e, rfl, hk, hok, hp, k⟩ := h
    cases e <;> first | (cases hk; done) | skip
    rename_i x0 x1 x2 x3
    obtain ⟨hw1, hw2, hne, hc, hn⟩ := hok
    refine ⟨_, pss_cons (ps_expr (pe_cl Ck hr (by decide) (by rfl) (pa_cons (pe_lst (pa_cons (pv 1) (pa_cons (pv 2) pa_nil))) (pa_cons (pv 3) (pa_cons (pv 4) pa_nil)))))
      (pss_cons (ps_if (pt_cmpR op_eq (pv 1) (pv 2) (nomark _)) (pss_one ps_never) pss_nil)
      (pss_cons (ps_fld (pv 0) (pv 1) rfl)
      (pss_cons (ps_fld (pv 0) (pv 2) rfl)
      (pss_cons (ps_fld (pv 0) (pv 3) rfl)
      (pss_one (ps_fld (pv 0) (pv 4) rfl)))))), ?_⟩
    refine ⟨_, rfl, _, rfl, (by show 2 ≤ sizeLine; decide), fun l hl => ⟨_, rfl, _, rfl, l, [x0, x1], _, _, rfl, upd_same, (by intro z hz; simp at hz; rcases hz with rfl | rfl; exact hw1; exact hw2), (by simp), hc.1, hc.2, hn, fun H1 s1 => ?_⟩⟩
    have pl : p ≠ l := ne_of_none hp hl
    have hp1 : H1 p = some (.ins (C 2) dx []) := s1 _ _ (by rw [upd_ne pl]; exact hp)
    refine ⟨_, rfl, _, rfl, rfl, _, rfl, ?_⟩
    rw [decide_eq_false (show ¬ (V.str x0 = V.str x1) from fun z => hne (by injection z))]
    refine iteF ?_
    have e12 : ("head" : Str) ≠ "other" := by decide +kernel
    have e13 : ("head" : Str) ≠ "coins" := by decide +kernel
    have e14 : ("head" : Str) ≠ "note" := by decide +kernel
    have e23 : ("other" : Str) ≠ "coins" := by decide +kernel
    have e24 : ("other" : Str) ≠ "note" := by decide +kernel
    have e34 : ("coins" : Str) ≠ "note" := by decide +kernel
    refine ⟨_, rfl, _, rfl, p, _, dx, _, rfl, hp1, T.cl, T.nF _ (by simp), (by show 0 < 1000; decide), _, rfl, _, rfl, p, _, dx, _, rfl, upd_same, T.cl, T.nF _ (by simp), (by show 1 < 1000; decide), _, rfl, _, rfl, p, _, dx, _, rfl, upd_same, T.cl, T.nF _ (by simp), (by rw [put1, put2 e12]; show 2 < 1000; decide), _, rfl, _, rfl, p, _, dx, _, rfl, upd_same, T.cl, T.nF _ (by simp), (by rw [put1, put2 e12, put3 e13 e23]; show 3 < 1000; decide), ?_⟩
    refine k _ (by rw [upd_same, put1, put2 e12, put3 e13 e23, put4 e14 e24 e34]; rfl) fun b o e hb => ?_
    rw [upd_ne hb, upd_ne hb, upd_ne hb, upd_ne hb]
    exact s1 _ _ (by rw [upd_ne (ne_of_none e hl)]; exact e)
theorem t_move {C : Nat → Addr} (T : ClsT K mg "Move" "Move.__init__" "Move.told" (C 2) sIMove sTMove ["self", "head", "other", "coins", "note"] ["head", "other", "coins", "note"]) : MetT P w K mg base 1 (C 2) "told" (spTold C 2) := by
  obtain ⟨f, fd, M, F, b⟩ := T.told
  refine ⟨f, fd, _, T.cl, M, F.ok scTMove (fun vs H Q E h => ?_) (fun cdv A outer s H vs Q E hr h => ?_), b⟩
  · obtain ⟨p, e, rfl, _⟩ := h
    rfl
  · obtain ⟨p, e, rfl, hk, ⟨dx, hp⟩, k⟩ := h
    cases e <;> first | (cases hk; done) | skip
    rename_i x0 x1 x2 x3
    refine ⟨_, pss_one (ps_ret (pe_tup (pa_cons pe_str (pa_cons (pe_fld (pv 0) rfl) (pa_cons (pe_fld (pv 0) rfl) (pa_cons (pe_fld (pv 0) rfl) (pa_cons (pe_fld (pv 0) rfl) pa_nil))))))), ?_⟩
    refine ⟨_, rfl, p, _, dx, _, _, rfl, hp, T.cl, T.nF _ (by simp), rfl, _, rfl, p, _, dx, _, _, rfl, hp, T.cl, T.nF _ (by simp), rfl, _, rfl, p, _, dx, _, _, rfl, hp, T.cl, T.nF _ (by simp), rfl, _, rfl, p, _, dx, _, _, rfl, hp, T.cl, T.nF _ (by simp), rfl, (by show 5 ≤ sizeLine; decide), fun q hq => k q hq⟩
abbrev sISpend : Stmt := inClass (top 18) 0
abbrev sTSpend : Stmt := inClass (top 18) 1
theorem scISpend : FnScope ["self", "head", "coins", "note"] ["self", "head", "coins", "note"] (defScope sISpend) := ⟨rfl, rfl, rfl, by decide +kernel, rfl, by decide +kernel, by decide +kernel⟩
theorem scTSpend : FnScope ["self"] ["self"] (defScope sTSpend) := ⟨rfl, rfl, rfl, by decide +kernel, rfl, by decide +kernel, by decide +kernel⟩
theorem i_spend {C : Nat → Addr} (B : Base K mg) (Wh : Cal P w K mg base 1 "is_whole" spWhole) (Ck : Cal P w K mg base 3 "check_fields" spCheck) (T : ClsT K mg "Spend" "Spend.__init__" "Spend.told" (C 3) sISpend sTSpend ["self", "head", "coins", "note"] ["head", "coins", "note"]) : MakT P w K mg base 4 "Spend" (C 3) (spInit C 3) := by
  obtain ⟨f, fd, M, F, b⟩ := T.init
  obtain ⟨tLU, hLU⟩ := B.leastU
  obtain ⟨tMU, hMU⟩ := B.mostU
  refine ⟨f, fd, _, M, F.ok scISpend (fun vs H Q E h => ?_) (fun cdv A outer s H vs Q E hr h => ?_), T.mgC, b⟩
  · obtain ⟨p, dx, e, rfl, hk, _⟩ := h
    cases e <;> first | rfl | (cases hk; done)
  · obtain ⟨p, dx, e, rfl, hk, hok, hp, k⟩ := h
    cases e <;> first | (cases hk; done) | skip
    rename_i x0 x1 x2
    obtain ⟨hw1, hc, hn⟩ := hok
    refine ⟨_, pss_cons (ps_expr (pe_cl Ck hr (by decide) (by rfl) (pa_cons (pe_lst (pa_cons (pv 1) pa_nil)) (pa_cons (pv 2) (pa_cons (pv 3) pa_nil)))))
      (pss_cons (ps_fld (pv 0) (pv 1) rfl)
      (pss_cons (ps_fld (pv 0) (pv 2) rfl)
      (pss_one (ps_fld (pv 0) (pv 3) rfl)))), ?_⟩
    refine ⟨_, rfl, (by show 1 ≤ sizeLine; decide), fun l hl => ⟨_, rfl, _, rfl, l, [x0], _, _, rfl, upd_same, (by intro z hz; simp at hz; subst hz; exact hw1), (by simp), hc.1, hc.2, hn, fun H1 s1 => ?_⟩⟩
    have pl : p ≠ l := ne_of_none hp hl
    have hp1 : H1 p = some (.ins (C 3) dx []) := s1 _ _ (by rw [upd_ne pl]; exact hp)
    have e12 : ("head" : Str) ≠ "coins" := by decide +kernel
    have e13 : ("head" : Str) ≠ "note" := by decide +kernel
    have e23 : ("coins" : Str) ≠ "note" := by decide +kernel
    refine ⟨_, rfl, _, rfl, p, _, dx, _, rfl, hp1, T.cl, T.nF _ (by simp), (by show 0 < 1000; decide), _, rfl, _, rfl, p, _, dx, _, rfl, upd_same, T.cl, T.nF _ (by simp), (by show 1 < 1000; decide), _, rfl, _, rfl, p, _, dx, _, rfl, upd_same, T.cl, T.nF _ (by simp), (by rw [put1, put2 e12]; show 2 < 1000; decide), ?_⟩
    refine k _ (by rw [upd_same, put1, put2 e12, put3 e13 e23]; rfl) fun b o e hb => ?_
    rw [upd_ne hb, upd_ne hb, upd_ne hb]
    exact s1 _ _ (by rw [upd_ne (ne_of_none e hl)]; exact e)
theorem t_spend {C : Nat → Addr} (T : ClsT K mg "Spend" "Spend.__init__" "Spend.told" (C 3) sISpend sTSpend ["self", "head", "coins", "note"] ["head", "coins", "note"]) : MetT P w K mg base 1 (C 3) "told" (spTold C 3) := by
  obtain ⟨f, fd, M, F, b⟩ := T.told
  refine ⟨f, fd, _, T.cl, M, F.ok scTSpend (fun vs H Q E h => ?_) (fun cdv A outer s H vs Q E hr h => ?_), b⟩
  · obtain ⟨p, e, rfl, _⟩ := h
    rfl
  · obtain ⟨p, e, rfl, hk, ⟨dx, hp⟩, k⟩ := h
    cases e <;> first | (cases hk; done) | skip
    rename_i x0 x1 x2
    refine ⟨_, pss_one (ps_ret (pe_tup (pa_cons pe_str (pa_cons (pe_fld (pv 0) rfl) (pa_cons (pe_fld (pv 0) rfl) (pa_cons (pe_fld (pv 0) rfl) pa_nil)))))), ?_⟩
    refine ⟨_, rfl, p, _, dx, _, _, rfl, hp, T.cl, T.nF _ (by simp), rfl, _, rfl, p, _, dx, _, _, rfl, hp, T.cl, T.nF _ (by simp), rfl, _, rfl, p, _, dx, _, _, rfl, hp, T.cl, T.nF _ (by simp), rfl, (by show 4 ≤ sizeLine; decide), fun q hq => k q hq⟩
abbrev sIPromise : Stmt := inClass (top 19) 0
abbrev sTPromise : Stmt := inClass (top 19) 1
theorem scIPromise : FnScope ["self", "word", "head", "coins", "note"] ["self", "word", "head", "coins", "note"] (defScope sIPromise) := ⟨rfl, rfl, rfl, by decide +kernel, rfl, by decide +kernel, by decide +kernel⟩
theorem scTPromise : FnScope ["self"] ["self"] (defScope sTPromise) := ⟨rfl, rfl, rfl, by decide +kernel, rfl, by decide +kernel, by decide +kernel⟩
theorem i_promise {C : Nat → Addr} (B : Base K mg) (Wh : Cal P w K mg base 1 "is_whole" spWhole) (Ck : Cal P w K mg base 3 "check_fields" spCheck) (T : ClsT K mg "Promise" "Promise.__init__" "Promise.told" (C 4) sIPromise sTPromise ["self", "word", "head", "coins", "note"] ["word", "head", "coins", "note"]) : MakT P w K mg base 4 "Promise" (C 4) (spInit C 4) := by
  obtain ⟨f, fd, M, F, b⟩ := T.init
  obtain ⟨tLU, hLU⟩ := B.leastU
  obtain ⟨tMU, hMU⟩ := B.mostU
  refine ⟨f, fd, _, M, F.ok scIPromise (fun vs H Q E h => ?_) (fun cdv A outer s H vs Q E hr h => ?_), T.mgC, b⟩
  · obtain ⟨p, dx, e, rfl, hk, _⟩ := h
    cases e <;> first | rfl | (cases hk; done)
  · obtain ⟨p, dx, e, rfl, hk, hok, hp, k⟩ := h
    cases e <;> first | (cases hk; done) | skip
    rename_i x0 x1 x2 x3
    obtain ⟨hw1, hw2, hc, hn⟩ := hok
    refine ⟨_, pss_cons (ps_expr (pe_cl Ck hr (by decide) (by rfl) (pa_cons (pe_lst (pa_cons (pv 1) (pa_cons (pv 2) pa_nil))) (pa_cons (pv 3) (pa_cons (pv 4) pa_nil)))))
      (pss_cons (ps_fld (pv 0) (pv 1) rfl)
      (pss_cons (ps_fld (pv 0) (pv 2) rfl)
      (pss_cons (ps_fld (pv 0) (pv 3) rfl)
      (pss_one (ps_fld (pv 0) (pv 4) rfl))))), ?_⟩
    refine ⟨_, rfl, _, rfl, (by show 2 ≤ sizeLine; decide), fun l hl => ⟨_, rfl, _, rfl, l, [x0, x1], _, _, rfl, upd_same, (by intro z hz; simp at hz; rcases hz with rfl | rfl; exact hw1; exact hw2), (by simp), hc.1, hc.2, hn, fun H1 s1 => ?_⟩⟩
    have pl : p ≠ l := ne_of_none hp hl
    have hp1 : H1 p = some (.ins (C 4) dx []) := s1 _ _ (by rw [upd_ne pl]; exact hp)
    have e12 : ("word" : Str) ≠ "head" := by decide +kernel
    have e13 : ("word" : Str) ≠ "coins" := by decide +kernel
    have e14 : ("word" : Str) ≠ "note" := by decide +kernel
    have e23 : ("head" : Str) ≠ "coins" := by decide +kernel
    have e24 : ("head" : Str) ≠ "note" := by decide +kernel
    have e34 : ("coins" : Str) ≠ "note" := by decide +kernel
    refine ⟨_, rfl, _, rfl, p, _, dx, _, rfl, hp1, T.cl, T.nF _ (by simp), (by show 0 < 1000; decide), _, rfl, _, rfl, p, _, dx, _, rfl, upd_same, T.cl, T.nF _ (by simp), (by show 1 < 1000; decide), _, rfl, _, rfl, p, _, dx, _, rfl, upd_same, T.cl, T.nF _ (by simp), (by rw [put1, put2 e12]; show 2 < 1000; decide), _, rfl, _, rfl, p, _, dx, _, rfl, upd_same, T.cl, T.nF _ (by simp), (by rw [put1, put2 e12, put3 e13 e23]; show 3 < 1000; decide), ?_⟩
    refine k _ (by rw [upd_same, put1, put2 e12, put3 e13 e23, put4 e14 e24 e34]; rfl) fun b o e hb => ?_
    rw [upd_ne hb, upd_ne hb, upd_ne hb, upd_ne hb]
    exact s1 _ _ (by rw [upd_ne (ne_of_none e hl)]; exact e)
theorem t_promise {C : Nat → Addr} (T : ClsT K mg "Promise" "Promise.__init__" "Promise.told" (C 4) sIPromise sTPromise ["self", "word", "head", "coins", "note"] ["word", "head", "coins", "note"]) : MetT P w K mg base 1 (C 4) "told" (spTold C 4) := by
  obtain ⟨f, fd, M, F, b⟩ := T.told
  refine ⟨f, fd, _, T.cl, M, F.ok scTPromise (fun vs H Q E h => ?_) (fun cdv A outer s H vs Q E hr h => ?_), b⟩
  · obtain ⟨p, e, rfl, _⟩ := h
    rfl
  · obtain ⟨p, e, rfl, hk, ⟨dx, hp⟩, k⟩ := h
    cases e <;> first | (cases hk; done) | skip
    rename_i x0 x1 x2 x3
    refine ⟨_, pss_one (ps_ret (pe_tup (pa_cons pe_str (pa_cons (pe_fld (pv 0) rfl) (pa_cons (pe_fld (pv 0) rfl) (pa_cons (pe_fld (pv 0) rfl) (pa_cons (pe_fld (pv 0) rfl) pa_nil))))))), ?_⟩
    refine ⟨_, rfl, p, _, dx, _, _, rfl, hp, T.cl, T.nF _ (by simp), rfl, _, rfl, p, _, dx, _, _, rfl, hp, T.cl, T.nF _ (by simp), rfl, _, rfl, p, _, dx, _, _, rfl, hp, T.cl, T.nF _ (by simp), rfl, _, rfl, p, _, dx, _, _, rfl, hp, T.cl, T.nF _ (by simp), rfl, (by show 5 ≤ sizeLine; decide), fun q hq => k q hq⟩
abbrev sILessen : Stmt := inClass (top 20) 0
abbrev sTLessen : Stmt := inClass (top 20) 1
theorem scILessen : FnScope ["self", "word", "coins", "note"] ["self", "word", "coins", "note"] (defScope sILessen) := ⟨rfl, rfl, rfl, by decide +kernel, rfl, by decide +kernel, by decide +kernel⟩
theorem scTLessen : FnScope ["self"] ["self"] (defScope sTLessen) := ⟨rfl, rfl, rfl, by decide +kernel, rfl, by decide +kernel, by decide +kernel⟩
theorem i_lessen {C : Nat → Addr} (B : Base K mg) (Wh : Cal P w K mg base 1 "is_whole" spWhole) (Ck : Cal P w K mg base 3 "check_fields" spCheck) (T : ClsT K mg "Lessen" "Lessen.__init__" "Lessen.told" (C 5) sILessen sTLessen ["self", "word", "coins", "note"] ["word", "coins", "note"]) : MakT P w K mg base 4 "Lessen" (C 5) (spInit C 5) := by
  obtain ⟨f, fd, M, F, b⟩ := T.init
  obtain ⟨tLU, hLU⟩ := B.leastU
  obtain ⟨tMU, hMU⟩ := B.mostU
  refine ⟨f, fd, _, M, F.ok scILessen (fun vs H Q E h => ?_) (fun cdv A outer s H vs Q E hr h => ?_), T.mgC, b⟩
  · obtain ⟨p, dx, e, rfl, hk, _⟩ := h
    cases e <;> first | rfl | (cases hk; done)
  · obtain ⟨p, dx, e, rfl, hk, hok, hp, k⟩ := h
    cases e <;> first | (cases hk; done) | skip
    rename_i x0 x1 x2
    obtain ⟨hw1, hc, hn⟩ := hok
    refine ⟨_, pss_cons (ps_expr (pe_cl Ck hr (by decide) (by rfl) (pa_cons (pe_lst (pa_cons (pv 1) pa_nil)) (pa_cons (pv 2) (pa_cons (pv 3) pa_nil)))))
      (pss_cons (ps_fld (pv 0) (pv 1) rfl)
      (pss_cons (ps_fld (pv 0) (pv 2) rfl)
      (pss_one (ps_fld (pv 0) (pv 3) rfl)))), ?_⟩
    refine ⟨_, rfl, (by show 1 ≤ sizeLine; decide), fun l hl => ⟨_, rfl, _, rfl, l, [x0], _, _, rfl, upd_same, (by intro z hz; simp at hz; subst hz; exact hw1), (by simp), hc.1, hc.2, hn, fun H1 s1 => ?_⟩⟩
    have pl : p ≠ l := ne_of_none hp hl
    have hp1 : H1 p = some (.ins (C 5) dx []) := s1 _ _ (by rw [upd_ne pl]; exact hp)
    have e12 : ("word" : Str) ≠ "coins" := by decide +kernel
    have e13 : ("word" : Str) ≠ "note" := by decide +kernel
    have e23 : ("coins" : Str) ≠ "note" := by decide +kernel
    refine ⟨_, rfl, _, rfl, p, _, dx, _, rfl, hp1, T.cl, T.nF _ (by simp), (by show 0 < 1000; decide), _, rfl, _, rfl, p, _, dx, _, rfl, upd_same, T.cl, T.nF _ (by simp), (by show 1 < 1000; decide), _, rfl, _, rfl, p, _, dx, _, rfl, upd_same, T.cl, T.nF _ (by simp), (by rw [put1, put2 e12]; show 2 < 1000; decide), ?_⟩
    refine k _ (by rw [upd_same, put1, put2 e12, put3 e13 e23]; rfl) fun b o e hb => ?_
    rw [upd_ne hb, upd_ne hb, upd_ne hb]
    exact s1 _ _ (by rw [upd_ne (ne_of_none e hl)]; exact e)
theorem t_lessen {C : Nat → Addr} (T : ClsT K mg "Lessen" "Lessen.__init__" "Lessen.told" (C 5) sILessen sTLessen ["self", "word", "coins", "note"] ["word", "coins", "note"]) : MetT P w K mg base 1 (C 5) "told" (spTold C 5) := by
  obtain ⟨f, fd, M, F, b⟩ := T.told
  refine ⟨f, fd, _, T.cl, M, F.ok scTLessen (fun vs H Q E h => ?_) (fun cdv A outer s H vs Q E hr h => ?_), b⟩
  · obtain ⟨p, e, rfl, _⟩ := h
    rfl
  · obtain ⟨p, e, rfl, hk, ⟨dx, hp⟩, k⟩ := h
    cases e <;> first | (cases hk; done) | skip
    rename_i x0 x1 x2
    refine ⟨_, pss_one (ps_ret (pe_tup (pa_cons pe_str (pa_cons (pe_fld (pv 0) rfl) (pa_cons (pe_fld (pv 0) rfl) (pa_cons (pe_fld (pv 0) rfl) pa_nil)))))), ?_⟩
    refine ⟨_, rfl, p, _, dx, _, _, rfl, hp, T.cl, T.nF _ (by simp), rfl, _, rfl, p, _, dx, _, _, rfl, hp, T.cl, T.nF _ (by simp), rfl, _, rfl, p, _, dx, _, _, rfl, hp, T.cl, T.nF _ (by simp), rfl, (by show 4 ≤ sizeLine; decide), fun q hq => k q hq⟩
abbrev sIOut : Stmt := inClass (top 21) 0
abbrev sTOut : Stmt := inClass (top 21) 1
theorem scIOut : FnScope ["self", "word", "coins", "note"] ["self", "word", "coins", "note"] (defScope sIOut) := ⟨rfl, rfl, rfl, by decide +kernel, rfl, by decide +kernel, by decide +kernel⟩
theorem scTOut : FnScope ["self"] ["self"] (defScope sTOut) := ⟨rfl, rfl, rfl, by decide +kernel, rfl, by decide +kernel, by decide +kernel⟩
theorem i_out {C : Nat → Addr} (B : Base K mg) (Wh : Cal P w K mg base 1 "is_whole" spWhole) (Ck : Cal P w K mg base 3 "check_fields" spCheck) (T : ClsT K mg "Out" "Out.__init__" "Out.told" (C 6) sIOut sTOut ["self", "word", "coins", "note"] ["word", "coins", "note"]) : MakT P w K mg base 4 "Out" (C 6) (spInit C 6) := by
  obtain ⟨f, fd, M, F, b⟩ := T.init
  obtain ⟨tLU, hLU⟩ := B.leastU
  obtain ⟨tMU, hMU⟩ := B.mostU
  refine ⟨f, fd, _, M, F.ok scIOut (fun vs H Q E h => ?_) (fun cdv A outer s H vs Q E hr h => ?_), T.mgC, b⟩
  · obtain ⟨p, dx, e, rfl, hk, _⟩ := h
    cases e <;> first | rfl | (cases hk; done)
  · obtain ⟨p, dx, e, rfl, hk, hok, hp, k⟩ := h
    cases e <;> first | (cases hk; done) | skip
    rename_i x0 x1 x2
    obtain ⟨hw1, hc, hn⟩ := hok
    refine ⟨_, pss_cons (ps_expr (pe_cl Ck hr (by decide) (by rfl) (pa_cons (pe_lst (pa_cons (pv 1) pa_nil)) (pa_cons (pv 2) (pa_cons (pv 3) pa_nil)))))
      (pss_cons (ps_fld (pv 0) (pv 1) rfl)
      (pss_cons (ps_fld (pv 0) (pv 2) rfl)
      (pss_one (ps_fld (pv 0) (pv 3) rfl)))), ?_⟩
    refine ⟨_, rfl, (by show 1 ≤ sizeLine; decide), fun l hl => ⟨_, rfl, _, rfl, l, [x0], _, _, rfl, upd_same, (by intro z hz; simp at hz; subst hz; exact hw1), (by simp), hc.1, hc.2, hn, fun H1 s1 => ?_⟩⟩
    have pl : p ≠ l := ne_of_none hp hl
    have hp1 : H1 p = some (.ins (C 6) dx []) := s1 _ _ (by rw [upd_ne pl]; exact hp)
    have e12 : ("word" : Str) ≠ "coins" := by decide +kernel
    have e13 : ("word" : Str) ≠ "note" := by decide +kernel
    have e23 : ("coins" : Str) ≠ "note" := by decide +kernel
    refine ⟨_, rfl, _, rfl, p, _, dx, _, rfl, hp1, T.cl, T.nF _ (by simp), (by show 0 < 1000; decide), _, rfl, _, rfl, p, _, dx, _, rfl, upd_same, T.cl, T.nF _ (by simp), (by show 1 < 1000; decide), _, rfl, _, rfl, p, _, dx, _, rfl, upd_same, T.cl, T.nF _ (by simp), (by rw [put1, put2 e12]; show 2 < 1000; decide), ?_⟩
    refine k _ (by rw [upd_same, put1, put2 e12, put3 e13 e23]; rfl) fun b o e hb => ?_
    rw [upd_ne hb, upd_ne hb, upd_ne hb]
    exact s1 _ _ (by rw [upd_ne (ne_of_none e hl)]; exact e)
theorem t_out {C : Nat → Addr} (T : ClsT K mg "Out" "Out.__init__" "Out.told" (C 6) sIOut sTOut ["self", "word", "coins", "note"] ["word", "coins", "note"]) : MetT P w K mg base 1 (C 6) "told" (spTold C 6) := by
  obtain ⟨f, fd, M, F, b⟩ := T.told
  refine ⟨f, fd, _, T.cl, M, F.ok scTOut (fun vs H Q E h => ?_) (fun cdv A outer s H vs Q E hr h => ?_), b⟩
  · obtain ⟨p, e, rfl, _⟩ := h
    rfl
  · obtain ⟨p, e, rfl, hk, ⟨dx, hp⟩, k⟩ := h
    cases e <;> first | (cases hk; done) | skip
    rename_i x0 x1 x2
    refine ⟨_, pss_one (ps_ret (pe_tup (pa_cons pe_str (pa_cons (pe_fld (pv 0) rfl) (pa_cons (pe_fld (pv 0) rfl) (pa_cons (pe_fld (pv 0) rfl) pa_nil)))))), ?_⟩
    refine ⟨_, rfl, p, _, dx, _, _, rfl, hp, T.cl, T.nF _ (by simp), rfl, _, rfl, p, _, dx, _, _, rfl, hp, T.cl, T.nF _ (by simp), rfl, _, rfl, p, _, dx, _, _, rfl, hp, T.cl, T.nF _ (by simp), rfl, (by show 4 ≤ sizeLine; decide), fun q hq => k q hq⟩
end
end KP
namespace KP
open PySem L2 KM
theorem ifT {c A B : Prop} [Decidable c] (h : c) (ha : A) : if c then A else B := by
  rw [if_pos h]
  exact ha
theorem ifF {c A B : Prop} [Decidable c] (h : ¬ c) (hb : B) : if c then A else B := by
  rw [if_neg h]
  exact hb
/-- all seven classes, as they are made and told -/
structure All7 (P : Program) (w : World) (K : PySem.W.Frag) (mg : Str → Option Value) (base : Heap) (C : Nat → Addr) : Prop where
  i0 : MakT P w K mg base 4 "Give" (C 0) (spInit C 0)
  t0 : MetT P w K mg base 1 (C 0) "told" (spTold C 0)
  i1 : MakT P w K mg base 4 "Hold" (C 1) (spInit C 1)
  t1 : MetT P w K mg base 1 (C 1) "told" (spTold C 1)
  i2 : MakT P w K mg base 4 "Move" (C 2) (spInit C 2)
  t2 : MetT P w K mg base 1 (C 2) "told" (spTold C 2)
  i3 : MakT P w K mg base 4 "Spend" (C 3) (spInit C 3)
  t3 : MetT P w K mg base 1 (C 3) "told" (spTold C 3)
  i4 : MakT P w K mg base 4 "Promise" (C 4) (spInit C 4)
  t4 : MetT P w K mg base 1 (C 4) "told" (spTold C 4)
  i5 : MakT P w K mg base 4 "Lessen" (C 5) (spInit C 5)
  t5 : MetT P w K mg base 1 (C 5) "told" (spTold C 5)
  i6 : MakT P w K mg base 4 "Out" (C 6) (spInit C 6)
  t6 : MetT P w K mg base 1 (C 6) "told" (spTold C 6)
/-- of a tuple that tells e: a new entry, e -/
def spMade (C : Nat → Addr) : Sp := fun vs H Q _ => ∃ (t : Addr) (e : En), vs = [.ref t] ∧ H t = some (.tup e.tup) ∧ e.ok ∧ ∀ p H', Same H H' → H p = none → EntAt C H' p e → Q (.ref p) H'
abbrev sRead : Stmt := top 22
abbrev sMade : Stmt := top 31
section
variable {P : Program} {w : World} {K : PySem.W.Frag} {mg : Str → Option Value} {base : Heap}
theorem scRead : FnScope ["told", "head", "coins", "note", "until", "other", "word"] ["told"] (defScope sRead) := ⟨rfl, rfl, rfl, by decide +kernel, rfl, by decide +kernel, by decide +kernel⟩
theorem scMade : FnScope ["_law_told_here"] ["_law_told_here"] (defScope sMade) := ⟨rfl, rfl, rfl, by decide +kernel, rfl, by decide +kernel, by decide +kernel⟩
theorem c_read {C : Nat → Addr} (B : Base K mg) (S : All7 P w K mg base C) (D : DefT K mg "read_entry" sRead ["told"]) : Cal P w K mg base 6 "read_entry" (spMade C) := by
  refine cal D scRead (fun vs H Q E h => ?_) (fun f cdv A outer s H vs Q E hr h => ?_)
  · obtain ⟨t, e, rfl, _⟩ := h
    rfl
  · obtain ⟨t, e, rfl, ht, hok, k⟩ := h
    refine ⟨_, pss_cons (ps_if (pt_not (pt_val (pe_callB call_isi (by rfl) B.isi (by decide +kernel) (pa_cons (pv 0) (pa_cons (pe_bltn (v := .ty "tuple") (by rfl) B.tuple (by decide +kernel) rfl) pa_nil))))) (pss_one ps_never) pss_nil)
      (pss_cons (ps_match (pv 0)
        (pm_case rfl op_eq (caps_cons (caps_cons (caps_cons caps_nil))) (stores_cons (i := 1) scRead.nd (stores_cons (i := 2) scRead.nd (stores_cons (i := 3) scRead.nd stores_nil rfl (Or.inl rfl)) rfl (Or.inl rfl)) rfl (Or.inl rfl)) (pss_one (ps_ret (pe_mkT S.i0 hr (by decide) (by rfl) (pa_cons (pv 1) (pa_cons (pv 2) (pa_cons (pv 3) pa_nil))))))
        (pm_case rfl op_eq (caps_cons (caps_cons (caps_cons (caps_cons caps_nil)))) (stores_cons (i := 1) scRead.nd (stores_cons (i := 2) scRead.nd (stores_cons (i := 4) scRead.nd (stores_cons (i := 3) scRead.nd stores_nil rfl (Or.inl rfl)) rfl (Or.inl rfl)) rfl (Or.inl rfl)) rfl (Or.inl rfl)) (pss_one (ps_ret (pe_mkT S.i1 hr (by decide) (by rfl) (pa_cons (pv 1) (pa_cons (pv 2) (pa_cons (pv 4) (pa_cons (pv 3) pa_nil)))))))
        (pm_case rfl op_eq (caps_cons (caps_cons (caps_cons (caps_cons caps_nil)))) (stores_cons (i := 1) scRead.nd (stores_cons (i := 5) scRead.nd (stores_cons (i := 2) scRead.nd (stores_cons (i := 3) scRead.nd stores_nil rfl (Or.inl rfl)) rfl (Or.inl rfl)) rfl (Or.inl rfl)) rfl (Or.inl rfl)) (pss_one (ps_ret (pe_mkT S.i2 hr (by decide) (by rfl) (pa_cons (pv 1) (pa_cons (pv 5) (pa_cons (pv 2) (pa_cons (pv 3) pa_nil)))))))
        (pm_case rfl op_eq (caps_cons (caps_cons (caps_cons caps_nil))) (stores_cons (i := 1) scRead.nd (stores_cons (i := 2) scRead.nd (stores_cons (i := 3) scRead.nd stores_nil rfl (Or.inl rfl)) rfl (Or.inl rfl)) rfl (Or.inl rfl)) (pss_one (ps_ret (pe_mkT S.i3 hr (by decide) (by rfl) (pa_cons (pv 1) (pa_cons (pv 2) (pa_cons (pv 3) pa_nil))))))
        (pm_case rfl op_eq (caps_cons (caps_cons (caps_cons (caps_cons caps_nil)))) (stores_cons (i := 6) scRead.nd (stores_cons (i := 1) scRead.nd (stores_cons (i := 2) scRead.nd (stores_cons (i := 3) scRead.nd stores_nil rfl (Or.inl rfl)) rfl (Or.inl rfl)) rfl (Or.inl rfl)) rfl (Or.inl rfl)) (pss_one (ps_ret (pe_mkT S.i4 hr (by decide) (by rfl) (pa_cons (pv 6) (pa_cons (pv 1) (pa_cons (pv 2) (pa_cons (pv 3) pa_nil)))))))
        (pm_case rfl op_eq (caps_cons (caps_cons (caps_cons caps_nil))) (stores_cons (i := 6) scRead.nd (stores_cons (i := 2) scRead.nd (stores_cons (i := 3) scRead.nd stores_nil rfl (Or.inl rfl)) rfl (Or.inl rfl)) rfl (Or.inl rfl)) (pss_one (ps_ret (pe_mkT S.i5 hr (by decide) (by rfl) (pa_cons (pv 6) (pa_cons (pv 2) (pa_cons (pv 3) pa_nil))))))
        (pm_case rfl op_eq (caps_cons (caps_cons (caps_cons caps_nil))) (stores_cons (i := 6) scRead.nd (stores_cons (i := 2) scRead.nd (stores_cons (i := 3) scRead.nd stores_nil rfl (Or.inl rfl)) rfl (Or.inl rfl)) rfl (Or.inl rfl)) (pss_one (ps_ret (pe_mkT S.i6 hr (by decide) (by rfl) (pa_cons (pv 6) (pa_cons (pv 2) (pa_cons (pv 3) pa_nil))))))
        pm_nil))))))))
      (pss_one ps_never)), ?_⟩
    refine ⟨_, rfl, _, _, _, _, true, rfl, .ty _, .base (.tup ht), kit_ty (by decide +kernel), _, rfl, iteF ?_⟩
    refine ⟨_, rfl, ?_⟩
    cases e with
    | give x0 x1 x2 =>
      refine ⟨t, _, rfl, SqT.of ht, Or.inr ⟨rfl, _, _, rfl, rfl, _, rfl, ifT (decide_eq_true rfl) ?_⟩⟩
      refine ⟨_, rfl, _, rfl, _, rfl, fun x dx nx ndx nex => ⟨x, dx, .give x0 x1 x2, rfl, rfl, hok, upd_same, fun H1 h1 k1 => ⟨rfl, ?_⟩⟩⟩
      exact k x H1 (Same.made nx ndx k1) nx ⟨dx, h1⟩
    | hold x0 x1 x2 x3 =>
      refine ⟨t, _, rfl, SqT.of ht, Or.inl ⟨(by show 5 ≠ 4; decide), ?_⟩⟩
      refine ⟨t, _, rfl, SqT.of ht, Or.inr ⟨rfl, _, _, rfl, rfl, _, rfl, ifT (decide_eq_true rfl) ?_⟩⟩
      refine ⟨_, rfl, _, rfl, _, rfl, _, rfl, fun x dx nx ndx nex => ⟨x, dx, .hold x0 x1 x2 x3, rfl, rfl, hok, upd_same, fun H1 h1 k1 => ⟨rfl, ?_⟩⟩⟩
      exact k x H1 (Same.made nx ndx k1) nx ⟨dx, h1⟩
    | move x0 x1 x2 x3 =>
      refine ⟨t, _, rfl, SqT.of ht, Or.inl ⟨(by show 5 ≠ 4; decide), ?_⟩⟩
      refine ⟨t, _, rfl, SqT.of ht, Or.inr ⟨rfl, _, _, rfl, rfl, _, rfl, ifF (show ¬ decide (V.str "move" = V.str "hold") = true by decide +kernel) ?_⟩⟩
      refine ⟨t, _, rfl, SqT.of ht, Or.inr ⟨rfl, _, _, rfl, rfl, _, rfl, ifT (decide_eq_true rfl) ?_⟩⟩
      refine ⟨_, rfl, _, rfl, _, rfl, _, rfl, fun x dx nx ndx nex => ⟨x, dx, .move x0 x1 x2 x3, rfl, rfl, hok, upd_same, fun H1 h1 k1 => ⟨rfl, ?_⟩⟩⟩
      exact k x H1 (Same.made nx ndx k1) nx ⟨dx, h1⟩
    | spend x0 x1 x2 =>
      refine ⟨t, _, rfl, SqT.of ht, Or.inr ⟨rfl, _, _, rfl, rfl, _, rfl, ifF (show ¬ decide (V.str "spend" = V.str "give") = true by decide +kernel) ?_⟩⟩
      refine ⟨t, _, rfl, SqT.of ht, Or.inl ⟨(by show 4 ≠ 5; decide), ?_⟩⟩
      refine ⟨t, _, rfl, SqT.of ht, Or.inl ⟨(by show 4 ≠ 5; decide), ?_⟩⟩
      refine ⟨t, _, rfl, SqT.of ht, Or.inr ⟨rfl, _, _, rfl, rfl, _, rfl, ifT (decide_eq_true rfl) ?_⟩⟩
      refine ⟨_, rfl, _, rfl, _, rfl, fun x dx nx ndx nex => ⟨x, dx, .spend x0 x1 x2, rfl, rfl, hok, upd_same, fun H1 h1 k1 => ⟨rfl, ?_⟩⟩⟩
      exact k x H1 (Same.made nx ndx k1) nx ⟨dx, h1⟩
    | promise x0 x1 x2 x3 =>
      refine ⟨t, _, rfl, SqT.of ht, Or.inl ⟨(by show 5 ≠ 4; decide), ?_⟩⟩
      refine ⟨t, _, rfl, SqT.of ht, Or.inr ⟨rfl, _, _, rfl, rfl, _, rfl, ifF (show ¬ decide (V.str "promise" = V.str "hold") = true by decide +kernel) ?_⟩⟩
      refine ⟨t, _, rfl, SqT.of ht, Or.inr ⟨rfl, _, _, rfl, rfl, _, rfl, ifF (show ¬ decide (V.str "promise" = V.str "move") = true by decide +kernel) ?_⟩⟩
      refine ⟨t, _, rfl, SqT.of ht, Or.inl ⟨(by show 5 ≠ 4; decide), ?_⟩⟩
      refine ⟨t, _, rfl, SqT.of ht, Or.inr ⟨rfl, _, _, rfl, rfl, _, rfl, ifT (decide_eq_true rfl) ?_⟩⟩
      refine ⟨_, rfl, _, rfl, _, rfl, _, rfl, fun x dx nx ndx nex => ⟨x, dx, .promise x0 x1 x2 x3, rfl, rfl, hok, upd_same, fun H1 h1 k1 => ⟨rfl, ?_⟩⟩⟩
      exact k x H1 (Same.made nx ndx k1) nx ⟨dx, h1⟩
    | lessen x0 x1 x2 =>
      refine ⟨t, _, rfl, SqT.of ht, Or.inr ⟨rfl, _, _, rfl, rfl, _, rfl, ifF (show ¬ decide (V.str "lessen" = V.str "give") = true by decide +kernel) ?_⟩⟩
      refine ⟨t, _, rfl, SqT.of ht, Or.inl ⟨(by show 4 ≠ 5; decide), ?_⟩⟩
      refine ⟨t, _, rfl, SqT.of ht, Or.inl ⟨(by show 4 ≠ 5; decide), ?_⟩⟩
      refine ⟨t, _, rfl, SqT.of ht, Or.inr ⟨rfl, _, _, rfl, rfl, _, rfl, ifF (show ¬ decide (V.str "lessen" = V.str "spend") = true by decide +kernel) ?_⟩⟩
      refine ⟨t, _, rfl, SqT.of ht, Or.inl ⟨(by show 4 ≠ 5; decide), ?_⟩⟩
      refine ⟨t, _, rfl, SqT.of ht, Or.inr ⟨rfl, _, _, rfl, rfl, _, rfl, ifT (decide_eq_true rfl) ?_⟩⟩
      refine ⟨_, rfl, _, rfl, _, rfl, fun x dx nx ndx nex => ⟨x, dx, .lessen x0 x1 x2, rfl, rfl, hok, upd_same, fun H1 h1 k1 => ⟨rfl, ?_⟩⟩⟩
      exact k x H1 (Same.made nx ndx k1) nx ⟨dx, h1⟩
    | out x0 x1 x2 =>
      refine ⟨t, _, rfl, SqT.of ht, Or.inr ⟨rfl, _, _, rfl, rfl, _, rfl, ifF (show ¬ decide (V.str "out" = V.str "give") = true by decide +kernel) ?_⟩⟩
      refine ⟨t, _, rfl, SqT.of ht, Or.inl ⟨(by show 4 ≠ 5; decide), ?_⟩⟩
      refine ⟨t, _, rfl, SqT.of ht, Or.inl ⟨(by show 4 ≠ 5; decide), ?_⟩⟩
      refine ⟨t, _, rfl, SqT.of ht, Or.inr ⟨rfl, _, _, rfl, rfl, _, rfl, ifF (show ¬ decide (V.str "out" = V.str "spend") = true by decide +kernel) ?_⟩⟩
      refine ⟨t, _, rfl, SqT.of ht, Or.inl ⟨(by show 4 ≠ 5; decide), ?_⟩⟩
      refine ⟨t, _, rfl, SqT.of ht, Or.inr ⟨rfl, _, _, rfl, rfl, _, rfl, ifF (show ¬ decide (V.str "out" = V.str "lessen") = true by decide +kernel) ?_⟩⟩
      refine ⟨t, _, rfl, SqT.of ht, Or.inr ⟨rfl, _, _, rfl, rfl, _, rfl, ifT (decide_eq_true rfl) ?_⟩⟩
      refine ⟨_, rfl, _, rfl, _, rfl, fun x dx nx ndx nex => ⟨x, dx, .out x0 x1 x2, rfl, rfl, hok, upd_same, fun H1 h1 k1 => ⟨rfl, ?_⟩⟩⟩
      exact k x H1 (Same.made nx ndx k1) nx ⟨dx, h1⟩
theorem c_made {C : Nat → Addr} (S : All7 P w K mg base C) (D : DefT K mg "_law_made" sMade ["_law_told_here"]) : Cal P w K mg base 6 "_law_made" (spMade C) := by
  refine cal D scMade (fun vs H Q E h => ?_) (fun f cdv A outer s H vs Q E hr h => ?_)
  · obtain ⟨t, e, rfl, _⟩ := h
    rfl
  · obtain ⟨t, e, rfl, ht, hok, k⟩ := h
    refine ⟨_, (pss_cons (ps_if (pt_cmpR op_eq (pe_ix ix_tup (pv 0) pe_int (fun _ _ => rfl)) pe_str (nomark _)) (pss_one (ps_ret (pe_mkT S.i0 hr (by decide) (by rfl) (pa_cons (pe_ix ix_tup (pv 0) pe_int (fun _ _ => rfl)) (pa_cons (pe_ix ix_tup (pv 0) pe_int (fun _ _ => rfl)) (pa_cons (pe_ix ix_tup (pv 0) pe_int (fun _ _ => rfl)) pa_nil)))))) pss_nil)
      (pss_cons (ps_if (pt_cmpR op_eq (pe_ix ix_tup (pv 0) pe_int (fun _ _ => rfl)) pe_str (nomark _)) (pss_one (ps_ret (pe_mkT S.i1 hr (by decide) (by rfl) (pa_cons (pe_ix ix_tup (pv 0) pe_int (fun _ _ => rfl)) (pa_cons (pe_ix ix_tup (pv 0) pe_int (fun _ _ => rfl)) (pa_cons (pe_ix ix_tup (pv 0) pe_int (fun _ _ => rfl)) (pa_cons (pe_ix ix_tup (pv 0) pe_int (fun _ _ => rfl)) pa_nil))))))) pss_nil)
      (pss_cons (ps_if (pt_cmpR op_eq (pe_ix ix_tup (pv 0) pe_int (fun _ _ => rfl)) pe_str (nomark _)) (pss_one (ps_ret (pe_mkT S.i2 hr (by decide) (by rfl) (pa_cons (pe_ix ix_tup (pv 0) pe_int (fun _ _ => rfl)) (pa_cons (pe_ix ix_tup (pv 0) pe_int (fun _ _ => rfl)) (pa_cons (pe_ix ix_tup (pv 0) pe_int (fun _ _ => rfl)) (pa_cons (pe_ix ix_tup (pv 0) pe_int (fun _ _ => rfl)) pa_nil))))))) pss_nil)
      (pss_cons (ps_if (pt_cmpR op_eq (pe_ix ix_tup (pv 0) pe_int (fun _ _ => rfl)) pe_str (nomark _)) (pss_one (ps_ret (pe_mkT S.i3 hr (by decide) (by rfl) (pa_cons (pe_ix ix_tup (pv 0) pe_int (fun _ _ => rfl)) (pa_cons (pe_ix ix_tup (pv 0) pe_int (fun _ _ => rfl)) (pa_cons (pe_ix ix_tup (pv 0) pe_int (fun _ _ => rfl)) pa_nil)))))) pss_nil)
      (pss_cons (ps_if (pt_cmpR op_eq (pe_ix ix_tup (pv 0) pe_int (fun _ _ => rfl)) pe_str (nomark _)) (pss_one (ps_ret (pe_mkT S.i4 hr (by decide) (by rfl) (pa_cons (pe_ix ix_tup (pv 0) pe_int (fun _ _ => rfl)) (pa_cons (pe_ix ix_tup (pv 0) pe_int (fun _ _ => rfl)) (pa_cons (pe_ix ix_tup (pv 0) pe_int (fun _ _ => rfl)) (pa_cons (pe_ix ix_tup (pv 0) pe_int (fun _ _ => rfl)) pa_nil))))))) pss_nil)
      (pss_cons (ps_if (pt_cmpR op_eq (pe_ix ix_tup (pv 0) pe_int (fun _ _ => rfl)) pe_str (nomark _)) (pss_one (ps_ret (pe_mkT S.i5 hr (by decide) (by rfl) (pa_cons (pe_ix ix_tup (pv 0) pe_int (fun _ _ => rfl)) (pa_cons (pe_ix ix_tup (pv 0) pe_int (fun _ _ => rfl)) (pa_cons (pe_ix ix_tup (pv 0) pe_int (fun _ _ => rfl)) pa_nil)))))) pss_nil)
      (pss_one (ps_ret (pe_mkT S.i6 hr (by decide) (by rfl) (pa_cons (pe_ix ix_tup (pv 0) pe_int (fun _ _ => rfl)) (pa_cons (pe_ix ix_tup (pv 0) pe_int (fun _ _ => rfl)) (pa_cons (pe_ix ix_tup (pv 0) pe_int (fun _ _ => rfl)) pa_nil)))))))))))), ?_⟩
    cases e with
    | give x0 x1 x2 =>
      refine ⟨_, rfl, t, _, _, _, rfl, rfl, SqT.of ht, rfl, rfl, _, rfl, ifT (decide_eq_true rfl) ?_⟩
      refine ⟨_, rfl, t, _, _, _, rfl, rfl, SqT.of ht, rfl, _, rfl, t, _, _, _, rfl, rfl, SqT.of ht, rfl, _, rfl, t, _, _, _, rfl, rfl, SqT.of ht, rfl, fun x dx nx ndx nex => ⟨x, dx, .give x0 x1 x2, rfl, rfl, hok, upd_same, fun H1 h1 k1 => ⟨rfl, ?_⟩⟩⟩
      exact k x H1 (Same.made nx ndx k1) nx ⟨dx, h1⟩
    | hold x0 x1 x2 x3 =>
      refine ⟨_, rfl, t, _, _, _, rfl, rfl, SqT.of ht, rfl, rfl, _, rfl, ifF (show ¬ decide (V.str "hold" = V.str "give") = true by decide +kernel) ?_⟩
      refine ⟨_, rfl, t, _, _, _, rfl, rfl, SqT.of ht, rfl, rfl, _, rfl, ifT (decide_eq_true rfl) ?_⟩
      refine ⟨_, rfl, t, _, _, _, rfl, rfl, SqT.of ht, rfl, _, rfl, t, _, _, _, rfl, rfl, SqT.of ht, rfl, _, rfl, t, _, _, _, rfl, rfl, SqT.of ht, rfl, _, rfl, t, _, _, _, rfl, rfl, SqT.of ht, rfl, fun x dx nx ndx nex => ⟨x, dx, .hold x0 x1 x2 x3, rfl, rfl, hok, upd_same, fun H1 h1 k1 => ⟨rfl, ?_⟩⟩⟩
      exact k x H1 (Same.made nx ndx k1) nx ⟨dx, h1⟩
    | move x0 x1 x2 x3 =>
      refine ⟨_, rfl, t, _, _, _, rfl, rfl, SqT.of ht, rfl, rfl, _, rfl, ifF (show ¬ decide (V.str "move" = V.str "give") = true by decide +kernel) ?_⟩
      refine ⟨_, rfl, t, _, _, _, rfl, rfl, SqT.of ht, rfl, rfl, _, rfl, ifF (show ¬ decide (V.str "move" = V.str "hold") = true by decide +kernel) ?_⟩
      refine ⟨_, rfl, t, _, _, _, rfl, rfl, SqT.of ht, rfl, rfl, _, rfl, ifT (decide_eq_true rfl) ?_⟩
      refine ⟨_, rfl, t, _, _, _, rfl, rfl, SqT.of ht, rfl, _, rfl, t, _, _, _, rfl, rfl, SqT.of ht, rfl, _, rfl, t, _, _, _, rfl, rfl, SqT.of ht, rfl, _, rfl, t, _, _, _, rfl, rfl, SqT.of ht, rfl, fun x dx nx ndx nex => ⟨x, dx, .move x0 x1 x2 x3, rfl, rfl, hok, upd_same, fun H1 h1 k1 => ⟨rfl, ?_⟩⟩⟩
      exact k x H1 (Same.made nx ndx k1) nx ⟨dx, h1⟩
    | spend x0 x1 x2 =>
      refine ⟨_, rfl, t, _, _, _, rfl, rfl, SqT.of ht, rfl, rfl, _, rfl, ifF (show ¬ decide (V.str "spend" = V.str "give") = true by decide +kernel) ?_⟩
      refine ⟨_, rfl, t, _, _, _, rfl, rfl, SqT.of ht, rfl, rfl, _, rfl, ifF (show ¬ decide (V.str "spend" = V.str "hold") = true by decide +kernel) ?_⟩
      refine ⟨_, rfl, t, _, _, _, rfl, rfl, SqT.of ht, rfl, rfl, _, rfl, ifF (show ¬ decide (V.str "spend" = V.str "move") = true by decide +kernel) ?_⟩
      refine ⟨_, rfl, t, _, _, _, rfl, rfl, SqT.of ht, rfl, rfl, _, rfl, ifT (decide_eq_true rfl) ?_⟩
      refine ⟨_, rfl, t, _, _, _, rfl, rfl, SqT.of ht, rfl, _, rfl, t, _, _, _, rfl, rfl, SqT.of ht, rfl, _, rfl, t, _, _, _, rfl, rfl, SqT.of ht, rfl, fun x dx nx ndx nex => ⟨x, dx, .spend x0 x1 x2, rfl, rfl, hok, upd_same, fun H1 h1 k1 => ⟨rfl, ?_⟩⟩⟩
      exact k x H1 (Same.made nx ndx k1) nx ⟨dx, h1⟩
    | promise x0 x1 x2 x3 =>
      refine ⟨_, rfl, t, _, _, _, rfl, rfl, SqT.of ht, rfl, rfl, _, rfl, ifF (show ¬ decide (V.str "promise" = V.str "give") = true by decide +kernel) ?_⟩
      refine ⟨_, rfl, t, _, _, _, rfl, rfl, SqT.of ht, rfl, rfl, _, rfl, ifF (show ¬ decide (V.str "promise" = V.str "hold") = true by decide +kernel) ?_⟩
      refine ⟨_, rfl, t, _, _, _, rfl, rfl, SqT.of ht, rfl, rfl, _, rfl, ifF (show ¬ decide (V.str "promise" = V.str "move") = true by decide +kernel) ?_⟩
      refine ⟨_, rfl, t, _, _, _, rfl, rfl, SqT.of ht, rfl, rfl, _, rfl, ifF (show ¬ decide (V.str "promise" = V.str "spend") = true by decide +kernel) ?_⟩
      refine ⟨_, rfl, t, _, _, _, rfl, rfl, SqT.of ht, rfl, rfl, _, rfl, ifT (decide_eq_true rfl) ?_⟩
      refine ⟨_, rfl, t, _, _, _, rfl, rfl, SqT.of ht, rfl, _, rfl, t, _, _, _, rfl, rfl, SqT.of ht, rfl, _, rfl, t, _, _, _, rfl, rfl, SqT.of ht, rfl, _, rfl, t, _, _, _, rfl, rfl, SqT.of ht, rfl, fun x dx nx ndx nex => ⟨x, dx, .promise x0 x1 x2 x3, rfl, rfl, hok, upd_same, fun H1 h1 k1 => ⟨rfl, ?_⟩⟩⟩
      exact k x H1 (Same.made nx ndx k1) nx ⟨dx, h1⟩
    | lessen x0 x1 x2 =>
      refine ⟨_, rfl, t, _, _, _, rfl, rfl, SqT.of ht, rfl, rfl, _, rfl, ifF (show ¬ decide (V.str "lessen" = V.str "give") = true by decide +kernel) ?_⟩
      refine ⟨_, rfl, t, _, _, _, rfl, rfl, SqT.of ht, rfl, rfl, _, rfl, ifF (show ¬ decide (V.str "lessen" = V.str "hold") = true by decide +kernel) ?_⟩
      refine ⟨_, rfl, t, _, _, _, rfl, rfl, SqT.of ht, rfl, rfl, _, rfl, ifF (show ¬ decide (V.str "lessen" = V.str "move") = true by decide +kernel) ?_⟩
      refine ⟨_, rfl, t, _, _, _, rfl, rfl, SqT.of ht, rfl, rfl, _, rfl, ifF (show ¬ decide (V.str "lessen" = V.str "spend") = true by decide +kernel) ?_⟩
      refine ⟨_, rfl, t, _, _, _, rfl, rfl, SqT.of ht, rfl, rfl, _, rfl, ifF (show ¬ decide (V.str "lessen" = V.str "promise") = true by decide +kernel) ?_⟩
      refine ⟨_, rfl, t, _, _, _, rfl, rfl, SqT.of ht, rfl, rfl, _, rfl, ifT (decide_eq_true rfl) ?_⟩
      refine ⟨_, rfl, t, _, _, _, rfl, rfl, SqT.of ht, rfl, _, rfl, t, _, _, _, rfl, rfl, SqT.of ht, rfl, _, rfl, t, _, _, _, rfl, rfl, SqT.of ht, rfl, fun x dx nx ndx nex => ⟨x, dx, .lessen x0 x1 x2, rfl, rfl, hok, upd_same, fun H1 h1 k1 => ⟨rfl, ?_⟩⟩⟩
      exact k x H1 (Same.made nx ndx k1) nx ⟨dx, h1⟩
    | out x0 x1 x2 =>
      refine ⟨_, rfl, t, _, _, _, rfl, rfl, SqT.of ht, rfl, rfl, _, rfl, ifF (show ¬ decide (V.str "out" = V.str "give") = true by decide +kernel) ?_⟩
      refine ⟨_, rfl, t, _, _, _, rfl, rfl, SqT.of ht, rfl, rfl, _, rfl, ifF (show ¬ decide (V.str "out" = V.str "hold") = true by decide +kernel) ?_⟩
      refine ⟨_, rfl, t, _, _, _, rfl, rfl, SqT.of ht, rfl, rfl, _, rfl, ifF (show ¬ decide (V.str "out" = V.str "move") = true by decide +kernel) ?_⟩
      refine ⟨_, rfl, t, _, _, _, rfl, rfl, SqT.of ht, rfl, rfl, _, rfl, ifF (show ¬ decide (V.str "out" = V.str "spend") = true by decide +kernel) ?_⟩
      refine ⟨_, rfl, t, _, _, _, rfl, rfl, SqT.of ht, rfl, rfl, _, rfl, ifF (show ¬ decide (V.str "out" = V.str "promise") = true by decide +kernel) ?_⟩
      refine ⟨_, rfl, t, _, _, _, rfl, rfl, SqT.of ht, rfl, rfl, _, rfl, ifF (show ¬ decide (V.str "out" = V.str "lessen") = true by decide +kernel) ?_⟩
      refine ⟨_, rfl, t, _, _, _, rfl, rfl, SqT.of ht, rfl, _, rfl, t, _, _, _, rfl, rfl, SqT.of ht, rfl, _, rfl, t, _, _, _, rfl, rfl, SqT.of ht, rfl, fun x dx nx ndx nex => ⟨x, dx, .out x0 x1 x2, rfl, rfl, hok, upd_same, fun H1 h1 k1 => ⟨rfl, ?_⟩⟩⟩
      exact k x H1 (Same.made nx ndx k1) nx ⟨dx, h1⟩
end
end KP
namespace KP
open PySem L2 KM
/-! ### numbers drawn -/
def WellAt (H : Hp) (a : Addr) : Prop := ∃ x y z : Int, H a = some (.lst [.int x, .int y, .int z])
/-- all but a is as it was -/
def SameB (a : Addr) (H H' : Hp) : Prop := ∀ b o, H b = some o → b ≠ a → H' b = some o
theorem SameB.trans {a : Addr} {H H1 H2 : Hp} (p : SameB a H H1) (q : SameB a H1 H2) : SameB a H H2 := fun b o e hb => q b o (p b o e hb) hb
theorem SameB.refl {a : Addr} {H : Hp} : SameB a H H := fun _ _ e _ => e
theorem SameB.of {a : Addr} {H H' : Hp} (s : Same H H') : SameB a H H' := fun b o e _ => s b o e
theorem SameB.newD {a D : Addr} {H H1 H2 : Hp} {o : HO} (hD : H D = none) (p : SameB a H H1) : SameB a H (upd H1 D o) := fun b u e hb => by
  rw [upd_ne (ne_of_none e hD)]
  exact p b u e hb
theorem WellAt.up {H : Hp} {a D : Addr} {o : HO} (h : WellAt H a) (hn : a ≠ D) : WellAt (upd H D o) a := by
  obtain ⟨x, y, z, e⟩ := h
  exact ⟨x, y, z, by rw [upd_ne hn]; exact e⟩
theorem WellAt.new {H : Hp} {a D : Addr} {o : HO} (h : WellAt H a) (hD : H D = none) : WellAt (upd H D o) a := by
  obtain ⟨x, y, z, e⟩ := id h
  exact h.up (ne_of_none e hD)
theorem WellAt.ne {H : Hp} {a D : Addr} (h : WellAt H a) (hD : H D = none) : a ≠ D := by
  obtain ⟨x, y, z, e⟩ := h
  exact ne_of_none e hD
abbrev sWell : Stmt := top 25
abbrev sDraw : Stmt := top 26
abbrev sName : Stmt := top 27
def spWell : Sp := fun vs H Q _ => ∃ c : Int, vs = [.int c] ∧ ∀ a H', Same H H' → H a = none → WellAt H' a → Q (.ref a) H'
def spDraw : Sp := fun vs H Q _ => ∃ (a : Addr) (m : Int), vs = [.ref a, .int m] ∧ WellAt H a ∧ 0 < m ∧ m < 1152921504606846976 ∧ ∀ r H', 0 ≤ r → r < m → WellAt H' a → SameB a H H' → Q (.int r) H'
def spName : Sp := fun vs H Q _ => ∃ a : Addr, vs = [.ref a] ∧ WellAt H a ∧ ∀ x H', IsW x → WellAt H' a → SameB a H H' → Q (.str x) H'
section
variable {P : Program} {w : World} {K : PySem.W.Frag} {mg : Str → Option Value} {base : Heap}
theorem scWell : FnScope ["_law_cell"] ["_law_cell"] (defScope sWell) := ⟨rfl, rfl, rfl, by decide +kernel, rfl, by decide +kernel, by decide +kernel⟩
theorem c_well (B : Base K mg) (D : DefT K mg "_law_well" sWell ["_law_cell"]) : Cal P w K mg base 1 "_law_well" spWell := by
  refine cal D scWell (fun vs H Q E h => ?_) (fun f cdv A outer s H vs Q E hr h => ?_)
  · obtain ⟨c, rfl, _⟩ := h
    rfl
  · obtain ⟨c, rfl, k⟩ := h
    refine ⟨_, pss_one (ps_ret (pe_lst (pa_cons (pe_op op_mul (pv 0) (pe_callTy call_int1 (by rfl) B.int (by decide +kernel) (pa_cons (pe_cmpR op_ge (pv 0) (pe_op op_pow pe_int pe_int) (nomark _)) pa_nil)))
      (pa_cons (pe_op op_mod (pv 0) pe_int) (pa_cons pe_int pa_nil))))), ?_⟩
    refine ⟨_, rfl, _, rfl, _, _, rfl, rfl, ⟨by decide, by decide, by decide⟩, _, _, rfl, rfl, Or.inr ⟨_, rfl, _, _, rfl, rfl, Or.inr ?_, ?_⟩⟩
    · split <;> constructor <;> decide
    · refine ⟨_, rfl, _, _, rfl, rfl, (by show (0 : Int) < 2147483647; decide), (by show 3 ≤ sizeLine; decide), fun l hl => ?_⟩
      exact k l _ (same_new hl) hl ⟨_, _, _, upd_same⟩
theorem scDraw : FnScope ["_law_well_here", "_law_many", "_law_found", "_law_number"] ["_law_well_here", "_law_many"] (defScope sDraw) := ⟨rfl, rfl, rfl, by decide +kernel, rfl, by decide +kernel, by decide +kernel⟩
theorem c_draw (D : DefT K mg "_law_draw" sDraw ["_law_well_here", "_law_many"]) : Cal P w K mg base 1 "_law_draw" spDraw := by
  refine cal D scDraw (fun vs H Q E h => ?_) (fun f cdv A outer s H vs Q E hr h => ?_)
  · obtain ⟨a, m, rfl, _⟩ := h
    rfl
  · obtain ⟨a, m, rfl, ⟨x, y, z, ha⟩, m0, m1, k⟩ := h
    refine ⟨_, pss_cons (ps_if (pt_cmpR op_gt (pe_ix ix_list (pv 0) pe_int (fun _ _ => rfl)) pe_int (nomark _))
        (pss_cons (ps_set (i := 2) scDraw.nd rfl (Or.inl rfl) (pe_op op_mod (pe_ix ix_list (pv 0) pe_int (fun _ _ => rfl)) (pv 1)))
        (pss_cons (ps_asg (pe_op op_fdivW (pe_ix ix_list (pv 0) pe_int (fun _ _ => rfl)) (pv 1)) (pg_sub (pv 0) pe_int set_list))
        (pss_one (ps_ret (pv 2))))) pss_nil)
      (pss_cons (ps_asg (pe_op op_add (pe_ix ix_list (pv 0) pe_int (fun _ _ => rfl)) pe_int) (pg_sub (pv 0) pe_int set_list))
      (pss_cons (ps_set (i := 3) scDraw.nd rfl (Or.inl rfl) (pe_op op_mod (pe_op op_mul (pe_op op_add (pe_op op_add (pe_ix ix_list (pv 0) pe_int (fun _ _ => rfl)) (pe_op op_mul pe_int (pe_ix ix_list (pv 0) pe_int (fun _ _ => rfl)))) pe_int) pe_int) pe_int))
      (pss_cons (ps_set (i := 3) scDraw.nd rfl (Or.inl rfl) (pe_op op_mod (pe_op op_mul (pv 3) (pe_op op_add (pe_op op_fdiv (pv 3) pe_int) pe_int)) pe_int))
      (pss_one (ps_ret (pe_op op_mod (pe_op op_mod (pe_op op_mul (pv 3) (pe_op op_add (pe_op op_fdiv (pv 3) pe_int) pe_int)) pe_int) (pv 1))))))), ?_⟩
    refine ⟨_, rfl, a, _, 0, .int x, rfl, rfl, SqL.of ha, rfl, _, _, rfl, rfl, _, rfl, ite2 (fun c => ?_) (fun c => ?_)⟩
    · refine ⟨_, rfl, a, _, 0, .int x, rfl, rfl, SqL.of ha, rfl, _, rfl, _, _, rfl, rfl, m0, ?_⟩
      refine ⟨_, rfl, a, _, 0, .int x, rfl, rfl, SqL.of ha, rfl, _, rfl, _, _, rfl, rfl, wide_div m0 (b := 60) (by omega) (by decide) (by decide), ?_⟩
      refine ⟨_, rfl, a, _, 0, 0, rfl, rfl, ha, rfl, ?_⟩
      refine ⟨_, rfl, k _ _ (Int.emod_nonneg _ (by omega)) (Int.emod_lt_of_pos _ m0) ⟨_, _, _, upd_same⟩ fun b o e hb => ?_⟩
      rw [upd_ne hb]
      exact e
    · refine ⟨_, rfl, a, _, 2, .int z, rfl, rfl, SqL.of ha, rfl, _, _, rfl, rfl, _, rfl, a, _, 2, 2, rfl, rfl, ha, rfl, ?_⟩
      have h1 : ∀ n : Int, -(2 ^ 64) < n % 2147483647 ∧ n % 2147483647 < 2 ^ 64 := fun n => by omega
      refine ⟨_, rfl, a, _, 1, .int y, rfl, rfl, SqL.of upd_same, rfl, _, rfl, a, _, 2, .int (z + 1), rfl, rfl, SqL.of upd_same, rfl, _, _, rfl, rfl, Or.inl ⟨by decide, by decide⟩, _, _, rfl, rfl, _, _, rfl, rfl, _, _, rfl, rfl, Or.inr ⟨by decide, by decide⟩, _, _, rfl, rfl, (by show (0 : Int) < 2147483647; decide), ?_⟩
      refine ⟨_, rfl, _, rfl, _, _, rfl, rfl, ⟨by decide, by decide⟩, _, _, rfl, rfl, _, _, rfl, rfl, Or.inl (h1 _), _, _, rfl, rfl, (by show (0 : Int) < 2147483647; decide), ?_⟩
      refine ⟨_, rfl, _, rfl, _, _, rfl, rfl, ⟨by decide, by decide⟩, _, _, rfl, rfl, _, _, rfl, rfl, Or.inl (h1 _), _, _, rfl, rfl, (by show (0 : Int) < 2147483399; decide), _, rfl, _, _, rfl, rfl, m0, ?_⟩
      refine k _ _ (Int.emod_nonneg _ (by omega)) (Int.emod_lt_of_pos _ m0) ⟨_, _, _, upd_same⟩ fun b o e hb => ?_
      rw [upd_ne hb]
      exact e
theorem join_signs : ∀ cs : List Nat, TL.joinL [] (cs.map fun c => [c]) = cs
  | [] => rfl
  | [c] => rfl
  | c :: d :: r => by
    show [c] ++ ([] ++ TL.joinL [] ((d :: r).map fun c => [c])) = c :: d :: r
    rw [join_signs (d :: r)]
    rfl
theorem join_is (cs : List Nat) : Txt.join "" (cs.map fun c => (⟨#[c]⟩ : Str)) = SX.S cs := by
  have h := SX.join_S [] (cs.map fun c => [c])
  rw [join_signs, List.map_map] at h
  exact h
theorem isW_S {cs : List Nat} (h : ∀ c ∈ cs, Ltr c) (h1 : 1 ≤ cs.length) (h8 : cs.length ≤ 8) : IsW (SX.S cs) := ⟨fun c hc => h c (by simpa using hc), by rw [SX.S_len]; exact h1, by rw [SX.S_len]; exact h8⟩
def names16 : List Str := ["in", "year", "head", "limit", "rule", "back", "right", "give", "hold", "move", "spend", "promise", "lessen", "out", "none", "carried"]
def wordB (x : Str) : Bool := x.cps.toList.all (fun c => decide (c ∈ letters.cps.toList)) && decide (1 ≤ x.length) && decide (x.length ≤ 8)
theorem isW_of {x : Str} (h : wordB x = true) : IsW x := by
  unfold wordB at h
  simp only [Bool.and_eq_true, List.all_eq_true, decide_eq_true_eq] at h
  exact ⟨h.1.1, h.1.2, h.2⟩
theorem names16_ok : ∀ x ∈ names16, IsW x := by
  have h : names16.all wordB = true := by decide +kernel
  intro x hx
  exact isW_of (List.all_eq_true.mp h x hx)
theorem get_lt {α : Type} {l : List α} {r : Int} (h0 : 0 ≤ r) (h1 : r < (l.length : Int)) : ∃ v, atI l r = some v ∧ v ∈ l := by
  obtain ⟨j, rfl⟩ : ∃ j : Nat, r = (j : Int) := ⟨r.toNat, by omega⟩
  have hj : j < l.length := by omega
  exact ⟨l[j], atI_nat (List.getElem?_eq_getElem hj), List.getElem_mem hj⟩
theorem let_get {r : Int} (h0 : 0 ≤ r) (h1 : r < 26) : ∃ c, letters.cps[r.toNat]? = some c ∧ Ltr c := by
  have e : letters.cps.size = 26 := by decide +kernel
  have hj : r.toNat < letters.cps.size := by omega
  refine ⟨letters.cps[r.toNat], by simp [hj], ?_⟩
  show _ ∈ letters.cps.toList
  simp
theorem scName : FnScope ["_law_well_here", "_law_some", "_law_signs", "_law_k"] ["_law_well_here"] (defScope sName) := ⟨rfl, rfl, rfl, by decide +kernel, rfl, by decide +kernel, by decide +kernel⟩
theorem c_name (B : Base K mg) (Dr : Cal P w K mg base 1 "_law_draw" spDraw) (D : DefT K mg "_law_name" sName ["_law_well_here"]) : Cal P w K mg base 2 "_law_name" spName := by
  refine cal D scName (fun vs H Q E h => ?_) (fun f cdv A outer s H vs Q E hr h => ?_)
  · obtain ⟨a, rfl, _⟩ := h
    rfl
  · obtain ⟨a, rfl, ha, k⟩ := h
    refine ⟨_, pss_cons (ps_if (pt_cmpR op_eq (pe_cl Dr hr (by decide) (by rfl) (pa_cons (pv 0) (pa_cons pe_int pa_nil))) pe_int (nomark _))
        (pss_cons (ps_set (i := 1) scName.nd rfl (Or.inl rfl) (pe_lst (pa_cons pe_str (pa_cons pe_str (pa_cons pe_str (pa_cons pe_str (pa_cons pe_str (pa_cons pe_str (pa_cons pe_str (pa_cons pe_str (pa_cons pe_str (pa_cons pe_str (pa_cons pe_str (pa_cons pe_str pa_nil))))))))))))))
        (pss_one (ps_ret (pe_ix ix_list (pe_op op_cat (pv 1) (pe_lst (pa_cons pe_str (pa_cons pe_str (pa_cons pe_str (pa_cons pe_str pa_nil)))))) (pe_cl Dr hr (by decide) (by rfl) (pa_cons (pv 0) (pa_cons pe_int pa_nil))) (fun _ _ => rfl))))) pss_nil)
      (pss_cons (ps_set (i := 2) scName.nd rfl (by first | exact Or.inl rfl | exact Or.inr rfl) pe_str)
      (pss_one (ps_ret (pe_join pe_str (pe_lc (own := [("_law_k", 3)]) (g := gName 3) (tt := tYes) rfl scName.nd (pi_range1 (by rfl) B.range (pa_cons (pe_op op_add pe_int (pe_cl Dr hr (by decide) (by rfl) (pa_cons (pv 0) (pa_cons pe_int pa_nil)))) pa_nil))
        (blkOk_by (N := ["_law_well_here", "_law_some", "_law_signs", "_law_k"]) (sc := defScope sName) (by decide +kernel)) (fun _ _ _ _ _ => pg_name (i := 3) scName.nd rfl (Or.inl rfl)) (fun _ _ _ _ _ => pts_nil)
        (fun _ _ _ _ _ => pe_item_str (pv 2) (pe_cl Dr hr (by decide) (by rfl) (pa_cons (pv 0) (pa_cons pe_int pa_nil))) (fun _ _ => rfl))))))), ?_⟩
    refine ⟨_, rfl, a, 8, rfl, ha, by decide, by decide, fun r H1 r0 r8 w1 s1 => ⟨rfl, _, rfl, ite2 (fun _ => ?_) (fun _ => ?_)⟩⟩
    · refine ⟨(by show 12 ≤ sizeLine; decide), fun p hp => ?_⟩
      refine ⟨_, rfl, (by show 4 ≤ sizeLine; decide), fun q hq => ?_⟩
      have pq : p ≠ q := ne_of_none upd_same hq
      refine ⟨p, q, _, _, rfl, rfl, (by rw [upd_ne pq]; exact upd_same), upd_same, (by show 12 + 4 ≤ sizeLine; decide), fun t ht => ?_⟩
      refine ⟨_, rfl, a, 16, rfl, ((w1.new hp).new hq).new ht, by decide, by decide, fun r2 H2 r20 r216 w2 s2 => ?_⟩
      obtain ⟨v, hv, hm⟩ := get_lt (l := names16.map V.str) r20 (by show r2 < 16; exact r216)
      obtain ⟨x, hx, rfl⟩ := List.mem_map.mp hm
      have ta : a ≠ t := ((w1.new hp).new hq).ne ht
      refine ⟨t, _, r2, .str x, rfl, rfl, SqL.of (s2 t _ upd_same ta.symm), hv, ?_⟩
      refine k x H2 (names16_ok x hx) w2 (s1.trans fun b o e hb => s2 b o ?_ hb)
      exact same_new ht b o (same_new hq b o (same_new hp b o e))
    · refine ⟨⟨_, rfl⟩, _, rfl, a, 8, rfl, w1, by decide, by decide, fun r2 H2 r20 r28 w2 s2 => ?_⟩
      have hn : (1 + r2).toNat ≤ 8 := by omega
      refine ⟨_, _, rfl, rfl, (1 + r2), rfl, by omega, by omega, fun D hD => lc_range (lo := 0) (n := (1 + r2).toNat)
        (fun i H' => ∃ cs : List Nat, cs.length = i ∧ (∀ c ∈ cs, Ltr c) ∧ H' D = some (.lst (cs.map fun c => V.str ⟨#[c]⟩)) ∧ WellAt H' a ∧ SameB a H H')
        ⟨[], rfl, (fun _ h => nomatch h), upd_same, w2.new hD, ?_⟩ ?_ ?_⟩
      · exact (s1.trans s2).trans (SameB.of (same_new hD))
      · rintro i H3 hi ⟨cs, hl, hL, hd, wd, sd⟩
        refine ⟨rfl, yes (iteT ⟨_, rfl, _, rfl, a, 26, rfl, wd, by decide, by decide, fun r3 H4 r30 r326 w4 s4 => ?_⟩)⟩
        obtain ⟨c, hc, hcl⟩ := let_get r30 r326
        have e26 : (letters.length : Int) = 26 := by decide +kernel
        refine ⟨letters, r3, c, rfl, rfl, r30, by omega, by rw [e26]; exact r326, hc, _, s4 D _ hd (w2.ne hD).symm, ?_, cs ++ [c], by simp [hl], ?_, ?_, w4.up (w2.ne hD), ?_⟩
        · rw [List.length_map, hl]
          have e : sizeLine = 16777216 := by decide
          omega
        · intro x hx
          rcases List.mem_append.mp hx with hx | hx
          · exact hL x hx
          · rw [List.mem_singleton.mp hx]; exact hcl
        · rw [upd_same, List.map_append]; rfl
        · intro b o e hb
          by_cases hbD : b = D
          · subst hbD
            have q1 := (s1.trans s2) b o e hb
            rw [hD] at q1; cases q1
          · rw [upd_ne hbD]; exact (sd.trans s4) b o e hb
      · rintro H3 ⟨cs, hl, hL, hd, wd, sd⟩
        refine ⟨_, D, cs.map fun c => (⟨#[c]⟩ : Str), rfl, rfl, Or.inl (SqL.of (by rw [hd, List.map_map]; rfl)), ?_, ?_⟩
        · rw [List.map_map, List.length_map, hl]
          have e1 : ∀ l : List Nat, (l.map (Function.comp (fun x : Str => x.length) fun c => (⟨#[c]⟩ : Str))).sum = l.length := by
            intro l
            induction l with
            | nil => rfl
            | cons c l ih => rw [List.map_cons, List.sum_cons, ih]; show 1 + l.length = _; rw [List.length_cons]; omega
          rw [e1, hl]
          show _ + _ * 0 ≤ _
          omega
        · rw [join_is]
          exact k _ H3 (isW_S hL (by omega) (by omega)) wd sd
end
end KP
namespace KP
open PySem L2 KM
/-! ### the mathematics of names -/
theorem len_le_of_sub {α : Type} [DecidableEq α] : ∀ {l m : List α}, l.Nodup → (∀ x ∈ l, x ∈ m) → l.length ≤ m.length
  | [], _, _, _ => Nat.zero_le _
  | a :: l, m, hn, hs => by
    have ha : a ∈ m := hs a List.mem_cons_self
    have hn' := List.nodup_cons.mp hn
    have ih := len_le_of_sub (l := l) (m := m.erase a) hn'.2 (fun x hx => (List.mem_erase_of_ne (fun (e : x = a) => hn'.1 (e ▸ hx))).mpr (hs x (List.mem_cons_of_mem _ hx)))
    have e := List.length_erase_of_mem ha
    have p := List.length_pos_of_mem ha
    rw [List.length_cons]
    omega
def stem (y : Str) : Str := cutS y none (some 7)
def cands (y : Str) : List Str := y :: letters.cps.toList.map fun c => stem y ++ (⟨#[c]⟩ : Str)
theorem stem_S (y : Str) : stem y = SX.S (y.cps.toList.take 7) := by
  unfold stem
  rw [C8.cutS_slice]
  have h := SX.slice_to (a := y.cps.toList) (i := 7) (by decide)
  rw [SX.S_tl] at h
  exact h
theorem cand_S (y : Str) (c : Nat) : stem y ++ (⟨#[c]⟩ : Str) = SX.S (y.cps.toList.take 7 ++ [c]) := by
  rw [stem_S]
  exact SX.S_cat _ [c]
theorem cands_ok {y : Str} (h : IsW y) : ∀ x ∈ cands y, IsW x := by
  intro x hx
  rcases List.mem_cons.mp hx with rfl | hx
  · exact h
  · obtain ⟨c, hc, rfl⟩ := List.mem_map.mp hx
    rw [cand_S]
    refine isW_S (fun d hd => ?_) (by simp) (by simp; omega)
    rcases List.mem_append.mp hd with hd | hd
    · exact h.1 d (List.mem_of_mem_take hd)
    · rw [List.mem_singleton.mp hd]; exact hc
theorem letters_nd : letters.cps.toList.Nodup := by decide +kernel
theorem letters_len : letters.cps.toList.length = 26 := by decide +kernel
theorem nodup_map {α β : Type} {f : α → β} (hf : ∀ a b, f a = f b → a = b) : ∀ {l : List α}, l.Nodup → (l.map f).Nodup
  | [], _ => List.nodup_nil
  | a :: l, h => by
    have h' := List.nodup_cons.mp h
    rw [List.map_cons, List.nodup_cons]
    refine ⟨fun hm => ?_, nodup_map hf h'.2⟩
    obtain ⟨b, hb, e⟩ := List.mem_map.mp hm
    exact h'.1 (hf b a e ▸ hb)
def fresh (y : Str) (xs : List Str) : List Str := (cands y).filter fun c => !decide (c ∈ xs)
theorem fresh_ne {y : Str} {xs : List Str} (h : xs.length ≤ 8) : ∃ z zs, fresh y xs = z :: zs ∧ z ∈ cands y ∧ ¬ z ∈ xs := by
  cases e : fresh y xs with
  | nil =>
    exfalso
    have nd : (letters.cps.toList.map fun c => stem y ++ (⟨#[c]⟩ : Str)).Nodup := nodup_map (fun a b q => by
      rw [cand_S, cand_S] at q
      have := List.append_cancel_left (SX.S_inj q)
      simpa using this) letters_nd
    have hle := len_le_of_sub (m := xs) nd (fun x hx => by
      by_cases hm : x ∈ xs
      · exact hm
      · have : x ∈ fresh y xs := List.mem_filter.mpr ⟨List.mem_cons_of_mem _ hx, by simp [hm]⟩
        rw [e] at this
        cases this)
    rw [List.length_map, letters_len] at hle
    omega
  | cons z zs =>
    have hz : z ∈ fresh y xs := by rw [e]; exact List.mem_cons_self
    have h2 := List.mem_filter.mp hz
    exact ⟨z, zs, rfl, h2.1, by simpa using h2.2⟩
theorem strOk_W {x : Str} (h : IsW x) : PyData.strOk x = true := by
  have hb : letters.cps.toList.all (· < 0x110000) = true := by decide +kernel
  unfold PyData.strOk
  rw [← Array.all_toList, List.all_eq_true]
  intro c hc
  exact List.all_eq_true.mp hb c (h.1 c hc)
theorem canLay_strs : ∀ {xs : List Str}, (∀ x ∈ xs, PyData.strOk x = true) → PyData.canLayAll0 (xs.map PyData.str) = true
  | [], _ => rfl
  | x :: xs, h => by
    show (PyData.strOk x && PyData.canLayAll0 (xs.map PyData.str)) = true
    rw [h x List.mem_cons_self, canLay_strs fun y hy => h y (List.mem_cons_of_mem _ hy)]
    rfl
theorem depth_strs : ∀ {xs : List Str}, PyData.depthAll (xs.map PyData.str) = 0
  | [] => rfl
  | x :: xs => by
    show max 0 (PyData.depthAll (xs.map PyData.str)) = 0
    rw [depth_strs]
    rfl
theorem shaped_strs {xs : List Str} (h : ∀ x ∈ xs, PyData.strOk x = true) : SeqAt.shaped (.list (xs.map PyData.str)) = true := by
  have h1 : (PyData.list (xs.map PyData.str)).canLay0 = true := canLay_strs h
  have h2 : (PyData.list (xs.map PyData.str)).depth ≤ 64 := by
    show PyData.depthAll (xs.map PyData.str) + 1 ≤ 64
    rw [depth_strs]; decide
  unfold SeqAt.shaped
  rw [h1, decide_eq_true h2]
  rfl
theorem dp_strs {K : PySem.W.Frag} {H : Hp} : ∀ (xs : List Str), DpAll K H (xs.map V.str) (xs.map PyData.str)
  | [] => .nil
  | x :: xs => .cons (.str x) (dp_strs xs)
theorem inV_str {x : Str} : ∀ {xs : List Str}, inV (.str x) (xs.map V.str) = decide (x ∈ xs)
  | [] => by simp [inV]
  | y :: xs => by
    have ih := inV_str (x := x) (xs := xs)
    unfold inV at ih ⊢
    rw [List.map_cons, List.any_cons, ih]
    show ((y == x) || decide (x ∈ xs)) = decide (x ∈ y :: xs)
    by_cases h : y = x
    · subst h; simp
    · have h' : (y == x) = false := beq_eq_false_iff_ne.mpr h
      have h'' : ¬ x = y := fun e => h e.symm
      rw [h']; simp [h'']
theorem flat_strs {xs : List Str} : (xs.map V.str).all flatV = true := by
  rw [List.all_eq_true]
  intro v hv
  obtain ⟨x, _, rfl⟩ := List.mem_map.mp hv
  rfl
theorem take_more {α : Type} : ∀ {l : List α} {i : Nat} {x : α}, l[i]? = some x → l.take (i + 1) = l.take i ++ [x]
  | [], i, x, h => by simp at h
  | a :: l, 0, x, h => by
    have e : a = x := Option.some.inj h
    subst e
    rfl
  | a :: l, i + 1, x, h => by
    have ih := take_more (l := l) (i := i) (x := x) h
    show a :: l.take (i + 1) = a :: l.take i ++ [x]
    rw [ih]
    rfl
abbrev sNames : Stmt := top 28
def spNames : Sp := fun vs H Q _ => ∃ (a : Addr) (m : Nat), vs = [.ref a, .int (m : Int)] ∧ WellAt H a ∧ m ≤ 8 ∧ ∀ (p : Addr) (xs : List Str) (H' : Hp), xs.length = m → (∀ x ∈ xs, IsW x) → xs.Nodup → H p = none → H' p = some (.lst (xs.map V.str)) → WellAt H' a → SameB a H H' → Q (.ref p) H'
section
variable {P : Program} {w : World} {K : PySem.W.Frag} {mg : Str → Option Value} {base : Heap}
abbrev nNames : List Str := ["_law_well_here", "_law_many", "_law_found", "_law_k", "_law_name_here", "_law_some", "_law_sign", "_law_one"]
theorem scNames : FnScope nNames ["_law_well_here", "_law_many"] (defScope sNames) := ⟨rfl, rfl, rfl, by decide +kernel, rfl, by decide +kernel, by decide +kernel⟩
theorem c_names (B : Base K mg) (Dr : Cal P w K mg base 1 "_law_draw" spDraw) (Nm : Cal P w K mg base 2 "_law_name" spName) (D : DefT K mg "_law_names" sNames ["_law_well_here", "_law_many"]) : Cal P w K mg base 3 "_law_names" spNames := by
  refine cal D scNames (fun vs H Q E h => ?_) (fun f cdv A outer s H vs Q E hr h => ?_)
  · obtain ⟨a, m, rfl, _⟩ := h
    rfl
  · obtain ⟨a, m, rfl, ha, m8, k⟩ := h
    refine ⟨_, pss_cons (ps_set (i := 2) scNames.nd rfl (by first | exact Or.inl rfl | exact Or.inr rfl) (pe_lst pa_nil))
      (pss_cons (ps_for PassesOwn.never rfl (pi_range1 (by rfl) B.range (pa_cons (pv 1) pa_nil)) (pg_name (i := 3) scNames.nd rfl (Or.inl rfl))
        (pss_cons (ps_set (i := 4) scNames.nd rfl (by first | exact Or.inl rfl | exact Or.inr rfl) (pe_cl Nm hr (by decide) (by rfl) (pa_cons (pv 0) pa_nil)))
        (C8.pss_cut (ps_if (PW.pt (pw_and (pt_cmpR (op_neD hr.units) (pv 2) (pe_lst pa_nil) (nomark _)) (pw_and1 (pt_cmpR op_eq (pe_cl Dr hr (by decide) (by rfl) (pa_cons (pv 0) (pa_cons pe_int pa_nil))) pe_int (nomark _)))))
          (pss_one (ps_set (i := 4) scNames.nd rfl (by first | exact Or.inl rfl | exact Or.inr rfl) (pe_ix ix_list (pv 2) (pe_cl Dr hr (by decide) (by rfl) (pa_cons (pv 0) (pa_cons (pe_callB call_len_seq (by rfl) B.len PySem.boot_len (pa_cons (pv 2) pa_nil)) pa_nil))) (fun _ _ => rfl)))) pss_nil)
        (pss_cons (ps_set (i := 5) scNames.nd rfl (by first | exact Or.inl rfl | exact Or.inr rfl) (pe_op op_cat (pe_lst (pa_cons (pv 4) pa_nil))
          (pe_lc (own := [("_law_sign", 6)]) (g := gName 6) (tt := tYes) rfl scNames.nd (pi_str pe_str) (blkOk_by (N := nNames) (sc := defScope sNames) (by decide +kernel)) (fun _ _ _ _ _ => pg_name (i := 6) scNames.nd rfl (Or.inl rfl)) (fun _ _ _ _ _ => pts_nil)
            (fun _ _ _ _ _ => pe_op op_add_str (pe_slice sl_str (pv 4) po_none (po_some pe_int)) (pv 6)))))
        (pss_one (ps_expr (pe_bm PySem.F.plainAttrs_list PySem.F.slot_list_append PySem.F.type_list_append mt_append (pv 2) (pa_cons (pe_ix ix_list
          (pe_lc (own := [("_law_one", 7)]) (g := gName 7) (tt := tTest (tOp (rIn K true) (tVar 7) (tVar 2))) rfl scNames.nd (pi_list (pv 5)) (blkOk_by (N := nNames) (sc := defScope sNames) (by decide +kernel)) (fun _ _ _ _ _ => pg_name (i := 7) scNames.nd rfl (Or.inl rfl))
            (fun _ _ _ _ _ => pts_one (pt_cmpR op_notIn_seq (pv 7) (pv 2) rfl)) (fun _ _ _ _ _ => pv 7)) pe_int (fun _ _ => rfl)) pa_nil))))))))
      (pss_one (ps_ret (pv 2)))), ?_⟩
    refine ⟨(by show 0 ≤ sizeLine; decide), fun F hF => ?_⟩
    have aF : a ≠ F := ha.ne hF
    refine ⟨_, rfl, _, rfl, by omega, by omega, for_range (lo := 0) (n := (m : Int).toNat) (fun i σ H' => ∃ (xs : List Str) (v3 v4 v5 : Option V), σ = [some (.ref a), some (.int (m : Int)), some (.ref F), v3, v4, v5, none, none] ∧ xs.length = i ∧ (∀ x ∈ xs, IsW x) ∧ xs.Nodup ∧ H' F = some (.lst (xs.map V.str)) ∧ WellAt H' a ∧ SameB a H H')
      ⟨[], none, none, none, rfl, rfl, (fun _ h => nomatch h), List.nodup_nil, upd_same, ha.new hF, SameB.of (same_new hF)⟩ ?_ ?_⟩
    · rintro i σ H1 hi ⟨xs, v3, v4, v5, rfl, hl, hw, hnd, hx, w1, s1⟩
      have hl8 : xs.length ≤ 8 := by omega
      have hz : sizeLine = 16777216 := by decide
      refine ⟨_, rfl, a, rfl, w1, fun y H2 hy w2 s2 => ?_⟩
      have hx2 : H2 F = some (.lst (xs.map V.str)) := s2 F _ hx aF.symm
      refine ⟨fun σ' H' => ∃ (y : Str) (v3 v5 : Option V), σ' = [some (.ref a), some (.int (m : Int)), some (.ref F), v3, some (.str y), v5, none, none] ∧ IsW y ∧ H' F = some (.lst (xs.map V.str)) ∧ WellAt H' a ∧ SameB a H H', ?_, ?_⟩
      · refine ⟨_, rfl, (by show 0 ≤ sizeLine; decide), fun t ht => ?_⟩
        have Ft : F ≠ t := ne_of_none hx2 ht
        refine ⟨.list (xs.map PyData.str), .list [], .lst (SqL.of (by rw [upd_ne Ft]; exact hx2)) (dp_strs xs), .lst (SqL.of upd_same) .nil, shaped_strs (fun x h => strOk_W (hw x h)), by decide +kernel, _, rfl, ?_⟩
        have s3 : SameB a H (upd H2 t (.lst [])) := (s1.trans s2).trans (SameB.of (same_new ht))
        have w3 : WellAt (upd H2 t (.lst [])) a := w2.new ht
        have hx3 : (upd H2 t (.lst [])) F = some (.lst (xs.map V.str)) := by rw [upd_ne Ft]; exact hx2
        refine ite2 (fun c => ?_) (fun _ => ?_)
        · refine ⟨_, rfl, a, 3, rfl, w3, by decide, by decide, fun r H4 r0 r3 w4 s4 => ⟨rfl, _, rfl, ite2 (fun _ => ?_) (fun _ => ?_)⟩⟩
          · have hx4 : H4 F = some (.lst (xs.map V.str)) := s4 F _ hx3 aF.symm
            have hp : 0 < xs.length := by
              rcases Nat.eq_zero_or_pos xs.length with e | e
              · have e2 := List.length_eq_zero_iff.mp e
                subst e2
                exact absurd c (by decide +kernel)
              · exact e
            refine ⟨_, rfl, _, rfl, _, rfl, F, _, rfl, .inl (SqL.of hx4), a, _, rfl, w4, (by rw [List.length_map]; omega), (by rw [List.length_map]; omega), fun r2 H5 r20 r21 w5 s5 => ?_⟩
            obtain ⟨v, hv, hm⟩ := get_lt (l := xs.map V.str) r20 r21
            obtain ⟨z, hzm, rfl⟩ := List.mem_map.mp hm
            exact ⟨F, _, r2, .str z, rfl, rfl, SqL.of (s5 F _ hx4 aF.symm), hv, z, _, _, rfl, hw z hzm, s5 F _ hx4 aF.symm, w5, (s3.trans s4).trans s5⟩
          · exact ⟨y, _, _, rfl, hy, s4 F _ hx3 aF.symm, w4, s3.trans s4⟩
        · exact iteF ⟨y, _, _, rfl, hy, hx3, w3, s3⟩
      · rintro σ H3 ⟨y, v3, v5, rfl, hy, hx3, w3, s3⟩
        refine ⟨_, rfl, (by show 1 ≤ sizeLine; decide), fun l hl2 => ?_⟩
        refine ⟨_, rfl, fun D hD => lc_it walk_str (fun i H' => H' = upd (upd H3 l (.lst [.str y])) D (.lst ((letters.cps.toList.take i).map fun c => V.str (stem y ++ (⟨#[c]⟩ : Str))))) rfl (fun _ _ _ _ => trivial) ?_ ?_⟩
        · rintro i v H4 H5 hi rfl ⟨rfl, c, hc, rfl⟩
          have hi26 : i < 26 := by
            have e : (Str.cps "abcdefghijklmnopqrstuvwxyz").size = 26 := by decide +kernel
            omega
          have hst : (stem y).length ≤ 8 := Nat.le_trans (cutS_length y none (some 7)) hy.2.2
          refine ⟨rfl, yes (iteT ⟨_, rfl, _, rfl, y, rfl, (by have := hy.2.2; omega), _, rfl, _, _, rfl, rfl, ?_, _, upd_same, ?_, ?_⟩)⟩
          · show (stem y).length + 1 ≤ sizeLine
            omega
          · rw [List.length_map, List.length_take]
            omega
          · rw [upd_upd]
            congr 2
            rw [take_more (l := letters.cps.toList) (x := c) (by rw [← hc]; exact Array.getElem?_toList ..), List.map_append]
            rfl
        · rintro H4 rfl
          have lD : l ≠ D := ne_of_none upd_same hD
          have e26 : (letters.cps.toList.take (Str.cps "abcdefghijklmnopqrstuvwxyz").size) = letters.cps.toList := List.take_of_length_le (by rw [letters_len]; decide +kernel)
          rw [e26]
          refine ⟨l, D, _, _, rfl, rfl, (by rw [upd_ne lD]; exact upd_same), upd_same, (by rw [List.length_map, letters_len]; show 1 + 26 ≤ sizeLine; decide), fun p hp => ?_⟩
          have hxl : (upd H3 l (.lst [.str y])) F = some (.lst (xs.map V.str)) := same_new hl2 _ _ hx3
          have hxD := same_new (o := .lst (letters.cps.toList.map fun c => V.str (stem y ++ (⟨#[c]⟩ : Str)))) hD _ _ hxl
          have hxp := same_new (o := .lst ([V.str y] ++ letters.cps.toList.map fun c => V.str (stem y ++ (⟨#[c]⟩ : Str)))) hp _ _ hxD
          have w4 := ((w3.new (o := .lst [.str y]) hl2).new (o := .lst (letters.cps.toList.map fun c => V.str (stem y ++ (⟨#[c]⟩ : Str)))) hD).new (o := .lst ([V.str y] ++ letters.cps.toList.map fun c => V.str (stem y ++ (⟨#[c]⟩ : Str)))) hp
          have s4 : SameB a H _ := ((s3.trans (SameB.of (same_new (o := .lst [.str y]) hl2))).trans (SameB.of (same_new (o := .lst (letters.cps.toList.map fun c => V.str (stem y ++ (⟨#[c]⟩ : Str)))) hD))).trans (SameB.of (same_new (o := .lst ([V.str y] ++ letters.cps.toList.map fun c => V.str (stem y ++ (⟨#[c]⟩ : Str)))) hp))
          have ec : [V.str y] ++ letters.cps.toList.map (fun c => V.str (stem y ++ (⟨#[c]⟩ : Str))) = (cands y).map V.str := by
            unfold cands
            rw [List.map_cons, List.map_map]
            rfl
          generalize hH4 : upd (upd (upd H3 l (.lst [.str y])) D (.lst (letters.cps.toList.map fun c => V.str (stem y ++ (⟨#[c]⟩ : Str))))) p (.lst ([V.str y] ++ letters.cps.toList.map fun c => V.str (stem y ++ (⟨#[c]⟩ : Str)))) = H4 at *
          have hp4 : H4 p = some (.lst ((cands y).map V.str)) := by rw [← hH4, upd_same, ec]
          refine ⟨_, rfl, .inl ⟨rfl, _, SqL.of hxp⟩, _, rfl, p, rfl, ⟨_, SqL.of hp4⟩, fun D2 hD2 => lc_it (walk_list (xs := (cands y).map V.str))
            (fun i H' => H' = upd H4 D2 (.lst ((((cands y).take i).filter fun c => !decide (c ∈ xs)).map V.str))) rfl (fun i H' _ e => by rw [e]; exact SqL.of (same_new hD2 _ _ hp4)) ?_ ?_⟩
          · rintro i v H5 H6 hi rfl ⟨rfl, hv⟩
            obtain ⟨z, hz2, rfl⟩ : ∃ z, (cands y)[i]? = some z ∧ v = V.str z := by
              rw [List.getElem?_map] at hv
              cases e : (cands y)[i]? with
              | none => rw [e] at hv; cases hv
              | some z => rw [e] at hv; exact ⟨z, rfl, (Option.some.inj hv).symm⟩
            refine ⟨rfl, _, rfl, _, rfl, F, _, rfl, .inl (SqL.of (same_new hD2 _ _ hxp)), rfl, flat_strs, _, rfl, ?_⟩
            show if (!inV (.str z) (xs.map V.str)) = true then _ else _
            rw [inV_str]
            have et := take_more hz2
            refine ite2 (fun c => ?_) (fun c => ?_)
            · refine ⟨_, rfl, _, upd_same, ?_, ?_⟩
              · have h1 : (((cands y).take i).filter fun c => !decide (c ∈ xs)).length ≤ ((cands y).take i).length := List.length_filter_le _ _
                rw [List.length_map]
                rw [List.length_take] at h1
                have h2 : (cands y).length = 27 := by unfold cands; rw [List.length_cons, List.length_map, letters_len]
                omega
              · rw [upd_upd, et, List.filter_append, List.map_append]
                congr 2
                rw [List.filter_cons, if_pos c]
                rfl
            · rw [et, List.filter_append, List.filter_cons, if_neg c]
              simp
          · rintro H5 rfl
            rw [List.length_map, List.take_length]
            obtain ⟨z, zs, ef, hzc, hzn⟩ := fresh_ne (y := y) hl8
            have ef2 : (cands y).filter (fun c => !decide (c ∈ xs)) = z :: zs := ef
            rw [ef2]
            refine ⟨D2, _, 0, .str z, rfl, rfl, SqL.of upd_same, atI_nat (j := 0) rfl, F, _, _, rfl, rfl, same_new hD2 _ _ hxp, (by rw [List.length_map]; omega), ?_⟩
            refine ⟨xs ++ [z], _, _, _, rfl, by rw [List.length_append, hl]; rfl, ?_, ?_, ?_, ?_, ?_⟩
            · intro x hx
              rcases List.mem_append.mp hx with hx | hx
              · exact hw x hx
              · rw [List.mem_singleton.mp hx]; exact cands_ok hy z hzc
            · refine List.nodup_append.mpr ⟨hnd, by simp, fun x hx u hu => ?_⟩
              rw [List.mem_singleton.mp hu]
              intro e
              exact hzn (e ▸ hx)
            · rw [upd_same, List.map_append]; rfl
            · exact (w4.new hD2).up aF
            · intro b o e hb
              have hbF : b ≠ F := ne_of_none e hF
              rw [upd_ne hbF]
              exact same_new hD2 _ _ (s4 b o e hb)
    · rintro σ H1 ⟨xs, v3, v4, v5, rfl, hl, hw, hnd, hx, w1, s1⟩
      exact ⟨_, rfl, k F xs H1 (by rw [hl]; rfl) hw hnd hF hx w1 s1⟩
end
end KP
namespace KP
open PySem L2 KM
abbrev sCoins : Stmt := top 29
abbrev sTold : Stmt := top 30
def spCoins : Sp := fun vs H Q _ => ∃ a : Addr, vs = [.ref a] ∧ WellAt H a ∧ ∀ c H', Coin c → WellAt H' a → SameB a H H' → Q (.int c) H'
def spToldT : Sp := fun vs H Q _ => ∃ a : Addr, vs = [.ref a] ∧ WellAt H a ∧ ∀ (q : Addr) (e : En) (H' : Hp), e.ok → H q = none → H' q = some (.tup e.tup) → SameB a H H' → Q (.ref q) H'
theorem free_of {a q : Addr} {H H1 : Hp} (w : WellAt H1 a) (s : SameB a H H1) (h : H1 q = none) : H q = none := by
  cases e : H q with
  | none => rfl
  | some o =>
    by_cases hq : q = a
    · subst hq
      obtain ⟨x, y, z, e1⟩ := w
      rw [h] at e1; cases e1
    · have := s q o e hq
      rw [h] at this; cases this
section
variable {P : Program} {w : World} {K : PySem.W.Frag} {mg : Str → Option Value} {base : Heap}
theorem scCoins : FnScope ["_law_well_here"] ["_law_well_here"] (defScope sCoins) := ⟨rfl, rfl, rfl, by decide +kernel, rfl, by decide +kernel, by decide +kernel⟩
theorem c_coins (Dr : Cal P w K mg base 1 "_law_draw" spDraw) (D : DefT K mg "_law_coins" sCoins ["_law_well_here"]) : Cal P w K mg base 2 "_law_coins" spCoins := by
  refine cal D scCoins (fun vs H Q E h => ?_) (fun f cdv A outer s H vs Q E hr h => ?_)
  · obtain ⟨a, rfl, _⟩ := h
    rfl
  · obtain ⟨a, rfl, ha, k⟩ := h
    refine ⟨_, pss_one (ps_ret (pe_ix ix_list (pe_lst (pa_cons pe_int (pa_cons (pe_op op_pow pe_int pe_int) (pa_cons (pe_op op_add pe_int (pe_cl Dr hr (by decide) (by rfl) (pa_cons (pv 0) (pa_cons (pe_op op_pow pe_int pe_int) pa_nil))))
      (pa_cons (pe_op op_add pe_int (pe_cl Dr hr (by decide) (by rfl) (pa_cons (pv 0) (pa_cons pe_int pa_nil)))) pa_nil))))) (pe_cl Dr hr (by decide) (by rfl) (pa_cons (pv 0) (pa_cons pe_int pa_nil))) (fun _ _ => rfl))), ?_⟩
    refine ⟨_, _, rfl, rfl, ⟨by decide, by decide, by decide⟩, _, rfl, _, _, rfl, rfl, ⟨by decide, by decide, by decide⟩, a, _, rfl, ha, by decide, by decide, fun r1 H1 r10 r11 w1 s1 => ?_⟩
    refine ⟨_, _, rfl, rfl, _, rfl, a, 50, rfl, w1, by decide, by decide, fun r2 H2 r20 r21 w2 s2 => ⟨_, _, rfl, rfl, (by show 4 ≤ sizeLine; decide), fun l hl => ?_⟩⟩
    refine ⟨_, rfl, a, 4, rfl, w2.new hl, by decide, by decide, fun r3 H3 r30 r31 w3 s3 => ?_⟩
    have hl3 := s3 l _ upd_same (w2.ne hl).symm
    have r11' : r1 < 1000000000000 := r11
    have s4 : SameB a H H3 := ((s1.trans s2).trans (SameB.of (same_new hl))).trans s3
    rcases (by omega : r3 = 0 ∨ r3 = 1 ∨ r3 = 2 ∨ r3 = 3) with rfl | rfl | rfl | rfl
    · exact ⟨l, _, _, _, rfl, rfl, SqL.of hl3, rfl, k 1 H3 ⟨by decide, by decide⟩ w3 s4⟩
    · exact ⟨l, _, _, _, rfl, rfl, SqL.of hl3, rfl, k 1000000000000 H3 ⟨by decide, by decide⟩ w3 s4⟩
    · exact ⟨l, _, _, _, rfl, rfl, SqL.of hl3, rfl, k (1 + r1) H3 ⟨by omega, by omega⟩ w3 s4⟩
    · exact ⟨l, _, _, _, rfl, rfl, SqL.of hl3, rfl, k (1 + r2) H3 ⟨by omega, by omega⟩ w3 s4⟩
def kinds7 : List Str := ["give", "hold", "move", "spend", "promise", "lessen", "out"]
abbrev nTold : List Str := ["_law_well_here", "_law_kind", "_law_one", "_law_other", "_law_coins_here", "_law_note"]
theorem scToldT : FnScope nTold ["_law_well_here"] (defScope sTold) := ⟨rfl, rfl, rfl, by decide +kernel, rfl, by decide +kernel, by decide +kernel⟩
theorem c_told (Dr : Cal P w K mg base 1 "_law_draw" spDraw) (Nm : Cal P w K mg base 2 "_law_name" spName) (Ns : Cal P w K mg base 3 "_law_names" spNames) (Cn : Cal P w K mg base 2 "_law_coins" spCoins) (D : DefT K mg "_law_told" sTold ["_law_well_here"]) :
    Cal P w K mg base 4 "_law_told" spToldT := by
  refine cal D scToldT (fun vs H Q E h => ?_) (fun f cdv A outer s H vs Q E hr h => ?_)
  · obtain ⟨a, rfl, _⟩ := h
    rfl
  · obtain ⟨a, rfl, ha, k⟩ := h
    refine ⟨_, pss_cons (ps_set (i := 1) scToldT.nd rfl (Or.inl rfl) (pe_ix ix_list (pe_lst (pa_cons pe_str (pa_cons pe_str (pa_cons pe_str (pa_cons pe_str (pa_cons pe_str (pa_cons pe_str (pa_cons pe_str pa_nil)))))))) (pe_cl Dr hr (by decide) (by rfl) (pa_cons (pv 0) (pa_cons pe_int pa_nil))) (fun _ _ => rfl)))
      (pss_cons (ps_asg (pe_cl Ns hr (by decide) (by rfl) (pa_cons (pv 0) (pa_cons pe_int pa_nil))) (pg_unl rfl (pgs_cons (pg_name (i := 2) scToldT.nd rfl (Or.inl rfl)) (pgs_cons (pg_name (i := 3) scToldT.nd rfl (Or.inl rfl)) pgs_nil))))
      (pss_cons (ps_set (i := 4) scToldT.nd rfl (Or.inl rfl) (pe_cl Cn hr (by decide) (by rfl) (pa_cons (pv 0) pa_nil)))
      (pss_cons (ps_set (i := 5) scToldT.nd rfl (Or.inl rfl) (pe_ix ix_list (pe_lst (pa_cons pe_str (pa_cons (pe_cl Nm hr (by decide) (by rfl) (pa_cons (pv 0) pa_nil)) (pa_cons (pv 2) (pa_cons (pv 3) pa_nil))))) (pe_cl Dr hr (by decide) (by rfl) (pa_cons (pv 0) (pa_cons pe_int pa_nil))) (fun _ _ => rfl)))
      (pss_cons (ps_if (pt_cmpR op_eq (pv 1) pe_str (nomark _)) (pss_one (ps_ret (pe_tup (pa_cons (pv 1) (pa_cons (pv 2) (pa_cons (pv 4) (pa_cons (pe_ix ix_list (pe_lst (pa_cons pe_int (pa_cons pe_int (pa_cons (pe_op op_add pe_int (pe_cl Dr hr (by decide) (by rfl) (pa_cons (pv 0) (pa_cons pe_int pa_nil)))) pa_nil))))
          (pe_cl Dr hr (by decide) (by rfl) (pa_cons (pv 0) (pa_cons pe_int pa_nil))) (fun _ _ => rfl)) (pa_cons (pv 5) pa_nil)))))))) pss_nil)
      (pss_cons (ps_if (pt_cmpR op_eq (pv 1) pe_str (nomark _)) (pss_one (ps_ret (pe_tup (pa_cons (pv 1) (pa_cons (pv 2) (pa_cons (pv 3) (pa_cons (pv 4) (pa_cons (pv 5) pa_nil)))))))) pss_nil)
      (pss_cons (ps_if (pt_cmpR op_eq (pv 1) pe_str (nomark _)) (pss_one (ps_ret (pe_tup (pa_cons (pv 1) (pa_cons (pe_ix ix_list (pe_lst (pa_cons (pv 3) (pa_cons (pv 2) pa_nil))) (pe_cl Dr hr (by decide) (by rfl) (pa_cons (pv 0) (pa_cons pe_int pa_nil))) (fun _ _ => rfl)) (pa_cons (pv 2) (pa_cons (pv 4) (pa_cons (pv 5) pa_nil)))))))) pss_nil)
      (pss_one (ps_ret (pe_tup (pa_cons (pv 1) (pa_cons (pv 2) (pa_cons (pv 4) (pa_cons (pv 5) pa_nil))))))))))))), ?_⟩
    refine ⟨(by show 7 ≤ sizeLine; decide), fun l hl => ⟨_, rfl, a, 7, rfl, ha.new hl, by decide, by decide, fun r1 H1 r10 r11 w1 s1 => ?_⟩⟩
    have hl1 := s1 l _ upd_same (ha.ne hl).symm
    have s1' : SameB a H H1 := (SameB.of (same_new hl)).trans s1
    obtain ⟨v, hv, hm⟩ := get_lt (l := kinds7.map V.str) r10 r11
    obtain ⟨kd, hkd, rfl⟩ := List.mem_map.mp hm
    refine ⟨l, _, r1, .str kd, rfl, rfl, SqL.of hl1, hv, ?_⟩
    refine ⟨_, rfl, a, 2, rfl, w1, by decide, fun p xs H2 xl xw xn np hp w2 s2 => ?_⟩
    obtain ⟨x, y, rfl⟩ : ∃ x y, xs = [x, y] := by
      match xs, xl with
      | [x, y], _ => exact ⟨x, y, rfl⟩
    have hx : IsW x := xw x (by simp)
    have hy : IsW y := xw y (by simp)
    have hxy : x ≠ y := fun e => by subst e; simp at xn
    refine ⟨p, _, rfl, SqL.of hp, rfl, _, _, rfl, _, _, rfl, rfl, ?_⟩
    refine ⟨_, rfl, a, rfl, w2, fun c H3 hc w3 s3 => ?_⟩
    refine ⟨_, rfl, a, rfl, w3, fun nm H4 hnm w4 s4 => ⟨_, rfl, _, rfl, (by show 4 ≤ sizeLine; decide), fun l2 hl2 => ?_⟩⟩
    refine ⟨_, rfl, a, 4, rfl, w4.new hl2, by decide, by decide, fun r2 H5 r20 r21 w5 s5 => ?_⟩
    have hl5 := s5 l2 _ upd_same (w4.ne hl2).symm
    obtain ⟨v, hv2, hm2⟩ := get_lt (l := ([("" : Str), nm, x, y]).map V.str) r20 r21
    obtain ⟨n, hn, rfl⟩ := List.mem_map.mp hm2
    have hN : IsN n := by
      simp at hn
      rcases hn with rfl | rfl | rfl | rfl
      · exact Or.inl rfl
      · exact Or.inr hnm
      · exact Or.inr hx
      · exact Or.inr hy
    refine ⟨l2, _, r2, .str n, rfl, rfl, SqL.of hl5, hv2, ?_⟩
    have s5' : SameB a H H5 := ((((s1'.trans s2).trans s3).trans s4).trans (SameB.of (same_new hl2))).trans s5
    have fin : ∀ (e : En) (H6 : Hp), e.ok → WellAt H6 a → SameB a H H6 → ∀ q, H6 q = none → Q (.ref q) (upd H6 q (.tup e.tup)) := fun e H6 he w6 s6 q hq => k q e _ he (free_of w6 s6 hq) upd_same (s6.trans (SameB.of (same_new hq)))
    refine ⟨_, rfl, rfl, _, rfl, ite2 (fun c1 => ?_) (fun c1 => ?_)⟩
    · have ek : kd = "hold" := by have := of_decide_eq_true c1; injection this
      subst ek
      refine ⟨_, rfl, _, rfl, _, rfl, _, rfl, a, 30, rfl, w5, by decide, by decide, fun r3 H6 r30 r31 w6 s6 => ⟨_, _, rfl, rfl, (by show 3 ≤ sizeLine; decide), fun l3 hl3 => ?_⟩⟩
      refine ⟨_, rfl, a, 3, rfl, w6.new hl3, by decide, by decide, fun r4 H7 r40 r41 w7 s7 => ?_⟩
      have hl7 := s7 l3 _ upd_same (w6.ne hl3).symm
      have s7' : SameB a H H7 := ((s5'.trans s6).trans (SameB.of (same_new hl3))).trans s7
      rcases (by omega : r4 = 0 ∨ r4 = 1 ∨ r4 = 2) with rfl | rfl | rfl
      · exact ⟨l3, _, _, _, rfl, rfl, SqL.of hl7, rfl, _, rfl, (by show 5 ≤ sizeLine; decide), fin (.hold x c 2 n) H7 ⟨hx, hc, ⟨by decide, by decide⟩, hN⟩ w7 s7'⟩
      · exact ⟨l3, _, _, _, rfl, rfl, SqL.of hl7, rfl, _, rfl, (by show 5 ≤ sizeLine; decide), fin (.hold x c 31 n) H7 ⟨hx, hc, ⟨by decide, by decide⟩, hN⟩ w7 s7'⟩
      · exact ⟨l3, _, _, _, rfl, rfl, SqL.of hl7, rfl, _, rfl, (by show 5 ≤ sizeLine; decide), fin (.hold x c (2 + r3) n) H7 ⟨hx, hc, ⟨by omega, by omega⟩, hN⟩ w7 s7'⟩
    · refine ⟨_, rfl, rfl, _, rfl, ite2 (fun c2 => ?_) (fun c2 => ?_)⟩
      · have ek : kd = "move" := by have := of_decide_eq_true c2; injection this
        subst ek
        exact ⟨_, rfl, _, rfl, _, rfl, _, rfl, _, rfl, (by show 5 ≤ sizeLine; decide), fin (.move x y c n) H5 ⟨hx, hy, hxy, hc, hN⟩ w5 s5'⟩
      · refine ⟨_, rfl, rfl, _, rfl, ite2 (fun c3 => ?_) (fun c3 => ?_)⟩
        · have ek : kd = "promise" := by have := of_decide_eq_true c3; injection this
          subst ek
          refine ⟨_, rfl, _, rfl, _, rfl, (by show 2 ≤ sizeLine; decide), fun l3 hl3 => ?_⟩
          refine ⟨_, rfl, a, 2, rfl, w5.new hl3, by decide, by decide, fun r4 H7 r40 r41 w7 s7 => ?_⟩
          have hl7 := s7 l3 _ upd_same (w5.ne hl3).symm
          have s7' : SameB a H H7 := (s5'.trans (SameB.of (same_new hl3))).trans s7
          rcases (by omega : r4 = 0 ∨ r4 = 1) with rfl | rfl
          · exact ⟨l3, _, _, _, rfl, rfl, SqL.of hl7, rfl, _, rfl, _, rfl, _, rfl, (by show 5 ≤ sizeLine; decide), fin (.promise y x c n) H7 ⟨hy, hx, hc, hN⟩ w7 s7'⟩
          · exact ⟨l3, _, _, _, rfl, rfl, SqL.of hl7, rfl, _, rfl, _, rfl, _, rfl, (by show 5 ≤ sizeLine; decide), fin (.promise x x c n) H7 ⟨hx, hx, hc, hN⟩ w7 s7'⟩
        · refine ⟨_, rfl, _, rfl, _, rfl, _, rfl, (by show 4 ≤ sizeLine; decide), ?_⟩
          simp only [kinds7, List.mem_cons, List.not_mem_nil, or_false] at hkd
          rcases hkd with rfl | rfl | rfl | rfl | rfl | rfl | rfl
          · exact fin (.give x c n) H5 ⟨hx, hc, hN⟩ w5 s5'
          · exact absurd (decide_eq_true rfl) c1
          · exact absurd (decide_eq_true rfl) c2
          · exact fin (.spend x c n) H5 ⟨hx, hc, hN⟩ w5 s5'
          · exact absurd (decide_eq_true rfl) c3
          · exact fin (.lessen x c n) H5 ⟨hx, hc, hN⟩ w5 s5'
          · exact fin (.out x c n) H5 ⟨hx, hc, hN⟩ w5 s5'
end
end KP
namespace KP
open PySem L2 KM
/-! ### one of several readings -/
theorem pe_alt {X : Cx} {e : Expr} {t u : TE} (h : PE X e t) (g : PE X e u) : PE X e (fun σ H Q => t σ H Q ∨ u σ H Q) := ⟨fun pins s σ H Q I hw => by
  rcases hw with hw | hw
  · exact h.run pins s σ H Q I hw
  · exact g.run pins s σ H Q I hw⟩
def kindOf (k : Nat) : Str := kinds7.getD k ""
theorem kind_of (e : En) : e.kind = kindOf e.k := by cases e <;> rfl
theorem k_lt (e : En) : e.k < 7 := by cases e <;> simp [En.k]
def bits (k : Nat) : List Bool := kinds7.map fun x => decide (V.str x = V.str (kindOf k))
theorem bits_is : ∀ k < 7, (List.range 7).map (fun j => decide (k = j)) = bits k := by decide +kernel
/-! ### entries as data -/
def okd (v : V) : Prop := (∃ x, v = .str x ∧ PyData.strOk x = true) ∨ ∃ i, v = .int i
def dat : V → PyData
  | .str x => .str x
  | .int i => .int i
  | _ => .none
theorem dp_flat {K : PySem.W.Frag} {H : Hp} : ∀ {vs : List V}, (∀ v ∈ vs, okd v) → DpAll K H vs (vs.map dat)
  | [], _ => .nil
  | v :: vs, h => by
    refine .cons ?_ (dp_flat fun u hu => h u (List.mem_cons_of_mem _ hu))
    rcases h v List.mem_cons_self with ⟨x, rfl, _⟩ | ⟨i, rfl⟩
    · exact .str x
    · exact .int i
theorem lay_flat : ∀ {vs : List V}, (∀ v ∈ vs, okd v) → PyData.canLayAll0 (vs.map dat) = true ∧ PyData.depthAll (vs.map dat) = 0
  | [], _ => ⟨rfl, rfl⟩
  | v :: vs, h => by
    obtain ⟨h1, h2⟩ := lay_flat (vs := vs) fun u hu => h u (List.mem_cons_of_mem _ hu)
    have hv : (dat v).canLay0 = true ∧ (dat v).depth = 0 := by
      rcases h v List.mem_cons_self with ⟨x, rfl, hx⟩ | ⟨i, rfl⟩
      · exact ⟨hx, rfl⟩
      · exact ⟨rfl, rfl⟩
    refine ⟨?_, ?_⟩
    · show ((dat v).canLay0 && PyData.canLayAll0 (vs.map dat)) = true
      rw [hv.1, h1]; rfl
    · show max (dat v).depth (PyData.depthAll (vs.map dat)) = 0
      rw [hv.2, h2]; rfl
theorem shaped_tup {vs : List V} (h : ∀ v ∈ vs, okd v) : SeqAt.shaped (.tuple (vs.map dat)) = true := by
  obtain ⟨h1, h2⟩ := lay_flat h
  have e1 : (PyData.tuple (vs.map dat)).canLay0 = true := h1
  have e2 : (PyData.tuple (vs.map dat)).depth ≤ 64 := by
    show PyData.depthAll (vs.map dat) + 1 ≤ 64
    rw [h2]; decide
  unfold SeqAt.shaped
  rw [e1, decide_eq_true e2]; rfl
theorem eqv_self {d : PyData} (h : SeqAt.shaped d = true) : PyData.eqv d d = true := SeqAt.eqv_refl d (SeqAt.canLay_of_shaped h)
theorem strOk_N {x : Str} (h : IsN x) : PyData.strOk x = true := by
  rcases h with rfl | h
  · decide +kernel
  · exact strOk_W h
theorem okd_N {x : Str} (h : IsN x) : okd (.str x) := .inl ⟨x, rfl, strOk_N h⟩
theorem okd_W {x : Str} (h : IsW x) : okd (.str x) := .inl ⟨x, rfl, strOk_W h⟩
theorem okd_I {i : Int} : okd (.int i) := .inr ⟨i, rfl⟩
theorem kinds_ok : ∀ k < 7, PyData.strOk (kindOf k) = true := by decide +kernel
theorem tup_okd {e : En} (h : e.ok) : ∀ v ∈ e.tup, okd v := by
  intro v hv
  rcases List.mem_cons.mp hv with rfl | hv
  · exact .inl ⟨_, rfl, by rw [kind_of]; exact kinds_ok _ (k_lt e)⟩
  · cases e with
    | give x0 x1 x2 =>
      obtain ⟨hw1, hc, hn⟩ := h
      simp only [En.args, List.mem_cons, List.not_mem_nil, or_false] at hv
      rcases hv with rfl | rfl | rfl
      · exact okd_W hw1
      · exact okd_I
      · exact okd_N hn
    | hold x0 x1 x2 x3 =>
      obtain ⟨hw1, hc, hu, hn⟩ := h
      simp only [En.args, List.mem_cons, List.not_mem_nil, or_false] at hv
      rcases hv with rfl | rfl | rfl | rfl
      · exact okd_W hw1
      · exact okd_I
      · exact okd_I
      · exact okd_N hn
    | move x0 x1 x2 x3 =>
      obtain ⟨hw1, hw2, hne, hc, hn⟩ := h
      simp only [En.args, List.mem_cons, List.not_mem_nil, or_false] at hv
      rcases hv with rfl | rfl | rfl | rfl
      · exact okd_W hw1
      · exact okd_W hw2
      · exact okd_I
      · exact okd_N hn
    | spend x0 x1 x2 =>
      obtain ⟨hw1, hc, hn⟩ := h
      simp only [En.args, List.mem_cons, List.not_mem_nil, or_false] at hv
      rcases hv with rfl | rfl | rfl
      · exact okd_W hw1
      · exact okd_I
      · exact okd_N hn
    | promise x0 x1 x2 x3 =>
      obtain ⟨hw1, hw2, hc, hn⟩ := h
      simp only [En.args, List.mem_cons, List.not_mem_nil, or_false] at hv
      rcases hv with rfl | rfl | rfl | rfl
      · exact okd_W hw1
      · exact okd_W hw2
      · exact okd_I
      · exact okd_N hn
    | lessen x0 x1 x2 =>
      obtain ⟨hw1, hc, hn⟩ := h
      simp only [En.args, List.mem_cons, List.not_mem_nil, or_false] at hv
      rcases hv with rfl | rfl | rfl
      · exact okd_W hw1
      · exact okd_I
      · exact okd_N hn
    | out x0 x1 x2 =>
      obtain ⟨hw1, hc, hn⟩ := h
      simp only [En.args, List.mem_cons, List.not_mem_nil, or_false] at hv
      rcases hv with rfl | rfl | rfl
      · exact okd_W hw1
      · exact okd_I
      · exact okd_N hn
theorem dp_bools {K : PySem.W.Frag} {H : Hp} : ∀ (bs : List Bool), DpAll K H (bs.map V.bl) (bs.map PyData.bool)
  | [] => .nil
  | b :: bs => .cons (.bl b) (dp_bools bs)
theorem bools_shaped : ∀ k < 7, SeqAt.shaped (.list ((bits k).map PyData.bool)) = true := by decide +kernel
/-! ### what the law asks of classes -/
structure Kits (K : PySem.W.Frag) (mg : Str → Option Value) (C : Nat → Addr) (E : Addr) : Prop where
  cl : ∀ k < 7, Cls K (C k)
  ha : ∀ k < 7, PySem.W.findIn K (.ref (C k)) "__class__" = some (some (.builtin "object.__class__"))
  hn : PySem.W.specialIn K (.builtin "object.__class__") "__get__" = some (some (.builtin "getset_descriptor.__get__"))
  htk : PySem.W.takesIn K (.builtin "object.__class__") = some true
  hm : ∀ k < 7, PySem.W.mroIn K (C k) (.type "object") = some true
  kit : ∀ k < 7, ∀ j < 7, PySem.W.kitOne K (.ref (C k)) (.ref (C j)) = some (decide (k = j))
  kitE : ∀ k < 7, PySem.W.kitOne K (.ref (C k)) (.ref E) = some true
  mgE : mg "Entry" = some (.ref E)
  nF : ∀ e : En, ∀ f ∈ e.fs.map Prod.fst, NoAttr K (C e.k) f
  m0 : mg "Give" = some (.ref (C 0))
  m1 : mg "Hold" = some (.ref (C 1))
  m2 : mg "Move" = some (.ref (C 2))
  m3 : mg "Spend" = some (.ref (C 3))
  m4 : mg "Promise" = some (.ref (C 4))
  m5 : mg "Lessen" = some (.ref (C 5))
  m6 : mg "Out" = some (.ref (C 6))
abbrev sKinds : Stmt := top 32
abbrev sFields : Stmt := top 33
abbrev sIs : Stmt := top 34
abbrev sLaw : Stmt := top 35
def spKinds (C : Nat → Addr) : Sp := fun vs H Q _ => ∃ (p : Addr) (e : En), vs = [.ref p] ∧ EntAt C H p e ∧ ∀ q H', Same H H' → H q = none → H' q = some (.lst ((bits e.k).map V.bl)) → Q (.ref q) H'
def spFields (C : Nat → Addr) : Sp := fun vs H Q _ => ∃ (p : Addr) (e : En), vs = [.ref p, .str e.kind] ∧ EntAt C H p e ∧ ∀ q, H q = none → Q (.ref q) (upd H q (.tup e.tup))
def spIs (C : Nat → Addr) : Sp := fun vs H Q _ => ∃ (p t : Addr) (e : En), vs = [.ref p, .ref t] ∧ EntAt C H p e ∧ H t = some (.tup e.tup) ∧ e.ok ∧ ∀ H', Same H H' → Q (.bl true) H'
section
variable {P : Program} {w : World} {K : PySem.W.Frag} {mg : Str → Option Value} {base : Heap} {C : Nat → Addr} {E : Addr}
theorem Kits.ty (T : Kits K mg C E) {H : Hp} {p : Addr} {e : En} (h : EntAt C H p e) : TyX K H (.ref p) (.ref (C e.k)) := by
  obtain ⟨dx, h⟩ := h
  exact .base (.ins h (T.cl _ (k_lt e)) (T.ha _ (k_lt e)) T.hn T.htk (T.hm _ (k_lt e)))
theorem scKinds : FnScope ["_law_entry", "_law_found"] ["_law_entry"] (defScope sKinds) := ⟨rfl, rfl, rfl, by decide +kernel, rfl, by decide +kernel, by decide +kernel⟩
theorem EntAt.same {H H' : Hp} {p : Addr} {e : En} (h : EntAt C H p e) (s : Same H H') : EntAt C H' p e := by
  obtain ⟨dx, h⟩ := h
  exact ⟨dx, s _ _ h⟩
theorem c_kinds (B : Base K mg) (T : Kits K mg C E) (D : DefT K mg "_law_kinds" sKinds ["_law_entry"]) : Cal P w K mg base 1 "_law_kinds" (spKinds C) := by
  refine cal D scKinds (fun vs H Q E h => ?_) (fun f cdv A outer s H vs Q E hr h => ?_)
  · obtain ⟨p, e, rfl, _⟩ := h
    rfl
  · obtain ⟨p, e, rfl, he, k⟩ := h
    refine ⟨_, pss_cons (ps_set (i := 1) scKinds.nd rfl (Or.inl rfl) (pe_lst (pa_cons (pe_callB call_isi (by rfl) B.isi (by decide +kernel) (pa_cons (pv 0) (pa_cons (pe_glob (v := .ref (C 0)) rfl T.m0 rfl) pa_nil))) (pa_cons (pe_callB call_isi (by rfl) B.isi (by decide +kernel) (pa_cons (pv 0) (pa_cons (pe_glob (v := .ref (C 1)) rfl T.m1 rfl) pa_nil))) (pa_cons (pe_callB call_isi (by rfl) B.isi (by decide +kernel) (pa_cons (pv 0) (pa_cons (pe_glob (v := .ref (C 2)) rfl T.m2 rfl) pa_nil))) (pa_cons (pe_callB call_isi (by rfl) B.isi (by decide +kernel) (pa_cons (pv 0) (pa_cons (pe_glob (v := .ref (C 3)) rfl T.m3 rfl) pa_nil))) pa_nil))))))
      (pss_one (ps_ret (pe_op op_cat (pv 1) (pe_lst (pa_cons (pe_callB call_isi (by rfl) B.isi (by decide +kernel) (pa_cons (pv 0) (pa_cons (pe_glob (v := .ref (C 4)) rfl T.m4 rfl) pa_nil))) (pa_cons (pe_callB call_isi (by rfl) B.isi (by decide +kernel) (pa_cons (pv 0) (pa_cons (pe_glob (v := .ref (C 5)) rfl T.m5 rfl) pa_nil))) (pa_cons (pe_callB call_isi (by rfl) B.isi (by decide +kernel) (pa_cons (pv 0) (pa_cons (pe_glob (v := .ref (C 6)) rfl T.m6 rfl) pa_nil))) pa_nil))))))), ?_⟩
    have ty := T.ty he
    have kit := fun j hj => T.kit e.k (k_lt e) j hj
    refine ⟨_, rfl, _, _, _, _, _, rfl, .own _, ty, kit 0 (by decide), _, rfl, _, _, _, _, _, rfl, .own _, ty, kit 1 (by decide), _, rfl, _, _, _, _, _, rfl, .own _, ty, kit 2 (by decide), _, rfl, _, _, _, _, _, rfl, .own _, ty, kit 3 (by decide), (by show 4 ≤ sizeLine; decide), fun l hl => ?_⟩
    have ty2 := T.ty (he.same (same_new (o := .lst [V.bl (decide (e.k = 0)), V.bl (decide (e.k = 1)), V.bl (decide (e.k = 2)), V.bl (decide (e.k = 3))]) hl))
    refine ⟨_, rfl, _, rfl, _, _, _, _, _, rfl, .own _, ty2, kit 4 (by decide), _, rfl, _, _, _, _, _, rfl, .own _, ty2, kit 5 (by decide), _, rfl, _, _, _, _, _, rfl, .own _, ty2, kit 6 (by decide), (by show 3 ≤ sizeLine; decide), fun q hq => ?_⟩
    have lq : l ≠ q := ne_of_none upd_same hq
    refine ⟨l, q, _, _, rfl, rfl, (by rw [upd_ne lq]; exact upd_same), upd_same, (by show 4 + 3 ≤ sizeLine; decide), fun r hr2 => ?_⟩
    have s3 : Same H _ := ((same_new (o := .lst [V.bl (decide (e.k = 0)), V.bl (decide (e.k = 1)), V.bl (decide (e.k = 2)), V.bl (decide (e.k = 3))]) hl).trans (same_new (o := .lst [V.bl (decide (e.k = 4)), V.bl (decide (e.k = 5)), V.bl (decide (e.k = 6))]) hq)).trans (same_new (o := .lst ([V.bl (decide (e.k = 0)), V.bl (decide (e.k = 1)), V.bl (decide (e.k = 2)), V.bl (decide (e.k = 3))] ++ [V.bl (decide (e.k = 4)), V.bl (decide (e.k = 5)), V.bl (decide (e.k = 6))])) hr2)
    refine k r _ s3 (((same_new hl).trans (same_new hq)).free hr2) ?_
    rw [upd_same, ← bits_is _ (k_lt e)]
    rfl
theorem scFields : FnScope ["_law_entry", "_law_kind"] ["_law_entry", "_law_kind"] (defScope sFields) := ⟨rfl, rfl, rfl, by decide +kernel, rfl, by decide +kernel, by decide +kernel⟩
theorem c_fields (T : Kits K mg C E) (D : DefT K mg "_law_fields" sFields ["_law_entry", "_law_kind"]) : Cal P w K mg base 1 "_law_fields" (spFields C) := by
  refine cal D scFields (fun vs H Q E h => ?_) (fun f cdv A outer s H vs Q E hr h => ?_)
  · obtain ⟨p, e, rfl, _⟩ := h
    rfl
  · obtain ⟨p, e, rfl, ⟨dx, hp⟩, k⟩ := h
    refine ⟨_, pss_cons (ps_if (pt_cmpR op_eq (pv 1) pe_str (nomark _)) (pss_one (ps_ret (pe_tup (pa_cons (pv 1) (pa_cons (pe_fld (pv 0) rfl) (pa_cons (pe_fld (pv 0) rfl) (pa_cons (pe_fld (pv 0) rfl) (pa_cons (pe_fld (pv 0) rfl) pa_nil)))))))) pss_nil)
      (pss_cons (ps_if (pt_cmpR op_eq (pv 1) pe_str (nomark _)) (pss_one (ps_ret (pe_tup (pa_cons (pv 1) (pa_cons (pe_fld (pv 0) rfl) (pa_cons (pe_fld (pv 0) rfl) (pa_cons (pe_fld (pv 0) rfl) (pa_cons (pe_fld (pv 0) rfl) pa_nil)))))))) pss_nil)
      (pss_cons (ps_if (pt_cmpR op_eq (pv 1) pe_str (nomark _)) (pss_one (ps_ret (pe_tup (pa_cons (pv 1) (pa_cons (pe_fld (pv 0) rfl) (pa_cons (pe_fld (pv 0) rfl) (pa_cons (pe_fld (pv 0) rfl) (pa_cons (pe_fld (pv 0) rfl) pa_nil)))))))) pss_nil)
      (pss_cons (ps_if (PW.pt (pw_or (pt_cmpR op_eq (pv 1) pe_str (nomark _)) (pw_or1 (pt_cmpR op_eq (pv 1) pe_str (nomark _))))) (pss_one (ps_ret (pe_tup (pa_cons (pv 1) (pa_cons (pe_fld (pv 0) rfl) (pa_cons (pe_fld (pv 0) rfl) (pa_cons (pe_fld (pv 0) rfl) pa_nil))))))) pss_nil)
      (pss_one (ps_ret (pe_tup (pa_cons (pv 1) (pa_cons (pe_fld (pv 0) rfl) (pa_cons (pe_fld (pv 0) rfl) (pa_cons (pe_fld (pv 0) rfl) pa_nil)))))))))), ?_⟩
    have hc := T.cl _ (k_lt e)
    have nF := T.nF e
    cases e with
    | give x0 x1 x2 =>
      refine ⟨_, rfl, rfl, _, rfl, ifF (show ¬ decide (V.str "give" = V.str "hold") = true by decide +kernel) ?_⟩
      refine ⟨_, rfl, rfl, _, rfl, ifF (show ¬ decide (V.str "give" = V.str "move") = true by decide +kernel) ?_⟩
      refine ⟨_, rfl, rfl, _, rfl, ifF (show ¬ decide (V.str "give" = V.str "promise") = true by decide +kernel) ?_⟩
      refine ⟨_, rfl, rfl, _, rfl, ifF (show ¬ decide (V.str "give" = V.str "lessen") = true by decide +kernel) ⟨_, rfl, rfl, _, rfl, ifF (show ¬ decide (V.str "give" = V.str "out") = true by decide +kernel) ?_⟩⟩
      exact ⟨_, rfl, _, rfl, p, _, dx, _, _, rfl, hp, hc, nF "head" (by simp [En.fs]), rfl, _, rfl, p, _, dx, _, _, rfl, hp, hc, nF "coins" (by simp [En.fs]), rfl, _, rfl, p, _, dx, _, _, rfl, hp, hc, nF "note" (by simp [En.fs]), rfl, (by show 4 ≤ sizeLine; decide), fun q hq => k q hq⟩
    | hold x0 x1 x2 x3 =>
      refine ⟨_, rfl, rfl, _, rfl, ifT (decide_eq_true rfl) ?_⟩
      exact ⟨_, rfl, _, rfl, p, _, dx, _, _, rfl, hp, hc, nF "head" (by simp [En.fs]), rfl, _, rfl, p, _, dx, _, _, rfl, hp, hc, nF "coins" (by simp [En.fs]), rfl, _, rfl, p, _, dx, _, _, rfl, hp, hc, nF "until" (by simp [En.fs]), rfl, _, rfl, p, _, dx, _, _, rfl, hp, hc, nF "note" (by simp [En.fs]), rfl, (by show 5 ≤ sizeLine; decide), fun q hq => k q hq⟩
    | move x0 x1 x2 x3 =>
      refine ⟨_, rfl, rfl, _, rfl, ifF (show ¬ decide (V.str "move" = V.str "hold") = true by decide +kernel) ?_⟩
      refine ⟨_, rfl, rfl, _, rfl, ifT (decide_eq_true rfl) ?_⟩
      exact ⟨_, rfl, _, rfl, p, _, dx, _, _, rfl, hp, hc, nF "head" (by simp [En.fs]), rfl, _, rfl, p, _, dx, _, _, rfl, hp, hc, nF "other" (by simp [En.fs]), rfl, _, rfl, p, _, dx, _, _, rfl, hp, hc, nF "coins" (by simp [En.fs]), rfl, _, rfl, p, _, dx, _, _, rfl, hp, hc, nF "note" (by simp [En.fs]), rfl, (by show 5 ≤ sizeLine; decide), fun q hq => k q hq⟩
    | spend x0 x1 x2 =>
      refine ⟨_, rfl, rfl, _, rfl, ifF (show ¬ decide (V.str "spend" = V.str "hold") = true by decide +kernel) ?_⟩
      refine ⟨_, rfl, rfl, _, rfl, ifF (show ¬ decide (V.str "spend" = V.str "move") = true by decide +kernel) ?_⟩
      refine ⟨_, rfl, rfl, _, rfl, ifF (show ¬ decide (V.str "spend" = V.str "promise") = true by decide +kernel) ?_⟩
      refine ⟨_, rfl, rfl, _, rfl, ifF (show ¬ decide (V.str "spend" = V.str "lessen") = true by decide +kernel) ⟨_, rfl, rfl, _, rfl, ifF (show ¬ decide (V.str "spend" = V.str "out") = true by decide +kernel) ?_⟩⟩
      exact ⟨_, rfl, _, rfl, p, _, dx, _, _, rfl, hp, hc, nF "head" (by simp [En.fs]), rfl, _, rfl, p, _, dx, _, _, rfl, hp, hc, nF "coins" (by simp [En.fs]), rfl, _, rfl, p, _, dx, _, _, rfl, hp, hc, nF "note" (by simp [En.fs]), rfl, (by show 4 ≤ sizeLine; decide), fun q hq => k q hq⟩
    | promise x0 x1 x2 x3 =>
      refine ⟨_, rfl, rfl, _, rfl, ifF (show ¬ decide (V.str "promise" = V.str "hold") = true by decide +kernel) ?_⟩
      refine ⟨_, rfl, rfl, _, rfl, ifF (show ¬ decide (V.str "promise" = V.str "move") = true by decide +kernel) ?_⟩
      refine ⟨_, rfl, rfl, _, rfl, ifT (decide_eq_true rfl) ?_⟩
      exact ⟨_, rfl, _, rfl, p, _, dx, _, _, rfl, hp, hc, nF "word" (by simp [En.fs]), rfl, _, rfl, p, _, dx, _, _, rfl, hp, hc, nF "head" (by simp [En.fs]), rfl, _, rfl, p, _, dx, _, _, rfl, hp, hc, nF "coins" (by simp [En.fs]), rfl, _, rfl, p, _, dx, _, _, rfl, hp, hc, nF "note" (by simp [En.fs]), rfl, (by show 5 ≤ sizeLine; decide), fun q hq => k q hq⟩
    | lessen x0 x1 x2 =>
      refine ⟨_, rfl, rfl, _, rfl, ifF (show ¬ decide (V.str "lessen" = V.str "hold") = true by decide +kernel) ?_⟩
      refine ⟨_, rfl, rfl, _, rfl, ifF (show ¬ decide (V.str "lessen" = V.str "move") = true by decide +kernel) ?_⟩
      refine ⟨_, rfl, rfl, _, rfl, ifF (show ¬ decide (V.str "lessen" = V.str "promise") = true by decide +kernel) ?_⟩
      refine ⟨_, rfl, rfl, _, rfl, ifT (decide_eq_true rfl) (iteT ?_)⟩
      exact ⟨_, rfl, _, rfl, p, _, dx, _, _, rfl, hp, hc, nF "word" (by simp [En.fs]), rfl, _, rfl, p, _, dx, _, _, rfl, hp, hc, nF "coins" (by simp [En.fs]), rfl, _, rfl, p, _, dx, _, _, rfl, hp, hc, nF "note" (by simp [En.fs]), rfl, (by show 4 ≤ sizeLine; decide), fun q hq => k q hq⟩
    | out x0 x1 x2 =>
      refine ⟨_, rfl, rfl, _, rfl, ifF (show ¬ decide (V.str "out" = V.str "hold") = true by decide +kernel) ?_⟩
      refine ⟨_, rfl, rfl, _, rfl, ifF (show ¬ decide (V.str "out" = V.str "move") = true by decide +kernel) ?_⟩
      refine ⟨_, rfl, rfl, _, rfl, ifF (show ¬ decide (V.str "out" = V.str "promise") = true by decide +kernel) ?_⟩
      refine ⟨_, rfl, rfl, _, rfl, ifF (show ¬ decide (V.str "out" = V.str "lessen") = true by decide +kernel) ⟨_, rfl, rfl, _, rfl, ifT (decide_eq_true rfl) ?_⟩⟩
      exact ⟨_, rfl, _, rfl, p, _, dx, _, _, rfl, hp, hc, nF "word" (by simp [En.fs]), rfl, _, rfl, p, _, dx, _, _, rfl, hp, hc, nF "coins" (by simp [En.fs]), rfl, _, rfl, p, _, dx, _, _, rfl, hp, hc, nF "note" (by simp [En.fs]), rfl, (by show 4 ≤ sizeLine; decide), fun q hq => k q hq⟩
end
end KP
namespace KP
open PySem L2 KM
section
variable {P : Program} {w : World} {K : PySem.W.Frag} {mg : Str → Option Value} {base : Heap} {C : Nat → Addr} {E : Addr}
/-- e.told(), whichever class -/
def tTolds (C : Nat → Addr) (ta : TE) : TE := fun σ H Q => ta σ H fun x H1 => ∃ p e, x = .ref p ∧ EntAt C H1 p e ∧ ∀ q, H1 q = none → Q (.ref q) (upd H1 q (.tup e.tup))
theorem no_told (e : En) : e.fs.lookup ("told" : Str) = none := by cases e <;> rfl
theorem tup_head (e : En) : atI e.tup 0 = some (.str e.kind) := atI_nat (j := 0) rfl
theorem pe_told {X : Cx} {j : Nat} {o : Expr} {ta : TE} {apos pos : Pos} {pl : Sem Bool} (S : All7 X.prog X.w X.K X.mg X.base C) (hr : Room j X.A) (hk : 1 ≤ j) (he : PE X o ta)
    (ht : eval (.Call (.Attribute o "told" apos) [] [] pos) X.env = (do
      let ov ← eval o X.env
      standAt apos.atName
      let (f, first) ← holding [ov] (getMethod ov "told" pl)
      callWith pos f first (backTo pos (starEach [] X.env)) (backToKw pos (keywordEach [] X.env))) := by rfl) :
    PE X (.Call (.Attribute o "told" apos) [] [] pos) (tTolds C ta) := by
  refine ⟨fun pins s σ H Q I h => ?_⟩
  refine PySem.W.methodCall_KW (pl := pl) (thn (he.run pins s σ H _ I h) fun u s1 ⟨x, H1, I1, rx, p, e, ex, ⟨dx, ea⟩, q⟩ => ?_) ht
  subst ex
  obtain rfl : u = Value.ref p := rx
  have M : MetT X.prog X.w X.K X.mg X.base 1 (C e.k) "told" (spTold C e.k) := by
    cases e
    · exact S.t0
    · exact S.t1
    · exact S.t2
    · exact S.t3
    · exact S.t4
    · exact S.t5
    · exact S.t6
  obtain ⟨f, fd, ps, c, hm, F, b⟩ := M.ex
  refine getmeth_ok I1 ea c hm (no_told e) ?_
  exact PySem.W.callWith_K0 (first := [.ref p]) I1.kIn hm.kp (run_fn (us := [.ref p]) (vs := [.ref p]) F (hr.mono hk) b .nil pass0 I1 (.cons rfl .nil) ⟨p, e, rfl, rfl, ⟨dx, ea⟩, q⟩)
theorem bits_take {k i : Nat} {x : Str} (h : kinds7[i]? = some x) : ((kinds7.take (i + 1)).map fun x => V.bl (decide (V.str x = V.str (kindOf k)))) = ((kinds7.take i).map fun x => V.bl (decide (V.str x = V.str (kindOf k)))) ++ [V.bl (decide (V.str x = V.str (kindOf k)))] := by
  rw [take_more h, List.map_append]
  rfl
abbrev nIs : List Str := ["_law_entry", "_law_told_here", "_law_kinds_here", "_law_found", "_law_kind", "_law_one"]
theorem scIs : FnScope nIs ["_law_entry", "_law_told_here"] (defScope sIs) := ⟨rfl, rfl, rfl, by decide +kernel, rfl, by decide +kernel, by decide +kernel⟩
theorem c_is (B : Base K mg) (T : Kits K mg C E) (S : All7 P w K mg base C) (Kd : Cal P w K mg base 1 "_law_kinds" (spKinds C)) (Fl : Cal P w K mg base 1 "_law_fields" (spFields C)) (D : DefT K mg "_law_is" sIs ["_law_entry", "_law_told_here"]) :
    Cal P w K mg base 2 "_law_is" (spIs C) := by
  refine cal D scIs (fun vs H Q E h => ?_) (fun f cdv A outer s H vs Q E2 hr h => ?_)
  · obtain ⟨p, t, e, rfl, _⟩ := h
    rfl
  · obtain ⟨p, t, e, rfl, he, ht, hok, k⟩ := h
    refine ⟨_, pss_cons (ps_set (i := 2) scIs.nd rfl (Or.inl rfl) (pe_lst (pa_cons pe_str (pa_cons pe_str (pa_cons pe_str (pa_cons pe_str (pa_cons pe_str (pa_cons pe_str (pa_cons pe_str pa_nil)))))))))
      (pss_cons (ps_if (PW.pt (pw_or (pt_not (pt_val (pe_callB call_isi (by rfl) B.isi (by decide +kernel) (pa_cons (pv 0) (pa_cons (pe_glob (v := .ref E) rfl T.mgE rfl) pa_nil)))))
          (pw_or1 (pt_cmpR (op_neD hr.units) (pe_cl Kd hr (by decide) (by rfl) (pa_cons (pv 0) pa_nil))
            (pe_lc (own := [("_law_kind", 4)]) (g := gName 4) (tt := tYes) (te := tOp rEq (tVar 4) (tOp (rIxT K) (tVar 1) (tC (.int 0)))) rfl scIs.nd (pi_list (pv 2)) (blkOk_by (N := nIs) (sc := defScope sIs) (by decide +kernel)) (fun _ _ _ _ _ => pg_name (i := 4) scIs.nd rfl (Or.inl rfl)) (fun _ _ _ _ _ => pts_nil)
              (fun _ _ _ _ _ => pe_cmpR op_eq (pv 4) (pe_ix ix_tup (pv 1) pe_int (fun _ _ => rfl)) (nomark _))) (nomark _))))) (pss_one (ps_ret pe_bl)) pss_nil)
      (pss_cons (ps_set (i := 3) scIs.nd rfl (Or.inl rfl) (pe_told S hr (by decide) (pv 0)))
      (pss_cons (ps_if (PW.pt (pw_or (pt_not (pt_val (pe_callB call_isi (by rfl) B.isi (by decide +kernel) (pa_cons (pv 3) (pa_cons (pe_bltn (v := .ty "tuple") (by rfl) B.tuple (by decide +kernel) rfl) pa_nil)))))
          (pw_or1 (pt_cmpR (op_neD hr.units) (pe_lc (own := [("_law_one", 5)]) (g := gName 5) (tt := tB (tCB (rIsi K) (tCons (tVar 5) (tCons (tC (.ty "bool")) tNil)))) rfl scIs.nd (pi_tup (pv 3)) (blkOk_by (N := nIs) (sc := defScope sIs) (by decide +kernel)) (fun _ _ _ _ _ => pg_name (i := 5) scIs.nd rfl (Or.inl rfl))
            (fun _ _ _ _ _ => pts_one (pt_val (pe_callB call_isi (by rfl) B.isi (by decide +kernel) (pa_cons (pv 5) (pa_cons (pe_bltn (v := .ty "bool") (by rfl) B.bool (by decide +kernel) rfl) pa_nil))))) (fun _ _ _ _ _ => pv 5)) (pe_lst pa_nil) (nomark _))))) (pss_one (ps_ret pe_bl)) pss_nil)
      (pss_one (ps_ret (pe_and (pe_cmpR (op_eqD hr.units) (pv 3) (pv 1) (nomark _)) (pe_one (pe_cmpR (op_eqD hr.units) (pe_cl Fl hr (by decide) (by rfl) (pa_cons (pv 0) (pa_cons (pe_ix ix_tup (pv 1) pe_int (fun _ _ => rfl)) pa_nil))) (pv 1) (nomark _))))))))), ?_⟩
    refine ⟨(by show 7 ≤ sizeLine; decide), fun l hl => ?_⟩
    generalize hH1 : upd H l _ = H1
    have hs1 : Same H H1 := by rw [← hH1]; exact same_new hl
    have hl1 : H1 l = some (.lst (kinds7.map V.str)) := by rw [← hH1]; exact upd_same
    refine ⟨_, rfl, _, _, _, _, true, rfl, .own _, T.ty (he.same hs1), T.kitE _ (k_lt e), _, rfl, iteF ?_⟩
    refine ⟨_, rfl, p, e, rfl, he.same hs1, fun q H2 s2 hq1 hq => ?_⟩
    have ht2 := s2 _ _ (hs1 _ _ ht)
    refine ⟨_, rfl, l, rfl, ⟨_, SqL.of (s2 _ _ hl1)⟩, fun D hD => lc_it (walk_list (xs := kinds7.map V.str)) (fun i H' => H' = upd H2 D (.lst ((kinds7.take i).map fun x => V.bl (decide (V.str x = V.str (kindOf e.k)))))) rfl (fun i H' _ z => by rw [z]; exact SqL.of (same_new hD _ _ (s2 _ _ hl1))) ?_ ?_⟩
    · rintro i v H3 H4 hi rfl ⟨rfl, hv⟩
      obtain ⟨x, hx, rfl⟩ : ∃ x, kinds7[i]? = some x ∧ v = V.str x := by
        rw [List.getElem?_map] at hv
        cases z : kinds7[i]? with
        | none => rw [z] at hv; cases hv
        | some x => rw [z] at hv; exact ⟨x, rfl, (Option.some.inj hv).symm⟩
      refine ⟨rfl, yes (iteT ⟨_, rfl, _, rfl, t, _, 0, .str e.kind, rfl, rfl, SqT.of (same_new hD _ _ ht2), tup_head e, rfl, _, upd_same, ?_, ?_⟩)⟩
      · rw [List.length_map, List.length_take]
        have z : sizeLine = 16777216 := by decide
        have hi7 : i < 7 := hi
        omega
      · rw [upd_upd, bits_take hx, kind_of]
    · rintro H3 rfl
      have e7 : (kinds7.take (kinds7.map V.str).length) = kinds7 := rfl
      rw [e7]
      have hbb : (kinds7.map fun x => V.bl (decide (V.str x = V.str (kindOf e.k)))) = (bits e.k).map V.bl := by
        unfold bits
        rw [List.map_map]
        rfl
      rw [hbb]
      refine ⟨.list ((bits e.k).map PyData.bool), .list ((bits e.k).map PyData.bool), .lst (SqL.of (same_new hD _ _ hq)) (dp_bools _), .lst (SqL.of upd_same) (dp_bools _), bools_shaped _ (k_lt e), bools_shaped _ (k_lt e), _, rfl, ?_⟩
      rw [eqv_self (bools_shaped _ (k_lt e))]
      refine iteF ?_
      have s3 : Same H (upd H2 D (.lst ((bits e.k).map V.bl))) := (hs1.trans s2).trans (same_new hD)
      generalize upd H2 D (.lst ((bits e.k).map V.bl)) = H3 at s3
      refine ⟨_, rfl, p, e, rfl, he.same s3, fun r hr3 => ?_⟩
      have s4 : Same H (upd H3 r (.tup e.tup)) := s3.trans (same_new hr3)
      have hr4 : upd H3 r (.tup e.tup) r = some (.tup e.tup) := upd_same
      generalize upd H3 r (.tup e.tup) = H4 at s4 hr4
      refine ⟨_, rfl, _, _, _, _, true, rfl, .ty _, .base (.tup hr4), kit_ty (by decide +kernel), _, rfl, iteF ?_⟩
      refine ⟨_, rfl, r, rfl, ⟨_, SqT.of hr4⟩, fun D2 hD2 => lc_it (walk_tup (xs := e.tup)) (fun i H' => H' = upd H4 D2 (.lst [])) rfl (fun i H' _ z => by rw [z]; exact SqT.of (same_new hD2 _ _ hr4)) ?_ ?_⟩
      · rintro i v H5 H6 hi rfl ⟨rfl, hv⟩
        have hov := tup_okd hok v (List.mem_of_getElem? hv)
        rcases hov with ⟨x, rfl, _⟩ | ⟨x, rfl⟩
        · exact ⟨rfl, _, rfl, _, _, _, _, false, rfl, .ty _, .base (.str _), kit_ty (by decide +kernel), _, rfl, iteF rfl⟩
        · exact ⟨rfl, _, rfl, _, _, _, _, false, rfl, .ty _, .base (.int _), kit_ty (by decide +kernel), _, rfl, iteF rfl⟩
      · rintro H5 rfl
        refine ⟨(by show 0 ≤ sizeLine; decide), fun q2 hq2 => ?_⟩
        have D2q : D2 ≠ q2 := ne_of_none upd_same hq2
        refine ⟨.list [], .list [], .lst (SqL.of (by rw [upd_ne D2q]; exact upd_same)) .nil, .lst (SqL.of upd_same) .nil, by decide +kernel, by decide +kernel, _, rfl, iteF ?_⟩
        have s6 : Same H4 (upd (upd H4 D2 (.lst [])) q2 (.lst [])) := (same_new hD2).trans (same_new hq2)
        have s7 : Same H _ := s4.trans s6
        have hr6 := s6 _ _ hr4
        have ht6 := s7 _ _ ht
        have sh := shaped_tup (tup_okd hok)
        refine ⟨_, rfl, _, rfl, _, _, .tup (SqT.of hr6) (dp_flat (tup_okd hok)), .tup (SqT.of ht6) (dp_flat (tup_okd hok)), sh, sh, _, rfl, ?_⟩
        rw [eqv_self sh]
        refine iteT ?_
        refine ⟨_, rfl, _, rfl, t, _, 0, .str e.kind, rfl, rfl, SqT.of ht6, tup_head e, p, e, rfl, he.same s7, fun u hu => ?_⟩
        refine ⟨_, rfl, _, _, .tup (SqT.of upd_same) (dp_flat (tup_okd hok)), .tup (SqT.of (same_new hu _ _ ht6)) (dp_flat (tup_okd hok)), sh, sh, ?_⟩
        rw [eqv_self sh]
        exact k _ (s7.trans (same_new hu))
end
end KP
namespace KP
open PySem L2 KM
/-- whatever is no list is as it was -/
def Keeps (H H' : Hp) : Prop := ∀ b o, H b = some o → (∀ xs, o ≠ .lst xs) → H' b = some o
theorem Keeps.of {H H' : Hp} (s : Same H H') : Keeps H H' := fun b o e _ => s b o e
theorem Keeps.ofB {a : Addr} {H H' : Hp} {xs : List V} (s : SameB a H H') (h : H a = some (.lst xs)) : Keeps H H' := fun b o e n => s b o e fun z => by
  subst z
  rw [h] at e
  exact n xs (Option.some.inj e).symm
theorem Keeps.trans {H H1 H2 : Hp} (s : Keeps H H1) (t : Keeps H1 H2) : Keeps H H2 := fun b o e n => t b o (s b o e n) n
theorem Keeps.up {H : Hp} {a : Addr} {xs : List V} {o : HO} (h : H a = some (.lst xs)) : Keeps H (upd H a o) := Keeps.ofB (fun b u e hb => by rw [upd_ne hb]; exact e) h
def PairAt (C : Nat → Addr) (H : Hp) (p : Addr) : Prop := ∃ x t e, H p = some (.tup [.ref x, .ref t]) ∧ EntAt C H x e ∧ H t = some (.tup e.tup) ∧ e.ok
theorem PairAt.keep {C : Nat → Addr} {H H' : Hp} {p : Addr} (h : PairAt C H p) (k : Keeps H H') : PairAt C H' p := by
  obtain ⟨x, t, e, h1, ⟨dx, h2⟩, h3, ok⟩ := h
  exact ⟨x, t, e, k _ _ h1 (fun _ z => nomatch z), ⟨dx, k _ _ h2 (fun _ z => nomatch z)⟩, k _ _ h3 (fun _ z => nomatch z), ok⟩
theorem EntAt.keep {C : Nat → Addr} {H H' : Hp} {p : Addr} {e : En} (h : EntAt C H p e) (k : Keeps H H') : EntAt C H' p e := by
  obtain ⟨dx, h⟩ := h
  exact ⟨dx, k _ _ h (fun _ z => nomatch z)⟩
def spLaw (K : PySem.W.Frag) : Sp := fun vs H Q _ => ∃ (a : Addr) (ns : List Int), vs = [.ref a] ∧ SqL K H a (ns.map V.int) ∧ ns.length ≤ 63 ∧ ∀ H', Q (.bl true) H'
theorem cut_int {ns : List Int} {lo hi : Option Int} : (cutV (ns.map V.int) lo hi).length ≤ ns.length ∧ ∀ v ∈ cutV (ns.map V.int) lo hi, ∃ c, v = .int c := by
  refine ⟨?_, fun v hv => ?_⟩
  · have := cutV_length (ns.map V.int) lo hi
    rwa [List.length_map] at this
  · unfold cutV at hv
    have := List.mem_of_mem_drop (List.mem_of_mem_take hv)
    obtain ⟨c, _, rfl⟩ := List.mem_map.mp this
    exact ⟨c, rfl⟩
section
variable {P : Program} {w : World} {K : PySem.W.Frag} {mg : Str → Option Value} {base : Heap} {C : Nat → Addr} {E : Addr}
abbrev nLaw : List Str := ["_law_script", "_law_entries", "_law_cell", "_law_told_here", "_law_entry"]
theorem scLaw : FnScope nLaw ["_law_script"] (defScope sLaw) := ⟨rfl, rfl, rfl, by decide +kernel, rfl, by decide +kernel, by decide +kernel⟩
theorem ok_law {f : Addr} {fd : FuncData} (F : Fun K "law" "law" sLaw f fd) (S : All7 P w K mg base C) (Wl : Cal P w K mg base 1 "_law_well" spWell) (Tl : Cal P w K mg base 4 "_law_told" spToldT) (Md : Cal P w K mg base 6 "_law_made" (spMade C))
    (Rd : Cal P w K mg base 6 "read_entry" (spMade C)) (Is : Cal P w K mg base 2 "_law_is" (spIs C)) : FnOk P w K mg base CX0 7 f fd ["_law_script"] (spLaw K) := by
  refine F.ok scLaw (fun vs H Q E h => ?_) (fun cdv A outer s H vs Q E2 hr h => ?_)
  · obtain ⟨a, ns, rfl, _⟩ := h
    rfl
  · obtain ⟨a, ns, rfl, hS, hlen, k⟩ := h
    have hz : sizeLine = 16777216 := by decide
    refine ⟨_, pss_cons (ps_set (i := 1) scLaw.nd rfl (Or.inl rfl) (pe_lst pa_nil))
      (pss_cons (ps_for PassesOwn.never rfl (pi_list (pe_op op_cat (pe_slice sl_list (pv 0) po_none (po_some pe_int)) (pe_lst (pa_cons pe_int (pa_cons pe_int (pa_cons pe_int pa_nil)))))) (pg_name (i := 2) scLaw.nd rfl (Or.inl rfl))
        (pss_cons (ps_set (i := 3) scLaw.nd rfl (Or.inl rfl) (pe_cl Tl hr (by decide) (by rfl) (pa_cons (pe_cl Wl hr (by decide) (by rfl) (pa_cons (pv 2) pa_nil)) pa_nil)))
        (pss_one (ps_for PassesOwn.never rfl (pi_list (pe_lst (pa_cons (pe_cl Md hr (by decide) (by rfl) (pa_cons (pv 3) pa_nil)) (pa_cons (pe_cl Rd hr (by decide) (by rfl) (pa_cons (pv 3) pa_nil))
            (pa_cons (pe_cl Rd hr (by decide) (by rfl) (pa_cons (pe_told S hr (by decide) (pe_cl Md hr (by decide) (by rfl) (pa_cons (pv 3) pa_nil))) pa_nil)) pa_nil))))) (pg_name (i := 4) scLaw.nd rfl (Or.inl rfl))
          (pss_cons (ps_if (pt_not (pt_val (pe_cl Is hr (by decide) (by rfl) (pa_cons (pv 4) (pa_cons (pv 3) pa_nil))))) (pss_one (ps_ret pe_bl)) pss_nil)
          (pss_one (ps_expr (pe_bm PySem.F.plainAttrs_list PySem.F.slot_list_append PySem.F.type_list_append mt_append (pv 1) (pa_cons (pe_tup (pa_cons (pv 4) (pa_cons (pv 3) pa_nil))) pa_nil)))))))))
      (pss_cons (ps_for PassesOwn.never rfl (pi_list (pe_revL (pv 1))) (pg_tup rfl (pgs_cons (pg_name (i := 4) scLaw.nd rfl (Or.inl rfl)) (pgs_cons (pg_name (i := 3) scLaw.nd rfl (Or.inl rfl)) pgs_nil)))
        (pss_one (ps_if (pt_not (pt_val (pe_cl Is hr (by decide) (by rfl) (pa_cons (pv 4) (pa_cons (pv 3) pa_nil))))) (pss_one (ps_ret pe_bl)) pss_nil)))
      (pss_one (ps_ret pe_bl)))), ?_⟩
    refine ⟨(by show 0 ≤ sizeLine; decide), fun L hL => ?_⟩
    have sL : Same H (upd H L (.lst [])) := same_new hL
    have hL1 : upd H L (.lst []) L = some (.lst (([] : List Addr).map V.ref)) := upd_same
    generalize upd H L (.lst []) = H1 at sL hL1
    refine ⟨_, rfl, _, rfl, a, _, rfl, sL.seq hS, fun p hp => ⟨(by show 3 ≤ sizeLine; decide), fun q hq => ?_⟩⟩
    have pq : p ≠ q := ne_of_none upd_same hq
    obtain ⟨cl, ci⟩ := cut_int (ns := ns) (lo := none) (hi := some 20)
    refine ⟨p, q, _, _, rfl, rfl, (by rw [upd_ne pq]; exact upd_same), upd_same, (by show _ + 3 ≤ _; omega), fun R hR => ?_⟩
    generalize hitems : cutV (ns.map V.int) none (some 20) ++ [V.int 0, V.int 3, V.int 8] = items
    have ilen : items.length ≤ 66 := by rw [← hitems, List.length_append]; show _ + 3 ≤ _; omega
    have iint : ∀ v ∈ items, ∃ c, v = .int c := by
      intro v hv
      rw [← hitems] at hv
      rcases List.mem_append.mp hv with hv | hv
      · exact ci v hv
      · simp at hv
        rcases hv with rfl | rfl | rfl <;> exact ⟨_, rfl⟩
    have sR : Same H1 _ := ((same_new (o := .lst (cutV (ns.map V.int) none (some 20))) hp).trans (same_new (o := .lst [V.int 0, V.int 3, V.int 8]) hq)).trans (same_new (o := .lst items) hR)
    have hR2 : upd (upd (upd H1 p (.lst (cutV (ns.map V.int) none (some 20)))) q (.lst [V.int 0, V.int 3, V.int 8])) R (.lst items) R = some (.lst items) := upd_same
    generalize upd (upd (upd H1 p (.lst (cutV (ns.map V.int) none (some 20)))) q (.lst [V.int 0, V.int 3, V.int 8])) R (.lst items) = H2 at sR hR2
    have LR : L ≠ R := ne_of_none (((same_new hp).trans (same_new hq)) _ _ hL1) hR
    refine ⟨R, rfl, ⟨_, SqL.of hR2⟩, for_list (K := K) (a := R) (xs := items) (fun i σ H' => ∃ (ps : List Addr) (v2 v3 v4 : Option V), σ = [some (.ref a), some (.ref L), v2, v3, v4] ∧ H' L = some (.lst (ps.map V.ref)) ∧ (∀ p ∈ ps, PairAt C H' p) ∧ ps.length ≤ 3 * i ∧ H' R = some (.lst items))
      ⟨[], none, none, none, rfl, sR _ _ hL1, (fun _ z => nomatch z), Nat.zero_le _, hR2⟩ (fun i σ H' _ ⟨_, _, _, _, _, _, _, _, z⟩ => SqL.of z) ?_ ?_⟩
    · rintro i y σ H3 hi ⟨ps, v2, v3, v4, rfl, hL3, hps, hpl, hR3⟩
      have hi66 : i < items.length := (List.getElem?_eq_some_iff.mp hi).1
      obtain ⟨c, rfl⟩ := iint y (List.mem_of_getElem? hi)
      refine ⟨_, rfl, c, rfl, fun b Hb sb nb wb => ?_⟩
      refine ⟨b, rfl, wb, fun t e H4 hok nt ht s4 => ?_⟩
      have Lb : L ≠ b := ne_of_none hL3 nb
      have Rb : R ≠ b := ne_of_none hR3 nb
      have k4 : Keeps H3 H4 := by
        obtain ⟨_, _, _, wb'⟩ := wb
        exact (Keeps.of sb).trans (Keeps.ofB s4 wb')
      have hL4 := s4 _ _ (sb _ _ hL3) Lb
      have hR4 := s4 _ _ (sb _ _ hR3) Rb
      have hps4 : ∀ p ∈ ps, PairAt C H4 p := fun p h => (hps p h).keep k4
      refine ⟨_, rfl, t, e, rfl, ht, hok, fun x1 H5 s5 n1 e1 => ?_⟩
      refine ⟨_, rfl, t, e, rfl, s5 _ _ ht, hok, fun x2 H6 s6 n2 e2 => ?_⟩
      refine ⟨_, rfl, t, e, rfl, s6 _ _ (s5 _ _ ht), hok, fun x3 H7 s7 n3 e3 => ?_⟩
      refine ⟨x3, e, rfl, e3, fun u hu => ?_⟩
      refine ⟨u, e, rfl, upd_same, hok, fun x4 H8 s8 n4 e4 => ⟨(by show 3 ≤ sizeLine; decide), fun I hI => ?_⟩⟩
      have s9 : Same H4 H8 := ((s5.trans s6).trans s7).trans ((same_new hu).trans s8)
      have en : ∀ x ∈ [x1, x2, x4], EntAt C H8 x e := by
        intro x hx
        simp at hx
        rcases hx with rfl | rfl | rfl
        · exact e1.same ((s6.trans s7).trans ((same_new hu).trans s8))
        · exact e2.same (s7.trans ((same_new hu).trans s8))
        · exact e4
      have hL8 := s9 _ _ hL4
      have hR8 := s9 _ _ hR4
      have ht8 := s9 _ _ ht
      have LI : L ≠ I := ne_of_none hL8 hI
      have RI : R ≠ I := ne_of_none hR8 hI
      have sI : Same H8 (upd H8 I (.lst [V.ref x1, V.ref x2, V.ref x4])) := same_new hI
      have hps8 : ∀ p ∈ ps, PairAt C (upd H8 I (.lst [V.ref x1, V.ref x2, V.ref x4])) p := fun p h => (hps4 p h).keep (Keeps.of (s9.trans sI))
      refine ⟨I, rfl, ⟨_, SqL.of upd_same⟩, for_list (K := K) (a := I) (xs := [V.ref x1, V.ref x2, V.ref x4]) (fun j σ H' => ∃ (ps : List Addr) (v4 : Option V), σ = [some (.ref a), some (.ref L), some (.int c), some (.ref t), v4] ∧ H' L = some (.lst (ps.map V.ref)) ∧ (∀ p ∈ ps, PairAt C H' p) ∧ ps.length ≤ 3 * i + j ∧ H' R = some (.lst items)
          ∧ H' I = some (.lst [V.ref x1, V.ref x2, V.ref x4]) ∧ (∀ x ∈ [x1, x2, x4], EntAt C H' x e) ∧ H' t = some (.tup e.tup))
        ⟨ps, _, rfl, sI _ _ hL8, hps8, hpl, sI _ _ hR8, upd_same, (fun x hx => (en x hx).same sI), sI _ _ ht8⟩ (fun j σ H' _ ⟨_, _, _, _, _, _, _, z, _⟩ => SqL.of z) ?_ ?_⟩
      · rintro j y σ H9 hj ⟨ps, v4, rfl, hL9, hps9, hpl9, hR9, hI9, en9, ht9⟩
        obtain ⟨x, hx, rfl⟩ : ∃ x, x ∈ [x1, x2, x4] ∧ y = V.ref x := by
          have hm := List.mem_of_getElem? hj
          simp at hm
          rcases hm with rfl | rfl | rfl
          · exact ⟨x1, by simp, rfl⟩
          · exact ⟨x2, by simp, rfl⟩
          · exact ⟨x4, by simp, rfl⟩
        have hj3 : j < 3 := (List.getElem?_eq_some_iff.mp hj).1
        refine ⟨_, rfl, _, rfl, x, t, e, rfl, en9 x hx, ht9, hok, fun H10 s10 => ⟨_, rfl, iteF ?_⟩⟩
        have hL10 := s10 _ _ hL9
        refine ⟨_, rfl, .inl ⟨rfl, _, SqL.of hL10⟩, _, rfl, _, rfl, (by show 2 ≤ sizeLine; decide), fun z hz2 => ?_⟩
        have hL11 := same_new (o := .tup [V.ref x, V.ref t]) hz2 _ _ hL10
        refine ⟨L, _, _, rfl, rfl, hL11, (by rw [List.length_map]; omega), ?_⟩
        have s11 : Same H9 (upd H10 z (.tup [V.ref x, V.ref t])) := s10.trans (same_new hz2)
        have hzz : upd H10 z (.tup [V.ref x, V.ref t]) z = some (.tup [V.ref x, V.ref t]) := upd_same
        generalize upd H10 z (.tup [V.ref x, V.ref t]) = H11 at s11 hzz hL11
        have k11 : Keeps H11 (upd H11 L (.lst (ps.map V.ref ++ [V.ref z]))) := Keeps.up hL11
        have k9 : Keeps H9 (upd H11 L (.lst (ps.map V.ref ++ [V.ref z]))) := (Keeps.of s11).trans k11
        refine ⟨ps ++ [z], _, rfl, (by rw [upd_same, List.map_append]; rfl), ?_, (by rw [List.length_append]; show _ + 1 ≤ _; omega), (by rw [upd_ne LR.symm]; exact s11 _ _ hR9), (by rw [upd_ne LI.symm]; exact s11 _ _ hI9), (fun x hx => (en9 x hx).keep k9), k9 _ _ ht9 (fun _ z => nomatch z)⟩
        intro p hp
        rcases List.mem_append.mp hp with hp | hp
        · exact (hps9 p hp).keep k9
        · rw [List.mem_singleton.mp hp]
          exact ⟨x, t, e, k11 _ _ hzz (fun _ z => nomatch z), (en9 x hx).keep k9, k9 _ _ ht9 (fun _ z => nomatch z), hok⟩
      · rintro σ H9 ⟨ps, v4, rfl, hL9, hps9, hpl9, hR9, _⟩
        exact ⟨ps, _, _, _, rfl, hL9, hps9, (by have : [V.ref x1, V.ref x2, V.ref x4].length = 3 := rfl; omega), hR9⟩
    · rintro σ H3 ⟨ps, v2, v3, v4, rfl, hL3, hps, hpl, hR3⟩
      refine ⟨_, rfl, L, _, rfl, SqL.of hL3, fun G hG => ?_⟩
      have sG : Same H3 (upd H3 G (.lst (ps.map V.ref).reverse)) := same_new hG
      refine ⟨G, rfl, ⟨_, SqL.of upd_same⟩, for_list (K := K) (a := G) (xs := (ps.map V.ref).reverse) (fun i σ H' => ∃ (v3 v4 : Option V), σ = [some (.ref a), some (.ref L), v2, v3, v4] ∧ H' G = some (.lst (ps.map V.ref).reverse) ∧ ∀ p ∈ ps, PairAt C H' p)
        ⟨_, _, rfl, upd_same, fun p h => (hps p h).keep (Keeps.of sG)⟩ (fun i σ H' _ ⟨_, _, _, z, _⟩ => SqL.of z) ?_ ?_⟩
      · rintro i y σ H4 hi ⟨v3, v4, rfl, hG4, hps4⟩
        obtain ⟨p, hp, rfl⟩ : ∃ p, p ∈ ps ∧ y = V.ref p := by
          have hm := List.mem_reverse.mp (List.mem_of_getElem? hi)
          obtain ⟨p, hp, rfl⟩ := List.mem_map.mp hm
          exact ⟨p, hp, rfl⟩
        obtain ⟨x, t, e, h1, h2, h3, hok⟩ := hps4 p hp
        refine ⟨p, _, rfl, SqT.of h1, rfl, _, _, rfl, _, _, rfl, rfl, ?_⟩
        refine ⟨_, rfl, _, rfl, x, t, e, rfl, h2, h3, hok, fun H5 s5 => ⟨_, rfl, iteF ?_⟩⟩
        exact ⟨_, _, rfl, s5 _ _ hG4, fun p h => (hps4 p h).keep (Keeps.of s5)⟩
      · rintro σ H4 _
        exact k _
end
end KP
namespace KP
open PySem L2 KM
/-! ### from what the top has written -/
section
variable {K : PySem.W.Frag} {h : Heap} {mg : Str → Option Value}
theorem defT {x : Str} {st : Stmt} {ps : List Str} {f : Addr} {oc : Value} {od an : Option Addr} {sl : Array (Option Value)} {kV dc pm cd ct : Value} (X : K.In h) (G : h.Ns mainGlobals mg) (a : PySem.W.nsIn K mainGlobals x = some (some (.ref f)))
    (l : K.lookup f = some ⟨oc, od, .func (PySem.W.fnOf x x (defArgs st) (defBody st) (defScope st) .none kV dc pm an cd ct), sl⟩) (c : PySem.W.codeIn K cd x = true) (k : PySem.W.keepIn K (.ref f) = true)
    (hb : ∀ (kV doc pm : Value) (an : Option Addr) (cdv ct : Value) (us : List Value), us.length = ps.length → bindArgs (PySem.W.fnOf x x (defArgs st) (defBody st) (defScope st) .none kV doc pm an cdv ct) ⟨us, []⟩ = pure (ps.zip us)) : DefT K mg x st ps :=
  ⟨f, _, fun_mk l c k, (fun_mk l c k).binds hb, PySem.W.mg_of X G a⟩
/-- law itself -/
structure LawT (K : PySem.W.Frag) (mg : Str → Option Value) : Prop where
  ex : ∃ f fd, Fun K "law" "law" sLaw f fd ∧ mg "law" = some (.ref f) ∧ ∀ (s : Shared) (v : Value), BindsTo s fd ⟨[v], []⟩ [("_law_script", v)]
theorem lawT {f : Addr} {oc : Value} {od an : Option Addr} {sl : Array (Option Value)} {kV dc pm cd ct : Value} (X : K.In h) (G : h.Ns mainGlobals mg) (a : PySem.W.nsIn K mainGlobals "law" = some (some (.ref f)))
    (l : K.lookup f = some ⟨oc, od, .func (PySem.W.fnOf "law" "law" (defArgs sLaw) (defBody sLaw) (defScope sLaw) .none kV dc pm an cd ct), sl⟩) (c : PySem.W.codeIn K cd "law" = true) (k : PySem.W.keepIn K (.ref f) = true) : LawT K mg :=
  ⟨f, _, fun_mk l c k, PySem.W.mg_of X G a, fun s v => .of_eq rfl⟩
structure ClsF (K : PySem.W.Frag) (C : Addr) : Prop where
  pg : PySem.W.plainGet K C Str.empty = true
  hd : PySem.W.hasDictIn K C = true
  po : PySem.W.plainOver K C = true
  sa : PySem.W.findIn K (.ref C) "__setattr__" = some (some (.builtin "object.__setattr__"))
  mks : PySem.W.makesIn K C = true
  kc : PySem.W.keepIn K (.ref C) = true
  ha : PySem.W.findIn K (.ref C) "__class__" = some (some (.builtin "object.__class__"))
  hm : PySem.W.mroIn K C (.type "object") = some true
  ic : PySem.W.isClsIn K C = true
  tc : PySem.W.typeIn K (.ref C) = some (.type "type")
theorem clsT {x qI qT : Str} {C f g : Addr} {sI sT : Stmt} {psI fl : List Str} {oc oc2 : Value} {od an od2 an2 : Option Addr} {sl sl2 : Array (Option Value)} {kV dc pm cd ct kV2 dc2 pm2 cd2 ct2 : Value} (X : K.In h) (G : h.Ns mainGlobals mg)
    (F : ClsF K C) (aC : PySem.W.nsIn K mainGlobals x = some (some (.ref C)))
    (a1 : PySem.W.findIn K (.ref C) "__init__" = some (some (.ref f))) (i1 : PySem.W.isFn K (.ref f) = true) (l1 : K.lookup f = some ⟨oc, od, .func (PySem.W.fnOf "__init__" qI (defArgs sI) (defBody sI) (defScope sI) .none kV dc pm an cd ct), sl⟩) (c1 : PySem.W.codeIn K cd qI = true) (k1 : PySem.W.keepIn K (.ref f) = true)
    (a2 : PySem.W.findIn K (.ref C) "told" = some (some (.ref g))) (i2 : PySem.W.isFn K (.ref g) = true) (l2 : K.lookup g = some ⟨oc2, od2, .func (PySem.W.fnOf "told" qT (defArgs sT) (defBody sT) (defScope sT) .none kV2 dc2 pm2 an2 cd2 ct2), sl2⟩) (c2 : PySem.W.codeIn K cd2 qT = true) (k2 : PySem.W.keepIn K (.ref g) = true)
    (nF : ∀ f ∈ fl, NoAttr K C f)
    (hb1 : ∀ (kV doc pm : Value) (an : Option Addr) (cdv ct : Value) (us : List Value), us.length = psI.length → bindArgs (PySem.W.fnOf "__init__" qI (defArgs sI) (defBody sI) (defScope sI) .none kV doc pm an cdv ct) ⟨us, []⟩ = pure (psI.zip us))
    (hb2 : ∀ (kV doc pm : Value) (an : Option Addr) (cdv ct : Value) (us : List Value), us.length = (["self"] : List Str).length → bindArgs (PySem.W.fnOf "told" qT (defArgs sT) (defBody sT) (defScope sT) .none kV doc pm an cdv ct) ⟨us, []⟩ = pure ((["self"] : List Str).zip us)) :
    ClsT K mg x qI qT C sI sT psI fl :=
  ⟨⟨F.pg, F.hd, F.po, F.sa⟩, PySem.W.mg_of X G aC, ⟨f, _, ⟨F.mks, a1, i1, F.kc⟩, fun_mk l1 c1 k1, (fun_mk l1 c1 k1).binds hb1⟩, ⟨g, _, ⟨a2, i2, k2⟩, fun_mk l2 c2 k2, (fun_mk l2 c2 k2).binds hb2⟩, nF⟩
theorem nf3 {C : Addr} {a b c : Str} (h1 : PySem.W.findIn K (.ref C) a = some none) (h2 : PySem.W.findIn K (.ref C) b = some none) (h3 : PySem.W.findIn K (.ref C) c = some none) : ∀ f ∈ [a, b, c], NoAttr K C f := by
  intro f hf
  simp at hf
  rcases hf with rfl | rfl | rfl
  · exact h1
  · exact h2
  · exact h3
theorem nf4 {C : Addr} {a b c d : Str} (h1 : PySem.W.findIn K (.ref C) a = some none) (h2 : PySem.W.findIn K (.ref C) b = some none) (h3 : PySem.W.findIn K (.ref C) c = some none) (h4 : PySem.W.findIn K (.ref C) d = some none) : ∀ f ∈ [a, b, c, d], NoAttr K C f := by
  intro f hf
  simp at hf
  rcases hf with rfl | rfl | rfl | rfl
  · exact h1
  · exact h2
  · exact h3
  · exact h4
theorem kit_self {C : Addr} : PySem.W.kitOne K (.ref C) (.ref C) = some true := by
  unfold PySem.W.kitOne
  rw [if_pos (by simp)]
theorem kit_ne {C D : Addr} {b : Bool} (hne : C ≠ D) (F : ClsF K D) (hs : PySem.W.subIn K (.ref C) (.ref D) = some b) : PySem.W.kitOne K (.ref C) (.ref D) = some b := by
  unfold PySem.W.kitOne
  rw [if_neg (by simpa using hne)]
  have h2 : (PySem.W.clsIn K D).isSome = true := F.ic
  have e2 : ((PySem.W.clsIn K D).isSome && PySem.W.typeIn K (.ref D) == some (.type "type")) = true := by
    rw [h2, F.tc]
    rfl
  show (if ((PySem.W.clsIn K D).isSome && PySem.W.typeIn K (.ref D) == some (.type "type")) = true then PySem.W.subIn K (.ref C) (.ref D) else none) = some b
  rw [if_pos e2]
  exact hs
end
def c7 (c0 c1 c2 c3 c4 c5 c6 : Addr) : Nat → Addr
  | 0 => c0 | 1 => c1 | 2 => c2 | 3 => c3 | 4 => c4 | 5 => c5 | _ => c6
theorem all_mk {P : Program} {w : World} {K : PySem.W.Frag} {h : Heap} {mg : Str → Option Value} {fa c0 c1 c2 c3 c4 c5 c6 cE : Addr}
    (X : K.In h) (G : h.Ns mainGlobals mg) (hfa : mg "law" = some (.ref fa))
    (a0 : PySem.W.nsIn K mainGlobals "Give" = some (some (.ref c0)))
    (a1 : PySem.W.nsIn K mainGlobals "Hold" = some (some (.ref c1)))
    (a2 : PySem.W.nsIn K mainGlobals "Move" = some (some (.ref c2)))
    (a3 : PySem.W.nsIn K mainGlobals "Spend" = some (some (.ref c3)))
    (a4 : PySem.W.nsIn K mainGlobals "Promise" = some (some (.ref c4)))
    (a5 : PySem.W.nsIn K mainGlobals "Lessen" = some (some (.ref c5)))
    (a6 : PySem.W.nsIn K mainGlobals "Out" = some (some (.ref c6)))
    (aE : PySem.W.nsIn K mainGlobals "Entry" = some (some (.ref cE)))
    (nd : [c0, c1, c2, c3, c4, c5, c6, cE].Nodup)
    (f0 : ClsF K c0)
    (f1 : ClsF K c1)
    (f2 : ClsF K c2)
    (f3 : ClsF K c3)
    (f4 : ClsF K c4)
    (f5 : ClsF K c5)
    (f6 : ClsF K c6)
    (fE : ClsF K cE)
    (t0 : ClsT K mg "Give" "Give.__init__" "Give.told" c0 sIGive sTGive ["self", "head", "coins", "note"] ["head", "coins", "note"])
    (t1 : ClsT K mg "Hold" "Hold.__init__" "Hold.told" c1 sIHold sTHold ["self", "head", "coins", "until", "note"] ["head", "coins", "until", "note"])
    (t2 : ClsT K mg "Move" "Move.__init__" "Move.told" c2 sIMove sTMove ["self", "head", "other", "coins", "note"] ["head", "other", "coins", "note"])
    (t3 : ClsT K mg "Spend" "Spend.__init__" "Spend.told" c3 sISpend sTSpend ["self", "head", "coins", "note"] ["head", "coins", "note"])
    (t4 : ClsT K mg "Promise" "Promise.__init__" "Promise.told" c4 sIPromise sTPromise ["self", "word", "head", "coins", "note"] ["word", "head", "coins", "note"])
    (t5 : ClsT K mg "Lessen" "Lessen.__init__" "Lessen.told" c5 sILessen sTLessen ["self", "word", "coins", "note"] ["word", "coins", "note"])
    (t6 : ClsT K mg "Out" "Out.__init__" "Out.told" c6 sIOut sTOut ["self", "word", "coins", "note"] ["word", "coins", "note"])
    (hn : PySem.W.specialIn K (.builtin "object.__class__") "__get__" = some (some (.builtin "getset_descriptor.__get__"))) (htk : PySem.W.takesIn K (.builtin "object.__class__") = some true)
    (s01 : PySem.W.subIn K (.ref c0) (.ref c1) = some false)
    (s02 : PySem.W.subIn K (.ref c0) (.ref c2) = some false)
    (s03 : PySem.W.subIn K (.ref c0) (.ref c3) = some false)
    (s04 : PySem.W.subIn K (.ref c0) (.ref c4) = some false)
    (s05 : PySem.W.subIn K (.ref c0) (.ref c5) = some false)
    (s06 : PySem.W.subIn K (.ref c0) (.ref c6) = some false)
    (s10 : PySem.W.subIn K (.ref c1) (.ref c0) = some false)
    (s12 : PySem.W.subIn K (.ref c1) (.ref c2) = some false)
    (s13 : PySem.W.subIn K (.ref c1) (.ref c3) = some false)
    (s14 : PySem.W.subIn K (.ref c1) (.ref c4) = some false)
    (s15 : PySem.W.subIn K (.ref c1) (.ref c5) = some false)
    (s16 : PySem.W.subIn K (.ref c1) (.ref c6) = some false)
    (s20 : PySem.W.subIn K (.ref c2) (.ref c0) = some false)
    (s21 : PySem.W.subIn K (.ref c2) (.ref c1) = some false)
    (s23 : PySem.W.subIn K (.ref c2) (.ref c3) = some false)
    (s24 : PySem.W.subIn K (.ref c2) (.ref c4) = some false)
    (s25 : PySem.W.subIn K (.ref c2) (.ref c5) = some false)
    (s26 : PySem.W.subIn K (.ref c2) (.ref c6) = some false)
    (s30 : PySem.W.subIn K (.ref c3) (.ref c0) = some false)
    (s31 : PySem.W.subIn K (.ref c3) (.ref c1) = some false)
    (s32 : PySem.W.subIn K (.ref c3) (.ref c2) = some false)
    (s34 : PySem.W.subIn K (.ref c3) (.ref c4) = some false)
    (s35 : PySem.W.subIn K (.ref c3) (.ref c5) = some false)
    (s36 : PySem.W.subIn K (.ref c3) (.ref c6) = some false)
    (s40 : PySem.W.subIn K (.ref c4) (.ref c0) = some false)
    (s41 : PySem.W.subIn K (.ref c4) (.ref c1) = some false)
    (s42 : PySem.W.subIn K (.ref c4) (.ref c2) = some false)
    (s43 : PySem.W.subIn K (.ref c4) (.ref c3) = some false)
    (s45 : PySem.W.subIn K (.ref c4) (.ref c5) = some false)
    (s46 : PySem.W.subIn K (.ref c4) (.ref c6) = some false)
    (s50 : PySem.W.subIn K (.ref c5) (.ref c0) = some false)
    (s51 : PySem.W.subIn K (.ref c5) (.ref c1) = some false)
    (s52 : PySem.W.subIn K (.ref c5) (.ref c2) = some false)
    (s53 : PySem.W.subIn K (.ref c5) (.ref c3) = some false)
    (s54 : PySem.W.subIn K (.ref c5) (.ref c4) = some false)
    (s56 : PySem.W.subIn K (.ref c5) (.ref c6) = some false)
    (s60 : PySem.W.subIn K (.ref c6) (.ref c0) = some false)
    (s61 : PySem.W.subIn K (.ref c6) (.ref c1) = some false)
    (s62 : PySem.W.subIn K (.ref c6) (.ref c2) = some false)
    (s63 : PySem.W.subIn K (.ref c6) (.ref c3) = some false)
    (s64 : PySem.W.subIn K (.ref c6) (.ref c4) = some false)
    (s65 : PySem.W.subIn K (.ref c6) (.ref c5) = some false)
    (s0E : PySem.W.subIn K (.ref c0) (.ref cE) = some true)
    (s1E : PySem.W.subIn K (.ref c1) (.ref cE) = some true)
    (s2E : PySem.W.subIn K (.ref c2) (.ref cE) = some true)
    (s3E : PySem.W.subIn K (.ref c3) (.ref cE) = some true)
    (s4E : PySem.W.subIn K (.ref c4) (.ref cE) = some true)
    (s5E : PySem.W.subIn K (.ref c5) (.ref cE) = some true)
    (s6E : PySem.W.subIn K (.ref c6) (.ref cE) = some true)
    (B : Base K mg) (L : LawT K mg)
    (d0 : DefT K mg "is_whole" sWhole ["value", "least", "most"])
    (d1 : DefT K mg "is_word" sWord ["value"])
    (d2 : DefT K mg "is_note" sNote ["value"])
    (d3 : DefT K mg "check_fields" sCheck ["words", "coins", "note"])
    (d4 : DefT K mg "read_entry" sRead ["told"])
    (d5 : DefT K mg "_law_well" sWell ["_law_cell"])
    (d6 : DefT K mg "_law_draw" sDraw ["_law_well_here", "_law_many"])
    (d7 : DefT K mg "_law_name" sName ["_law_well_here"])
    (d8 : DefT K mg "_law_names" sNames ["_law_well_here", "_law_many"])
    (d9 : DefT K mg "_law_coins" sCoins ["_law_well_here"])
    (d10 : DefT K mg "_law_told" sTold ["_law_well_here"])
    (d11 : DefT K mg "_law_made" sMade ["_law_told_here"])
    (d12 : DefT K mg "_law_kinds" sKinds ["_law_entry"])
    (d13 : DefT K mg "_law_fields" sFields ["_law_entry", "_law_kind"])
    (d14 : DefT K mg "_law_is" sIs ["_law_entry", "_law_told_here"]) :
    ∃ fd : FuncData, (∀ (s : Shared) (v : Value), BindsTo s fd ⟨[v], []⟩ [("_law_script", v)]) ∧ ∀ base : Heap, K.In base → base.Ns mainGlobals mg → FnOk P w K mg base CX0 7 fa fd ["_law_script"] (spLaw K) := by
  obtain ⟨f, fd, F, hm, hb⟩ := L.ex
  have ef : fa = f := by
    have e := hfa.symm.trans hm
    injection e with e
    injection e
  subst ef
  have T : Kits K mg (c7 c0 c1 c2 c3 c4 c5 c6) cE := by
    refine ⟨?_, ?_, hn, htk, ?_, ?_, ?_, PySem.W.mg_of X G aE, ?_, PySem.W.mg_of X G a0, PySem.W.mg_of X G a1, PySem.W.mg_of X G a2, PySem.W.mg_of X G a3, PySem.W.mg_of X G a4, PySem.W.mg_of X G a5, PySem.W.mg_of X G a6⟩
    · intro k hk
      match k, hk with
      | 0, _ => exact ⟨f0.pg, f0.hd, f0.po, f0.sa⟩
      | 1, _ => exact ⟨f1.pg, f1.hd, f1.po, f1.sa⟩
      | 2, _ => exact ⟨f2.pg, f2.hd, f2.po, f2.sa⟩
      | 3, _ => exact ⟨f3.pg, f3.hd, f3.po, f3.sa⟩
      | 4, _ => exact ⟨f4.pg, f4.hd, f4.po, f4.sa⟩
      | 5, _ => exact ⟨f5.pg, f5.hd, f5.po, f5.sa⟩
      | 6, _ => exact ⟨f6.pg, f6.hd, f6.po, f6.sa⟩
    · intro k hk
      match k, hk with
      | 0, _ => exact f0.ha
      | 1, _ => exact f1.ha
      | 2, _ => exact f2.ha
      | 3, _ => exact f3.ha
      | 4, _ => exact f4.ha
      | 5, _ => exact f5.ha
      | 6, _ => exact f6.ha
    · intro k hk
      match k, hk with
      | 0, _ => exact f0.hm
      | 1, _ => exact f1.hm
      | 2, _ => exact f2.hm
      | 3, _ => exact f3.hm
      | 4, _ => exact f4.hm
      | 5, _ => exact f5.hm
      | 6, _ => exact f6.hm
    · intro k hk j hj
      match k, hk, j, hj with
      | 0, _, 0, _ => exact kit_self
      | 0, _, 1, _ => exact kit_ne (fun e => absurd (L2.nd_ix nd (i := 0) (j := 1) (x := c0) rfl (congrArg some e.symm)) (by decide)) f1 s01
      | 0, _, 2, _ => exact kit_ne (fun e => absurd (L2.nd_ix nd (i := 0) (j := 2) (x := c0) rfl (congrArg some e.symm)) (by decide)) f2 s02
      | 0, _, 3, _ => exact kit_ne (fun e => absurd (L2.nd_ix nd (i := 0) (j := 3) (x := c0) rfl (congrArg some e.symm)) (by decide)) f3 s03
      | 0, _, 4, _ => exact kit_ne (fun e => absurd (L2.nd_ix nd (i := 0) (j := 4) (x := c0) rfl (congrArg some e.symm)) (by decide)) f4 s04
      | 0, _, 5, _ => exact kit_ne (fun e => absurd (L2.nd_ix nd (i := 0) (j := 5) (x := c0) rfl (congrArg some e.symm)) (by decide)) f5 s05
      | 0, _, 6, _ => exact kit_ne (fun e => absurd (L2.nd_ix nd (i := 0) (j := 6) (x := c0) rfl (congrArg some e.symm)) (by decide)) f6 s06
      | 1, _, 0, _ => exact kit_ne (fun e => absurd (L2.nd_ix nd (i := 1) (j := 0) (x := c1) rfl (congrArg some e.symm)) (by decide)) f0 s10
      | 1, _, 1, _ => exact kit_self
      | 1, _, 2, _ => exact kit_ne (fun e => absurd (L2.nd_ix nd (i := 1) (j := 2) (x := c1) rfl (congrArg some e.symm)) (by decide)) f2 s12
      | 1, _, 3, _ => exact kit_ne (fun e => absurd (L2.nd_ix nd (i := 1) (j := 3) (x := c1) rfl (congrArg some e.symm)) (by decide)) f3 s13
      | 1, _, 4, _ => exact kit_ne (fun e => absurd (L2.nd_ix nd (i := 1) (j := 4) (x := c1) rfl (congrArg some e.symm)) (by decide)) f4 s14
      | 1, _, 5, _ => exact kit_ne (fun e => absurd (L2.nd_ix nd (i := 1) (j := 5) (x := c1) rfl (congrArg some e.symm)) (by decide)) f5 s15
      | 1, _, 6, _ => exact kit_ne (fun e => absurd (L2.nd_ix nd (i := 1) (j := 6) (x := c1) rfl (congrArg some e.symm)) (by decide)) f6 s16
      | 2, _, 0, _ => exact kit_ne (fun e => absurd (L2.nd_ix nd (i := 2) (j := 0) (x := c2) rfl (congrArg some e.symm)) (by decide)) f0 s20
      | 2, _, 1, _ => exact kit_ne (fun e => absurd (L2.nd_ix nd (i := 2) (j := 1) (x := c2) rfl (congrArg some e.symm)) (by decide)) f1 s21
      | 2, _, 2, _ => exact kit_self
      | 2, _, 3, _ => exact kit_ne (fun e => absurd (L2.nd_ix nd (i := 2) (j := 3) (x := c2) rfl (congrArg some e.symm)) (by decide)) f3 s23
      | 2, _, 4, _ => exact kit_ne (fun e => absurd (L2.nd_ix nd (i := 2) (j := 4) (x := c2) rfl (congrArg some e.symm)) (by decide)) f4 s24
      | 2, _, 5, _ => exact kit_ne (fun e => absurd (L2.nd_ix nd (i := 2) (j := 5) (x := c2) rfl (congrArg some e.symm)) (by decide)) f5 s25
      | 2, _, 6, _ => exact kit_ne (fun e => absurd (L2.nd_ix nd (i := 2) (j := 6) (x := c2) rfl (congrArg some e.symm)) (by decide)) f6 s26
      | 3, _, 0, _ => exact kit_ne (fun e => absurd (L2.nd_ix nd (i := 3) (j := 0) (x := c3) rfl (congrArg some e.symm)) (by decide)) f0 s30
      | 3, _, 1, _ => exact kit_ne (fun e => absurd (L2.nd_ix nd (i := 3) (j := 1) (x := c3) rfl (congrArg some e.symm)) (by decide)) f1 s31
      | 3, _, 2, _ => exact kit_ne (fun e => absurd (L2.nd_ix nd (i := 3) (j := 2) (x := c3) rfl (congrArg some e.symm)) (by decide)) f2 s32
      | 3, _, 3, _ => exact kit_self
      | 3, _, 4, _ => exact kit_ne (fun e => absurd (L2.nd_ix nd (i := 3) (j := 4) (x := c3) rfl (congrArg some e.symm)) (by decide)) f4 s34
      | 3, _, 5, _ => exact kit_ne (fun e => absurd (L2.nd_ix nd (i := 3) (j := 5) (x := c3) rfl (congrArg some e.symm)) (by decide)) f5 s35
      | 3, _, 6, _ => exact kit_ne (fun e => absurd (L2.nd_ix nd (i := 3) (j := 6) (x := c3) rfl (congrArg some e.symm)) (by decide)) f6 s36
      | 4, _, 0, _ => exact kit_ne (fun e => absurd (L2.nd_ix nd (i := 4) (j := 0) (x := c4) rfl (congrArg some e.symm)) (by decide)) f0 s40
      | 4, _, 1, _ => exact kit_ne (fun e => absurd (L2.nd_ix nd (i := 4) (j := 1) (x := c4) rfl (congrArg some e.symm)) (by decide)) f1 s41
      | 4, _, 2, _ => exact kit_ne (fun e => absurd (L2.nd_ix nd (i := 4) (j := 2) (x := c4) rfl (congrArg some e.symm)) (by decide)) f2 s42
      | 4, _, 3, _ => exact kit_ne (fun e => absurd (L2.nd_ix nd (i := 4) (j := 3) (x := c4) rfl (congrArg some e.symm)) (by decide)) f3 s43
      | 4, _, 4, _ => exact kit_self
      | 4, _, 5, _ => exact kit_ne (fun e => absurd (L2.nd_ix nd (i := 4) (j := 5) (x := c4) rfl (congrArg some e.symm)) (by decide)) f5 s45
      | 4, _, 6, _ => exact kit_ne (fun e => absurd (L2.nd_ix nd (i := 4) (j := 6) (x := c4) rfl (congrArg some e.symm)) (by decide)) f6 s46
      | 5, _, 0, _ => exact kit_ne (fun e => absurd (L2.nd_ix nd (i := 5) (j := 0) (x := c5) rfl (congrArg some e.symm)) (by decide)) f0 s50
      | 5, _, 1, _ => exact kit_ne (fun e => absurd (L2.nd_ix nd (i := 5) (j := 1) (x := c5) rfl (congrArg some e.symm)) (by decide)) f1 s51
      | 5, _, 2, _ => exact kit_ne (fun e => absurd (L2.nd_ix nd (i := 5) (j := 2) (x := c5) rfl (congrArg some e.symm)) (by decide)) f2 s52
      | 5, _, 3, _ => exact kit_ne (fun e => absurd (L2.nd_ix nd (i := 5) (j := 3) (x := c5) rfl (congrArg some e.symm)) (by decide)) f3 s53
      | 5, _, 4, _ => exact kit_ne (fun e => absurd (L2.nd_ix nd (i := 5) (j := 4) (x := c5) rfl (congrArg some e.symm)) (by decide)) f4 s54
      | 5, _, 5, _ => exact kit_self
      | 5, _, 6, _ => exact kit_ne (fun e => absurd (L2.nd_ix nd (i := 5) (j := 6) (x := c5) rfl (congrArg some e.symm)) (by decide)) f6 s56
      | 6, _, 0, _ => exact kit_ne (fun e => absurd (L2.nd_ix nd (i := 6) (j := 0) (x := c6) rfl (congrArg some e.symm)) (by decide)) f0 s60
      | 6, _, 1, _ => exact kit_ne (fun e => absurd (L2.nd_ix nd (i := 6) (j := 1) (x := c6) rfl (congrArg some e.symm)) (by decide)) f1 s61
      | 6, _, 2, _ => exact kit_ne (fun e => absurd (L2.nd_ix nd (i := 6) (j := 2) (x := c6) rfl (congrArg some e.symm)) (by decide)) f2 s62
      | 6, _, 3, _ => exact kit_ne (fun e => absurd (L2.nd_ix nd (i := 6) (j := 3) (x := c6) rfl (congrArg some e.symm)) (by decide)) f3 s63
      | 6, _, 4, _ => exact kit_ne (fun e => absurd (L2.nd_ix nd (i := 6) (j := 4) (x := c6) rfl (congrArg some e.symm)) (by decide)) f4 s64
      | 6, _, 5, _ => exact kit_ne (fun e => absurd (L2.nd_ix nd (i := 6) (j := 5) (x := c6) rfl (congrArg some e.symm)) (by decide)) f5 s65
      | 6, _, 6, _ => exact kit_self
    · intro k hk
      match k, hk with
      | 0, _ => exact kit_ne (fun e => absurd (L2.nd_ix nd (i := 0) (j := 7) (x := c0) rfl (congrArg some e.symm)) (by decide)) fE s0E
      | 1, _ => exact kit_ne (fun e => absurd (L2.nd_ix nd (i := 1) (j := 7) (x := c1) rfl (congrArg some e.symm)) (by decide)) fE s1E
      | 2, _ => exact kit_ne (fun e => absurd (L2.nd_ix nd (i := 2) (j := 7) (x := c2) rfl (congrArg some e.symm)) (by decide)) fE s2E
      | 3, _ => exact kit_ne (fun e => absurd (L2.nd_ix nd (i := 3) (j := 7) (x := c3) rfl (congrArg some e.symm)) (by decide)) fE s3E
      | 4, _ => exact kit_ne (fun e => absurd (L2.nd_ix nd (i := 4) (j := 7) (x := c4) rfl (congrArg some e.symm)) (by decide)) fE s4E
      | 5, _ => exact kit_ne (fun e => absurd (L2.nd_ix nd (i := 5) (j := 7) (x := c5) rfl (congrArg some e.symm)) (by decide)) fE s5E
      | 6, _ => exact kit_ne (fun e => absurd (L2.nd_ix nd (i := 6) (j := 7) (x := c6) rfl (congrArg some e.symm)) (by decide)) fE s6E
    · intro e
      cases e
      · exact t0.nF
      · exact t1.nF
      · exact t2.nF
      · exact t3.nF
      · exact t4.nF
      · exact t5.nF
      · exact t6.nF
  refine ⟨fd, hb, fun base _ _ => ?_⟩
  have kWh : Cal P w K mg base 1 "is_whole" spWhole := c_whole B d0
  have kWo : Cal P w K mg base 1 "is_word" spWord := c_word B d1
  have kNo : Cal P w K mg base 2 "is_note" spNote := c_note B kWo d2
  have kCk : Cal P w K mg base 3 "check_fields" spCheck := c_check B kWh kWo kNo d3
  have S : All7 P w K mg base (c7 c0 c1 c2 c3 c4 c5 c6) := ⟨i_give (C := c7 c0 c1 c2 c3 c4 c5 c6) B kWh kCk t0, t_give (C := c7 c0 c1 c2 c3 c4 c5 c6) t0, i_hold (C := c7 c0 c1 c2 c3 c4 c5 c6) B kWh kCk t1, t_hold (C := c7 c0 c1 c2 c3 c4 c5 c6) t1, i_move (C := c7 c0 c1 c2 c3 c4 c5 c6) B kWh kCk t2, t_move (C := c7 c0 c1 c2 c3 c4 c5 c6) t2, i_spend (C := c7 c0 c1 c2 c3 c4 c5 c6) B kWh kCk t3, t_spend (C := c7 c0 c1 c2 c3 c4 c5 c6) t3, i_promise (C := c7 c0 c1 c2 c3 c4 c5 c6) B kWh kCk t4, t_promise (C := c7 c0 c1 c2 c3 c4 c5 c6) t4, i_lessen (C := c7 c0 c1 c2 c3 c4 c5 c6) B kWh kCk t5, t_lessen (C := c7 c0 c1 c2 c3 c4 c5 c6) t5, i_out (C := c7 c0 c1 c2 c3 c4 c5 c6) B kWh kCk t6, t_out (C := c7 c0 c1 c2 c3 c4 c5 c6) t6⟩
  have kRd : Cal P w K mg base 6 "read_entry" (spMade (c7 c0 c1 c2 c3 c4 c5 c6)) := c_read B S d4
  have kMd : Cal P w K mg base 6 "_law_made" (spMade (c7 c0 c1 c2 c3 c4 c5 c6)) := c_made S d11
  have kDr : Cal P w K mg base 1 "_law_draw" spDraw := c_draw d6
  have kNm : Cal P w K mg base 2 "_law_name" spName := c_name B kDr d7
  have kNs : Cal P w K mg base 3 "_law_names" spNames := c_names B kDr kNm d8
  have kCn : Cal P w K mg base 2 "_law_coins" spCoins := c_coins kDr d9
  have kTl : Cal P w K mg base 4 "_law_told" spToldT := c_told kDr kNm kNs kCn d10
  have kWl : Cal P w K mg base 1 "_law_well" spWell := c_well B d5
  have kKd : Cal P w K mg base 1 "_law_kinds" (spKinds (c7 c0 c1 c2 c3 c4 c5 c6)) := c_kinds B T d12
  have kFl : Cal P w K mg base 1 "_law_fields" (spFields (c7 c0 c1 c2 c3 c4 c5 c6)) := c_fields T d13
  have kIs : Cal P w K mg base 2 "_law_is" (spIs (c7 c0 c1 c2 c3 c4 c5 c6)) := c_is B T S kKd kFl d14
  exact ok_law F S kWl kTl kMd kRd kIs
theorem walk {l : PySem.W.OpenLaw} {q : Program} {loose : List Str} {XP : (Str → Option Value) → Heap → Prop} {YP : World → Heap → Prop} {d : DefRec} {K : Params → PySem.W.Frag} (hn : l.most = some 63) (hdf : d.params.defaults = [])
    (hY : ∀ (w : World) (h : Heap), YP w h → (K w.params).In h)
    (F : ∀ (w : World) (mg : Str → Option Value) (fa : Addr) (h : Heap), (K w.params).In h → h.Ns mainGlobals mg → mg d.name = some (.ref fa) →
      ∃ fd : FuncData, (∀ (s : Shared) (u : Value), BindsTo s fd ⟨[u], []⟩ [("_law_script", u)]) ∧ ∀ base : Heap, (K w.params).In base → base.Ns mainGlobals mg → FnOk l.prog w (K w.params) mg base CX0 7 fa fd ["_law_script"] (spLaw (K w.params))) :
    PySem.W.WalkO q loose XP YP l.row.toRowW d [] (fun f vs => PySem.call f vs) :=
  L2.walk_of (n := 63) (k := 7) (x := "_law_script") (CX := fun _ => CX0) (sp := fun w => spLaw (K w.params)) hn (by decide) hdf ⟨rfl, by decide, by decide⟩ hY F (fun _ _ a ns hl _ hS => ⟨a, ns, rfl, hS, hl, fun _ => rfl⟩) fun _ _ _ _ _ z => z
end KP
open PySem PySem.W PyProof.Rows
set_option maxRecDepth 100000 in
set_option maxHeartbeats 0 in
theorem PySem.Challenge.cw_knotpurse_k04_entries_told_holds : PySem.Challenge.rw_knotpurse_k04_entries_told.Holds := by
  w_on; o_law; k_head; (case hw => w_witness2)
  k_fill
  refine KP.walk (l := PySem.Challenge.rw_knotpurse_k04_entries_told) rfl rfl (fun w h Y => PySem.W.kIn_of Y) ?F
  case F =>
    intro w mg fa h KX G hmg
    refine' KP.all_mk KX G hmg ?a0 ?a1 ?a2 ?a3 ?a4 ?a5 ?a6 ?aE ?nd ?f0 ?f1 ?f2 ?f3 ?f4 ?f5 ?f6 ?fE ?t0 ?t1 ?t2 ?t3 ?t4 ?t5 ?t6 ?hn ?htk ?s01 ?s02 ?s03 ?s04 ?s05 ?s06 ?s10 ?s12 ?s13 ?s14 ?s15 ?s16 ?s20 ?s21 ?s23 ?s24 ?s25 ?s26 ?s30 ?s31 ?s32 ?s34 ?s35 ?s36 ?s40 ?s41 ?s42 ?s43 ?s45 ?s46 ?s50 ?s51 ?s52 ?s53 ?s54 ?s56 ?s60 ?s61 ?s62 ?s63 ?s64 ?s65 ?s0E ?s1E ?s2E ?s3E ?s4E ?s5E ?s6E ?B ?L ?d0 ?d1 ?d2 ?d3 ?d4 ?d5 ?d6 ?d7 ?d8 ?d9 ?d10 ?d11 ?d12 ?d13 ?d14
    (case a0 => k_is)
    (case a1 => k_is)
    (case a2 => k_is)
    (case a3 => k_is)
    (case a4 => k_is)
    (case a5 => k_is)
    (case a6 => k_is)
    (case aE => k_is)
    (case nd => decide)
    (case f0 => exact ⟨by k_is, by k_is, by k_is, by k_is, by k_is, by k_is, by k_is, by k_is, by k_is, by k_is⟩)
    (case f1 => exact ⟨by k_is, by k_is, by k_is, by k_is, by k_is, by k_is, by k_is, by k_is, by k_is, by k_is⟩)
    (case f2 => exact ⟨by k_is, by k_is, by k_is, by k_is, by k_is, by k_is, by k_is, by k_is, by k_is, by k_is⟩)
    (case f3 => exact ⟨by k_is, by k_is, by k_is, by k_is, by k_is, by k_is, by k_is, by k_is, by k_is, by k_is⟩)
    (case f4 => exact ⟨by k_is, by k_is, by k_is, by k_is, by k_is, by k_is, by k_is, by k_is, by k_is, by k_is⟩)
    (case f5 => exact ⟨by k_is, by k_is, by k_is, by k_is, by k_is, by k_is, by k_is, by k_is, by k_is, by k_is⟩)
    (case f6 => exact ⟨by k_is, by k_is, by k_is, by k_is, by k_is, by k_is, by k_is, by k_is, by k_is, by k_is⟩)
    (case fE => exact ⟨by k_is, by k_is, by k_is, by k_is, by k_is, by k_is, by k_is, by k_is, by k_is, by k_is⟩)
    (case t0 => refine' KP.clsT KX G ⟨by k_is, by k_is, by k_is, by k_is, by k_is, by k_is, by k_is, by k_is, by k_is, by k_is⟩ ?aC ?a1 ?i1 ?l1 ?c1 ?k1 ?a2 ?i2 ?l2 ?c2 ?k2 ?nF (fun _ _ _ _ _ _ us hl => match us, hl with | [_, _, _, _], _ => rfl) (fun _ _ _ _ _ _ us hl => match us, hl with | [_], _ => rfl); (case aC => k_is); (case a1 => k_is); (case i1 => k_is); (case l1 => k_is); (case c1 => k_is); (case k1 => k_is); (case a2 => k_is); (case i2 => k_is); (case l2 => k_is); (case c2 => k_is); (case k2 => k_is); (case nF => exact KP.nf3 (by k_is) (by k_is) (by k_is)))
    (case t1 => refine' KP.clsT KX G ⟨by k_is, by k_is, by k_is, by k_is, by k_is, by k_is, by k_is, by k_is, by k_is, by k_is⟩ ?aC ?a1 ?i1 ?l1 ?c1 ?k1 ?a2 ?i2 ?l2 ?c2 ?k2 ?nF (fun _ _ _ _ _ _ us hl => match us, hl with | [_, _, _, _, _], _ => rfl) (fun _ _ _ _ _ _ us hl => match us, hl with | [_], _ => rfl); (case aC => k_is); (case a1 => k_is); (case i1 => k_is); (case l1 => k_is); (case c1 => k_is); (case k1 => k_is); (case a2 => k_is); (case i2 => k_is); (case l2 => k_is); (case c2 => k_is); (case k2 => k_is); (case nF => exact KP.nf4 (by k_is) (by k_is) (by k_is) (by k_is)))
    (case t2 => refine' KP.clsT KX G ⟨by k_is, by k_is, by k_is, by k_is, by k_is, by k_is, by k_is, by k_is, by k_is, by k_is⟩ ?aC ?a1 ?i1 ?l1 ?c1 ?k1 ?a2 ?i2 ?l2 ?c2 ?k2 ?nF (fun _ _ _ _ _ _ us hl => match us, hl with | [_, _, _, _, _], _ => rfl) (fun _ _ _ _ _ _ us hl => match us, hl with | [_], _ => rfl); (case aC => k_is); (case a1 => k_is); (case i1 => k_is); (case l1 => k_is); (case c1 => k_is); (case k1 => k_is); (case a2 => k_is); (case i2 => k_is); (case l2 => k_is); (case c2 => k_is); (case k2 => k_is); (case nF => exact KP.nf4 (by k_is) (by k_is) (by k_is) (by k_is)))
    (case t3 => refine' KP.clsT KX G ⟨by k_is, by k_is, by k_is, by k_is, by k_is, by k_is, by k_is, by k_is, by k_is, by k_is⟩ ?aC ?a1 ?i1 ?l1 ?c1 ?k1 ?a2 ?i2 ?l2 ?c2 ?k2 ?nF (fun _ _ _ _ _ _ us hl => match us, hl with | [_, _, _, _], _ => rfl) (fun _ _ _ _ _ _ us hl => match us, hl with | [_], _ => rfl); (case aC => k_is); (case a1 => k_is); (case i1 => k_is); (case l1 => k_is); (case c1 => k_is); (case k1 => k_is); (case a2 => k_is); (case i2 => k_is); (case l2 => k_is); (case c2 => k_is); (case k2 => k_is); (case nF => exact KP.nf3 (by k_is) (by k_is) (by k_is)))
    (case t4 => refine' KP.clsT KX G ⟨by k_is, by k_is, by k_is, by k_is, by k_is, by k_is, by k_is, by k_is, by k_is, by k_is⟩ ?aC ?a1 ?i1 ?l1 ?c1 ?k1 ?a2 ?i2 ?l2 ?c2 ?k2 ?nF (fun _ _ _ _ _ _ us hl => match us, hl with | [_, _, _, _, _], _ => rfl) (fun _ _ _ _ _ _ us hl => match us, hl with | [_], _ => rfl); (case aC => k_is); (case a1 => k_is); (case i1 => k_is); (case l1 => k_is); (case c1 => k_is); (case k1 => k_is); (case a2 => k_is); (case i2 => k_is); (case l2 => k_is); (case c2 => k_is); (case k2 => k_is); (case nF => exact KP.nf4 (by k_is) (by k_is) (by k_is) (by k_is)))
    (case t5 => refine' KP.clsT KX G ⟨by k_is, by k_is, by k_is, by k_is, by k_is, by k_is, by k_is, by k_is, by k_is, by k_is⟩ ?aC ?a1 ?i1 ?l1 ?c1 ?k1 ?a2 ?i2 ?l2 ?c2 ?k2 ?nF (fun _ _ _ _ _ _ us hl => match us, hl with | [_, _, _, _], _ => rfl) (fun _ _ _ _ _ _ us hl => match us, hl with | [_], _ => rfl); (case aC => k_is); (case a1 => k_is); (case i1 => k_is); (case l1 => k_is); (case c1 => k_is); (case k1 => k_is); (case a2 => k_is); (case i2 => k_is); (case l2 => k_is); (case c2 => k_is); (case k2 => k_is); (case nF => exact KP.nf3 (by k_is) (by k_is) (by k_is)))
    (case t6 => refine' KP.clsT KX G ⟨by k_is, by k_is, by k_is, by k_is, by k_is, by k_is, by k_is, by k_is, by k_is, by k_is⟩ ?aC ?a1 ?i1 ?l1 ?c1 ?k1 ?a2 ?i2 ?l2 ?c2 ?k2 ?nF (fun _ _ _ _ _ _ us hl => match us, hl with | [_, _, _, _], _ => rfl) (fun _ _ _ _ _ _ us hl => match us, hl with | [_], _ => rfl); (case aC => k_is); (case a1 => k_is); (case i1 => k_is); (case l1 => k_is); (case c1 => k_is); (case k1 => k_is); (case a2 => k_is); (case i2 => k_is); (case l2 => k_is); (case c2 => k_is); (case k2 => k_is); (case nF => exact KP.nf3 (by k_is) (by k_is) (by k_is)))
    (case hn => k_is)
    (case htk => k_is)
    (case s01 => k_is)
    (case s02 => k_is)
    (case s03 => k_is)
    (case s04 => k_is)
    (case s05 => k_is)
    (case s06 => k_is)
    (case s10 => k_is)
    (case s12 => k_is)
    (case s13 => k_is)
    (case s14 => k_is)
    (case s15 => k_is)
    (case s16 => k_is)
    (case s20 => k_is)
    (case s21 => k_is)
    (case s23 => k_is)
    (case s24 => k_is)
    (case s25 => k_is)
    (case s26 => k_is)
    (case s30 => k_is)
    (case s31 => k_is)
    (case s32 => k_is)
    (case s34 => k_is)
    (case s35 => k_is)
    (case s36 => k_is)
    (case s40 => k_is)
    (case s41 => k_is)
    (case s42 => k_is)
    (case s43 => k_is)
    (case s45 => k_is)
    (case s46 => k_is)
    (case s50 => k_is)
    (case s51 => k_is)
    (case s52 => k_is)
    (case s53 => k_is)
    (case s54 => k_is)
    (case s56 => k_is)
    (case s60 => k_is)
    (case s61 => k_is)
    (case s62 => k_is)
    (case s63 => k_is)
    (case s64 => k_is)
    (case s65 => k_is)
    (case s0E => k_is)
    (case s1E => k_is)
    (case s2E => k_is)
    (case s3E => k_is)
    (case s4E => k_is)
    (case s5E => k_is)
    (case s6E => k_is)
    (case B => exact ⟨PySem.W.mg_none_of KX G (by k_is), PySem.W.mg_none_of KX G (by k_is), PySem.W.mg_none_of KX G (by k_is), PySem.W.mg_none_of KX G (by k_is), PySem.W.mg_none_of KX G (by k_is), PySem.W.mg_none_of KX G (by k_is), PySem.W.mg_none_of KX G (by k_is), PySem.W.mg_none_of KX G (by k_is), ⟨_, PySem.W.mg_of KX G (by k_is)⟩, ⟨_, PySem.W.mg_of KX G (by k_is)⟩, ⟨_, PySem.W.mg_of KX G (by k_is)⟩, ⟨_, PySem.W.mg_of KX G (by k_is)⟩, ⟨_, PySem.W.mg_of KX G (by k_is)⟩⟩)
    (case L => refine' KP.lawT KX G ?a ?l ?c ?k; (case a => k_is); (case l => k_is); (case c => k_is); (case k => k_is))
    (case d0 => refine' KP.defT KX G ?a ?l ?c ?k (fun _ _ _ _ _ _ us hl => match us, hl with | [_, _, _], _ => rfl); (case a => k_is); (case l => k_is); (case c => k_is); (case k => k_is))
    (case d1 => refine' KP.defT KX G ?a ?l ?c ?k (fun _ _ _ _ _ _ us hl => match us, hl with | [_], _ => rfl); (case a => k_is); (case l => k_is); (case c => k_is); (case k => k_is))
    (case d2 => refine' KP.defT KX G ?a ?l ?c ?k (fun _ _ _ _ _ _ us hl => match us, hl with | [_], _ => rfl); (case a => k_is); (case l => k_is); (case c => k_is); (case k => k_is))
    (case d3 => refine' KP.defT KX G ?a ?l ?c ?k (fun _ _ _ _ _ _ us hl => match us, hl with | [_, _, _], _ => rfl); (case a => k_is); (case l => k_is); (case c => k_is); (case k => k_is))
    (case d4 => refine' KP.defT KX G ?a ?l ?c ?k (fun _ _ _ _ _ _ us hl => match us, hl with | [_], _ => rfl); (case a => k_is); (case l => k_is); (case c => k_is); (case k => k_is))
    (case d5 => refine' KP.defT KX G ?a ?l ?c ?k (fun _ _ _ _ _ _ us hl => match us, hl with | [_], _ => rfl); (case a => k_is); (case l => k_is); (case c => k_is); (case k => k_is))
    (case d6 => refine' KP.defT KX G ?a ?l ?c ?k (fun _ _ _ _ _ _ us hl => match us, hl with | [_, _], _ => rfl); (case a => k_is); (case l => k_is); (case c => k_is); (case k => k_is))
    (case d7 => refine' KP.defT KX G ?a ?l ?c ?k (fun _ _ _ _ _ _ us hl => match us, hl with | [_], _ => rfl); (case a => k_is); (case l => k_is); (case c => k_is); (case k => k_is))
    (case d8 => refine' KP.defT KX G ?a ?l ?c ?k (fun _ _ _ _ _ _ us hl => match us, hl with | [_, _], _ => rfl); (case a => k_is); (case l => k_is); (case c => k_is); (case k => k_is))
    (case d9 => refine' KP.defT KX G ?a ?l ?c ?k (fun _ _ _ _ _ _ us hl => match us, hl with | [_], _ => rfl); (case a => k_is); (case l => k_is); (case c => k_is); (case k => k_is))
    (case d10 => refine' KP.defT KX G ?a ?l ?c ?k (fun _ _ _ _ _ _ us hl => match us, hl with | [_], _ => rfl); (case a => k_is); (case l => k_is); (case c => k_is); (case k => k_is))
    (case d11 => refine' KP.defT KX G ?a ?l ?c ?k (fun _ _ _ _ _ _ us hl => match us, hl with | [_], _ => rfl); (case a => k_is); (case l => k_is); (case c => k_is); (case k => k_is))
    (case d12 => refine' KP.defT KX G ?a ?l ?c ?k (fun _ _ _ _ _ _ us hl => match us, hl with | [_], _ => rfl); (case a => k_is); (case l => k_is); (case c => k_is); (case k => k_is))
    (case d13 => refine' KP.defT KX G ?a ?l ?c ?k (fun _ _ _ _ _ _ us hl => match us, hl with | [_, _], _ => rfl); (case a => k_is); (case l => k_is); (case c => k_is); (case k => k_is))
    (case d14 => refine' KP.defT KX G ?a ?l ?c ?k (fun _ _ _ _ _ _ us hl => match us, hl with | [_, _], _ => rfl); (case a => k_is); (case l => k_is); (case c => k_is); (case k => k_is))
